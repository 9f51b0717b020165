import PyProof.Rows.All
import Wide.All
import OpenK.AllK
import Wide.FinOn
import Lean
import PyProof.EqAt
import PyProof.EqKinds
import PyProof.TupleCall
import KE.KRevIter
import PyProof.Rows.SortShellK
import PyProof.FString5
import PyProof.NeData
import PyProof.TupleOfStr
import PyProof.IsRules
import PyProof.ListRange
import PyProof.FactsAll.tuple_3
import PyProof.ExcInit
import PyProof.InstStoreFacts
import PyProof.NsDelKeeps
import PyProof.ListMulRoad
import PyProof.FactsAll.tuple_2
import PySem.Challenge.RW_ringwords_k34_what_a_drawing_is
set_option Elab.async false
set_option linter.all false
set_option maxRecDepth 100000
set_option maxHeartbeats 0
noncomputable section
def fu:=@PySem.wpAny_bind
def uB:=@List.getElem?_eq_getElem
def uC:=@PySem.Heap.get?_push_of_some
def uD:=@List.length_map
def uE:=@List.mem_singleton
def uF:=@List.length_append
def uG:=@Nat.le_refl
def uH:=@PySem.wpAny_pure
def uI:=@Array.length_toList
def uJ:=@List.getElem?_eq_some_iff
def uK:=@List.size_toArray
def uL:=@List.mem_append_right
def uM:=@PyProof.Rows.wpS_bind
def uN:=@PySem.Heap.get?_push_size
def uO:=@List.append_assoc
def uP:=@decide_eq_false
def uQ:=@PySem.Heap.lt_size
def uR:=@List.length_take
def uS:=@PyProof.Rows.wpS_pure
def uT:=@PySem.boot_len
def uU:=@List.mem_of_getElem?
def uV:=@Option.some.inj
def uW:=@List.mem_append
def uX:=@Nat.lt_of_lt_of_le
def uY:=@List.map_append
def uZ:=@Bool.false_eq_true
def u3:=@Bool.and_eq_true
def u4:=@List.mem_cons
def u5:=@Bool.false_ne_true
def u6:=@List.mem_cons_of_mem
def u7:=@List.mem_append_left
def u9:=@List.getD_eq_getElem?_getD
def u_:=@List.getElem?_map
def va:=@decide_eq_true
def vb:=@List.take_append_drop
def vc:=@List.getElem_mem
def vd:=@PySem.W.mg_none_of
def ve:=@List.getElem?_append_right
def vf:=@List.mem_cons_self
def vg:=@decide_eq_true_eq
def vh:=@Int.toNat_natCast
def vi:=@Nat.le_trans
def vj:=@List.take_of_length_le
def vk:=@PySem.F.plainAttrs_str
def vm:=@Nat.ne_of_lt
def vn:=@List.not_mem_nil
def vo:=@Array.getElem?_toList
def vp:=@PySem.F.plainAttrs_list
def vq:=@PySem.Heap.get?_update_other
def vt:=@List.mem_of_mem_take
def vv:=@List.length_drop
def vw:=@PyProof.Rows.slot_tuple_getitem
def vx:=@PySem.PassesOwn.never
def vz:=@congrArg
def vA:=@PyProof.Rows.wpS_forRange
def vB:=@PySem.wpAny_callSpecial?_slot
def vC:=@PySem.wpAny_field
def vD:=@Nat.lt_irrefl
def vE:=@Nat.zero_le
def vF:=@List.append_nil
def vG:=@Bool.false_and
def vH:=@PySem.wpAny_newObj_type
def vI:=@List.mem_of_mem_drop
def vJ:=@List.getElem?_of_mem
def vK:=@List.getElem?_drop
def vL:=@PySem.W.kia_one
def vM:=@PyProof.Rows.KeyOrd.kle_refl
def vN:=@if_false
def vO:=@PySem.wpAny_call_entry
def vP:=@List.all_eq_true
def vQ:=@List.length_cons
def vR:=@PySem.F.slot_list_append
def vS:=@List.getElem?_take_of_lt
def vT:=@List.mem_filter
def vU:=@PyProof.Rows.callWith_type1
def vV:=@List.map_cons
def vW:=@Int.eq_ofNat_of_zero_le
def vX:=@Int.emod_lt_of_pos
def vY:=@Array.toList_extract
def vZ:=@List.take_length
def v7:=@List.mem_map
def v8:=@PySem.mem_of_lookup
def v9:=@List.flatten_cons
def v_:=@List.take_add_one
def wa:=@List.length_reverse
def wb:=@List.getElem?_append_left
def wc:=@List.drop_eq_getElem_cons
def wd:=@Bool.true_and
def we:=@List.Perm.append_left
def wg:=@List.getElem?_eq_none
def wj:=@if_true
def wk:=@PySem.wpAny_getItem_str_slice
def wm:=@PyProof.Rows.wpS_mono
def wo:=@List.filter_cons_of_neg
def wq:=@PySem.wpAny_truthy_bool
def wt:=@Int.emod_nonneg
def wu:=@Array.perm_iff_toList_perm
def wx:=@PySem.F.slot_tuple_iterator_next
def wy:=@PySem.wpAny_holding
def wz:=@PySem.wpAny_pyIter_tuple
def wA:=@List.perm_append_comm
def wB:=@PySem.wpAny_setField_rec
def wC:=@PySem.wpAny_seqItems
def wD:=@PySem.wpAny_passesOwn
def wF:=@List.length_range
def wG:=@PySem.F.type_list_append
def wH:=@List.length_eq_zero_iff
def wI:=@Nat.add_sub_cancel_left
def wJ:=@List.flatten_append
def wK:=@List.cons.inj
def wL:=@List.filter_cons_of_pos
def wM:=@PyProof.Rows.KeyOrd.kle_trans
def wN:=@PySem.wpAny_mono
def wO:=@PySem.Heap.size_push
def wQ:=@PySem.wpAny_rule
def wR:=@List.Perm.append_right
def wU:=@List.filter_eq_nil_iff
def wV:=@PySem.F.slot_str_lower
def wW:=@PySem.F.type_str_lower
def wX:=@List.pairwise_cons
def wY:=@Option.toList_some
def wZ:=@Bool.eq_iff_iff
def w4:=@List.getElem?_reverse
def w5:=@PySem.F.slot_str_join
def w6:=@PySem.F.type_str_join
def w9:=@Bool.not_true
def w_:=@PyProof.Rows.KeyOrd.kle_of_klt
def xf:=@Array.toList_push
def xg:=@Array.getElem?_eq_some_iff
def xh:=@List.pairwise_iff_getElem
def xi:=@or_false
def xj:=@List.replicate_succ
def xk:=@Nat.ne_of_gt
def xo:=@PySem.F.args_tuple_add_2
def xp:=@PySem.call_meets
def xq:=@PyProof.Rows.wpS_modify
def xr:=@PySem.F.slot_list_insert
def xt:=@List.nodup_cons
def xu:=@PySem.F.entry_tuple_add
def xv:=@List.forIn_cons
def xw:=@PySem.wpAny_newList
def xx:=@PySem.post_val_or_str
def xy:=@PyProof.Rows.KK_mirror_equal
def xA:=@Nat.add_assoc
def xB:=@List.range_succ
def xC:=@List.filter_append
def xD:=@PySem.F.slot_tuple_add
def xE:=@List.drop_of_length_le
def xF:=@List.flatten_singleton
def xG:=@List.mem_range
def xH:=@List.Perm.refl
def xI:=@List.length_replicate
def xJ:=@PySem.wpAny_typeOf
def xK:=@List.length_singleton
def xM:=@PySem.Txt.slice_le
def xN:=@List.map_map
def xO:=@Nat.zero_add
def xP:=@PyProof.Rows.listItems_at
def xQ:=@List.all_map
def xR:=@List.length_filter_le
def xS:=@List.lookup_cons
def xT:=@List.eq_nil_of_length_eq_zero
def xU:=@PySem.F.args_list_append_2
def xV:=@PySem.wpAny_updateSeq_pair
def xW:=@PySem.F.args_tuple_iterator_next_1
def xX:=@List.dropLast_concat_getLast
def xY:=@List.filterMap_cons
def xZ:=@PySem.wpAny_execs_nil
def x8:=@PySem.sizeLine_eq
def x9:=@PyProof.Rows.entry_tuple_getitem
def x_:=@PySem.F.entry_list_append
def yd:=@Bool.or_eq_true
def ye:=@List.length_pos_iff
def yf:=@List.length_nil
def yg:=@PyProof.Rows.wpS_get
def yh:=@Array.toList_append
def yi:=@List.flatMap_append
def yj:=@PySem.F.entry_tuple_iterator_next
def yk:=@PySem.F.slot_zip_next
def yl:=@PySem.Calls.Name_function_global
def ym:=@Array.toList_setIfInBounds
def yn:=@List.mem_filterMap
def yo:=@PySem.wpAny_Call_Name_kw
def yp:=@PyProof.Rows.args_tuple_getitem
def yq:=@List.getElem?_take
def yr:=@Int.zero_add
def yt:=@PyProof.Rows.slicePart_none
def yu:=@List.drop_zero
def yw:=@Array.getElem?_eq_getElem
def yy:=@PySem.wpAny_pyIter_list
def yz:=@PySem.wpAny_sequenceKey
def yA:=@PySem.list_append
def yB:=@of_decide_eq_true
def yC:=@PySem.wpAny_comprehension_free
def yD:=@List.ext_getElem?
def yE:=@List.Pairwise.imp
def yF:=@PySem.F.slot_list_extend
def yG:=@PySem.F.type_list_extend
def yH:=@PySem.F.type_list_insert
def yI:=@PySem.evalPart_none
def yJ:=@PySem.W.mg_of
def yK:=@PySem.wpAny_attempt
def yL:=@List.pairwise_singleton
def yM:=@PyProof.Rows.listUpdate_at
def yN:=@List.all_cons
def yO:=@PySem.wpAny_onRaise
def yP:=@decide_eq_false_iff_not
def yQ:=@PySem.wpAny_eqBool_int
def yR:=@PySem.noFill_tuple_add
def yS:=@PySem.IsL.update
def yT:=@beq_self_eq_true
def yU:=@List.drop_length
def yV:=@List.zipIdx_cons
def yW:=@List.getElem?_set_self
def yX:=@PySem.W.cellsFrom_some
def yY:=@List.range_succ_eq_map
def yZ:=@List.pairwise_lt_range
def y6:=@Nat.le_of_lt
def y7:=@List.of_mem_zip
def y8:=@List.foldl_cons
def y9:=@List.cons.injEq
def y_:=@Array.Perm.refl
def zc:=@PyProof.Rows.wpS_lift
def zd:=@Bool.and_false
def ze:=@Bool.not_false
def zf:=@List.forIn_nil
def zg:=@Nat.le_succ
def zh:=@PySem.typeIs_str
def zi:=@List.map_nil
def zj:=@Nat.sub_zero
def zk:=@Nat.sub_self
namespace L2
open PySem PySem.Spec PyProof.Rows
abbrev Key := Sum Int Str
def pF : Key → Value → Bool
  | .inl k, v => Value.isInt k v
  | .inr x, v => Value.isStrOf x v
def tQ (w : World) : Key → Int
  | .inl k => hashInt k
  | .inr x => hashStr w x
theorem bb : ∀ {k : Key} {v : Value}, pF k v=true → (∃ i t, k=Sum.inl i ∧ v=Value.int i t) ∨ (∃ x t, k=Sum.inr x ∧ v=Value.str x t)
  | .inl i, v, h => by
    obtain ⟨t, e⟩ := Value.isInt_shape (k := i) (v := v) h
    exact .inl ⟨i, t, rfl, e⟩
  | .inr x, v, h => by
    obtain ⟨t, e⟩ := Value.isStrOf_shape (x := x) (v := v) h
    exact .inr ⟨x, t, rfl, e⟩
theorem pG (a b : Int) : decide ((Sum.inl a : Key)=Sum.inl b)=(a == b) := by
  by_cases e : a=b
  · subst e;simp
  · have h : ¬ (Sum.inl a : Key)=Sum.inl b := fun q => e (Sum.inl.inj q)
    rw [uP h]
    exact (beq_eq_false_iff_ne.mpr e).symm
theorem pH (a b : Str) : decide ((Sum.inr a : Key)=Sum.inr b)=decide (a=b) := by
  by_cases e : a=b
  · subst e;simp
  · have h : ¬ (Sum.inr a : Key)=Sum.inr b := fun q => e (Sum.inr.inj q)
    rw [uP h, uP e]
theorem pI (a : Int)(b : Str) : decide ((Sum.inl a : Key)=Sum.inr b)=false := uP (fun q => nomatch q)
theorem pJ (a : Str)(b : Int) : decide ((Sum.inr a : Key)=Sum.inl b)=false := uP (fun q => nomatch q)
def gD (prog : Program)(w : World) : PySem.KeyKind prog w Key where
  is := pF
  hash := tQ w
  inj := fun v a b ha hb => by
    rcases bb ha with ⟨i, t, rfl, rfl⟩ | ⟨x, t, rfl, rfl⟩
    · rcases bb hb with ⟨j, u, rfl, e⟩ | ⟨y, u, rfl, e⟩
      · injection e with e1 _;rw [e1]
      · exact nomatch e
    · rcases bb hb with ⟨j, u, rfl, e⟩ | ⟨y, u, rfl, e⟩
      · exact nomatch e
      · injection e with e1 _;rw [e1]
  byValue := fun k v h => by
    rcases bb h with ⟨i, t, rfl, rfl⟩ | ⟨x, t, rfl, rfl⟩ <;> rfl
  pyHash := fun hv h => by
    rcases bb hv with ⟨i, t, rfl, rfl⟩ | ⟨x, t, rfl, rfl⟩
    · exact wpAny_pyHash_int h
    · exact wpAny_pyHash_str h
  eqBool := fun hu hv h => by
    rcases bb hu with ⟨i, t, rfl, rfl⟩ | ⟨x, t, rfl, rfl⟩
    · rcases bb hv with ⟨j, u, rfl, rfl⟩ | ⟨y, u, rfl, rfl⟩
      · rw [pG] at h;exact yQ h
      · rw [pI] at h;exact SeqAt.EqAt.int_str i t y u _ _ _ _ h
    · rcases bb hv with ⟨j, u, rfl, rfl⟩ | ⟨y, u, rfl, rfl⟩
      · rw [pJ] at h;exact SeqAt.EqAt.str_int x t j u _ _ _ _ h
      · rw [pH] at h;exact wpAny_eqBool_str h
  «strs» := fun k x t v h => by
    rcases bb h with ⟨i, u, rfl, e⟩ | ⟨y, u, rfl, e⟩
    · exact nomatch e
    · injection e with e1 _
      subst e1
      cases v <;> rfl
inductive V where
  | non | bl (b : Bool) | int (i : Int) | str (x : Str) | byt (b : Array UInt8) | flt (b : UInt64) | ref (a : Addr) | ty (n : String)
  deriving DecidableEq
def bJ : V → Value → Prop
  | .non, u => u=Value.none
  | .bl b, u => u=Value.bool b
  | .int i, u => ∃ t, u=Value.int i t
  | .str x, u => ∃ t, u=Value.str x t
  | .byt b, u => ∃ t, u=Value.bytes b t
  | .flt b, u => ∃ t, u=Value.float b t
  | .ref a, u => u=Value.ref a
  | .ty n, u => u=Value.type n
abbrev bc : List V → List Value → Prop := Paired bJ
theorem bc.length {xs : List V}{us : List Value}(r : bc xs us) : xs.length=us.length := Paired.length r
theorem bc.get : ∀ {xs : List V} {us : List Value} {i : Nat} {x : V}, bc xs us → xs[i]? = some x → ∃ u, us[i]? = some u ∧ bJ x u
  | _, _, _, _, .nil, e => by simp at e
  | _, _, 0, _, .cons r _, e => by simp at e;subst e;exact ⟨_, rfl, r⟩
  | _, _, i+1, x, .cons _ t, e => by
    obtain ⟨u, h1, h2⟩ := bc.get (i := i) (x := x) t (by simpa using e)
    exact ⟨u, by simpa using h1, h2⟩
theorem bc.set {x : V}{u : Value}(r : bJ x u) : ∀ {xs : List V} {us : List Value} (i : Nat), bc xs us → bc (xs.set i x) (us.set i u)
  | _, _, _, .nil => .nil
  | _, _, 0, .cons _ t => .cons r t
  | _, _, i+1, .cons q t => .cons q (bc.set r i t)
theorem bc.append : ∀ {xs ys : List V} {us ws : List Value}, bc xs us → bc ys ws → bc (xs++ys) (us++ws)
  | _, _, _, _, .nil, s => s
  | _, _, _, _, .cons r t, s => .cons r (bc.append t s)
theorem bc.take : ∀ {xs : List V} {us : List Value} (n : Nat), bc xs us → bc (xs.take n) (us.take n)
  | _, _, 0, _ => .nil
  | _, _, _+1, .nil => .nil
  | _, _, n+1, .cons r t => .cons r (bc.take n t)
theorem bc.drop : ∀ {xs : List V} {us : List Value} (n : Nat), bc xs us → bc (xs.drop n) (us.drop n)
  | _, _, 0, r => r
  | _, _, _+1, .nil => .nil
  | _, _, n+1, .cons _ t => bc.drop n t
def rO : Option V → Option Value → Prop
  | some v, some u => bJ v u
  | none, none => True
  | _, _ => False
def KV {κ : Type} : List (κ × V) → List (κ × Value) → Prop := Paired fun (p : κ × V) (q : κ × Value) => p.1=q.1 ∧ bJ p.2 q.2
def kV : Key → V
  | .inl i => .int i
  | .inr x => .str x
inductive HO where
  | lst (xs : List V)
  | tup (xs : List V)
  | dK (kvs : List (Key × V)) | dT (kvs : List (List Key × V))
  | set (S : Int → Bool) (n : Nat)
  | ins (C dx : Addr) (fs : List (Str × V))
  | own (x : Addr)
  | xd (fs : List (Str × V))
  | met (f x : Addr)
  | rng (lo hi : Int)
  | frz (o : Obj) (u : HO)
  | tbl (ps : Array Value)
  | ext (φ : Heap → Prop)
abbrev Hp := Addr → Option HO
def upd (H : Hp)(a : Addr)(o : HO) : Hp := fun b => if b=a then some o else H b
theorem ab {H : Hp}{a : Addr}{o : HO} : upd H a o a=some o := by unfold upd; rw [if_pos rfl]
theorem aC {H : Hp}{a b : Addr}{o : HO}(h : b≠a) : upd H a o b=H b := by unfold upd; rw [if_neg h]
theorem dm {H : Hp}{a : Addr}{o u : HO} : upd (upd H a o) a u=upd H a u := by
  funext b;unfold upd;split <;> rfl
theorem gE {H : Hp}{a b : Addr}{o u : HO}(h : H a=some o)(h' : H b=some u)(d : o≠u) : a≠b := by
  intro e;subst e;rw [h] at h';exact d (uV h')
theorem ao {H : Hp}{a b : Addr}{o : HO}(h : H a=some o)(h' : H b=none) : a≠b := by
  intro e;subst e;rw [h] at h';cases h'
section
variable (P : Program) (w : World)
def NoD (h : Heap)(a : Addr) : Prop := ∃ o, h.get? a=some o ∧ o.dict=none
theorem NoD.new (h : Heap)(o : Obj)(e : o.dict=none)(hf : o.isFreed=false := by rfl) : NoD (h.push o) h.objs.size := ⟨o, uN _ hf, e⟩
def bW (H : Hp)(h : Heap)(a : Addr) : HO → Prop
  | .lst xs => xs.length≤sizeLine ∧ ∃ (its : List Value) (n : Nat), bc xs its ∧ h.get? a=some { cls := .type "list", data := .seq its.toArray n }
  | .tup xs => xs.length≤sizeLine ∧ ∃ its : List Value, bc xs its ∧ IsTup h a its.toArray ∧ NoD h a
  | .dK kvs => kvs.length≤sizeLine ∧ (a == sysModules)=false ∧ ∃ vs, KV kvs vs ∧ h.DictOf (gD P w) a vs
  | .dT kvs => kvs.length≤sizeLine ∧ (a == sysModules)=false ∧ ∃ xs : List (List Key × Addr × Value),
      Paired (fun (p : List Key × V) (q : List Key × Addr × Value) => p.1=q.1 ∧ H q.2.1=some (.tup (p.1.map kV)) ∧ bJ p.2 q.2.2) kvs xs ∧
      ∃ o es ep, h.get? a=some o ∧ o.ExactDict ∧ o.data = .dict es ep ∧ es.toList=xs.map (entryOfKey (tupleKind (gD P w))) ∧ (xs.map (·.1)).Nodup
  | .set S n => h.SetOf (intKind P w) a S n
  | .ins C dx fs => H dx=some (.own a) ∧ fs.length≤1000 ∧ dx≠a ∧ h.get? a=some (PySem.W.instObj C dx) ∧
      ∃ mA, h.Ns1 dx mA ∧ (∀ f, rO (fs.lookup f) (mA f)) ∧ PySem.Within mA (fs.map (·.1))
  | .own _ => ∃ o, h.get? a=some o
  | .xd fs => ∃ mA, h.Ns1 a mA ∧ ∀ f, rO (fs.lookup f) (mA f)
  | .rng lo hi => ∃ t u v, h.get? a=some { cls := .type "range", data := .fields #[.int lo t, .int hi u, .int 1 v] }
  | .frz o u => h.get? a=some o ∧ bW H h a u
  | .tbl ps => h.get? a=some { cls := .none, data := .fields ps }
  | .met f x => h.get? a=some (PySem.W.methodObj (.ref f) (.ref x))
  | .ext φ => φ h ∧ (∃ o, h.get? a=some o) ∧ ∀ h1 h2 : Heap, φ h1 → (∀ o, h1.get? a=some o → h2.get? a=some o) → φ h2
def HOk (H : Hp)(h : Heap) : Prop := ∀ a o, H a=some o → bW P w H h a o
end
section
variable {P : Program} {w : World} {H H' : Hp} {h h' : Heap} {a : Addr} {o : HO}
theorem bW.lt (x : bW P w H h a o) : a < h.objs.size := by
  cases o with
  | lst xs => obtain ⟨_, _, _, _, e⟩ := x;exact uQ e
  | tup xs => obtain ⟨_, _, _, p, _⟩ := x;exact p.lt
  | dK kvs => obtain ⟨_, _, _, _, o, _, _, e, _⟩ := x;exact uQ e
  | dT kvs => obtain ⟨_, _, _, _, o, _, _, e, _⟩ := x;exact uQ e
  | set S n => obtain ⟨o, _, _, _, e, _⟩ := x;exact uQ e
  | ins C dx fs => obtain ⟨_, _, _, e, _⟩ := x;exact uQ e
  | own y => obtain ⟨_, e⟩ := x;exact uQ e
  | xd fs => obtain ⟨_, ⟨_, _, _, e, _⟩, _⟩ := x;exact uQ e
  | rng lo hi => obtain ⟨_, _, _, e⟩ := x;exact uQ e
  | frz ob u => obtain ⟨e, _⟩ := x;exact uQ e
  | tbl ps => exact uQ (show h.get? a=some _ from x)
  | met f y => exact uQ (show h.get? a=some _ from x)
  | ext φ => obtain ⟨_, ⟨_, e⟩, _⟩ := x;exact uQ e
theorem Paired.mapP {α β : Type}{F G : α → β → Prop} : ∀ {l₁ : List α} {l₂ : List β}, Paired F l₁ l₂ → (∀ a b, F a b → G a b) → Paired G l₁ l₂
  | _, _, .nil, _ => .nil
  | _, _, .cons r t, f => .cons (f _ _ r) (Paired.mapP t f)
theorem bW.stay (x : bW P w H h a o)(k : ∀ b u, (b=a ∨ H b=some (.own a)) → h.get? b=some u → h'.get? b=some u)
    (ho : ∀ b, H b=some (.own a) → H' b=some (.own a)) (ht : ∀ b xs, H b=some (.tup xs) → H' b=some (.tup xs)) : bW P w H' h' a o := by
  induction o with
  | lst xs => obtain ⟨z, its, n, r, e⟩ := x;exact ⟨z, its, n, r, k _ _ (.inl rfl) e⟩
  | tup xs => obtain ⟨z, its, r, ⟨ob, e, c⟩, o2, e2, c2⟩ := x;exact ⟨z, its, r, ⟨ob, k _ _ (.inl rfl) e, c⟩, o2, k _ _ (.inl rfl) e2, c2⟩
  | dK kvs => obtain ⟨z, y, vs, r, ob, es, ep, e, c⟩ := x;exact ⟨z, y, vs, r, ob, es, ep, k _ _ (.inl rfl) e, c⟩
  | dT kvs =>
    obtain ⟨z, y, xs, r, ob, es, ep, e, c⟩ := x
    exact ⟨z, y, xs, Paired.mapP r fun p q z => ⟨z.1, ht _ _ z.2.1, z.2.2⟩, ob, es, ep, k _ _ (.inl rfl) e, c⟩
  | set S n => obtain ⟨ob, es, ep, t, e, c⟩ := x;exact ⟨ob, es, ep, t, k _ _ (.inl rfl) e, c⟩
  | ins C dx fs =>
    obtain ⟨d, z, ne, e, mA, ⟨od, es, ep, e2, c⟩, r⟩ := x
    exact ⟨ho _ d, z, ne, k _ _ (.inl rfl) e, mA, ⟨od, es, ep, k _ _ (.inr d) e2, c⟩, r⟩
  | own y => obtain ⟨ob, e⟩ := x;exact ⟨ob, k _ _ (.inl rfl) e⟩
  | xd fs => obtain ⟨mA, ⟨od, es, ep, e, c⟩, r⟩ := x;exact ⟨mA, ⟨od, es, ep, k _ _ (.inl rfl) e, c⟩, r⟩
  | rng lo hi => obtain ⟨t, u, v, e⟩ := x;exact ⟨t, u, v, k _ _ (.inl rfl) e⟩
  | frz ob u ih => obtain ⟨e, q⟩ := x;exact ⟨k _ _ (.inl rfl) e, ih q⟩
  | tbl ps =>
    have e : h.get? a=some { cls := .none, data := .fields ps } := x
    show h'.get? a=some { cls := .none, data := .fields ps }
    exact k a _ (.inl rfl) e
  | met f y =>
    have e : h.get? a=some (PySem.W.methodObj (.ref f) (.ref y)) := x
    show h'.get? a=some (PySem.W.methodObj (.ref f) (.ref y))
    exact k a _ (.inl rfl) e
  | ext φ => obtain ⟨p, ⟨o, e⟩, st⟩ := x;exact ⟨st _ _ p fun o q => k _ _ (.inl rfl) q, ⟨o, k _ _ (.inl rfl) e⟩, st⟩
theorem HOk.lt (x : HOk P w H h)(e : H a=some o) : a < h.objs.size := (x a o e).lt
theorem HOk.fresh (x : HOk P w H h)(e : h.objs.size≤a) : H a=none := by
  cases q : H a with
  | none => rfl
  | some u => exact absurd (uX (x.lt q) e) (vD _)
theorem HOk.kept (x : HOk P w H h)(k : ∀ b u, h.get? b=some u → h'.get? b=some u) : HOk P w H h' := fun a o e =>
  (x a o e).stay (fun b u _ q => k b u q) (fun _ q => q) fun _ _ q => q
theorem HOk.laid (x : HOk P w H h)(k : ∀ b u, h.get? b=some u → h'.get? b=some u)(hp : h.objs.size≤a)(new : bW P w (upd H a o) h' a o) : HOk P w (upd H a o) h' := fun b u e => by
  have hn := x.fresh hp
  by_cases hb : b=a
  · subst hb;rw [ab] at e;cases e;exact new
  · rw [aC hb] at e
    exact (x b u e).stay (fun c v _ q => k c v q) (fun c q => by rw [aC (ao q hn)];exact q) fun c xs q => by rw [aC (ao q hn)];exact q
end
def Rd (H : Hp)(a : Addr)(u : HO) : Prop := H a=some u ∨ ∃ o, H a=some (.frz o u)
theorem Rd.ok {P : Program}{w : World}{H : Hp}{h : Heap}{a : Addr}{u : HO}(r : Rd H a u)(x : HOk P w H h) : bW P w H h a u := by
  rcases r with r | ⟨o, r⟩
  · exact x a u r
  · obtain ⟨_, q⟩ := x a _ r
    exact q
def Mut : Option HO → Prop
  | some (.lst _) => True
  | some (.dK _) => True
  | some (.dT _) => True
  | some (.set _ _) => True
  | some (.ins _ _ _) => True
  | some (.ext _) => True
  | _ => False
section
variable {P : Program} {w : World} {H : Hp} {h h' : Heap} {x e : Addr} {o' : HO}
theorem HOk.write (ok : HOk P w H h)(mu : Mut (H x))(he : e=x ∨ H e=some (.own x))(k : ∀ b u, b≠e → h.get? b=some u → h'.get? b=some u)(heo : ∃ u, h'.get? e=some u)
    (new : bW P w (upd H x o') h' x o') : HOk P w (upd H x o') h' := fun b u q => by
  have nown : ∀ c y, H c=some (.own y) → c≠x := fun c y r z => by subst z;rw [r] at mu;exact mu
  have ntup : ∀ c xs, H c=some (.tup xs) → c≠x := fun c xs r z => by subst z;rw [r] at mu;exact mu
  by_cases hb : b=x
  · subst hb;rw [ab] at q;cases q;exact new
  · rw [aC hb] at q
    by_cases hbe : b=e
    · have q' : H b=some (.own x) := by
        rcases he with z | z
        · exact absurd (hbe.trans z) hb
        · rw [hbe];exact z
      rw [q] at q';cases q'
      obtain ⟨v, hv⟩ := heo
      exact ⟨v, by rw [hbe];exact hv⟩
    · refine (ok b u q).stay (fun c v hc r => k c v ?_ r) (fun c r => by rw [aC (nown c b r)];exact r) fun c xs r => by rw [aC (ntup c xs r)];exact r
      rcases hc with rfl | hc
      · exact hbe
      · rintro rfl
        rcases he with z | z
        · exact nown c b hc z
        · rw [hc] at z;cases z;exact hb rfl
end
structure Un (fs ex : List Addr) (H H' : Hp) (h h' : Heap) : Prop where
  keep : ∀ b o, h.get? b=some o → H b=none → b∉fs → b∉ex → h'.get? b=some o
  slot : ∀ b o, h.get? b=some o → H b=none → b∈fs → b∉ex → ∃ sl, h'.get? b=some { o with slots := sl }
  free : ∀ b o, h.get? b=some o → H b=none → b∉ex → H' b=none
  there : ∀ b o, h.get? b=some o → b∉ex → ∃ o', h'.get? b=some o'
  tups : ∀ b xs, H b=some (.tup xs) → H' b=some (.tup xs)
  frzs : ∀ b o u, H b=some (.frz o u) → H' b=some (.frz o u)
  tbls : ∀ b ps, H b=some (.tbl ps) → ∃ more, H' b=some (.tbl (ps++more))
section
variable {fs fs' ex ex' : List Addr} {H H1 H2 : Hp} {h h1 h2 h' : Heap} {a x e : Addr} {o : HO}
theorem Un.any (u : Un fs ex H H1 h h1){b : Addr}{ob : Obj}(q : h.get? b=some ob)(n : H b=none)(hx : b∉ex) : ∃ sl, h1.get? b=some { ob with slots := sl } := by
  by_cases hb : b∈fs
  · exact u.slot b ob q n hb hx
  · exact ⟨ob.slots, u.keep b ob q n hb hx⟩
theorem Un.kept (k : ∀ b u, h.get? b=some u → h'.get? b=some u) : Un fs ex H H h h' :=
  ⟨fun b ob q _ _ _ => k b ob q, fun b ob q _ _ _ => ⟨ob.slots, k b ob q⟩, fun _ _ _ n _ => n, fun b ob q _ => ⟨ob, k b ob q⟩, fun _ _ q => q, fun _ _ _ q => q, fun _ ps q => ⟨#[], by rw [q];simp⟩⟩
theorem Un.refl : Un fs ex H H h h := Un.kept fun _ _ q => q
theorem Un.laid (k : ∀ b u, h.get? b=some u → h'.get? b=some u)(hp : h.objs.size≤a)(hn : H a=none) : Un fs ex H (upd H a o) h h' where
  keep := fun b u q _ _ _ => k b u q
  slot := fun b u q _ _ _ => ⟨u.slots, k b u q⟩
  free := fun b u q n _ => by rw [aC (vm (uX (uQ q) hp))];exact n
  there := fun b u q _ => ⟨u, k b u q⟩
  tups := fun b xs q => by rw [aC (ao q hn)];exact q
  frzs := fun b u xs q => by rw [aC (ao q hn)];exact q
  tbls := fun b ps q => ⟨#[], by rw [aC (ao q hn), q];simp⟩
theorem Un.write (mu : Mut (H x))(he : e=x ∨ H e=some (.own x))(k : ∀ b u, b≠e → h.get? b=some u → h'.get? b=some u)(heo : ∃ u, h'.get? e=some u) : Un fs ex H (upd H x o) h h' := by
  have hx : ∀ b, H b=none → b≠x := fun b n z => by subst z;rw [n] at mu;exact mu
  have hb : ∀ b, H b=none → b≠e := fun b n z => by
    subst z
    rcases he with r | r
    · exact hx b n r
    · rw [n] at r;cases r
  have hm : ∀ b u, H b=some u → ¬ Mut (some u) → b≠x := fun b u q nm z => by subst z;rw [q] at mu;exact nm mu
  refine ⟨fun b u q n _ _ => k b u (hb b n) q, fun b u q n _ _ => ⟨u.slots, k b u (hb b n) q⟩, fun b u q n _ => by rw [aC (hx b n)];exact n, fun b u q _ => ?_,
    fun b xs q => by rw [aC (hm b _ q fun z => z)];exact q, fun b u xs q => by rw [aC (hm b _ q fun z => z)];exact q, fun b ps q => ⟨#[], by rw [aC (hm b _ q fun z => z), q];simp⟩⟩
  by_cases hbe : b=e
  · subst hbe;exact heo
  · exact ⟨u, k b u hbe q⟩
end
def trk (h : Heap)(H : Hp) : List Addr := (List.range h.objs.size).filter fun a => (H a).isSome
def lq (h : Heap)(H : Hp) : Heap := PySem.W.hideAll h (trk h H)
theorem jl (h : Heap)(H : Hp) : (lq h H).objs.size=h.objs.size := PySem.W.hideAll_size _ _
theorem lu {h : Heap}{H : Hp}{b : Addr}{o : Obj}(e : h.get? b=some o)(n : H b=none) : (lq h H).get? b=some o :=
  PySem.W.hideAll_get _ e fun hm => by
    have q : (H b).isSome=true := (vT.mp hm).2
    rw [n] at q;simp at q
theorem nK {h : Heap}{H : Hp}{b : Addr}{o : Obj}(e : (lq h H).get? b=some o) : h.get? b=some o ∧ H b=none := by
  have e' : h.get? b=some o := PySem.W.of_hideAll (trk h H) e
  refine ⟨e', ?_⟩
  cases q : H b with
  | none => rfl
  | some x =>
    have hm : b∈trk h H := vT.mpr ⟨xG.mpr (uQ e'), by simp [q]⟩
    have z : (lq h H).get? b=none := PySem.W.hideAll_none (trk h H) hm
    rw [z] at e;cases e
structure Mod (K : PySem.W.Frag) (mg : Str → Option Value) (base : Heap) : Prop where
  kin : K.In base
  glob : base.Ns mainGlobals mg
  blt : ∃ mb, base.Ns builtinsNs mb ∧ ∀ x : Str, x ≠ "__name__" → mb x=bootBuiltins x
  nolimit : base.NoLimit
/-- the context: a def's body (or a comprehension's block) running. base: fixed through the whole law;s₀, H₀: the entry;outer: the frames whose slots others may change (a def's callers);stack: all frames that run;
   ex: iterators that were made ahead of the entry and are walked here (a comprehension's);fn: the names whose cells were made at the entry (a def: all;a comprehension's block: its own);calm: not within an except suite;pn: pins that every state bears;xe: what is wanted of an exception that leaves the code -/
structure Cx where
  prog : Program
  w : World
  K : PySem.W.Frag
  mg : Str → Option Value
  base : Heap
  A : Around
  N : List Str
  s₀ : Shared
  H₀ : Hp
  env : Env
  outer : List Env
  stack : List Env
  ex : List Addr
  fn : Str → Bool
  calm : Bool
  pn : List (Addr × Obj)
  xe : Value → Shared → Prop
def frs (l : List Env) : List Addr := l.filterMap (·.frame)
abbrev Cx.fs (X : Cx) : List Addr := frs X.outer
def Vis (sc : Scope)(x : Str) : Prop := sc.names.lookup x=some .local ∨ sc.names.lookup x=some .cell ∨ sc.names.lookup x=some .free
def Loc (sc : Scope)(x : Str) : Prop := sc.names.lookup x=some .local ∨ sc.names.lookup x=some .cell
def tR (env : Env)(h : Heap)(m : Str → Option Value)(x : Str)(u : Value) : Prop :=
  (env.kindOf x=some .local ∧ m x=some u) ∨ ((env.kindOf x=some .cell ∨ env.kindOf x=some .free) ∧ ∃ c, env.cells.lookup x=some c ∧ h.IsCell c (some u))
structure Cx.Ok (X : Cx) : Prop where
  mod : Mod X.K X.mg X.base
  kind : X.env.scope.kind = .function
  glob : X.env.globals=mainGlobals
  blt : X.env.builtins=builtinsNs
  above : X.s₀.heap.objs.size≤X.env.locals
  inj : ∀ x y c, X.env.cells.lookup x=some c → X.env.cells.lookup y=some c → x=y
  has : ∀ x, (X.env.kindOf x=some .cell ∨ X.env.kindOf x=some .free) → ∃ c, X.env.cells.lookup x=some c
  cab : ∀ x c, X.fn x=true → X.env.cells.lookup x=some c → X.s₀.heap.objs.size≤c
  hd : X.calm=true → X.A.handled=none
  frames : X.A.frames=some X.stack
  stk : X.stack=X.outer ∨ (X.stack=X.env::X.outer ∧ X.env.frame=some X.env.locals)
  exf : ∀ b∈X.ex, b≠X.env.locals ∧ ∀ x c, X.env.cells.lookup x=some c → c≠b
  bs : ∀ b o, X.base.get? b=some o → X.s₀.heap.get? b=some o ∧ X.H₀ b=none
  bsz : X.base.objs.size≤X.s₀.heap.objs.size
  noex : ∀ b o, X.base.get? b=some o → b∉X.ex
  exfs : ∀ b∈X.ex, b∉X.fs
  funs : X.s₀.heap.FunFrames X.base X.outer
  frf : ∀ b∈X.fs, X.H₀ b=none
structure Inv (X : Cx) (pins : List (Addr × Obj)) (σ : List (Option V)) (H : Hp) (s : Shared) : Prop where
  ok : X.Ok
  os : s.os=X.s₀.os
  bare : AllBare s.gens
  base : Un X.fs X.ex X.H₀ H X.s₀.heap s.heap
  loc : ∃ m, s.heap.Ns X.env.locals m ∧ ∀ (i : Nat) (x : Str) (v : V), X.N[i]? = some x → σ[i]? = some (some v) → Vis X.env.scope x → ∃ u, bJ v u ∧ tR X.env s.heap m x u
  cell : ∀ x c, X.env.cells.lookup x=some c → ∃ v, s.heap.IsCell c v
  free : H X.env.locals=none
  freeC : ∀ x c, X.env.cells.lookup x=some c → H c=none
  pin : ∀ p∈X.pn++pins, s.heap.get? p.1=some p.2 ∧ H p.1=none ∧ p.1≠X.env.locals ∧ p.1∉X.fs ∧ ∀ v, p.2.data ≠ .cell v
  hok : HOk X.prog X.w H s.heap
  len : σ.length=X.N.length
section
variable {X : Cx} {pins : List (Addr × Obj)} {σ : List (Option V)} {H H' : Hp} {s : Shared} {h' : Heap}
theorem Cx.Ok.nofr (ok : X.Ok){b : Addr}{o : Obj}(e : X.base.get? b=some o) : b∉X.fs := fun hb => by
  have := (ok.funs.mem hb).1
  rw [e] at this;cases this
theorem Inv.bs (I : Inv X pins σ H s) : ∀ b o, X.base.get? b=some o → s.heap.get? b=some o ∧ H b=none := fun b o e =>
  ⟨I.base.keep b o (I.ok.bs b o e).1 (I.ok.bs b o e).2 (I.ok.nofr e) (I.ok.noex b o e), I.base.free b o (I.ok.bs b o e).1 (I.ok.bs b o e).2 (I.ok.noex b o e)⟩
theorem Inv.bk (I : Inv X pins σ H s) : ∀ b o, X.base.get? b=some o → s.heap.get? b=some o := fun b o e => (I.bs b o e).1
theorem Inv.mod (I : Inv X pins σ H s) : Mod X.K X.mg X.base := I.ok.mod
theorem Inv.kIn (I : Inv X pins σ H s) : X.K.In s.heap := I.ok.mod.kin.keeps I.bk
theorem Inv.lt (I : Inv X pins σ H s) : X.env.locals < s.heap.objs.size := let ⟨_, hn, _⟩ := I.loc; hn.lt
theorem Inv.sz (I : Inv X pins σ H s) : X.s₀.heap.objs.size≤s.heap.objs.size := vi I.ok.above (y6 I.lt)
theorem Inv.nofs (I : Inv X pins σ H s){a : Addr}(h : s.heap.objs.size≤a) : a∉X.fs := fun hb => by
  obtain ⟨_, o, ho, _⟩ := I.ok.funs.mem hb
  exact absurd (uX (uQ ho) (vi I.sz h)) (vD _)
theorem Inv.cne (I : Inv X pins σ H s) : ∀ x c, X.env.cells.lookup x=some c → c≠X.env.locals := fun x c e z => by
  obtain ⟨v, o, ho, hd⟩ := I.cell x c e
  obtain ⟨m, ⟨o', es, ep, ho', hd', _⟩, _⟩ := I.loc
  rw [z, ho'] at ho;cases ho;rw [hd'] at hd;cases hd
theorem Inv.funs (I : Inv X pins σ H s) : s.heap.FunFrames X.base X.outer := by
  have all : ∀ (l : List Env), (∀ b∈frs l, b∈X.fs) → X.s₀.heap.FunFrames X.base l → s.heap.FunFrames X.base l := by
    intro l
    induction l with
    | nil => intro _ _;trivial
    | cons env r ih =>
      intro hs hl
      obtain ⟨hk, ⟨L, o, hf, hn, ho, hd⟩, hr⟩ := hl
      have hL : L∈X.fs := hs L (by unfold frs;rw [xY, hf];exact vf)
      obtain ⟨sl, e⟩ := I.base.slot L o ho (I.ok.frf L hL) hL fun z => I.ok.exfs L z hL
      exact ⟨hk, ⟨L, _, hf, hn, e, hd⟩, ih (fun b hb => hs b (by unfold frs;rw [xY, hf];exact u6 _ hb)) hr⟩
  exact all X.outer (fun _ hb => hb) I.ok.funs
theorem Inv.stack (I : Inv X pins σ H s) : s.heap.FunFrames X.base X.stack := by
  rcases I.ok.stk with e | ⟨e, hf⟩
  · rw [e];exact I.funs
  · rw [e]
    obtain ⟨m, hn, _⟩ := I.loc
    refine .cons (by rw [I.ok.kind];decide) hf hn ?_ I.funs
    exact Heap.get?_none_of_le (vi I.ok.bsz I.ok.above)
theorem Inv.stkSub (I : Inv X pins σ H s) : ∀ b∈frs X.stack, b∈X.env.locals::X.fs := fun b hb => by
  rcases I.ok.stk with e | ⟨e, hf⟩
  · rw [e] at hb;exact u6 _ hb
  · rw [e] at hb
    unfold frs at hb
    rw [xY, hf] at hb
    exact hb
theorem Inv.stkFree (I : Inv X pins σ H s) : ∀ b∈frs X.stack, H b=none := fun b hb => by
  rcases u4.mp (I.stkSub b hb) with e | hb
  · rw [e];exact I.free
  · obtain ⟨_, o, ho, _⟩ := I.ok.funs.mem hb
    exact I.base.free b o ho (I.ok.frf b hb) fun z => I.ok.exfs b z hb
theorem Inv.step {g' : Array GenState}{t' : Nat}{d' : Drawn}{ch : List Addr}(I : Inv X pins σ H s)
    (hch : ∀ b∈ch, (b∈X.ex ∨ X.s₀.heap.objs.size≤b) ∧ b≠X.env.locals ∧ (∀ x c, X.env.cells.lookup x=some c → c≠b) ∧ ∀ p∈X.pn++pins, p.1≠b)
    (keep : ∀ b o, b≠X.env.locals → b∉X.fs → b∉ch → s.heap.get? b=some o → H b=none → h'.get? b=some o)
    (slot : ∀ b o, b≠X.env.locals → b∈X.fs → b∉ch → s.heap.get? b=some o → H b=none → ∃ sl, h'.get? b=some { o with slots := sl }) (free : ∀ b o, b∉ch → s.heap.get? b=some o → H b=none → H' b=none)
    (there : ∀ b o, b∉ch → s.heap.get? b=some o → ∃ o', h'.get? b=some o')
    (tups : ∀ b xs, H b=some (.tup xs) → H' b=some (.tup xs)) (frzs : ∀ b o u, H b=some (.frz o u) → H' b=some (.frz o u)) (tbls : ∀ b ps, H b=some (.tbl ps) → ∃ more, H' b=some (.tbl (ps++more)))
    (ns : ∀ m, s.heap.Ns X.env.locals m → h'.Ns X.env.locals m) (hok : HOk X.prog X.w H' h') (hg : AllBare g') :
    Inv X pins σ H' { s with heap := h', gens := g', drawn := d', toks := t' } := by
  have neL : ∀ b o, X.s₀.heap.get? b=some o → b≠X.env.locals := fun b o e => vm (uX (uQ e) I.ok.above)
  have neC : ∀ b o, X.s₀.heap.get? b=some o → b∉X.ex → b∉ch := fun b o e hx hb => by
    rcases (hch b hb).1 with z | z
    · exact hx z
    · exact absurd (uX (uQ e) z) (vD _)
  have cellK : ∀ x c, X.env.cells.lookup x=some c → ∀ v, s.heap.IsCell c v → h'.IsCell c v := fun x c e v ⟨o, ho, hd⟩ => by
    have nch : c∉ch := fun z => (hch c z).2.2.1 x c e rfl
    by_cases hc : c∈X.fs
    · obtain ⟨sl, q⟩ := slot c o (I.cne x c e) hc nch ho (I.freeC x c e)
      exact ⟨_, q, hd⟩
    · exact ⟨o, keep c o (I.cne x c e) hc nch ho (I.freeC x c e), hd⟩
  refine ⟨I.ok, I.os, hg, ⟨fun b o e n hb hx => ?_, fun b o e n hb hx => ?_, fun b o e n hx => ?_, fun b o e hx => ?_, fun b xs e => tups b xs (I.base.tups b xs e), fun b o xs e => frzs b o xs (I.base.frzs b o xs e), fun b ps e => ?_⟩, ?_, fun x c e => ?_, ?_, fun x c e => ?_, fun p hp => ?_, hok, I.len⟩
  · exact keep b o (neL b o e) hb (neC b o e hx) (I.base.keep b o e n hb hx) (I.base.free b o e n hx)
  · obtain ⟨sl, e1⟩ := I.base.slot b o e n hb hx
    obtain ⟨sl', e2⟩ := slot b _ (neL b o e) hb (neC b o e hx) e1 (I.base.free b o e n hx)
    exact ⟨sl', e2⟩
  · obtain ⟨o', e1⟩ := I.base.there b o e hx
    exact free b o' (neC b o e hx) e1 (I.base.free b o e n hx)
  · obtain ⟨o', e1⟩ := I.base.there b o e hx
    exact there b o' (neC b o e hx) e1
  · obtain ⟨m1, e1⟩ := I.base.tbls b ps e
    obtain ⟨m2, e2⟩ := tbls b _ e1
    exact ⟨m1++m2, by rw [e2, Array.append_assoc]⟩
  · obtain ⟨m, hn, hl⟩ := I.loc
    refine ⟨m, ns m hn, fun i x v e1 e2 e3 => ?_⟩
    obtain ⟨u, r, l⟩ := hl i x v e1 e2 e3
    refine ⟨u, r, ?_⟩
    rcases l with l | ⟨k, c, e, z⟩
    · exact .inl l
    · exact .inr ⟨k, c, e, cellK x c e _ z⟩
  · obtain ⟨v, z⟩ := I.cell x c e
    exact ⟨v, cellK x c e v z⟩
  · obtain ⟨m, ⟨o, _, _, ho, _⟩, _⟩ := I.loc
    exact free _ o (fun z => (hch _ z).2.1 rfl) ho I.free
  · obtain ⟨v, o, ho, hd⟩ := I.cell x c e
    exact free c o (fun z => (hch c z).2.2.1 x c e rfl) ho (I.freeC x c e)
  · obtain ⟨e, n, ne, nf, d⟩ := I.pin p hp
    have nch : p.1∉ch := fun z => (hch p.1 z).2.2.2 p hp rfl
    exact ⟨keep p.1 p.2 ne nf nch e n, free p.1 p.2 nch e n, ne, nf, d⟩
theorem Inv.un {t' : Nat}(I : Inv X pins σ H s)(u : Un X.fs [] H H' s.heap h')(hok : HOk X.prog X.w H' h') : Inv X pins σ H' { s with heap := h', toks := t' } := by
  obtain ⟨m, ⟨o, es, ep, ho, r⟩, _⟩ := id I.loc
  obtain ⟨sl, hL⟩ := u.any ho I.free (by simp)
  exact I.step (g' := s.gens) (d' := s.drawn) (ch := []) (fun _ z => nomatch z) (fun b o _ hb _ e n => u.keep b o e n hb (by simp)) (fun b o _ hb _ e n => u.slot b o e n hb (by simp)) (fun b o _ e n => u.free b o e n (by simp)) (fun b o _ e => u.there b o e (by simp)) u.tups u.frzs u.tbls (fun m' hm => by
    obtain ⟨o', es', ep', ho', r'⟩ := hm
    rw [ho] at ho';cases ho'
    exact ⟨_, es', ep', hL, r'⟩) hok I.bare
theorem Inv.call {g' : Array GenState}{t' : Nat}{d' : Drawn}{ch : List Addr}(I : Inv X pins σ H s)(u : Un (frs X.stack) ch H H' s.heap h')(hok : HOk X.prog X.w H' h')(hg : AllBare g')
    (hch : ∀ b∈ch, (b∈X.ex ∨ X.s₀.heap.objs.size≤b) ∧ b≠X.env.locals ∧ (∀ x c, X.env.cells.lookup x=some c → c≠b) ∧ ∀ p∈X.pn++pins, p.1≠b) :
    Inv X pins σ H' { s with heap := h', gens := g', drawn := d', toks := t' } := by
  obtain ⟨m, ⟨o, es, ep, ho, r⟩, _⟩ := id I.loc
  obtain ⟨sl, hL⟩ := u.any ho I.free fun z => (hch _ z).2.1 rfl
  exact I.step (ch := ch) hch (fun b o hL hb hc e n => u.keep b o e n (fun z => (u4.mp (I.stkSub b z)).elim hL hb) hc) (fun b o _ _ hc e n => u.any e n hc) (fun b o hc e n => u.free b o e n hc) (fun b o hc e => u.there b o e hc) u.tups u.frzs u.tbls (fun m' hm => by
    obtain ⟨o', es', ep', ho', r'⟩ := hm
    rw [ho] at ho';cases ho'
    exact ⟨_, es', ep', hL, r'⟩) hok hg
theorem Inv.turned {t' : Nat}{it : Addr}(I : Inv X pins σ H s)(k : ∀ b o, b≠it → s.heap.get? b=some o → h'.get? b=some o)(hn : H it=none)(hL : it≠X.env.locals)
    (h1 : it∈X.ex ∨ X.s₀.heap.objs.size≤it) (h2 : ∀ x c, X.env.cells.lookup x=some c → c≠it) (h3 : ∀ p∈X.pn++pins, p.1≠it) : Inv X pins σ H { s with heap := h', toks := t' } := by
  have nit : ∀ b u, H b=some u → b≠it := fun b u e z => by rw [z, hn] at e;cases e
  refine I.step (g' := s.gens) (d' := s.drawn) (ch := [it]) (fun b hb => ?_) (fun b o _ _ hc e _ => k b o (fun z => hc (by simp [z])) e) (fun b o _ _ hc e _ => ⟨o.slots, k b o (fun z => hc (by simp [z])) e⟩) (fun _ _ _ _ n => n)
    (fun b o hc e => ⟨o, k b o (fun z => hc (by simp [z])) e⟩) (fun _ _ e => e) (fun _ _ _ e => e) (fun b ps e => ⟨#[], by rw [e];simp⟩) (fun m hm => ?_) (fun b u e => ?_) I.bare
  · have e : b=it := by simpa using hb
    subst e
    exact ⟨h1, hL, h2, h3⟩
  · obtain ⟨o, es, ep, ho, r⟩ := hm
    exact ⟨o, es, ep, k _ o (Ne.symm hL) ho, r⟩
  · refine (I.hok b u e).stay (fun c v hc q => k c v ?_ q) (fun _ q => q) fun _ _ q => q
    rcases hc with z | z
    · rw [z];exact nit b u e
    · exact nit c _ z
theorem Inv.tok (I : Inv X pins σ H s)(t : Nat) : Inv X pins σ H { s with toks := t } := I.un (h' := s.heap) (t' := t) Un.refl I.hok
theorem Inv.kept {t' : Nat}(I : Inv X pins σ H s)(k : ∀ b u, s.heap.get? b=some u → h'.get? b=some u) : Inv X pins σ H { s with heap := h', toks := t' } := I.un (Un.kept k) (I.hok.kept k)
theorem Inv.laid {a : Addr}{o : HO}{t' : Nat}(I : Inv X pins σ H s)(k : ∀ b u, s.heap.get? b=some u → h'.get? b=some u)(hp : s.heap.objs.size≤a)(new : bW X.prog X.w (upd H a o) h' a o) :
    Inv X pins σ (upd H a o) { s with heap := h', toks := t' } := I.un (Un.laid k hp (I.hok.fresh hp)) (I.hok.laid k hp new)
theorem Inv.write {x e : Addr}{o : HO}{t' : Nat}(I : Inv X pins σ H s)(mu : Mut (H x))(he : e=x ∨ H e=some (.own x))(k : ∀ b u, b≠e → s.heap.get? b=some u → h'.get? b=some u)(heo : ∃ u, h'.get? e=some u)
    (new : bW X.prog X.w (upd H x o) h' x o) : Inv X pins σ (upd H x o) { s with heap := h', toks := t' } := I.un (Un.write mu he k heo) (I.hok.write mu he k heo new)
theorem Inv.pins_of {pins' : List (Addr × Obj)}(I : Inv X pins σ H s)(h : ∀ p∈pins', s.heap.get? p.1=some p.2 ∧ H p.1=none ∧ p.1≠X.env.locals ∧ p.1∉X.fs ∧ ∀ v, p.2.data ≠ .cell v) : Inv X pins' σ H s :=
  ⟨I.ok, I.os, I.bare, I.base, I.loc, I.cell, I.free, I.freeC, fun p hp => (uW.mp hp).elim (fun z => I.pin p (u7 _ z)) (h p), I.hok, I.len⟩
theorem ie {N : List Str}(hN : N.Nodup){i j : Nat}{x : Str}(a : N[i]? = some x)(b : N[j]? = some x) : i=j := by
  obtain ⟨h1, e1⟩ := uJ.mp a
  obtain ⟨h2, e2⟩ := uJ.mp b
  exact (List.getElem_inj hN).mp (e1.trans e2.symm)
theorem jm {M : Model}{A : Around}{E : Value → Shared → Prop}{i : Nat}{x : Str}{v : V}{u : Value}{Q : Unit → Shared → Prop}(I : Inv X pins σ H s)(hN : X.N.Nodup)(hi : X.N[i]? = some x)(hx : Loc X.env.scope x)(r : bJ v u)
    (h : ∀ s', Inv X pins (σ.set i (some v)) H s' → (∃ a, Heap.SameBut a s.heap s'.heap ∧ (a=X.env.locals ∨ X.env.cells.lookup x=some a)) → Q () s') (hf : X.fn x=true ∨ X.env.scope.names.lookup x=some .local := by first | exact .inl rfl | exact .inr rfl | assumption) : wpAny M A (storeName X.env x u) Q E s := by
  obtain ⟨m, hn, hl⟩ := id I.loc
  have hcls : (X.env.scope.kind == .class || (X.env.scope.kind == .module && X.env.locals != X.env.globals))=false := by rw [I.ok.kind];rfl
  have hiσ : i < σ.length := by rw [I.len];exact (uJ.mp hi).1
  have cne := I.cne
  have tracked : ∀ {a : Addr} {h' : Heap}, (∃ o, s.heap.get? a=some o ∧ H a=none) → Heap.SameBut a s.heap h' → HOk X.prog X.w H h' := fun {a h'} ha hs b ob e => by
    obtain ⟨_, _, hfree⟩ := ha
    refine (I.hok b ob e).stay (fun c w' hc q => (hs.2 c ?_).trans q) (fun _ q => q) fun _ _ q => q
    rintro rfl
    rcases hc with rfl | hc
    · rw [hfree] at e;cases e
    · rw [hfree] at hc;cases hc
  rcases hx with hk | hk
  · refine wpAny_storeName_local hk hn (fun h' hn' hs => ?_) hcls
    obtain ⟨oL, _, _, hoL, _⟩ := id hn
    refine h _ ⟨I.ok, I.os, I.bare, ⟨fun b o e n hb hx => ?_, fun b o e n hb hx => ?_, I.base.free, fun b o e hx => ?_, I.base.tups, I.base.frzs, I.base.tbls⟩, ⟨_, hn', fun j y v' e1 e2 e3 => ?_⟩, fun y c e => ?_, I.free, I.freeC, fun p hp => ?_, tracked ⟨oL, hoL, I.free⟩ hs, by simpa using I.len⟩ ⟨_, hs, .inl rfl⟩
    · exact (hs.2 b (vm (uX (uQ e) I.ok.above))).trans (I.base.keep b o e n hb hx)
    · obtain ⟨sl, e1⟩ := I.base.slot b o e n hb hx
      exact ⟨sl, (hs.2 b (vm (uX (uQ e) I.ok.above))).trans e1⟩
    · obtain ⟨o', e1⟩ := I.base.there b o e hx
      exact ⟨o', (hs.2 b (vm (uX (uQ e) I.ok.above))).trans e1⟩
    · by_cases hj : j=i
      · subst hj
        rw [hi] at e1;cases e1
        rw [yW hiσ] at e2
        cases e2
        exact ⟨u, r, .inl ⟨hk, by simp⟩⟩
      · rw [List.getElem?_set_ne (Ne.symm hj)] at e2
        obtain ⟨u', r', q⟩ := hl j y v' e1 e2 e3
        refine ⟨u', r', ?_⟩
        rcases q with ⟨k, e⟩ | ⟨k, c, e, z⟩
        · refine .inl ⟨k, ?_⟩
          have : y≠x := fun e => hj (ie hN e1 (e ▸ hi))
          simp [this, e]
        · exact .inr ⟨k, c, e, z.sameBut hs (cne y c e)⟩
    · obtain ⟨w', z⟩ := I.cell y c e
      exact ⟨w', z.sameBut hs (cne y c e)⟩
    · obtain ⟨e, n, ne, nf, d⟩ := I.pin p hp
      exact ⟨(hs.2 p.1 ne).trans e, n, ne, nf, d⟩
  · have hfn : X.fn x=true := by
      rcases hf with z | z
      · exact z
      · rw [z] at hk;cases hk
    obtain ⟨c, hc⟩ := I.ok.has x (.inl hk)
    obtain ⟨w', z⟩ := I.cell x c hc
    refine wpAny_storeName_cell I.ok.kind hk hc z (fun h' hc' hs => ?_)
    obtain ⟨oc, hoc, hocd⟩ := id z
    refine h { s with heap := h' } ⟨I.ok, I.os, I.bare, ⟨fun b o e n hb hx => ?_, fun b o e n hb hx => ?_, I.base.free, fun b o e hx => ?_, I.base.tups, I.base.frzs, I.base.tbls⟩, ⟨m, hn.sameBut hs (Ne.symm (cne x c hc)), fun j y v' e1 e2 e3 => ?_⟩, fun y c' e => ?_, I.free, I.freeC, fun p hp => ?_, tracked ⟨oc, hoc, I.freeC x c hc⟩ hs, by simpa using I.len⟩ ⟨c, hs, .inr hc⟩
    · exact (hs.2 b (vm (uX (uQ e) (I.ok.cab x c hfn hc)))).trans (I.base.keep b o e n hb hx)
    · obtain ⟨sl, e1⟩ := I.base.slot b o e n hb hx
      exact ⟨sl, (hs.2 b (vm (uX (uQ e) (I.ok.cab x c hfn hc)))).trans e1⟩
    · obtain ⟨o', e1⟩ := I.base.there b o e hx
      exact ⟨o', (hs.2 b (vm (uX (uQ e) (I.ok.cab x c hfn hc)))).trans e1⟩
    · by_cases hj : j=i
      · subst hj
        rw [hi] at e1;cases e1
        rw [yW hiσ] at e2
        cases e2
        exact ⟨u, r, .inr ⟨.inl hk, c, hc, hc'⟩⟩
      · rw [List.getElem?_set_ne (Ne.symm hj)] at e2
        obtain ⟨u', r', q⟩ := hl j y v' e1 e2 e3
        refine ⟨u', r', ?_⟩
        rcases q with q | ⟨k, c', e, z'⟩
        · exact .inl q
        · refine .inr ⟨k, c', e, z'.sameBut hs ?_⟩
          rintro rfl
          exact hj (ie hN e1 (I.ok.inj _ _ _ e hc ▸ hi))
    · by_cases hcc : c'=c
      · subst hcc;exact ⟨_, hc'⟩
      · obtain ⟨w2, z2⟩ := I.cell y c' e
        exact ⟨w2, z2.sameBut hs hcc⟩
    · obtain ⟨e, n, ne, nf, d⟩ := I.pin p hp
      refine ⟨(hs.2 p.1 ?_).trans e, n, ne, nf, d⟩
      intro q
      rw [q, hoc] at e
      have q' : oc=p.2 := uV e
      exact d w' (by rw [← q'];exact hocd)
theorem ig {M : Model}{A : Around}{E : Value → Shared → Prop}{i : Nat}{x : Str}{v : V}{u : Value}{Q : Unit → Shared → Prop}(I : Inv X pins σ H s)(hN : X.N.Nodup)(hi : X.N[i]? = some x)(hx : Loc X.env.scope x)(r : bJ v u)
    (h : ∀ s', Inv X pins (σ.set i (some v)) H s' → Q () s') (hf : X.fn x=true ∨ X.env.scope.names.lookup x=some .local := by first | exact .inl rfl | exact .inr rfl | assumption) : wpAny M A (storeName X.env x u) Q E s :=
  jm I hN hi hx r (fun s' I' _ => h s' I') hf
theorem Inv.call' {s' : Shared}{ch : List Addr}(I : Inv X pins σ H s)(ho : s'.os=s.os)(u : Un (frs X.stack) ch H H' s.heap s'.heap)(hok : HOk X.prog X.w H' s'.heap)(hg : AllBare s'.gens)
    (hch : ∀ b∈ch, (b∈X.ex ∨ X.s₀.heap.objs.size≤b) ∧ b≠X.env.locals ∧ (∀ x c, X.env.cells.lookup x=some c → c≠b) ∧ ∀ p∈X.pn++pins, p.1≠b) : Inv X pins σ H' s' := by
  obtain ⟨h', g', d', t', o'⟩ := s'
  have e : o'=s.os := ho
  subst e
  exact I.call (g' := g') (t' := t') (d' := d') u hok hg hch
end
abbrev XK := Value → Option Addr → Hp → Prop
abbrev St := List (Option V)
abbrev VK := V → Hp → Prop
abbrev TE := St → Hp → VK → Prop
abbrev TT := St → Hp → (Bool → Hp → Prop) → Prop
abbrev TA := St → Hp → (List V → Hp → Prop) → Prop
structure gF where
  nx : St → Hp → Prop
  rt : VK
  bk : St → Hp → Prop := fun _ _ => False
  ct : St → Hp → Prop := fun _ _ => False
abbrev TS := gF → St → Hp → Prop
def EP (X : Cx)(pins : List (Addr × Obj))(σ : St)(Q : VK)(u : Value)(s' : Shared) : Prop := ∃ v H', Inv X pins σ H' s' ∧ bJ v u ∧ Q v H'
def TP (X : Cx)(pins : List (Addr × Obj))(σ : St)(Q : Bool → Hp → Prop)(b : Bool)(s' : Shared) : Prop := ∃ H', Inv X pins σ H' s' ∧ Q b H'
def AP (X : Cx)(pins : List (Addr × Obj))(σ : St)(Q : List V → Hp → Prop)(us : List Value)(s' : Shared) : Prop := ∃ vs H', Inv X pins σ H' s' ∧ bc vs us ∧ Q vs H'
def SP (X : Cx)(pins : List (Addr × Obj))(D : gF)(f : Flow)(s' : Shared) : Prop :=
  match f with
  | .next => ∃ σ' H', Inv X pins σ' H' s' ∧ D.nx σ' H'
  | .brk => ∃ σ' H', Inv X pins σ' H' s' ∧ D.bk σ' H'
  | .cont => ∃ σ' H', Inv X pins σ' H' s' ∧ D.ct σ' H'
  | .ret u => ∃ v σ' H', Inv X pins σ' H' s' ∧ bJ v u ∧ D.rt v H'
def PE (X : Cx)(e : Expr)(t : TE) : Prop :=
  ∀ (pins : List (Addr × Obj)) (s : Shared) (σ : St) (H : Hp) (Q : VK), Inv X pins σ H s → t σ H Q → wpAny (model X.prog X.w) X.A (eval e X.env) (EP X pins σ Q) X.xe s
def PT (X : Cx)(e : Expr)(t : TT) : Prop :=
  ∀ (pins : List (Addr × Obj)) (s : Shared) (σ : St) (H : Hp) (Q : Bool → Hp → Prop), Inv X pins σ H s → t σ H Q → wpAny (model X.prog X.w) X.A (isTrue e X.env (eval e X.env)) (TP X pins σ Q) X.xe s
def PW (X : Cx)(e : Expr)(t : TT) : Prop :=
  ∀ (whole : Sem Value) (pins : List (Addr × Obj)) (s : Shared) (σ : St) (H : Hp) (Q : Bool → Hp → Prop), Inv X pins σ H s → t σ H Q → wpAny (model X.prog X.w) X.A (isTrue e X.env whole) (TP X pins σ Q) X.xe s
theorem PW.pt {X : Cx}{e : Expr}{t : TT}(h : PW X e t) : PT X e t := h _
def PA (X : Cx)(es : List Expr)(t : TA) : Prop :=
  ∀ (pos : Pos) (pins : List (Addr × Obj)) (s : Shared) (σ : St) (H : Hp) (Q : List V → Hp → Prop), Inv X pins σ H s → t σ H Q → wpAny (model X.prog X.w) X.A (spliced (backTo pos (starEach es X.env))) (AP X pins σ Q) X.xe s
def PS (X : Cx)(st : Stmt)(t : TS) : Prop :=
  ∀ (pins : List (Addr × Obj)) (s : Shared) (σ : St) (H : Hp) (D : gF), Inv X pins σ H s → t D σ H → wpAny (model X.prog X.w) X.A (exec st X.env) (SP X pins D) X.xe s
def PSs (X : Cx)(st : List Stmt)(t : TS) : Prop :=
  ∀ (pins : List (Addr × Obj)) (s : Shared) (σ : St) (H : Hp) (D : gF), Inv X pins σ H s → t D σ H → wpAny (model X.prog X.w) X.A (execs st X.env) (SP X pins D) X.xe s
theorem thn {α : Type}{t : Sem α}{Q Q' : α → Shared → Prop}{M : Model}{A : Around}{E : Value → Shared → Prop}{s : Shared}(h : wpAny M A t Q E s)(hQ : ∀ a s, Q a s → Q' a s) : wpAny M A t Q' E s := wN h hQ fun _ _ x => x
section
variable {X : Cx}
inductive rP (i : Nat)(σ : St)(H : Hp)(Q : VK) : Prop
  | mk : ∀ v, (σ[i]? = some (some v)) → (Q v H) → rP i σ H Q
def tC (v : V) : TE := fun _ H Q => Q v H
theorem pK {i : Nat}{x : Str}{pos : Pos}(hN : X.N[i]? = some x)(hv : Vis X.env.scope x)(hd : (x == ("__debug__" : Str))=false := by decide)(hcd : (x == ("__classdict__" : Str))=false := by decide) : PE X (.Name x pos) (rP i) := by
  intro pins s σ H Q I h
  obtain ⟨v, e, h⟩ := h
  obtain ⟨m, hn, hl⟩ := I.loc
  obtain ⟨u, r, l⟩ := hl i x v hN e hv
  have fin : EP X pins σ Q u s := ⟨v, H, I, r, h⟩
  rcases l with ⟨hk, hm⟩ | ⟨hk, c, hc, hcell⟩
  · exact wpAny_Name (wpAny_loadName_local I.ok.kind hk hn hm fin) hd
  · rcases hk with hk | hk
    · exact wpAny_Name (wpAny_loadName_cell I.ok.kind hk hc hcell fin) hd
    · exact wpAny_Name (wpAny_loadName_free I.ok.kind hk hc hcell fin hcd) hd
theorem ah {i j pos} : PE X (.Constant (.int i) j pos) (tC (.int i)) := fun _ _ _ H _ I h => wpAny_Constant_int ⟨.int i, H, I.tok _, ⟨_, rfl⟩, h⟩
theorem eL {b j pos} : PE X (.Constant (.bool b) j pos) (tC (.bl b)) := fun _ _ _ H _ I h => Constant_bool ⟨.bl b, H, I, rfl, h⟩
theorem ng {j pos} : PE X (.Constant .none j pos) (tC .non) := fun _ _ _ H _ I h => Constant_none ⟨.non, H, I, rfl, h⟩
theorem cj {x j pos} : PE X (.Constant (.str x) j pos) (tC (.str x)) := fun _ _ _ H _ I h => Calls.Constant_str ⟨.str x, H, I.tok _, ⟨_, rfl⟩, h⟩
def Gl (X : Cx)(x : Str) : Prop := X.env.kindOf x=some .globalImplicit
theorem jn {E : Value → Shared → Prop}{pins : List (Addr × Obj)}{s : Shared}{σ : St}{H : Hp}{x : Str}{u : Value}{pos : Pos}{Q : Value → Shared → Prop}(I : Inv X pins σ H s)(hg : Gl X x)(hm : X.mg x=some u)(h : Q u s)
    (hd : (x == ("__debug__" : Str))=false := by decide) : wpAny (model X.prog X.w) X.A (eval (.Name x pos) X.env) Q E s :=
  yl I.ok.kind hg (Calls.loadGlobal_global (by rw [I.ok.glob];exact I.mod.glob.keeps I.bk) hm h) hd
theorem dY {E : Value → Shared → Prop}{pins : List (Addr × Obj)}{s : Shared}{σ : St}{H : Hp}{x : Str}{u : Value}{pos : Pos}{Q : Value → Shared → Prop}(I : Inv X pins σ H s)(hg : Gl X x)(hm : X.mg x=none)(hv : bootBuiltins x=some u)(h : Q u s)
    (hn : x ≠ "__name__" := by decide) (hd : (x == ("__debug__" : Str))=false := by decide) : wpAny (model X.prog X.w) X.A (eval (.Name x pos) X.env) Q E s := by
  obtain ⟨mb, h1, h2⟩ := I.mod.blt
  exact yl I.ok.kind hg (Calls.loadGlobal_builtin (by rw [I.ok.glob];exact I.mod.glob.keeps I.bk) hm (by rw [I.ok.blt];exact h1.keeps I.bk) ((h2 x hn).trans hv) h) hd
theorem nM {x : Str}{v : V}{u : Value}{pos : Pos}(hg : Gl X x)(hm : X.mg x=some u)(r : bJ v u)(hd : (x == ("__debug__" : Str))=false := by decide) : PE X (.Name x pos) (tC v) :=
  fun _ _ _ H _ I h => jn I hg hm ⟨v, H, I, r, h⟩ hd
theorem bH {x : Str}{v : V}{u : Value}{pos : Pos}(hg : Gl X x)(hm : X.mg x=none)(hv : bootBuiltins x=some u)(r : bJ v u)(hn : x ≠ "__name__" := by decide)(hd : (x == ("__debug__" : Str))=false := by decide) : PE X (.Name x pos) (tC v) :=
  fun _ _ _ H _ I h => dY I hg hm hv ⟨v, H, I, r, h⟩ hn hd
variable {a b : Expr} {ta tb : TE} {pos : Pos}
inductive IsB (x : V)(H : Hp)(Q : Bool → Hp → Prop) : Prop
  | mk : ∀ c, (x = .bl c) → (Q c H) → IsB x H Q
variable {tA tB' : TT} {rest : List Expr}
def gG (u : TT)(σ : St)(Q : (Bool → Hp → Prop)) : Bool → Hp → Prop := fun c H1 => if c=true then u σ H1 Q else Q false H1
def tT (t u : TT) : TT := fun σ H Q => t σ H (gG u σ Q)
def ij (u : TT)(σ : St)(Q : (Bool → Hp → Prop)) : Bool → Hp → Prop := fun c H1 => if c=true then Q true H1 else u σ H1 Q
def tOr (t u : TT) : TT := fun σ H Q => t σ H (ij u σ Q)
def gH (Q : (Bool → Hp → Prop)) : Bool → Hp → Prop := fun c H1 => Q (!c) H1
def tU (t : TT) : TT := fun σ H Q => t σ H (gH Q)
theorem gI (ha : PT X a tA) : PW X (.BoolOp .And [a] pos) tA := by
  intro wh pins s σ H Q I h
  refine isTrue_and (thn (ha pins s σ H Q I h) fun c s1 e => ?_)
  cases c with
  | true => exact isTrue_and_nil e
  | false => exact e
theorem cS (ha : PT X a tA) : PW X (.BoolOp .Or [a] pos) tA := by
  intro wh pins s σ H Q I h
  refine isTrue_or (thn (ha pins s σ H Q I h) fun c s1 e => ?_)
  cases c with
  | false => exact isTrue_or_nil e
  | true => exact e
theorem ik (ha : PT X a tA)(hb : PW X (.BoolOp .And (b::rest) pos) tB') : PW X (.BoolOp .And (a::b::rest) pos) (tT tA tB') := by
  intro wh pins s σ H Q I h
  refine isTrue_and (thn (ha pins s σ H _ I h) fun c s1 zq7 => ?_)
  obtain ⟨H1, I1, q1⟩ := zq7
  cases c with
  | true => exact hb wh pins s1 σ H1 Q I1 q1
  | false => exact ⟨H1, I1, q1⟩
theorem dN (ha : PT X a tA)(hb : PW X (.BoolOp .Or (b::rest) pos) tB') : PW X (.BoolOp .Or (a::b::rest) pos) (tOr tA tB') := by
  intro wh pins s σ H Q I h
  refine isTrue_or (thn (ha pins s σ H _ I h) fun c s1 zq8 => ?_)
  obtain ⟨H1, I1, q1⟩ := zq8
  cases c with
  | true => exact ⟨H1, I1, q1⟩
  | false => exact hb wh pins s1 σ H1 Q I1 q1
theorem ck (ha : PT X a tA) : PT X (.UnaryOp .Not a pos) (tU tA) := by
  intro pins s σ H Q I h
  exact isTrue_not (ha pins s σ H (fun c H1 => Q (!c) H1) I h)
def lx (tb : TE)(σ : St)(Q : VK) : Bool → Hp → Prop := fun c H1 => if c=true then tb σ H1 Q else Q (.bl false) H1
def ly (tb : TE)(σ : St)(Q : VK) : V → Hp → Prop := fun x H1 => IsB x H1 (lx tb σ Q)
def rQ (ta tb : TE) : TE := fun σ H Q => ta σ H (ly tb σ Q)
def lA (Q : VK) : Bool → Hp → Prop := fun c H1 => Q (.bl (!c)) H1
def lB (Q : VK) : V → Hp → Prop := fun x H1 => IsB x H1 (lA Q)
def rR (ta : TE) : TE := fun σ H Q => ta σ H (lB Q)
theorem il {op}{t : TE}(h : PE X a t) : PE X (.BoolOp op [a] pos) t := fun pins s σ H Q I hw => BoolOp_one (h pins s σ H Q I hw)
theorem jo (ha : PE X a ta)(hb : PE X (.BoolOp .And (b::rest) pos) tb) : PE X (.BoolOp .And (a::b::rest) pos) (rQ ta tb) := by
  intro pins s σ H Q I h
  refine BoolOp_and (thn (ha pins s σ H _ I h) fun v s1 zq9 => ?_)
  obtain ⟨x, H1, I1, r1, q1⟩ := zq9
  obtain ⟨c, rfl, q1⟩ := q1
  cases r1
  refine wq ?_
  cases c with
  | true => exact hb pins s1 σ H1 Q I1 q1
  | false => exact ⟨.bl false, H1, I1, rfl, q1⟩
theorem pL (ha : PE X a ta) : PE X (.UnaryOp .Not a pos) (rR ta) := by
  intro pins s σ H Q I h
  refine UnaryOp_ (thn (ha pins s σ H _ I h) fun v s1 zq11 => ?_)
  obtain ⟨x, H1, I1, r1, q1⟩ := zq11
  obtain ⟨c, rfl, q1⟩ := q1
  cases r1
  exact not_of (wq ⟨.bl (!c), H1, I1, rfl, q1⟩)
def pM (ta : TE)(tb : TE)(σ : St)(Q : VK) : Bool → Hp → Prop := fun c H1 => if c=true then ta σ H1 Q else tb σ H1 Q
def tIf (t : TT)(ta tb : TE) : TE := fun σ H Q => t σ H (pM ta tb σ Q)
theorem lC {c : Expr}(hc : PT X c tA)(ha : PE X a ta)(hb : PE X b tb) : PE X (.IfExp c a b pos) (tIf tA ta tb) := by
  intro pins s σ H Q I h
  refine wpAny_IfExp (thn (hc pins s σ H _ I h) fun d s1 zq12 => ?_)
  obtain ⟨H1, I1, q1⟩ := zq12
  cases d with
  | true => exact ha pins s1 σ H1 Q I1 q1
  | false => exact hb pins s1 σ H1 Q I1 q1
end
def SqL (K : PySem.W.Frag)(H : Hp)(a : Addr)(xs : List V) : Prop :=
  Rd H a (.lst xs) ∨
    ∃ (o : Obj) (its : Array Value) (n : Nat), K.lookup a=some o ∧ o.cls = .type "list" ∧ o.dict=none ∧ o.data = .seq its n ∧ its.size≤sizeLine ∧ bc xs its.toList
def SqT (K : PySem.W.Frag)(H : Hp)(a : Addr)(xs : List V) : Prop :=
  Rd H a (.tup xs) ∨
    ∃ (o : Obj) (its : Array Value) (n : Nat), K.lookup a=some o ∧ o.cls = .type "tuple" ∧ o.data = .seq its n ∧ its.size≤sizeLine ∧ bc xs its.toList
def tV : Value → Option V
  | .none => some .non
  | .bool b => some (.bl b)
  | .int i _ => some (.int i)
  | .str x _ => some (.str x)
  | .bytes b _ => some (.byt b)
  | .float b _ => some (.flt b)
  | .ref a => some (.ref a)
  | .type n => some (.ty n)
  | _ => none
theorem bJ.abs {x : V}{u : Value}(r : bJ x u) : tV u=some x := by
  cases x with
  | non => cases r;rfl
  | bl _ => cases r;rfl
  | int _ => obtain ⟨t, rfl⟩ := r;rfl
  | str _ => obtain ⟨t, rfl⟩ := r;rfl
  | byt _ => obtain ⟨t, rfl⟩ := r;rfl
  | flt _ => obtain ⟨t, rfl⟩ := r;rfl
  | ref _ => cases r;rfl
  | ty _ => cases r;rfl
theorem bJ.inj {x y : V}{u : Value}(r : bJ x u)(q : bJ y u) : x=y := uV (r.abs.symm.trans q.abs)
theorem bc.inj : ∀ {xs ys : List V} {us : List Value}, bc xs us → bc ys us → xs=ys
  | _, _, _, .nil, .nil => rfl
  | _, _, _, .cons r t, .cons r' t' => by rw [r.inj r', bc.inj t t']
section
variable {X : Cx} {pins : List (Addr × Obj)} {σ : St} {H : Hp} {s : Shared} {a : Addr} {xs ys : List V}
theorem SqL.of {K : PySem.W.Frag}(h : H a=some (.lst xs)) : SqL K H a xs := .inl (.inl h)
theorem SqT.of {K : PySem.W.Frag}(h : H a=some (.tup xs)) : SqT K H a xs := .inl (.inl h)
theorem Inv.list (I : Inv X pins σ H s)(h : SqL X.K H a xs) : ∃ its : List Value, bc xs its ∧ PlainL s.heap a its.toArray ∧ xs.length≤sizeLine := by
  rcases h with h | ⟨o, its, n, hk, hc, hd, hs, hz, r⟩
  · obtain ⟨z, its, n, r, e⟩ := h.ok I.hok
    exact ⟨its, r, ⟨_, n, e, rfl, rfl, rfl⟩, z⟩
  · refine ⟨its.toList, r, ⟨o, n, I.kIn a o hk, hc, hd, by simpa using hs⟩, ?_⟩
    have e := r.length
    simp only [uI] at e
    omega
theorem Inv.tuple (I : Inv X pins σ H s)(h : SqT X.K H a xs) : ∃ its : List Value, bc xs its ∧ IsTup s.heap a its.toArray ∧ xs.length≤sizeLine := by
  rcases h with h | ⟨o, its, n, hk, hc, hs, hz, r⟩
  · obtain ⟨z, its, r, p, _⟩ := h.ok I.hok
    exact ⟨its, r, p, z⟩
  · refine ⟨its.toList, r, ⟨o, I.kIn a o hk, hc, n, by simpa using hs⟩, ?_⟩
    have e := r.length
    simp only [uI] at e
    omega
theorem Inv.list_inj (I : Inv X pins σ H s)(h : SqL X.K H a xs)(h' : SqL X.K H a ys) : xs=ys := by
  obtain ⟨its, r, ⟨o, n, e, _, _, d⟩, _⟩ := I.list h
  obtain ⟨its', r', ⟨o', n', e', _, _, d'⟩, _⟩ := I.list h'
  rw [e] at e';cases e'
  rw [d] at d'
  injection d' with d1 _
  have : its=its' := by simpa using vz Array.toList d1
  subst this
  exact r.inj r'
theorem Inv.tuple_inj (I : Inv X pins σ H s)(h : SqT X.K H a xs)(h' : SqT X.K H a ys) : xs=ys := by
  obtain ⟨its, r, ⟨o, e, _, n, d⟩, _⟩ := I.tuple h
  obtain ⟨its', r', ⟨o', e', _, n', d'⟩, _⟩ := I.tuple h'
  rw [e] at e';cases e'
  rw [d] at d'
  injection d' with d1 _
  have : its=its' := by simpa using vz Array.toList d1
  subst this
  exact r.inj r'
end
abbrev Cx.wish (X : Cx)(E : Value → Shared → Prop) : Cx := { X with xe := E }
abbrev Cx.nox (X : Cx) : Cx := X.wish fun _ _ => False
theorem Cx.Ok.wish {X : Cx}(ok : X.Ok)(E : Value → Shared → Prop) : (X.wish E).Ok :=
  ⟨ok.mod, ok.kind, ok.glob, ok.blt, ok.above, ok.inj, ok.has, ok.cab, ok.hd, ok.frames, ok.stk, ok.exf, ok.bs, ok.bsz, ok.noex, ok.exfs, ok.funs, ok.frf⟩
theorem Cx.Ok.unwish {X : Cx}{E : Value → Shared → Prop}(ok : (X.wish E).Ok) : X.Ok :=
  ⟨ok.mod, ok.kind, ok.glob, ok.blt, ok.above, ok.inj, ok.has, ok.cab, ok.hd, ok.frames, ok.stk, ok.exf, ok.bs, ok.bsz, ok.noex, ok.exfs, ok.funs, ok.frf⟩
section
variable {X : Cx} {pins : List (Addr × Obj)} {σ : St} {H : Hp} {s : Shared} {E : Value → Shared → Prop}
theorem Inv.wish (I : Inv X pins σ H s)(E : Value → Shared → Prop) : Inv (X.wish E) pins σ H s := ⟨I.ok.wish E, I.os, I.bare, I.base, I.loc, I.cell, I.free, I.freeC, I.pin, I.hok, I.len⟩
theorem Inv.unwish (I : Inv (X.wish E) pins σ H s) : Inv X pins σ H s := ⟨I.ok.unwish, I.os, I.bare, I.base, I.loc, I.cell, I.free, I.freeC, I.pin, I.hok, I.len⟩
theorem SP.unwish {D : gF}{f : Flow}{s' : Shared}(h : SP (X.wish E) pins D f s') : SP X pins D f s' := by
  cases f with
  | next => obtain ⟨σ', H', I, q⟩ := h;exact ⟨σ', H', I.unwish, q⟩
  | brk => obtain ⟨σ', H', I, q⟩ := h;exact ⟨σ', H', I.unwish, q⟩
  | cont => obtain ⟨σ', H', I, q⟩ := h;exact ⟨σ', H', I.unwish, q⟩
  | ret u => obtain ⟨v, σ', H', I, r, q⟩ := h;exact ⟨v, σ', H', I.unwish, r, q⟩
theorem PSs.nox {st : List Stmt}{t : TS}(h : PSs X.nox st t) : PSs X st t := fun pins s σ H D I hw =>
  wN (h pins s σ H D (I.wish _) hw) (fun _ _ q => q.unwish) fun _ _ z => False.elim z
end
section
variable {X : Cx} {st : Stmt} {rest : List Stmt} {t u : TS} {e : Expr} {te : TE} {pos : Pos}
def rS : TS := fun D σ H => D.nx σ H
def tW (t u : TS) : TS := fun D σ H => t { D with nx := u D } σ H
theorem aQ : PSs X [] rS := fun _ _ σ H _ I h => xZ ⟨σ, H, I, h⟩
theorem ag (h1 : PS X st t)(h2 : PSs X rest u) : PSs X (st::rest) (tW t u) := by
  intro pins s σ H D I h
  refine wpAny_execs_cons (thn (h1 pins s σ H { D with nx := u D } I h) fun f s1 q => ?_)
  cases f with
  | next =>
    obtain ⟨σ', H', I', q⟩ := q
    exact h2 pins s1 σ' H' D I' q
  | ret v => exact q
  | brk => exact q
  | cont => exact q
theorem ak (h1 : PS X st t) : PSs X [st] t := by
  intro pins s σ H D I h
  refine wpAny_execs_cons (thn (h1 pins s σ H D I h) fun f s1 q => ?_)
  cases f with
  | next => exact xZ q
  | ret v => exact q
  | brk => exact q
  | cont => exact q
theorem Inv.quiet {pins : List (Addr × Obj)}{σ : St}{H : Hp}{s : Shared}(I : Inv X pins σ H s) : interactive X.env=false := by simp [interactive, I.ok.kind]
def lD (D : gF)(σ : St) : V → Hp → Prop := fun _ H1 => D.nx σ H1
def rT (te : TE) : TS := fun D σ H => te σ H (lD D σ)
theorem bZ (he : PE X e te)(hs : swapsWith e none pos.line X.env=pure false := by rfl) : PS X (.Expr e pos) (rT te) := by
  intro pins s σ H D I h
  exact wpAny_Expr_any (thn (he pins s σ H _ I h) fun v s1 zq15 => (by obtain ⟨x, H1, I1, r1, q1⟩ := zq15;exact ⟨σ, H1, I1, q1⟩)) I.quiet hs
def tX (te : TE) : TS := fun D σ H => te σ H D.rt
theorem aE (he : PE X e te) : PS X (.Return (some e) pos) (tX te) := by
  intro pins s σ H D I h
  exact wpAny_Return_some (thn (he pins s σ H _ I h) fun v s1 zq16 => (by obtain ⟨x, H1, I1, r1, q1⟩ := zq16;exact ⟨x, σ, H1, I1, r1, q1⟩))
def e_ (t : TS)(u : TS)(D : gF)(σ : St) : Bool → Hp → Prop := fun b H1 => if b=true then t D σ H1 else u D σ H1
def tY (c : TT)(t u : TS) : TS := fun D σ H => c σ H (e_ t u D σ)
theorem bD {c : Expr}{a b : List Stmt}{tc : TT}(hc : PT X c tc)(ha : PSs X a t)(hb : PSs X b u) : PS X (.If c a b pos) (tY tc t u) := by
  intro pins s σ H D I h
  refine wpAny_If (thn (hc pins s σ H _ I h) fun d s1 zq17 => ?_)
  obtain ⟨H1, I1, q1⟩ := zq17
  cases d with
  | true => exact ha pins s1 σ H1 D I1 q1
  | false => exact hb pins s1 σ H1 D I1 q1
end
abbrev TG := V → St → Hp → (St → Hp → Prop) → Prop
abbrev TGs := List V → St → Hp → (St → Hp → Prop) → Prop
def PG (X : Cx)(target : Expr)(t : TG) : Prop :=
  ∀ (pins : List (Addr × Obj)) (s : Shared) (σ : St) (H : Hp) (v : V) (u : Value) (Q : St → Hp → Prop), Inv X pins σ H s → bJ v u → t v σ H Q →
    wpAny (model X.prog X.w) X.A (assign target X.env u) (fun _ s' => ∃ σ' H', Inv X pins σ' H' s' ∧ Q σ' H') X.xe s
def PGs (X : Cx)(ts : List Expr)(t : TGs) : Prop :=
  ∀ (pins : List (Addr × Obj)) (s : Shared) (σ : St) (H : Hp) (vs : List V) (us : List Value) (Q : St → Hp → Prop), Inv X pins σ H s → bc vs us → t vs σ H Q →
    wpAny (model X.prog X.w) X.A (assignInOrder ((assignEach ts X.env).map (·.2)) us) (fun _ s' => ∃ σ' H', Inv X pins σ' H' s' ∧ Q σ' H') X.xe s
abbrev rV := V → V → V → Hp → (Hp → Prop) → Prop
def tm (X : Cx)(t : rV) : Prop :=
  ∀ (pins : List (Addr × Obj)) (s : Shared) (σ : St) (H : Hp) (o i v : V) (ov iv u : Value) (Q : Hp → Prop), Inv X pins σ H s → bJ o ov → bJ i iv → bJ v u → t o i v H Q →
    wpAny (model X.prog X.w) X.A (setItem ov iv u) (fun _ s' => ∃ H', Inv X pins σ H' s' ∧ Q H') X.xe s
section
variable {X : Cx} {pos : Pos}
def nN (i : Nat) : TG := fun v σ H Q => Q (σ.set i (some v)) H
theorem aK {i : Nat}{x : Str}(hN : X.N.Nodup)(hi : X.N[i]? = some x)(hx : Loc X.env.scope x)(hf : X.fn x=true ∨ X.env.scope.names.lookup x=some .local := by first | exact .inl rfl | exact .inr rfl | assumption) : PG X (.Name x pos) (nN i) := by
  intro pins s σ H v u Q I r h
  exact wpAny_assign_Name (ig I hN hi hx r (fun s' I' => ⟨_, H, I', h⟩) hf)
def tZ : TGs := fun vs σ H Q => vs=[] ∧ Q σ H
def rW (t : TG)(u : TGs) : TGs := fun vs σ H Q => ∃ v r, vs=v::r ∧ t v σ H fun σ' H' => u r σ' H' Q
theorem fc : PGs X [] tZ := by
  intro pins s σ H vs us Q I r h
  obtain ⟨e, h⟩ := h
  subst e
  cases r
  exact assignInOrder_nil ⟨σ, H, I, h⟩
theorem bS {e : Expr}{es : List Expr}{t : TG}{u : TGs}(h1 : PG X e t)(h2 : PGs X es u)
    (hs : (assignEach (e::es) X.env).map (·.2)=assign e X.env::(assignEach es X.env).map (·.2) := by rfl) : PGs X (e::es) (rW t u) := by
  intro pins s σ H vs us Q I r h
  obtain ⟨v, vr, e1, h⟩ := h
  subst e1
  cases r with
  | cons r rr =>
    rw [hs]
    refine assignInOrder_cons (thn (h1 pins s σ H _ _ _ I r h) fun _ s1 zq18 => ?_)
    obtain ⟨σ1, H1, I1, q1⟩ := zq18
    exact h2 pins s1 σ1 H1 _ _ Q I1 rr q1
def tq (K : PySem.W.Frag)(n : Nat)(t : TGs) : TG := fun v σ H Q => ∃ a xs, v = .ref a ∧ SqT K H a xs ∧ xs.length=n ∧ t xs σ H Q
theorem ip {es : List Expr}{k : Nat}{t : TGs}{n : Nat}(hc : X.calm=true)(h : PGs X es t)
    (hn : (assignEach es X.env).length=n := by rfl) (hst : (assignEach es X.env).findIdx? (·.1)=none := by rfl) : PG X (.Tuple es k pos) (tq X.K n t) := by
  intro pins s σ H v u Q I r hw
  obtain ⟨a, xs, e1, hq, hl, hw⟩ := hw
  subst e1
  cases r
  obtain ⟨its, rv, ht, hz⟩ := I.tuple hq
  refine assign_Tuple_tuple (I.ok.hd hc) ht (by simp [hn, ← hl, rv.length]) hst fun h' hx => ?_
  have I1 : Inv X pins σ H { s with heap := h' } := I.kept (t' := s.toks) fun b o e => hx b o (vm (uQ e)) e
  exact h pins _ σ H xs _ Q I1 (by simpa using rv) hw
def t_ (to ti : TE)(t : rV) : TG := fun v σ H Q => to σ H fun o H1 => ti σ H1 fun i H2 => t o i v H2 fun H3 => Q σ H3
theorem iq {o i : Expr}{to ti : TE}{t : rV}(ho : PE X o to)(hi : PE X i ti)(hs : tm X t)
    (ha : ∀ v, assign (.Subscript o i pos) X.env v=(do
      let ov ← holding [v] (eval o X.env)
      let iv ← holding [v, ov] (eval i X.env)
      standAt pos
      holding [v, ov, iv] (setItem ov iv v)
      release [v, ov, iv] []) := by intro _;rfl) : PG X (.Subscript o i pos) (t_ to ti t) := by
  intro pins s σ H v u Q I r h
  rw [ha]
  refine fu (wy (thn (ho pins s σ H _ I h) fun ov s1 zq19 => ?_))
  obtain ⟨x, H1, I1, r1, q1⟩ := zq19
  refine fu (wy (thn (hi pins s1 σ H1 _ I1 q1) fun iv s2 zq20 => ?_))
  obtain ⟨y, H2, I2, r2, q2⟩ := zq20
  refine fu (wpAny_standAt (fu (wy (thn (hs pins s2 σ H2 x y v ov iv u _ I2 r1 r2 r q2) fun _ s3 zq21 => ?_))))
  obtain ⟨H3, I3, q3⟩ := zq21
  exact wpAny_release ⟨σ, H3, I3, q3⟩
def nO (g : TG)(D : gF)(σ : St) : V → Hp → Prop := fun x H1 => g x σ H1 D.nx
def rX (te : TE)(g : TG) : TS := fun D σ H => te σ H (nO g D σ)
theorem fF {tg e : Expr}{te : TE}{g : TG}(he : PE X e te)(hg : PG X tg g)(hs : swapsWithSole [tg] e pos.line X.env=pure false := by rfl)(hw : swappedStores [tg] e X.env=pure none := by rfl)
    (h1 : (assignEach [tg] X.env).map (·.2)=[assign tg X.env] := by rfl) : PS X (.Assign [tg] e pos) (rX te g) := by
  intro pins s σ H D I h
  refine wpAny_Assign_stores (thn (he pins s σ H _ I h) fun v s1 zq22 => ?_) hs hw
  obtain ⟨x, H1, I1, r1, q1⟩ := zq22
  rw [h1]
  exact thn (hg pins s1 σ H1 x v _ I1 r1 q1) fun _ s2 q => q
theorem aL {i : Nat}{x : Str}{e : Expr}{te : TE}{pos' : Pos}(hN : X.N.Nodup)(hi : X.N[i]? = some x)(hx : Loc X.env.scope x)(he : PE X e te)(hs : swapsWith e (some (.Name x pos')) pos.line X.env=pure false := by rfl)(hf : X.fn x=true ∨ X.env.scope.names.lookup x=some .local := by first | exact .inl rfl | exact .inr rfl | assumption) :
    PS X (.Assign [.Name x pos'] e pos) (rX te (nN i)) := by
  intro pins s σ H D I h
  refine wpAny_Assign_Name (thn (he pins s σ H _ I h) fun v s1 zq23 => ?_) hs
  obtain ⟨y, H1, I1, r1, q1⟩ := zq23
  exact ig I1 hN hi hx r1 (fun s2 I2 => ⟨_, H1, I2, q1⟩) hf
def pN (c : TT)(tb : TS) : TS := fun D σ H => ∃ W : Nat → St → Hp → Prop, (∃ m, W m σ H) ∧ ∀ m σ H, W m σ H →
  c σ H fun b H1 => if b=true then ∃ N : St → Hp → Prop, (∀ σ' H', N σ' H' → ∃ m', m' < m ∧ W m' σ' H') ∧ tb { D with nx := N, ct := N, bk := D.nx } σ H1 else D.nx σ H1
theorem lE {c : Expr}{body : List Stmt}{tc : TT}{tb : TS}(hp : PassesOwn (model X.prog X.w) X.A X.env X.xe)(hc : PT X c tc)(hb : PSs X body tb) : PS X (.While c body [] pos) (pN tc tb) := by
  intro pins s σ H D I h
  obtain ⟨W, ⟨m0, w0⟩, turn⟩ := h
  refine wpAny_While (codeAny_whileLoop (fun n s' => ∃ σ' H', Inv X pins σ' H' s' ∧ W n σ' H') ?_ m0 ⟨σ, H, I, w0⟩)
  rintro n s1 ⟨σ1, H1, I1, w1⟩
  refine wD hp (thn (hc pins s1 σ1 H1 _ I1 (turn n σ1 H1 w1)) fun b s2 zq33 => ?_)
  obtain ⟨H2, I2, q2⟩ := zq33
  cases b with
  | true =>
    obtain ⟨N, hN, q2⟩ := q2
    rw [if_pos rfl]
    refine wD hp (thn (hb pins s2 σ1 H2 _ I2 q2) fun f s3 q3 => ?_)
    cases f with
    | next =>
      obtain ⟨σ3, H3, I3, n3⟩ := q3
      obtain ⟨m', hm, w3⟩ := hN σ3 H3 n3
      exact ⟨m', hm, σ3, H3, I3, w3⟩
    | cont =>
      obtain ⟨σ3, H3, I3, n3⟩ := q3
      obtain ⟨m', hm, w3⟩ := hN σ3 H3 n3
      exact ⟨m', hm, σ3, H3, I3, w3⟩
    | brk => exact q3
    | ret v => exact q3
  | false =>
    rw [if_neg u5]
    exact xZ ⟨σ1, H2, I2, q2⟩
end
structure It where
  go : Nat → Hp → Prop
  yld : Nat → Hp → V → Hp → Prop
  stop : Nat → Hp → Prop
def gJ (X : Cx)(pins : List (Addr × Obj))(H : Hp)(b : Addr) : Prop :=
  H b=none ∧ b≠X.env.locals ∧ b∉X.fs ∧ (b∈X.ex ∨ X.s₀.heap.objs.size≤b) ∧ (∀ x c, X.env.cells.lookup x=some c → c≠b) ∧ ∀ p∈X.pn++pins, p.1≠b
theorem Inv.fpOk {X : Cx}{pins : List (Addr × Obj)}{σ : St}{H H' : Hp}{s : Shared}{b : Addr}(I : Inv X pins σ H s)(hb : s.heap.objs.size≤b)(hn : H' b=none) : gJ X pins H' b := by
  refine ⟨hn, xk (uX I.lt hb), I.nofs hb, .inr (vi I.sz hb), fun x c e z => ?_, fun p hp z => ?_⟩
  · obtain ⟨v, q⟩ := I.cell x c e
    exact absurd (uX q.lt (by rw [z];exact hb)) (vD _)
  · exact absurd (uX (uQ (I.pin p hp).1) (by rw [z];exact hb)) (vD _)
structure nP (P : Program) (w : World) (K : PySem.W.Frag) (tg : Expr) (J : It) (fp : List Addr) (it : Addr) (tn : Nat → Heap → Prop) : Prop where
  mem : it∈fp
  obj : ∀ i h, tn i h → ∀ b∈fp, ∃ o, h.get? b=some o ∧ ∀ v, o.data ≠ .cell v
  keep : ∀ i h h', tn i h → (∀ b∈fp, ∀ o, h.get? b=some o → h'.get? b=some o) → tn i h'
  item : ∀ (X : Cx), X.prog=P → X.w=w → X.K=K → X.calm=true → ∀ (i : Nat) (pins : List (Addr × Obj)) (s : Shared) (σ : St) (H : Hp) (E : Value → Shared → Prop), Inv X pins σ H s → (∀ b∈fp, gJ X pins H b) → tn i s.heap → J.go i H →
    wpAny (model P w) X.A (pyNext (.ref it)) (fun r s1 => ∃ u, r=some u ∧
      wpAny (model P w) X.A (letOwnedTupleGo tg (.ref it) u) (fun _ s2 => ∃ x H', Inv X pins σ H' s2 ∧ bJ x u ∧ J.yld i H x H' ∧ tn (i+1) s2.heap ∧ ∀ b∈fp, H' b=none) E s1) E s
  done : ∀ (X : Cx), X.prog=P → X.w=w → X.K=K → X.calm=true → ∀ (i : Nat) (pins : List (Addr × Obj)) (s : Shared) (σ : St) (H : Hp) (E : Value → Shared → Prop), Inv X pins σ H s → (∀ b∈fp, gJ X pins H b) → tn i s.heap → J.stop i H →
    wpAny (model P w) X.A (pyNext (.ref it)) (fun r s1 => r=none ∧ Inv X pins σ H s1) E s
  self : ∀ (A : Around) (i : Nat) (s : Shared) (Q : Value → Shared → Prop) (E : Value → Shared → Prop), tn i s.heap → Q (.ref it) s → wpAny (model P w) A (pyIter (.ref it)) Q E s
abbrev TI := St → Hp → (It → Hp → Prop) → Prop
def PIE (X : Cx)(pins : List (Addr × Obj))(σ : St)(tg : Expr)(R : It → Hp → Prop)(itv : Value)(s2 : Shared) : Prop :=
  ∃ (it : Addr) (fp : List Addr) (tn : Nat → Heap → Prop) (J : It) (H' : Hp), itv = .ref it ∧ Inv X pins σ H' s2 ∧ nP X.prog X.w X.K tg J fp it tn ∧ tn 0 s2.heap ∧ (∀ b∈fp, gJ X pins H' b) ∧ R J H'
def PI (X : Cx)(tg iter : Expr)(wi : TI) : Prop :=
  ∀ (pins : List (Addr × Obj)) (s : Shared) (σ : St) (H : Hp) (R : It → Hp → Prop), Inv X pins σ H s → wi σ H R →
    wpAny (model X.prog X.w) X.A (eval iter X.env) (fun v s1 => wpAny (model X.prog X.w) X.A (pyIter v) (PIE X pins σ tg R) X.xe s1) X.xe s
theorem lF {M : Model}{A : Around}{E : Value → Shared → Prop}{s : Shared}{tg : Expr}{it : Addr}{u : Value}{o : Obj}{n : String}{vs : Array Value}{Q : Unit → Shared → Prop}(ho : s.heap.get? it=some o)(hc : o.cls = .type n)(hd : o.data = .fields vs)
    (hn : ["enumerate", "zip", "dict_itemiterator", "dict_reverseitemiterator", "odict_iterator", "itertools.zip_longest", "itertools.pairwise"].contains n=false) (hQ : Q () s) : wpAny M A (letOwnedTupleGo tg (.ref it) u) Q E s := by
  unfold letOwnedTupleGo
  cases tg <;> first
    | exact uH hQ
    | (cases u <;> first
        | exact uH hQ
        | (refine fu (wpAny_load ho ?_)
           rw [hc, hd]
           show wpAny M A (if (["enumerate", "zip", "dict_itemiterator", "dict_reverseitemiterator", "odict_iterator", "itertools.zip_longest", "itertools.pairwise"].contains n && vs[0]? == some (rawInt _))=true then _ else _) Q E s
           rw [if_neg (by intro h;rw [hn, vG] at h;cases h)]
           exact uH hQ))
def Itl (K : PySem.W.Frag)(a : Addr) : It :=
  ⟨fun i H => ∃ xs x, SqL K H a xs ∧ xs[i]? = some x, fun i H x H' => H'=H ∧ ∀ xs, SqL K H a xs → xs[i]? = some x, fun i H => ∃ xs, SqL K H a xs ∧ xs.length≤i⟩
def Itt (K : PySem.W.Frag)(a : Addr) : It :=
  ⟨fun i H => ∃ xs x, SqT K H a xs ∧ xs[i]? = some x, fun i H x H' => H'=H ∧ ∀ xs, SqT K H a xs → xs[i]? = some x, fun i H => ∃ xs, SqT K H a xs ∧ xs.length≤i⟩
def Itr (lo : Int)(n : Nat) : It := ⟨fun i _ => i < n, fun i H x H' => H'=H ∧ x = .int (lo+i), fun i _ => n≤i⟩
theorem fG {P : Program}{w : World}{K : PySem.W.Frag}{tg : Expr}(a it : Addr) : nP P w K tg (Itl K a) [it] it (fun i h => h.IsListIter it a i) where
  mem := by simp
  obj := fun i h st b hb => by
    have e : b=it := by simpa using hb
    subst e
    obtain ⟨o, e, c, d⟩ := st
    exact ⟨o, e, fun v z => by rw [d] at z;cases z⟩
  keep := fun i h h' st k => st.at fun o e => k it (by simp) o e
  item := by
    intro X hP hw hK hc i pins s σ H E I hf st hg
    subst hP hw hK
    obtain ⟨xs, x, hq, hx⟩ := hg
    obtain ⟨its, rv, p, hz⟩ := I.list hq
    obtain ⟨u, hu, ru⟩ := rv.get hx
    obtain ⟨f0, f1, f2, f3, f4, f5⟩ := hf it (by simp)
    refine wpAny_pyNext_list_item st p.isList (x := u) (by simpa using hu) fun h' st' sb => ?_
    have I1 : Inv X pins σ H { s with heap := h' } := I.turned (t' := s.toks) (fun b o hb e => (sb.2 b hb).trans e) f0 f1 f3 f4 f5
    obtain ⟨o, e, c, d⟩ := id st'
    exact ⟨u, rfl, lF (s := { s with heap := h' }) e c d (by decide) ⟨x, H, I1, ru, ⟨rfl, fun ys hy => by rw [I.list_inj hy hq];exact hx⟩, st', fun b hb => (hf b hb).1⟩⟩
  done := by
    intro X hP hw hK hc i pins s σ H E I hf st hg
    subst hP hw hK
    obtain ⟨xs, hq, hx⟩ := hg
    obtain ⟨its, rv, p, hz⟩ := I.list hq
    obtain ⟨f0, f1, f2, f3, f4, f5⟩ := hf it (by simp)
    have hl := rv.length
    exact wpAny_pyNext_list_end (I.ok.hd hc) st p.isList (by simp;omega) fun h' eb => ⟨rfl, I.turned (t' := s.toks) (fun b o hb e => eb b o hb e) f0 f1 f3 f4 f5⟩
  self := fun _ _ _ _ _ st h => wpAny_pyIter_listiter st h
theorem eO {P : Program}{w : World}{K : PySem.W.Frag}{tg : Expr}(a it : Addr) : nP P w K tg (Itt K a) [it] it (fun i h => h.IsTupleIter it a i) where
  mem := by simp
  obj := fun i h st b hb => by
    have e : b=it := by simpa using hb
    subst e
    obtain ⟨o, e, c, d⟩ := st
    exact ⟨o, e, fun v z => by rw [d] at z;cases z⟩
  keep := fun i h h' st k => st.at fun o e => k it (by simp) o e
  item := by
    intro X hP hw hK hc i pins s σ H E I hf st hg
    subst hP hw hK
    obtain ⟨xs, x, hq, hx⟩ := hg
    obtain ⟨its, rv, p, hz⟩ := I.tuple hq
    obtain ⟨u, hu, ru⟩ := rv.get hx
    obtain ⟨f0, f1, f2, f3, f4, f5⟩ := hf it (by simp)
    refine wpAny_pyNext_tuple_item st (show s.heap.IsTuple a its.toArray from p) (x := u) (by simpa using hu) fun h' st' sb => ?_
    have I1 : Inv X pins σ H { s with heap := h' } := I.turned (t' := s.toks) (fun b o hb e => (sb.2 b hb).trans e) f0 f1 f3 f4 f5
    obtain ⟨o, e, c, d⟩ := id st'
    exact ⟨u, rfl, lF (s := { s with heap := h' }) e c d (by decide) ⟨x, H, I1, ru, ⟨rfl, fun ys hy => by rw [I.tuple_inj hy hq];exact hx⟩, st', fun b hb => (hf b hb).1⟩⟩
  done := by
    intro X hP hw hK hc i pins s σ H E I hf st hg
    subst hP hw hK
    obtain ⟨xs, hq, hx⟩ := hg
    obtain ⟨its, rv, p, hz⟩ := I.tuple hq
    obtain ⟨f0, f1, f2, f3, f4, f5⟩ := hf it (by simp)
    have hl := rv.length
    exact wpAny_pyNext_tuple_end (I.ok.hd hc) st (show s.heap.IsTuple a its.toArray from p) (by simp;omega) fun h' eb => ⟨rfl, I.turned (t' := s.toks) (fun b o hb e => eb b o hb e) f0 f1 f3 f4 f5⟩
  self := fun _ _ _ _ _ st h => wpAny_pyIter_tupleiter st h
theorem i0 {P : Program}{w : World}{K : PySem.W.Frag}{tg : Expr}(it : Addr)(lo : Int)(n : Nat) : nP P w K tg (Itr lo n) [it] it (fun i h => IsRangeIter h it (lo+(i : Nat)*1) ((n : Int) - (i : Nat)) 1) where
  mem := by simp
  obj := fun i h st b hb => by
    have e : b=it := by simpa using hb
    subst e
    exact ⟨_, st, fun v z => by
      have z' : Data.fields _=Data.cell v := z
      cases z'⟩
  keep := fun i h h' st k => k it (by simp) _ st
  item := by
    intro X hP hw hK hc i pins s σ H E I hf st hg
    subst hP hw hK
    obtain ⟨f0, f1, f2, f3, f4, f5⟩ := hf it (by simp)
    have W := Walks.range (prog := X.prog) (w := X.w) (I.ok.hd hc) it lo 1 n
    refine W.item i s _ _ hg st fun v h' tk hv st' kk => ?_
    obtain ⟨t, rfl⟩ := hv
    have I1 : Inv X pins σ H { s with heap := h', toks := tk } := I.turned (fun b o hb e => kk b o (by simpa using hb) e) f0 f1 f3 f4 f5
    refine ⟨_, rfl, lF (s := { s with heap := h', toks := tk }) (n := "range_iterator") st' rfl rfl (by decide) ⟨.int (lo+i), H, I1, ⟨t, ?_⟩, ⟨rfl, rfl⟩, st', fun b hb => (hf b hb).1⟩⟩
    rw [Int.mul_one]
  done := by
    intro X hP hw hK hc i pins s σ H E I hf st hg
    subst hP hw hK
    obtain ⟨f0, f1, f2, f3, f4, f5⟩ := hf it (by simp)
    exact wpAny_pyNext_range_end (I.ok.hd hc) st (by have : n≤i := hg;omega) fun h' eb => ⟨rfl, I.turned (t' := s.toks) (fun b o hb e => eb b o hb e) f0 f1 f3 f4 f5⟩
  self := fun _ _ _ _ _ st h => wpAny_pyIter_rangeiter st h
section
variable {X : Cx} {tg : Expr}
def rY (K : PySem.W.Frag)(tl : TE) : TI := fun σ H R => tl σ H fun x H1 => ∃ a, x = .ref a ∧ (∃ xs, SqL K H1 a xs) ∧ R (Itl K a) H1
def ua (K : PySem.W.Frag)(tl : TE) : TI := fun σ H R => tl σ H fun x H1 => ∃ a, x = .ref a ∧ (∃ xs, SqT K H1 a xs) ∧ R (Itt K a) H1
theorem fe {l : Expr}{tl : TE}(hl : PE X l tl) : PI X tg l (rY X.K tl) := by
  intro pins s σ H R I h
  refine thn (hl pins s σ H _ I h) fun v s1 zq34 => ?_
  obtain ⟨x, H1, I1, r1, q1⟩ := zq34
  obtain ⟨a, e, ⟨xs, hq⟩, q⟩ := q1
  subst e
  cases r1
  obtain ⟨its, rv, p, hz⟩ := I1.list hq
  refine yy p.isList ?_
  refine ⟨s1.heap.objs.size, [s1.heap.objs.size], _, _, H1, rfl, I1.kept (t' := s1.toks) fun b o e => uC _ e, fG a _, ⟨_, uN _ rfl, rfl, rfl⟩, fun b hb => ?_, q⟩
  have e : b=s1.heap.objs.size := by simpa using hb
  subst e
  exact I1.fpOk (uG _) (I1.hok.fresh (uG _))
theorem ir {l : Expr}{tl : TE}(hl : PE X l tl) : PI X tg l (ua X.K tl) := by
  intro pins s σ H R I h
  refine thn (hl pins s σ H _ I h) fun v s1 zq35 => ?_
  obtain ⟨x, H1, I1, r1, q1⟩ := zq35
  obtain ⟨a, e, ⟨xs, hq⟩, q⟩ := q1
  subst e
  cases r1
  obtain ⟨its, rv, p, hz⟩ := I1.tuple hq
  refine wz (show s1.heap.IsTuple a its.toArray from p) ?_
  refine ⟨s1.heap.objs.size, [s1.heap.objs.size], _, _, H1, rfl, I1.kept (t' := s1.toks) fun b o e => uC _ e, eO a _, ⟨_, uN _ rfl, rfl, rfl⟩, fun b hb => ?_, q⟩
  have e : b=s1.heap.objs.size := by simpa using hb
  subst e
  exact I1.fpOk (uG _) (I1.hok.fresh (uG _))
theorem iu {pins : List (Addr × Obj)}{σ : St}{H : Hp}{s : Shared}{R : It → Hp → Prop}{E : Value → Shared → Prop}{lo hi : Int}{t u v : Tok}{tk : Nat}(I : Inv X pins σ H s)(h1 : -(2 ^ 62)≤lo)(h2 : lo < 2 ^ 62)(h3 : -(2 ^ 62)≤hi)(h4 : hi < 2 ^ 62)
    (q : R (Itr lo (hi - lo).toNat) H) : wpAny (model X.prog X.w) X.A (pyIter (.ref s.heap.objs.size)) (PIE X pins σ tg R) E { s with heap := s.heap.push { cls := .type "range", data := .fields #[.int lo t, .int hi u, .int 1 v] }, toks := tk } := by
  refine wpAny_pyIter_range (IsRange.new ..) (small_one h1 h2 h3 h4) ?_
  have I1 : Inv X pins σ H { s with heap := s.heap.push { cls := .type "range", data := .fields #[.int lo t, .int hi u, .int 1 v] }, toks := tk } := I.kept fun b o e => uC _ e
  refine ⟨(s.heap.push { cls := .type "range", data := .fields #[.int lo t, .int hi u, .int 1 v] }).objs.size, [(s.heap.push { cls := .type "range", data := .fields #[.int lo t, .int hi u, .int 1 v] }).objs.size], _, _, H, rfl,
    I1.kept (t' := tk) fun b o e => uC _ e, i0 _ lo (hi - lo).toNat, ?_, fun b hb => ?_, q⟩
  · have e1 : lo+((0 : Nat) : Int)*1=lo := by simp
    have e2 : (((hi - lo).toNat : Nat) : Int) - ((0 : Nat) : Int)=Builtin.Range.rangeSize lo hi 1 := by rw [rangeSize_one];split <;> omega
    show IsRangeIter _ _ (lo+((0 : Nat) : Int)*1) ((((hi - lo).toNat : Nat) : Int) - ((0 : Nat) : Int)) 1
    rw [e1, e2]
    exact uN _ rfl
  · have e : b=(s.heap.push { cls := .type "range", data := .fields #[.int lo t, .int hi u, .int 1 v] }).objs.size := by simpa using hb
    subst e
    exact I1.fpOk (uG _) (I1.hok.fresh (uG _))
def rZ (ta : TA) : TI := fun σ H R => ta σ H fun vs H1 => ∃ j : Int, vs=[.int j] ∧ -(2 ^ 62)≤j ∧ j < 2 ^ 62 ∧ R (Itr 0 j.toNat) H1
def r6 (ta : TA) : TI := fun σ H R => ta σ H fun vs H1 => ∃ i j : Int, vs=[.int i, .int j] ∧ (-(2 ^ 62)≤i ∧ i < 2 ^ 62 ∧ -(2 ^ 62)≤j ∧ j < 2 ^ 62) ∧ R (Itr i (j - i).toNat) H1
theorem bt {a : Expr}{ta : TA}{p pos : Pos}(hg : Gl X "range")(hm : X.mg "range" = none)(ha : PA X [a] ta)(hs : starEach [a] X.env=[(false, eval a X.env)] := by rfl) : PI X tg (.Call (.Name "range" p) [a] [] pos) (rZ ta) := by
  intro pins s σ H R I h
  refine Call_ (dY I hg hm boot_range (vU (thn (ha pos pins s σ H _ I h) fun us s1 zq36 => ?_) hs rfl))
  obtain ⟨vs, H1, I1, r1, q1⟩ := zq36
  obtain ⟨j, e, q1, q2, q⟩ := q1
  subst e
  cases r1 with
  | cons r rr =>
    cases rr
    obtain ⟨t, rfl⟩ := r
    exact call_range_1 (iu I1 (by omega) (by omega) q1 q2 (by simpa using q))
theorem jq {a b : Expr}{ta : TA}{p pos : Pos}(hg : Gl X "range")(hm : X.mg "range" = none)(ha : PA X [a, b] ta)(hs : starEach [a, b] X.env=[(false, eval a X.env), (false, eval b X.env)] := by rfl)(hs2 : starEach [b] X.env=[(false, eval b X.env)] := by rfl) :
    PI X tg (.Call (.Name "range" p) [a, b] [] pos) (r6 ta) := by
  intro pins s σ H R I h
  refine Call_ (dY I hg hm boot_range (vU (thn (ha pos pins s σ H _ I h) fun us s1 zq37 => ?_) (by rw [hs, hs2]) (by rw [hs2];rfl)))
  obtain ⟨vs, H1, I1, r1, q1⟩ := zq37
  obtain ⟨i, j, e, ⟨q1, q2, q3, q4⟩, q⟩ := q1
  subst e
  cases r1 with
  | cons r rr =>
    cases rr with
    | cons r' rr =>
      cases rr
      obtain ⟨t, rfl⟩ := r
      obtain ⟨t', rfl⟩ := r'
      exact call_range_2 (iu I1 q1 q2 q3 q4 q)
def ub (wi : TI)(g : TG)(tb : TS) : TS := fun D σ H => wi σ H fun J H1 => ∃ W : Nat → Nat → St → Hp → Prop, (∃ m, W 0 m σ H1) ∧ ∀ i m σ H, W i m σ H →
  (J.stop i H ∧ D.nx σ H) ∨ (J.go i H ∧ ∃ N : St → Hp → Prop, (∀ σ' H', N σ' H' → ∃ m', m' < m ∧ W (i+1) m' σ' H') ∧ ∀ x H', J.yld i H x H' → g x σ H' fun σ2 H2 => tb { D with nx := N, ct := N, bk := D.nx } σ2 H2)
def eP (fp : List Addr)(h : Heap) : List (Addr × Obj) := fp.filterMap fun b => (h.get? b).map fun o => (b, o)
theorem bK {fp : List Addr}{h : Heap}{b : Addr}{o : Obj}(hb : b∈fp)(e : h.get? b=some o) : (b, o)∈eP fp h := yn.mpr ⟨b, hb, by rw [e]; rfl⟩
theorem jr {fp : List Addr}{h : Heap}{p : Addr × Obj}(hp : p∈eP fp h) : p.1∈fp ∧ h.get? p.1=some p.2 := by
  obtain ⟨b, hb, e⟩ := yn.mp hp
  cases q : h.get? b with
  | none => rw [q] at e;cases e
  | some o =>
    rw [q] at e
    have e' : (b, o)=p := uV e
    subst e'
    exact ⟨hb, q⟩
theorem Inv.pinned {pins : List (Addr × Obj)}{σ : St}{H : Hp}{s : Shared}{fp : List Addr}(I : Inv X pins σ H s)(hf : ∀ b∈fp, gJ X pins H b)(ho : ∀ b∈fp, ∃ o, s.heap.get? b=some o ∧ ∀ v, o.data ≠ .cell v) : Inv X (pins++eP fp s.heap) σ H s :=
  I.pins_of fun p hp => (uW.mp hp).elim (fun z => I.pin p (uL _ z)) fun z => by
    obtain ⟨hb, e⟩ := jr z
    obtain ⟨f0, f1, f2, _⟩ := hf p.1 hb
    obtain ⟨o, e', d⟩ := ho p.1 hb
    rw [e] at e';cases e'
    exact ⟨e, f0, f1, f2, d⟩
theorem Inv.unpinned {pins pl : List (Addr × Obj)}{σ : St}{H : Hp}{s : Shared}(I : Inv X (pins++pl) σ H s) : Inv X pins σ H s := I.pins_of fun p hp => I.pin p (uL _ (u7 _ hp))
theorem bX {iter : Expr}{body : List Stmt}{wi : TI}{g : TG}{tb : TS}{pos : Pos}(hp : PassesOwn (model X.prog X.w) X.A X.env X.xe)(hc : X.calm=true)(hi : PI X tg iter wi)(hg : PG X tg g)(hb : PSs X body tb)
    (hs : ∀ x, foldedSetIterable iter X.env x=pure x := by intro _;rfl) : PS X (.For tg iter body [] pos) (ub wi g tb) := by
  intro pins s σ H D I h
  refine wpAny_For (thn (hi pins s σ H _ I h) fun v s1 h1 => thn h1 fun itv s2 h2 => ?_) hs
  obtain ⟨it, fp, tn, J, H2, e, I2, T, st2, f2, W, ⟨m0, w0⟩, turn⟩ := h2
  subst e
  -- what stays true of the iterator's objects through the loop
  have stat : ∀ {H' : Hp}, (∀ b∈fp, H' b=none) → ∀ b∈fp, gJ X pins H' b := fun hn b hb => ⟨hn b hb, (f2 b hb).2⟩
  refine codeAny_forLoop_any (fun n s' => ∃ i σ' H', Inv X pins σ' H' s' ∧ tn i s'.heap ∧ (∀ b∈fp, H' b=none) ∧ W i n σ' H') ?_ m0 ⟨0, σ, H2, I2, st2, fun b hb => (f2 b hb).1, w0⟩
  rintro n s3 ⟨i, σ3, H3, I3, st3, fr3, w3⟩
  rcases turn i n σ3 H3 w3 with ⟨stop, qn⟩ | ⟨go, N, hN, step⟩
  · refine wD hp (thn (T.done X rfl rfl rfl hc i pins s3 σ3 H3 X.xe I3 (stat fr3) st3 stop) fun r s4 zq38 => ?_)
    obtain ⟨hr, I4⟩ := zq38
    subst hr
    exact xZ ⟨σ3, H3, I4, qn⟩
  · refine wD hp (thn (T.item X rfl rfl rfl hc i pins s3 σ3 H3 X.xe I3 (stat fr3) st3 go) fun r s4 zq39 => ?_)
    obtain ⟨u, hr, h4⟩ := zq39
    subst hr
    refine wD hp (thn h4 fun _ s5 zq40 => ?_)
    obtain ⟨x, H5, I5, r5, y5, st5, fr5⟩ := zq40
    have I5' := I5.pinned (stat fr5) (T.obj _ _ st5)
    refine wD hp (thn (hg _ s5 σ3 H5 x u _ I5' r5 (step x H5 y5)) fun _ s6 zq41 => ?_)
    obtain ⟨σ6, H6, I6, q6⟩ := zq41
    refine wD hp (thn (hb _ s6 σ6 H6 _ I6 q6) fun f s7 q7 => ?_)
    have again : ∀ {σ7 : St} {H7 : Hp}, Inv X (pins++eP fp s5.heap) σ7 H7 s7 → N σ7 H7 → ∃ m, m < n ∧ ∃ i σ' H', Inv X pins σ' H' s7 ∧ tn i s7.heap ∧ (∀ b∈fp, H' b=none) ∧ W i m σ' H' := fun {σ7 H7} I7 n7 => by
      obtain ⟨m', hm, w7⟩ := hN σ7 H7 n7
      refine ⟨m', hm, i+1, σ7, H7, I7.unpinned, T.keep _ _ _ st5 fun b hb o e => (I7.pin (b, o) (uL _ (uL _ (bK hb e)))).1, fun b hb => ?_, w7⟩
      obtain ⟨o, e, d⟩ := T.obj _ _ st5 b hb
      exact (I7.pin (b, o) (uL _ (uL _ (bK hb e)))).2.1
    cases f with
    | next => obtain ⟨σ7, H7, I7, n7⟩ := q7;exact again I7 n7
    | cont => obtain ⟨σ7, H7, I7, n7⟩ := q7;exact again I7 n7
    | brk => obtain ⟨σ7, H7, I7, q7⟩ := q7;exact ⟨σ7, H7, I7.unpinned, q7⟩
    | ret v => obtain ⟨x7, σ7, H7, I7, r7, q7⟩ := q7;exact ⟨x7, σ7, H7, I7.unpinned, r7, q7⟩
end
theorem iw {K : PySem.W.Frag}{a : Addr}{xs : List V}{g : TG}{tb : TS}{D : gF}{σ : St}{H : Hp}(Pv : Nat → St → Hp → Prop)(h0 : Pv 0 σ H)(hl : ∀ i σ H, i≤xs.length → Pv i σ H → SqL K H a xs)
    (hs : ∀ i x σ H, xs[i]? = some x → Pv i σ H → g x σ H fun σ2 H2 => tb { D with nx := Pv (i+1), ct := Pv (i+1), bk := D.nx } σ2 H2) (hd : ∀ σ H, Pv xs.length σ H → D.nx σ H) :
    ∃ W : Nat → Nat → St → Hp → Prop, (∃ m, W 0 m σ H) ∧ ∀ i m σ H, W i m σ H →
      ((Itl K a).stop i H ∧ D.nx σ H) ∨ ((Itl K a).go i H ∧ ∃ N : St → Hp → Prop, (∀ σ' H', N σ' H' → ∃ m', m' < m ∧ W (i+1) m' σ' H') ∧ ∀ x H', (Itl K a).yld i H x H' → g x σ H' fun σ2 H2 => tb { D with nx := N, ct := N, bk := D.nx } σ2 H2) := by
  refine ⟨fun i m σ H => m=xs.length - i ∧ i≤xs.length ∧ Pv i σ H, ⟨xs.length, by simp, vE _, h0⟩, ?_⟩
  rintro i m σ H ⟨rfl, hi, p⟩
  have q := hl i σ H hi p
  by_cases hlt : i < xs.length
  · refine .inr ⟨⟨xs, xs[i], q, by simp [hlt]⟩, Pv (i+1), fun σ' H' p' => ⟨xs.length - (i+1), by omega, rfl, hlt, p'⟩, fun x H' y => ?_⟩
    obtain ⟨e, y⟩ := y
    subst e
    exact hs i x σ _ (y xs q) p
  · have e : i=xs.length := by omega
    subst e
    exact .inl ⟨⟨xs, q, uG _⟩, hd σ H p⟩
theorem js {K : PySem.W.Frag}{a : Addr}{xs : List V}{g : TG}{tb : TS}{D : gF}{σ : St}{H : Hp}(Pv : Nat → St → Hp → Prop)(h0 : Pv 0 σ H)(hl : ∀ i σ H, i≤xs.length → Pv i σ H → SqT K H a xs)
    (hs : ∀ i x σ H, xs[i]? = some x → Pv i σ H → g x σ H fun σ2 H2 => tb { D with nx := Pv (i+1), ct := Pv (i+1), bk := D.nx } σ2 H2) (hd : ∀ σ H, Pv xs.length σ H → D.nx σ H) :
    ∃ W : Nat → Nat → St → Hp → Prop, (∃ m, W 0 m σ H) ∧ ∀ i m σ H, W i m σ H →
      ((Itt K a).stop i H ∧ D.nx σ H) ∨ ((Itt K a).go i H ∧ ∃ N : St → Hp → Prop, (∀ σ' H', N σ' H' → ∃ m', m' < m ∧ W (i+1) m' σ' H') ∧ ∀ x H', (Itt K a).yld i H x H' → g x σ H' fun σ2 H2 => tb { D with nx := N, ct := N, bk := D.nx } σ2 H2) := by
  refine ⟨fun i m σ H => m=xs.length - i ∧ i≤xs.length ∧ Pv i σ H, ⟨xs.length, by simp, vE _, h0⟩, ?_⟩
  rintro i m σ H ⟨rfl, hi, p⟩
  have q := hl i σ H hi p
  by_cases hlt : i < xs.length
  · refine .inr ⟨⟨xs, xs[i], q, by simp [hlt]⟩, Pv (i+1), fun σ' H' p' => ⟨xs.length - (i+1), by omega, rfl, hlt, p'⟩, fun x H' y => ?_⟩
    obtain ⟨e, y⟩ := y
    subst e
    exact hs i x σ _ (y xs q) p
  · have e : i=xs.length := by omega
    subst e
    exact .inl ⟨⟨xs, q, uG _⟩, hd σ H p⟩
theorem bL {lo : Int}{n : Nat}{g : TG}{tb : TS}{D : gF}{σ : St}{H : Hp}(Pv : Nat → St → Hp → Prop)(h0 : Pv 0 σ H)
    (hs : ∀ i σ H, i < n → Pv i σ H → g (.int (lo+i)) σ H fun σ2 H2 => tb { D with nx := Pv (i+1), ct := Pv (i+1), bk := D.nx } σ2 H2) (hd : ∀ σ H, Pv n σ H → D.nx σ H) :
    ∃ W : Nat → Nat → St → Hp → Prop, (∃ m, W 0 m σ H) ∧ ∀ i m σ H, W i m σ H →
      ((Itr lo n).stop i H ∧ D.nx σ H) ∨ ((Itr lo n).go i H ∧ ∃ N : St → Hp → Prop, (∀ σ' H', N σ' H' → ∃ m', m' < m ∧ W (i+1) m' σ' H') ∧ ∀ x H', (Itr lo n).yld i H x H' → g x σ H' fun σ2 H2 => tb { D with nx := N, ct := N, bk := D.nx } σ2 H2) := by
  refine ⟨fun i m σ H => m=n - i ∧ i≤n ∧ Pv i σ H, ⟨n, by simp, vE _, h0⟩, ?_⟩
  rintro i m σ H ⟨rfl, hi, p⟩
  by_cases hlt : i < n
  · refine .inr ⟨hlt, Pv (i+1), fun σ' H' p' => ⟨n - (i+1), by omega, rfl, hlt, p'⟩, fun x H' y => ?_⟩
    obtain ⟨e, y⟩ := y
    subst e y
    exact hs i σ _ hlt p
  · have e : i=n := by omega
    subst e
    exact .inl ⟨uG _, hd σ H p⟩
abbrev R2 := V → V → Hp → VK → Prop
def OpR (X : Cx)(f : Value → Value → Sem Value)(r : R2) : Prop :=
  ∀ (pins : List (Addr × Obj)) (s : Shared) (σ : St) (H : Hp) (x y : V) (v u : Value) (Q : VK), Inv X pins σ H s → bJ x v → bJ y u → r x y H Q →
    wpAny (model X.prog X.w) X.A (f v u) (EP X pins σ Q) X.xe s
def UnR (X : Cx)(f : Value → Sem Value)(r : V → Hp → VK → Prop) : Prop :=
  ∀ (pins : List (Addr × Obj)) (s : Shared) (σ : St) (H : Hp) (x : V) (v : Value) (Q : VK), Inv X pins σ H s → bJ x v → r x H Q →
    wpAny (model X.prog X.w) X.A (f v) (EP X pins σ Q) X.xe s
def cP (X : Cx)(f : Value)(r : List V → Hp → VK → Prop) : Prop :=
  ∀ (pins : List (Addr × Obj)) (s : Shared) (σ : St) (H : Hp) (xs : List V) (us : List Value) (Q : VK), Inv X pins σ H s → bc xs us → r xs H Q →
    wpAny (model X.prog X.w) X.A (call f us) (EP X pins σ Q) X.xe s
def uc (X : Cx)(r : V → Hp → (Bool → Hp → Prop) → Prop) : Prop :=
  ∀ (pins : List (Addr × Obj)) (s : Shared) (σ : St) (H : Hp) (x : V) (v : Value) (Q : Bool → Hp → Prop), Inv X pins σ H s → bJ x v → r x H Q →
    wpAny (model X.prog X.w) X.A (truthy v) (TP X pins σ Q) X.xe s
def pO (r : R2)(Q : VK)(x : V) : V → Hp → Prop := fun y H2 => r x y H2 Q
def pP (r : R2)(tb : TE)(σ : St)(Q : VK) : V → Hp → Prop := fun x H1 => tb σ H1 (pO r Q x)
def tOp (r : R2)(ta tb : TE) : TE := fun σ H Q => ta σ H (pP r tb σ Q)
def pQ (r : V → Hp → VK → Prop)(Q : VK) : V → Hp → Prop := fun x H1 => r x H1 Q
def tUn (r : V → Hp → VK → Prop)(ta : TE) : TE := fun σ H Q => ta σ H (pQ r Q)
inductive rI (C : Int → Int → Prop)(g : Int → Int → V)(x : V)(y : V)(H : Hp)(Q : VK) : Prop
  | mk : ∀ i j, (x = .int i) → (y = .int j) → (C i j) → (Q (g i j) H) → rI C g x y H Q
inductive rI0 (g : Int → Int → V)(x : V)(y : V)(H : Hp)(Q : VK) : Prop
  | mk : ∀ i j, (x = .int i) → (y = .int j) → (Q (g i j) H) → rI0 g x y H Q
inductive rU (g : Int → V)(x : V)(H : Hp)(Q : VK) : Prop
  | mk : ∀ i, (x = .int i) → (Q (g i) H) → rU g x H Q
section
variable {X : Cx} {a b c : Expr} {ta tb tc : TE} {pos : Pos}
theorem r9 (ha : PE X a ta)(hb : PE X b tb){pins : List (Addr × Obj)}{s : Shared}{σ : St}{H : Hp}{R : V → V → Hp → Prop}(I : Inv X pins σ H s)
    (h : ta σ H fun x H1 => tb σ H1 fun y H2 => R x y H2) {Q : Value → Shared → Prop} {f : Value → Value → Sem Value}
    (hf : ∀ v u s2 x y H2, Inv X pins σ H2 s2 → bJ x v → bJ y u → R x y H2 → wpAny (model X.prog X.w) X.A (f v u) Q X.xe s2) :
    wpAny (model X.prog X.w) X.A (eval a X.env) (fun v s₁ => wpAny (model X.prog X.w) X.A (eval b X.env) (fun u s₂ => wpAny (model X.prog X.w) X.A (f v u) Q X.xe s₂) X.xe s₁) X.xe s := by
  refine thn (ha pins s σ H _ I h) fun v s1 zq42 => ?_
  obtain ⟨x, H1, I1, r1, q1⟩ := zq42
  refine thn (hb pins s1 σ H1 _ I1 q1) fun u s2 zq43 => ?_
  obtain ⟨y, H2, I2, r2, q2⟩ := zq43
  exact hf v u s2 x y H2 I2 r1 r2 q2
theorem aD {op : Operator}{r : R2}(ho : OpR X (binaryOp op) r)(ha : PE X a ta)(hb : PE X b tb) : PE X (.BinOp a op b pos) (tOp r ta tb) := by
  intro pins s σ H Q I h
  exact wpAny_BinOp (r9 ha hb I h fun v u s2 x y H2 I2 rx ry q => ho pins s2 σ H2 x y v u Q I2 rx ry q)
theorem jt {op : UnaryOp}{r : V → Hp → VK → Prop}(ho : UnR X (unaryOp op) r)(ha : PE X a ta) : PE X (.UnaryOp op a pos) (tUn r ta) := by
  intro pins s σ H Q I h
  exact UnaryOp_ (thn (ha pins s σ H _ I h) fun v s1 zq44 => (by obtain ⟨x, H1, I1, r1, q1⟩ := zq44;exact ho pins s1 σ H1 x v Q I1 r1 q1))
theorem opI {f : Value → Value → Sem Value}{C : Int → Int → Prop}{g : Int → Int → Int}
    (rule : ∀ (i j : Int) (t u : Tok) (s : Shared) (Q : Value → Shared → Prop) (E : Value → Shared → Prop), C i j → Q (.int (g i j) s.toks) { s with toks := s.toks+1 } → wpAny (model X.prog X.w) X.A (f (.int i t) (.int j u)) Q E s) :
    OpR X f (rI C fun i j => .int (g i j)) := by
  intro pins s σ H x y v u Q I rx ry h
  obtain ⟨i, j, rfl, rfl, hc, q⟩ := h
  obtain ⟨t, rfl⟩ := rx
  obtain ⟨t', rfl⟩ := ry
  exact rule i j t t' s _ _ hc ⟨.int (g i j), H, I.tok _, ⟨_, rfl⟩, q⟩
theorem tu {f : Value → Value → Sem Value}{g : Int → Int → Int}
    (rule : ∀ (i j : Int) (t u : Tok) (s : Shared) (Q : Value → Shared → Prop) (E : Value → Shared → Prop), Q (.int (g i j) s.toks) { s with toks := s.toks+1 } → wpAny (model X.prog X.w) X.A (f (.int i t) (.int j u)) Q E s) :
    OpR X f (rI0 fun i j => .int (g i j)) := by
  intro pins s σ H x y v u Q I rx ry h
  obtain ⟨i, j, rfl, rfl, q⟩ := h
  obtain ⟨t, rfl⟩ := rx
  obtain ⟨t', rfl⟩ := ry
  exact rule i j t t' s _ _ ⟨.int (g i j), H, I.tok _, ⟨_, rfl⟩, q⟩
theorem rE {f : Value → Value → Sem Value}{g : Int → Int → Bool}
    (rule : ∀ (i j : Int) (t u : Tok) (s : Shared) (Q : Value → Shared → Prop) (E : Value → Shared → Prop), Q (.bool (g i j)) s → wpAny (model X.prog X.w) X.A (f (.int i t) (.int j u)) Q E s) :
    OpR X f (rI0 fun i j => .bl (g i j)) := by
  intro pins s σ H x y v u Q I rx ry h
  obtain ⟨i, j, rfl, rfl, q⟩ := h
  obtain ⟨t, rfl⟩ := rx
  obtain ⟨t', rfl⟩ := ry
  exact rule i j t t' s _ _ ⟨.bl (g i j), H, I, rfl, q⟩
def ud (i j : Int) : Prop := 0 < j ∧ j < 1073741824
def ue (i j : Int) : Prop := 0≤j ∧ j≤1000000 ∧ i.natAbs < 2 ^ 64
def r_ (i j : Int) : Prop := (-(2 ^ 64) < i ∧ i < 2 ^ 64) ∨ (-(2 ^ 64) < j ∧ j < 2 ^ 64)
theorem r_.ok {i j : Int}(h : r_ i j) : IntMulOk i j := by
  rcases h with ⟨h1, h2⟩ | ⟨h1, h2⟩
  · exact .of_left (intBits_le_64 h1 h2)
  · exact .of_right (intBits_le_64 h1 h2)
theorem bp : OpR X (binaryOp .Add) (rI0 fun i j => .int (i+j)) := tu fun _ _ _ _ _ _ _ q => add_int q
theorem nh : OpR X (binaryOp .Sub) (rI0 fun i j => .int (i - j)) := tu fun _ _ _ _ _ _ _ q => sub_int q
theorem fH : OpR X (binaryOp .Mult) (rI r_ fun i j => .int (i*j)) := opI fun _ _ _ _ _ _ _ hc q => mul_int q hc.ok
theorem cu : OpR X (binaryOp .FloorDiv) (rI ud fun i j => .int (i / j)) := opI fun i j _ _ _ _ _ hc q => by
  have h1 : (0 : Int) < j := hc.1
  have h2 : j < 1073741824 := hc.2
  exact floordiv_int (by omega) (by rw [Int.fdiv_eq_ediv_of_nonneg i (by omega)];exact q) (.inl (PyProof.noPylong_small (by omega)))
theorem dC : OpR X (binaryOp .Mod) (rI (fun _ j => 0 < j) fun i j => .int (i % j)) := opI fun i j _ _ _ _ _ hc q => by
  have h1 : (0 : Int) < j := hc
  exact mod_int' (by omega) (by rw [Int.fmod_eq_emod_of_nonneg i (by omega)];exact q)
theorem pR : OpR X (binaryOp .Pow) (rI ue fun i j => .int (i ^ j.toNat)) := opI fun _ _ _ _ _ _ _ hc q => pow_int_small hc.1 hc.2.1 hc.2.2 q
theorem unI {f : Value → Sem Value}{g : Int → Int}
    (rule : ∀ (i : Int) (t : Tok) (s : Shared) (Q : Value → Shared → Prop) (E : Value → Shared → Prop), Q (.int (g i) s.toks) { s with toks := s.toks+1 } → wpAny (model X.prog X.w) X.A (f (.int i t)) Q E s) :
    UnR X f (rU fun i => .int (g i)) := by
  intro pins s σ H x v Q I rx h
  obtain ⟨i, rfl, q⟩ := h
  obtain ⟨t, rfl⟩ := rx
  exact rule i t s _ _ ⟨.int (g i), H, I.tok _, ⟨_, rfl⟩, q⟩
theorem fJ : UnR X (unaryOp .USub) (rU fun i => .int (-i)) := unI fun _ _ _ _ _ q => neg_int q
end
def tw : V → V → Bool
  | .non, .non => true | .non, .int _ => true | .int _, .non => true | .non, .bl _ => true | .bl _, .non => true | .non, .str _ => true | .str _, .non => true
  | .int _, .int _ => true | .bl _, .bl _ => true | .str _, .str _ => true | .byt _, .byt _ => true
  | .int _, .str _ => true | .str _, .int _ => true | .bl _, .str _ => true | .str _, .bl _ => true
  | _, _ => false
def rEq : R2 := fun x y H Q => tw x y=true ∧ Q (.bl (decide (x=y))) H
def rNe : R2 := fun x y H Q => tw x y=true ∧ Q (.bl (!decide (x=y))) H
theorem dec_int {i j : Int} : decide (V.int i=V.int j)=(i == j) := by
  rw [wZ]
  simp
theorem ni {i j : Bool} : decide (V.bl i=V.bl j)=(i == j) := by
  rw [wZ]
  simp
theorem ju {i j : Str} : decide (V.str i=V.str j)=(i == j) := by
  rw [wZ]
  simp
theorem jv {i j : Array UInt8} : decide (V.byt i=V.byt j)=(i.toList == j.toList) := by
  rw [wZ]
  cases i
  cases j
  simp
section
variable {X : Cx} {a b c : Expr} {ta tb tc : TE} {pos : Pos}
theorem aW {pins : List (Addr × Obj)}{σ : St}{H : Hp}{s : Shared}{Q : VK}{k k' : Bool}(I : Inv X pins σ H s)(q : Q (.bl k) H)(e : k=k') : EP X pins σ Q (.bool k') s := by
  subst e
  exact ⟨.bl k, H, I, rfl, q⟩
theorem cq : OpR X (compareOp .Eq) rEq := by
  intro pins s σ H x y v u Q I rx ry h
  obtain ⟨hs, q⟩ := h
  cases x with
  | non =>
    cases rx
    cases y with
    | non => cases ry;exact PySem.EqNone.eq_none_none (aW I q (by simp))
    | bl j => cases ry;exact PySem.EqNone.eq_none_bool (aW I q (by simp))
    | int j => obtain ⟨t', rfl⟩ := ry;exact PySem.EqNone.eq_none_int (aW I q (by simp))
    | str j => obtain ⟨t', rfl⟩ := ry;exact PySem.EqNone.eq_none_str (aW I q (by simp))
    | _ => exact absurd (show false=true from hs) u5
  | bl i =>
    cases rx
    cases y with
    | non => cases ry;exact PySem.EqNone.eq_bool_none (aW I q (by simp))
    | bl j => cases ry;exact eq_bool (aW I q ni)
    | str j => obtain ⟨t', rfl⟩ := ry;exact PySem.EqMixed.eq_bool_str (aW I q (by simp))
    | _ => exact absurd (show false=true from hs) u5
  | int i =>
    obtain ⟨t, rfl⟩ := rx
    cases y with
    | non => cases ry;exact PySem.EqNone.eq_int_none (aW I q (by simp))
    | int j => obtain ⟨t', rfl⟩ := ry;exact eq_int (aW I q dec_int)
    | str j => obtain ⟨t', rfl⟩ := ry;exact PySem.EqMixed.eq_int_str (aW I q (by simp))
    | _ => exact absurd (show false=true from hs) u5
  | str i =>
    obtain ⟨t, rfl⟩ := rx
    cases y with
    | non => cases ry;exact PySem.EqNone.eq_str_none (aW I q (by simp))
    | bl j => cases ry;exact PySem.EqMixed.eq_str_bool (aW I q (by simp))
    | int j => obtain ⟨t', rfl⟩ := ry;exact PySem.EqMixed.eq_str_int (aW I q (by simp))
    | str j => obtain ⟨t', rfl⟩ := ry;exact eq_str (aW I q ju)
    | _ => exact absurd (show false=true from hs) u5
  | byt i =>
    obtain ⟨t, rfl⟩ := rx
    cases y with
    | byt j => obtain ⟨t', rfl⟩ := ry;exact PySem.W.eq_bytes (aW I q jv)
    | _ => exact absurd (show false=true from hs) u5
  | _ => cases y <;> exact absurd (show false=true from hs) u5
theorem i3 : OpR X (compareOp .NotEq) rNe := by
  intro pins s σ H x y v u Q I rx ry h
  obtain ⟨hs, q⟩ := h
  cases x with
  | non =>
    cases rx
    cases y with
    | non => cases ry;exact PySem.EqNone.ne_none_none (aW I q (by simp))
    | bl j => cases ry;exact PySem.EqNone.ne_none_bool (aW I q (by simp))
    | int j => obtain ⟨t', rfl⟩ := ry;exact PySem.EqNone.ne_none_int (aW I q (by simp))
    | str j => obtain ⟨t', rfl⟩ := ry;exact PySem.EqNone.ne_none_str (aW I q (by simp))
    | _ => exact absurd (show false=true from hs) u5
  | bl i =>
    cases rx
    cases y with
    | non => cases ry;exact PySem.EqNone.ne_bool_none (aW I q (by simp))
    | bl j => cases ry;exact ne_bool (aW I q (vz not ni))
    | str j => obtain ⟨t', rfl⟩ := ry;exact PySem.EqMixed.ne_bool_str (aW I q (by simp))
    | _ => exact absurd (show false=true from hs) u5
  | int i =>
    obtain ⟨t, rfl⟩ := rx
    cases y with
    | non => cases ry;exact PySem.EqNone.ne_int_none (aW I q (by simp))
    | int j => obtain ⟨t', rfl⟩ := ry;exact ne_int (aW I q (vz not dec_int))
    | str j => obtain ⟨t', rfl⟩ := ry;exact PySem.EqMixed.ne_int_str (aW I q (by simp))
    | _ => exact absurd (show false=true from hs) u5
  | str i =>
    obtain ⟨t, rfl⟩ := rx
    cases y with
    | non => cases ry;exact PySem.EqNone.ne_str_none (aW I q (by simp))
    | bl j => cases ry;exact PySem.EqMixed.ne_str_bool (aW I q (by simp))
    | int j => obtain ⟨t', rfl⟩ := ry;exact PySem.EqMixed.ne_str_int (aW I q (by simp))
    | str j => obtain ⟨t', rfl⟩ := ry;exact ne_str (aW I q (vz not ju))
    | _ => exact absurd (show false=true from hs) u5
  | byt i =>
    obtain ⟨t, rfl⟩ := rx
    cases y with
    | byt j => obtain ⟨t', rfl⟩ := ry;exact PySem.W.ne_bytes (aW I q (vz not jv))
    | _ => exact absurd (show false=true from hs) u5
  | _ => cases y <;> exact absurd (show false=true from hs) u5
theorem i4 : OpR X (compareOp .Lt) (rI0 fun i j => .bl (decide (i < j))) := rE fun _ _ _ _ _ _ _ q => lt_int q
theorem pS : OpR X (compareOp .LtE) (rI0 fun i j => .bl (decide (i≤j))) := rE fun _ _ _ _ _ _ _ q => le_int q
theorem lG : OpR X (compareOp .Gt) (rI0 fun i j => .bl (decide (j < i))) := rE fun _ _ _ _ _ _ _ q => gt_int q
theorem se : OpR X (compareOp .GtE) (rI0 fun i j => .bl (decide (j≤i))) := rE fun _ _ _ _ _ _ _ q => ge_int q
inductive dZ  (x : V)(y : V)(H : Hp)(Q : VK) : Prop
  | mk : ∀ i j, (x = .str i) → (y = .str j) → (Q (.bl (!(Builtin.Str.occurrences j i 0 j.length 1).isEmpty)) H) → dZ x y H Q
theorem jw : OpR X (compareOp .In) dZ := by
  intro pins s σ H x y v u Q I rx ry h
  obtain ⟨i, j, rfl, rfl, q⟩ := h
  obtain ⟨t, rfl⟩ := rx
  obtain ⟨t', rfl⟩ := ry
  exact in_str (aW I q rfl)
theorem aP (b : Expr){op : CmpOp}(h : op ≠ .In := by decide)(h2 : op ≠ .NotIn := by decide) : behindInMarks op b=false := by
  have e1 : (op == CmpOp.In)=false := by cases op <;> first | rfl | exact absurd rfl h
  have e2 : (op == CmpOp.NotIn)=false := by cases op <;> first | rfl | exact absurd rfl h2
  cases b <;> simp [behindInMarks, e1, e2]
theorem ff {op : CmpOp}{r : R2}(ho : OpR X (compareOp op) r)(ha : PE X a ta)(hb : PE X b tb)(hm : behindInMarks op b=false) : PE X (.Compare a [op] [b] pos) (tOp r ta tb) := by
  intro pins s σ H Q I h
  exact wpAny_Compare1 (r9 ha hb I h fun v u s2 x y H2 I2 rx ry q => ho pins s2 σ H2 x y v u Q I2 rx ry q) hm
def lH (Q : (Bool → Hp → Prop)) : V → Hp → Prop := fun x H' => IsB x H' Q
def pT (t : TE) : TT := fun σ H Q => t σ H (lH Q)
theorem aF {op : CmpOp}{r : R2}(ho : OpR X (compareOp op) r)(ha : PE X a ta)(hb : PE X b tb)(hm : behindInMarks op b=false) : PT X (.Compare a [op] [b] pos) (pT (tOp r ta tb)) := by
  intro pins s σ H Q I h
  refine wpAny_isTrue_Compare1 (thn (ha pins s σ H _ I h) fun v s1 ⟨x, H1, I1, r1, q1⟩ => thn (hb pins s1 σ H1 _ I1 q1) fun u s2 ⟨y, H2, I2, r2, q2⟩ =>
    thn (ho pins s2 σ H2 x y v u _ I2 r1 r2 q2) fun c s3 ⟨z, H3, I3, r3, k, e, q3⟩ => ?_) hm
  subst e
  cases r3
  exact wq ⟨H3, I3, q3⟩
def pU (r r' : R2)(ta tb tc : TE) : TE := fun σ H Q => ta σ H fun x H1 => tb σ H1 fun y H2 => r x y H2 fun z H3 => ∃ k, z = .bl k ∧
  (if k=true then tc σ H3 fun w' H4 => r' y w' H4 Q else Q (.bl false) H3)
theorem ix {op op' : CmpOp}{r r' : R2}(ho : OpR X (compareOp op) r)(ho' : OpR X (compareOp op') r')(ha : PE X a ta)(hb : PE X b tb)(hc : PE X c tc)
    (hm : lastMarks [op, op'] [b, c]=false := by with_unfolding_all rfl) : PE X (.Compare a [op, op'] [b, c] pos) (pU r r' ta tb tc) := by
  intro pins s σ H Q I h
  refine Compare_chain (thn (ha pins s σ H _ I h) fun v s1 ⟨x, H1, I1, r1, q1⟩ => chain_link (thn (hb pins s1 σ H1 _ I1 q1) fun u s2 ⟨y, H2, I2, r2, q2⟩ =>
    thn (ho pins s2 σ H2 x y v u _ I2 r1 r2 q2) fun d s3 ⟨z, H3, I3, r3, k, e, q3⟩ => ?_)) hm
  subst e
  cases r3
  refine wq ?_
  cases k with
  | false => exact ite_ff ⟨.bl false, H3, I3, rfl, q3⟩
  | true => exact ite_tt (chain_last (thn (hc pins s3 σ H3 _ I3 q3) fun w' s4 zq45 => (by obtain ⟨z', H4, I4, r4, q4⟩ := zq45;exact ho' pins s4 σ H4 y z' u w' Q I4 r2 r4 q4)))
def uf (K : PySem.W.Frag)(x : V)(H : Hp)(k : Bool) : Prop :=
  match x with
  | .non => k=false
  | .bl b => k=b
  | .int i => k=(i != 0)
  | .str y => y.length≤sizeLine ∧ k=((y.length : Int) != 0)
  | .byt y => y.size≤sizeLine ∧ k=((y.size : Int) != 0)
  | .ref p => (∃ xs, SqL K H p xs ∧ k=!xs.isEmpty) ∨ (∃ xs, SqT K H p xs ∧ k=!xs.isEmpty) ∨ ∃ kvs, H p=some (.dK kvs) ∧ k=!kvs.isEmpty
  | _ => False
theorem i5 {κ : Type}{kvs : List (κ × V)}{vs : List (κ × Value)}(r : KV kvs vs) : (!vs.isEmpty)=!kvs.isEmpty := by
  cases r <;> rfl
theorem eQ {xs : List V}{its : List Value}(r : bc xs its) : (!its.toArray.isEmpty)=!xs.isEmpty := by
  cases r <;> simp
theorem dD : (sizeLine : Nat) < 2 ^ 63 := by rw [x8]; decide
inductive nQ (K : PySem.W.Frag)(x : V)(H : Hp)(Q : Bool → Hp → Prop) : Prop
  | mk : ∀ k, (uf K x H k) → (Q k H) → nQ K x H Q
theorem jx : uc X (nQ X.K) := by
  intro pins s σ H x v Q I rx h
  obtain ⟨k, e, q⟩ := h
  have hl := dD
  have hs : sizeLine=16777216 := x8
  cases x with
  | non =>
    cases rx
    have e' : k=false := e
    subst e'
    exact truthy_none ⟨H, I, q⟩
  | bl b =>
    cases rx
    have e' : k=b := e
    subst e'
    exact wq ⟨H, I, q⟩
  | int i =>
    obtain ⟨t, rfl⟩ := rx
    have e' : k=(i != 0) := e
    subst e'
    exact PySem.P.truthy_int ⟨H, I, q⟩
  | str y =>
    obtain ⟨t, rfl⟩ := rx
    obtain ⟨hy, e'⟩ : y.length≤sizeLine ∧ k=((y.length : Int) != 0) := e
    subst e'
    exact PySem.P.truthy_str (by omega) ⟨H, I.tok _, q⟩
  | byt y =>
    obtain ⟨t, rfl⟩ := rx
    obtain ⟨hy, e'⟩ : y.size≤sizeLine ∧ k=((y.size : Int) != 0) := e
    subst e'
    exact PySem.W.truthy_bytes (by omega) ⟨H, I.tok _, q⟩
  | ref p =>
    cases rx
    have e' : (∃ xs, SqL X.K H p xs ∧ k=!xs.isEmpty) ∨ (∃ xs, SqT X.K H p xs ∧ k=!xs.isEmpty) ∨ ∃ kvs, H p=some (.dK kvs) ∧ k=!kvs.isEmpty := e
    rcases e' with ⟨xs, hx, e'⟩ | ⟨xs, hx, e'⟩ | ⟨kvs, hx, e'⟩
    · subst e'
      obtain ⟨its, r, pl, hz⟩ := I.list hx
      have hlen := r.length
      exact wpAny_truthy_list pl.isList (by simp only [uK];omega) ⟨H, I.tok _, by rw [eQ r];exact q⟩
    · subst e'
      obtain ⟨its, r, pl, hz⟩ := I.tuple hx
      have hlen := r.length
      exact truthy_tuple pl (by simp only [uK];omega) ⟨H, I.tok _, by rw [eQ r];exact q⟩
    · subst e'
      obtain ⟨hz, hS, vs, r, m⟩ : kvs.length≤sizeLine ∧ (p == sysModules)=false ∧ ∃ vs, KV kvs vs ∧ s.heap.DictOf (gD X.prog X.w) p vs := I.hok p _ hx
      have hlen : kvs.length=vs.length := Paired.length r
      exact wpAny_truthy_dict hS m (by omega) ⟨H, I.tok _, by rw [i5 r];exact q⟩
  | _ => exact (show False from e).elim
def nS (K : PySem.W.Frag)(Q : (Bool → Hp → Prop)) : V → Hp → Prop := fun x H' => nQ K x H' Q
def ug (K : PySem.W.Frag)(ta : TE) : TT := fun σ H Q => ta σ H (nS K Q)
theorem bw (ha : PE X a ta)(he : ∀ whole, isTrue a X.env whole=(do let v ← whole; standAt a.pos; holding [v] (truthy v))) :
    PT X a (ug X.K ta) := by
  intro pins s σ H Q I h
  exact isTrue_plain (thn (ha pins s σ H _ I h) fun v s1 zq47 => (by obtain ⟨x, H1, I1, r1, q1⟩ := zq47;exact jx pins s1 σ H1 x v Q I1 r1 q1)) (he _)
inductive dE  (x : V)(y : V)(H : Hp)(Q : VK) : Prop
  | mk : ∀ i j, (x = .str i) → (y = .str j) → (i.length+j.length≤sizeLine) → (Q (.str (i++j)) H) → dE x y H Q
theorem dq : OpR X (binaryOp .Add) dE := by
  intro pins s σ H x y v u Q I rx ry h
  obtain ⟨i, j, rfl, rfl, hz, q⟩ := h
  obtain ⟨t, rfl⟩ := rx
  obtain ⟨t', rfl⟩ := ry
  exact add_str (fun t' tk => ⟨.str (i++j), H, I.tok _, ⟨_, rfl⟩, q⟩) hz
theorem cQ {x : V}{us : List Value}(r : bc [x] us) : ∃ u, us=[u] ∧ bJ x u := by
  cases r with
  | cons r1 r2 => cases r2;exact ⟨_, rfl, r1⟩
theorem lI {x y : V}{us : List Value}(r : bc [x, y] us) : ∃ u w', us=[u, w'] ∧ bJ x u ∧ bJ y w' := by
  cases r with
  | cons r1 r2 =>
    cases r2 with
    | cons r3 r4 => cases r4;exact ⟨_, _, rfl, r1, r3⟩
theorem eR : cP X (.type "bool") (fun xs H Q => (∃ i, xs=[.int i] ∧ Q (.bl (i != 0)) H) ∨ ∃ k, xs=[.bl k] ∧ Q (.bl k) H) := by
  intro pins s σ H xs us Q I r h
  rcases h with ⟨i, rfl, q⟩ | ⟨k, rfl, q⟩
  · obtain ⟨u, rfl, t, rfl⟩ := cQ r
    exact call_bool_int ⟨.bl (i != 0), H, I, rfl, q⟩
  · obtain ⟨u, rfl, r1⟩ := cQ r
    cases r1
    exact call_bool_bool ⟨.bl k, H, I, rfl, q⟩
inductive cI  (xs : List V)(H : Hp)(Q : VK) : Prop
  | mk : ∀ i, (xs=[.int i]) → (i.natAbs.log2 < 1920) → (Q (.str (toString i)) H) → cI xs H Q
theorem fK : cP X (.type "str") cI := by
  intro pins s σ H xs us Q I r h
  obtain ⟨i, rfl, hz, q⟩ := h
  obtain ⟨u, rfl, t, rfl⟩ := cQ r
  exact PySem.P.str_of_int hz ⟨.str _, H, I.tok _, ⟨_, rfl⟩, q⟩
end
structure sf (h : Heap) (x dx C : Addr) (mA : Str → Option Value) : Prop where
  obj : h.get? x=some (PySem.W.instObj C dx)
  ns : h.Ns1 dx mA
  ne : dx≠x
theorem jy {h : Heap}{dx : Addr}{mA : Str → Option Value}(n : h.Ns1 dx mA) : ∃ od, h.get? dx=some od ∧ ∀ name, PySem.W.lookIn name od=some (mA name) := by
  obtain ⟨o, es, ep, ho, hd, hk, _, hm⟩ := n
  refine ⟨o, ho, fun name => ?_⟩
  have e := hm name
  unfold nsFind findBy at e
  rw [← Array.find?_toList] at e
  unfold PySem.W.lookIn
  rw [hd]
  dsimp only
  split
  · rename_i y q
    rw [q] at e
    exact vz some e
  · rename_i q
    rw [q] at e
    have a : es.toList.any (·.refKey)=false := by
      rw [List.any_eq_false]
      intro y hy
      obtain ⟨z, t, hkey⟩ := hk y (Array.mem_toList_iff.mp hy)
      simp [DictEntry.refKey, hkey]
    have a' : ¬ es.toList.any (·.refKey)=true := by rw [a];exact u5
    rw [if_neg a']
    exact vz some e
theorem sf.look {h : Heap}{x dx C : Addr}{mA : Str → Option Value}(I : sf h x dx C mA) : ∃ od, PySem.W.InstAt h x (PySem.W.instObj C dx) C (some od) ∧ ∀ name, PySem.W.lookIn name od=some (mA name) :=
  let ⟨od, ho, hl⟩ := jy I.ns
  ⟨od, ⟨I.obj, rfl, rfl, ho⟩, hl⟩
section
variable {prog : Program} {w : World} {A : Around} {E : Value → Shared → Prop} {s : Shared} {K : PySem.W.Frag} {x dx C f : Addr} {mA : Str → Option Value} {name : Str} {v : Value}
end
section
variable {P : Program} {w : World} {H H' : Hp} {h h' : Heap} {a C dx : Addr} {fs fs' : List (Str × V)}
theorem nT (hok : HOk P w H h)(e : H a=some (.ins C dx fs)) : ∃ mA, sf h a dx C mA ∧ (∀ f, rO (fs.lookup f) (mA f)) ∧ PySem.Within mA (fs.map (·.1)) ∧ fs.length≤1000 ∧ H dx=some (.own a) := by
  obtain ⟨d, z, ne, ob, mA, n, r, q⟩ := (show bW P w H h a (.ins C dx fs) from hok a _ e)
  exact ⟨mA, ⟨ob, n, ne⟩, r, q, z, d⟩
end
structure Cls (K : PySem.W.Frag) (C : Addr) : Prop where
  pg : PySem.W.plainGet K C Str.empty=true
  hd : PySem.W.hasDictIn K C=true
  po : PySem.W.plainOver K C=true
  sa : PySem.W.findIn K (.ref C) "__setattr__" = some (some (.builtin "object.__setattr__"))
theorem Cls.get {K : PySem.W.Frag}{C : Addr}(c : Cls K C)(f : Str) : PySem.W.plainGet K C f=true := c.pg
section
variable {X : Cx} {pins : List (Addr × Obj)} {σ : St} {H : Hp} {s : Shared} {a C dx : Addr} {fs : List (Str × V)} {f : Str} {v : V} {A : Around} {E : Value → Shared → Prop}
end
section
variable {X : Cx} {o e value : Expr} {f : Str} {pos pos' tpos : Pos} {ta tv : TE}
end
section
variable {X : Cx} {pins : List (Addr × Obj)} {σ : St} {H : Hp} {s : Shared} {A : Around} {E : Value → Shared → Prop} {Q : Value → Shared → Prop} {c : Value} {b : Bool}
inductive eI (K : PySem.W.Frag)(H : Hp) : V → Value → Prop where
  | non : eI K H .non (.type "NoneType")
  | bl (x : Bool) : eI K H (.bl x) (.type "bool")
  | int (i : Int) : eI K H (.int i) (.type "int")
  | str (x : Str) : eI K H (.str x) (.type "str")
  | flt (x : UInt64) : eI K H (.flt x) (.type "float")
  | lst {a : Addr} {xs : List V} (e : H a=some (.lst xs)) : eI K H (.ref a) (.type "list")
  | frz {a : Addr} {o : Obj} {xs : List V} (e : H a=some (.frz o (.lst xs))) : eI K H (.ref a) (.type "list")
  | tup {a : Addr} {xs : List V} (e : H a=some (.tup xs)) : eI K H (.ref a) (.type "tuple")
  | dK {a : Addr} {kvs : List (Key × V)} (e : H a=some (.dK kvs)) : eI K H (.ref a) (.type "dict")
  | dT {a : Addr} {kvs : List (List Key × V)} (e : H a=some (.dT kvs)) : eI K H (.ref a) (.type "dict")
  | ins {a C dx : Addr} {fs : List (Str × V)} (e : H a=some (.ins C dx fs)) (cl : Cls K C) (ha : PySem.W.findIn K (.ref C) "__class__" = some (some (.builtin "object.__class__")))
      (hn : PySem.W.specialIn K (.builtin "object.__class__") "__get__" = some (some (.builtin "getset_descriptor.__get__"))) (htk : PySem.W.takesIn K (.builtin "object.__class__")=some true)
      (hm : PySem.W.mroIn K C (.type "object")=some true) : eI K H (.ref a) (.ref C)
theorem jz {x : V}{u t : Value}(I : Inv X pins σ H s)(rx : bJ x u)(ty : eI X.K H x t)(e : PySem.W.kitOne X.K t c=some b)(h : ∀ tk, Q (.bool b) { s with toks := tk }) :
    wpAny (model X.prog X.w) A (call (.builtin "isinstance") [u, c]) Q E s := by
  cases ty with
  | non => cases (show u=Value.none from rx);exact vL PySem.W.kitx_none I.kIn True.intro e (fun z => nomatch z) h
  | bl y => cases (show u=Value.bool y from rx);exact vL PySem.W.kitx_bool I.kIn True.intro e (fun z => nomatch z) h
  | int i => obtain ⟨t, q⟩ := (show ∃ t, u=Value.int i t from rx);cases q;exact vL PySem.W.kitx_int I.kIn True.intro e (fun z => nomatch z) h
  | str y => obtain ⟨t, q⟩ := (show ∃ t, u=Value.str y t from rx);cases q;exact vL PySem.W.kitx_str I.kIn True.intro e (fun z => nomatch z) h
  | flt y => obtain ⟨t, q⟩ := (show ∃ t, u=Value.float y t from rx);cases q;exact vL PySem.W.kitx_float I.kIn True.intro e (fun z => nomatch z) h
  | @lst a xs ea =>
    cases (show u=Value.ref a from rx)
    obtain ⟨_, _, n, _, h1⟩ := (show bW X.prog X.w H s.heap a (.lst xs) from I.hok a _ ea)
    exact vL PySem.W.kitx_list I.kIn ⟨_, h1, rfl⟩ e (fun z => nomatch z) h
  | @frz a ob xs ea =>
    cases (show u=Value.ref a from rx)
    obtain ⟨_, _, _, n, _, h1⟩ := (show bW X.prog X.w H s.heap a (.frz ob (.lst xs)) from I.hok a _ ea)
    exact vL PySem.W.kitx_list I.kIn ⟨_, h1, rfl⟩ e (fun z => nomatch z) h
  | @tup a xs ea =>
    cases (show u=Value.ref a from rx)
    obtain ⟨_, _, _, p, _⟩ := (show bW X.prog X.w H s.heap a (.tup xs) from I.hok a _ ea)
    obtain ⟨o, h1, h2, _⟩ := p
    exact vL PySem.W.kitx_tuple I.kIn ⟨o, h1, h2⟩ e (fun z => nomatch z) h
  | @dK a kvs ea =>
    cases (show u=Value.ref a from rx)
    obtain ⟨_, _, vs, _, p⟩ := (show bW X.prog X.w H s.heap a (.dK kvs) from I.hok a _ ea)
    obtain ⟨o, es, ep, h1, h2, _⟩ := p
    exact vL PySem.W.kitx_dict I.kIn ⟨o, h1, h2.1⟩ e (fun z => nomatch z) h
  | @dT a kvs ea =>
    cases (show u=Value.ref a from rx)
    obtain ⟨_, _, xs, _, o, es, ep, h1, h2, _⟩ := (show bW X.prog X.w H s.heap a (.dT kvs) from I.hok a _ ea)
    exact vL PySem.W.kitx_dict I.kIn ⟨o, h1, h2.1⟩ e (fun z => nomatch z) h
  | @ins a C dx fs ea cl ha hn htk hm =>
    cases (show u=Value.ref a from rx)
    obtain ⟨mA, O, _⟩ := nT I.hok ea
    obtain ⟨od, J, _⟩ := O.look
    exact vL (PySem.W.kitx_own (cl.get _) cl.hd ha hn htk hm) I.kIn J e (fun z => nomatch z) h
end
structure eS (k : Nat) (A : Around) : Prop where
  hd : A.handled=none
  dp : A.depth+3*k+5 < recursionLimit
  un : A.units+16*k+200 < cLine
  gd : A.guards=some []
theorem eS.mono {j k : Nat}{A : Around}(r : eS k A)(h : j≤k) : eS j A := ⟨r.hd, by have := r.dp; omega, by have := r.un; omega, r.gd⟩
theorem eS.deeper {k : Nat}{A : Around}(r : eS (k+1) A)(env : Env) : eS k (A.deeper env) :=
  ⟨r.hd, by have := r.dp;show A.depth+1+3*k+5 < _;omega, by have := r.un;show A.units+3+16*k+200 < _;omega, r.gd⟩
theorem eS.depth {k : Nat}{A : Around}(r : eS k A) : A.depth < recursionLimit := by have := r.dp; omega
theorem eS.units {k : Nat}{A : Around}(r : eS k A) : A.units+64 < cLine := by have := r.un; omega
def uh : TA := fun _ H Q => Q [] H
def lJ (Q : (List V → Hp → Prop))(x : V) : List V → Hp → Prop := fun xs H2 => Q (x::xs) H2
def lK (tr : TA)(σ : St)(Q : (List V → Hp → Prop)) : V → Hp → Prop := fun x H1 => tr σ H1 (lJ Q x)
def pV (ta : TE)(tr : TA) : TA := fun σ H Q => ta σ H (lK tr σ Q)
section
variable {X : Cx} {e : Expr} {es : List Expr} {te : TE} {t : TA} {pos : Pos}
theorem ae : PA X [] uh := fun _ _ _ _ H Q I h => Calls.spliced_nil ⟨[], H, I, .nil, h⟩
theorem aa (ha : PE X e te)(hr : PA X es t)(hs : starEach (e::es) X.env=(false, eval e X.env)::starEach es X.env := by rfl) : PA X (e::es) (pV te t) := by
  intro pos pins s σ H Q I h
  rw [hs]
  show wpAny _ _ (spliced ((false, eval e X.env)::backTo pos (starEach es X.env))) _ _ s
  refine Calls.spliced_cons (thn (ha pins s σ H _ I h) fun u s1 zq54 => ?_)
  obtain ⟨x, H1, I1, r1, q1⟩ := zq54
  exact thn (hr pos pins s1 σ H1 _ I1 q1) fun us s2 zq55 => (by obtain ⟨xs, H2, I2, r2, q2⟩ := zq55;exact ⟨x::xs, H2, I2, .cons r1 r2, q2⟩)
def nU (Q : VK) : List V → Hp → Prop := fun xs H1 => xs.length≤sizeLine ∧ ∀ p, H1 p=none → Q (.ref p) (upd H1 p (.tup xs))
def uk (t : TA) : TE := fun σ H Q => t σ H (nU Q)
def nV (Q : VK) : List V → Hp → Prop := fun xs H1 => xs.length≤sizeLine ∧ ∀ p, H1 p=none → Q (.ref p) (upd H1 p (.lst xs))
def um (t : TA) : TE := fun σ H Q => t σ H (nV Q)
theorem ba {x1}(h : PA X es t) : PE X (.Tuple es x1 pos) (uk t) := by
  intro pins s σ H Q I hq
  refine wpAny_Tuple_spliced (thn (h pos pins s σ H _ I hq) fun us s1 ⟨xs, H1, I1, r, z, q⟩ => ⟨by rw [← r.length];exact z, ?_⟩)
  have hf : H1 s1.heap.objs.size=none := I1.hok.fresh (uG _)
  refine ⟨.ref s1.heap.objs.size, upd H1 s1.heap.objs.size (.tup xs), I1.laid (t' := s1.toks) (fun b u e => uC _ e) (uG _) ?_, rfl, q _ hf⟩
  exact ⟨z, us, r, ⟨_, uN _ rfl, rfl, _, rfl⟩, .new _ _ rfl⟩
theorem bF (h : PA X es t) : PE X (.List es pos) (um t) := by
  intro pins s σ H Q I hq
  refine wpAny_List_spliced (thn (h pos pins s σ H _ I hq) fun us s1 ⟨xs, H1, I1, r, z, q⟩ => ⟨by rw [← r.length];exact z, ?_⟩)
  have hf : H1 s1.heap.objs.size=none := I1.hok.fresh (uG _)
  refine ⟨.ref s1.heap.objs.size, upd H1 s1.heap.objs.size (.lst xs), I1.laid (t' := s1.toks) (fun b u e => uC _ e) (uG _) ?_, rfl, q _ hf⟩
  exact ⟨z, us, 0, r, uN _ rfl⟩
end
abbrev Sp := List V → Hp → VK → XK → Prop
abbrev CXT := List Env → Hp → Shared → XK → Value → Shared → Prop
structure rF (P : Program) (w : World) (K : PySem.W.Frag) (mg : Str → Option Value) (base : Heap) (A : Around) (outer : List Env) (s : Shared) (H : Hp) : Prop where
  frames : A.frames=some outer
  mod : Mod K mg base
  bs : ∀ b o, base.get? b=some o → s.heap.get? b=some o ∧ H b=none
  bsz : base.objs.size≤s.heap.objs.size
  funs : s.heap.FunFrames base outer
  frf : ∀ b∈frs outer, H b=none
  hok : HOk P w H s.heap
  bare : AllBare s.gens
def CE (outer : List Env)(P : Program)(w : World)(H : Hp)(s : Shared)(Q : VK)(u : Value)(s' : Shared) : Prop :=
  ∃ v H', s'.os=s.os ∧ AllBare s'.gens ∧ Un (frs outer) [] H H' s.heap s'.heap ∧ HOk P w H' s'.heap ∧ bJ v u ∧ Q v H'
def CR (CX : CXT)(outer : List Env)(P : Program)(w : World)(H : Hp)(s : Shared)(Q : VK)(E : XK)(r : Result)(s' : Shared) : Prop :=
  match r with
  | .ok (.ret u) => CE outer P w H s Q u s'
  | .ok _ => False
  | .error e => CX outer H s E e s'
structure lj (P : Program) (w : World) (K : PySem.W.Frag) (mg : Str → Option Value) (base : Heap) (CX : CXT) (k : Nat) (f : Addr) (fd : FuncData) (ps : List Str) (sp : Sp) : Prop where
  len : ∀ vs H Q E, sp vs H Q E → vs.length=ps.length
  run : ∀ (A : Around) (outer : List Env) (s : Shared) (H : Hp) (args : Args) (us : List Value) (vs : List V) (Q : VK) (E : XK), eS k A → rF P w K mg base A outer s H → BindsTo s fd args (ps.zip us) → bc vs us → sp vs H Q E →
    codeAny (model P w) A (.call (.ref f) args) (CR CX outer P w H s Q E) s
section
variable {X : Cx} {pins : List (Addr × Obj)} {σ : St} {H : Hp} {s s' : Shared}
theorem Inv.env0 (I : Inv X pins σ H s) : rF X.prog X.w X.K X.mg X.base X.A X.stack s H :=
  ⟨I.ok.frames, I.ok.mod, I.bs, vi I.ok.bsz I.sz, I.stack, I.stkFree, I.hok, I.bare⟩
theorem Inv.after {Q : VK}{u : Value}(I : Inv X pins σ H s)(h : CE X.stack X.prog X.w H s Q u s') : EP X pins σ Q u s' := by
  obtain ⟨v, H', os, bare, un, hok, r, q⟩ := h
  obtain ⟨hh, g, d, t, os'⟩ := s'
  obtain rfl : os'=s.os := os
  exact ⟨v, H', I.call (h' := hh) (g' := g) (d' := d) (t' := t) (ch := []) un hok bare (fun b z => absurd z (by simp)), r, q⟩
end
def lL (sp : Sp)(dvs : List V)(E : XK)(Q : VK) : List V → Hp → Prop := fun vs H1 => sp (vs++dvs) H1 Q E
def pX (sp : Sp)(dvs : List V)(E : XK)(t : TA) : TE := fun σ H Q => t σ H (lL sp dvs E Q)
def i6 (K : PySem.W.Frag)(fd : FuncData)(ps : List Str)(ds : List Value) : Prop :=
  ∀ (s : Shared) (us : List Value), K.In s.heap → (us++ds).length=ps.length → BindsTo s fd ⟨us, []⟩ (ps.zip (us++ds))
theorem i6.all {K : PySem.W.Frag}{fd : FuncData}{ps : List Str}(h : ∀ us : List Value, us.length=ps.length → bindArgs fd ⟨us, []⟩=pure (ps.zip us)) : i6 K fd ps [] := fun s us _ hl => by
  rw [vF] at hl ⊢
  exact .of_eq (h us hl)
def jA (CX : CXT)(X : Cx)(E : XK) : Prop := ∀ (pins : List (Addr × Obj)) (σ : St) (H : Hp) (s : Shared) (e : Value) (s' : Shared), Inv X pins σ H s → CX X.stack H s E e s' → X.xe e s'
section
variable {X : Cx} {CX : CXT} {k : Nat} {f C : Addr} {fd : FuncData} {ps : List Str} {sp : Sp} {dvs : List V} {ds : List Value} {E : XK} {x m : Str} {p pos apos : Pos} {e o : Expr} {es : List Expr} {ta : TE} {t : TA}
theorem pY {pins : List (Addr × Obj)}{σ : St}{H : Hp}{s : Shared}{Q : VK}{us : List Value}{vs : List V}(F : lj X.prog X.w X.K X.mg X.base CX k f fd ps sp)(hr : eS k X.A)(hb : i6 X.K fd ps ds)(hd : bc dvs ds)(hx : jA CX X E)
    (I : Inv X pins σ H s) (r : bc vs us) (h : sp (vs++dvs) H Q E) : wpAny (model X.prog X.w) X.A (call (.ref f) us) (EP X pins σ Q) X.xe s := by
  have r2 : bc (vs++dvs) (us++ds) := r.append hd
  have hl : (us++ds).length=ps.length := by rw [← r2.length];exact F.len _ _ _ _ h
  refine wpAny_call (codeAny_mono (F.run X.A X.stack s H ⟨us, []⟩ (us++ds) (vs++dvs) Q E hr I.env0 (hb s us I.kIn hl) r2 h) fun r s' hq => ?_)
  cases r with
  | error e => exact hx pins σ H s e s' I hq
  | ok fl =>
    cases fl with
    | ret u => exact I.after hq
    | next => exact False.elim hq
    | brk => exact False.elim hq
    | cont => exact False.elim hq
theorem nW (F : lj X.prog X.w X.K X.mg X.base CX k f fd ps sp)(hr : eS k X.A)(hg : Gl X x)(hm : X.mg x=some (.ref f))(hk : PySem.W.keepIn X.K (.ref f)=true)(hb : i6 X.K fd ps ds)(hd : bc dvs ds)(hx : jA CX X E)
    (ha : PA X (e::es) t) (hdb : (x == ("__debug__" : Str))=false := by decide) (he : starEach (e::es) X.env=(false, eval e X.env)::starEach es X.env := by rfl) (hpl : (backTo pos (starEach es X.env)).any (·.1)=false := by rfl) :
    PE X (.Call (.Name x p) (e::es) [] pos) (pX sp dvs E t) := by
  intro pins s σ H Q I h
  refine yo (jn I hg hm ?_ hdb)
  refine PySem.W.callWith_K (h₀ := X.base) I.ok.mod.kin hk (thn (ha pos pins s σ H _ I h) fun us s1 ⟨vs, H1, I1, r, q⟩ => ⟨I1.kIn, ?_⟩) he hpl
  exact pY F hr hb hd hx I1 r q
end
section
variable {X : Cx} {CX : CXT} {k : Nat} {f C : Addr} {fd : FuncData} {ps ks : List Str} {sp : Sp} {E : XK} {x m : Str} {p pos apos kpos : Pos} {e o : Expr} {es : List Expr} {kws : List Keyword} {te ta : TE} {t tk : TA} {nm : Option Str}
variable {g : List Value → List Value → List Value} {gV : List V → List V → List V}
end
structure aN (N P : List Str) (sc : Scope) : Prop where
  kind : sc.kind = .function
  co : sc.isCoroutine=false
  gen : sc.isGenerator=false
  nd : N.Nodup
  pre : N.take P.length=P
  par : ∀ x∈P, sc.names.lookup x=some .local ∨ sc.names.lookup x=some .cell
  nofree : ∀ y∈sc.names, y.2 ≠ .free
theorem fL {kindOf : Str → Option NameKind}{x : Str} : ∀ {binds : List (Str × Value)} {m : Str → Option Value}, (∀ v, (x, v)∉binds) → bindL kindOf binds m x=m x
  | [], _, _ => rfl
  | (n, v)::r, m, h => by
    unfold bindL
    rw [fL fun w hw => h w (u6 _ hw)]
    split
    · have : x≠n := by rintro rfl;exact h v vf
      simp [this]
    · rfl
theorem fM {kindOf : Str → Option NameKind}{x : Str} : ∀ {binds : List (Str × Value)} {m : Str → Option Value}, (∀ v, (x, v)∉binds) → bindC kindOf binds m x=m x
  | [], _, _ => rfl
  | (n, v)::r, m, h => by
    unfold bindC
    rw [fM fun w hw => h w (u6 _ hw)]
    split
    · rfl
    · have : x≠n := by rintro rfl;exact h v vf
      simp [this]
theorem fN {kindOf : Str → Option NameKind}{x : Str}{v : Value} : ∀ {P : List Str} {vs : List Value} {i : Nat} {m : Str → Option Value}, P.Nodup → P[i]? = some x → vs[i]? = some v → kindOf x=some .local →
    bindL kindOf (P.zip vs) m x=some v
  | [], _, _, _, _, h, _, _ => by simp at h
  | _::_, [], _, _, _, _, h, _ => by simp at h
  | p::P, w::vs, 0, m, nd, h1, h2, hk => by
    simp at h1 h2;subst h1;subst h2
    show bindL kindOf ((p, w)::P.zip vs) m p=_
    unfold bindL
    rw [fL fun v hv => (xt.mp nd).1 (y7 hv).1, if_pos hk]
    simp
  | p::P, w::vs, i+1, m, nd, h1, h2, hk => by
    show bindL kindOf ((p, w)::P.zip vs) m x=_
    unfold bindL
    exact fN (i := i) (xt.mp nd).2 (by simpa using h1) (by simpa using h2) hk
theorem fO {kindOf : Str → Option NameKind}{x : Str}{v : Value} : ∀ {P : List Str} {vs : List Value} {i : Nat} {m : Str → Option Value}, P.Nodup → P[i]? = some x → vs[i]? = some v → kindOf x≠some .local →
    bindC kindOf (P.zip vs) m x=some v
  | [], _, _, _, _, h, _, _ => by simp at h
  | _::_, [], _, _, _, _, h, _ => by simp at h
  | p::P, w::vs, 0, m, nd, h1, h2, hk => by
    simp at h1 h2;subst h1;subst h2
    show bindC kindOf ((p, w)::P.zip vs) m p=_
    unfold bindC
    rw [fM fun v hv => (xt.mp nd).1 (y7 hv).1, if_neg hk]
    simp
  | p::P, w::vs, i+1, m, nd, h1, h2, hk => by
    show bindC kindOf ((p, w)::P.zip vs) m x=_
    unfold bindC
    exact fO (i := i) (xt.mp nd).2 (by simpa using h1) (by simpa using h2) hk
def start (N : List Str)(vs : List V) : St := vs.map some++List.replicate (N.length - vs.length) none
def nX (CX : CXT)(P : Program)(w : World)(K : PySem.W.Frag)(mg : Str → Option Value)(base : Heap)(N : List Str)(qual : Str)(scope : Scope)(f : Addr)(cd : Value)(A : Around)(outer : List Env)(s : Shared)(H : Hp)(E : XK) : Cx where
  prog := P
  w := w
  K := K
  mg := mg
  base := base
  A := A.deeper (envOfC qual scope s.heap.objs.size f cd)
  N := N
  s₀ := s
  H₀ := H
  env := envOfC qual scope s.heap.objs.size f cd
  outer := outer
  stack := envOfC qual scope s.heap.objs.size f cd::outer
  ex := []
  calm := true
  fn := fun _ => true
  pn := []
  xe := fun e s' => wpAny (model P w) (A.deeper (envOfC qual scope s.heap.objs.size f cd)) (leaving (envOfC qual scope s.heap.objs.size f cd) e) (fun _ s'' => CX outer H s E e s'') (fun e' s'' => CX outer H s E e' s'') s'
theorem iy {sc : Scope}{n : Nat}{x : Str}(h : sc.names.lookup x=some .cell) : ∃ c, (cellsFrom n sc.names []).lookup x=some c := by
  have q := yX sc.names n [] (.inl h)
  exact Option.isSome_iff_exists.mp q
theorem jB {CX : CXT}{P : Program}{w : World}{K : PySem.W.Frag}{mg : Str → Option Value}{base : Heap}{N ps : List Str}{qual : Str}{scope : Scope}{f : Addr}{cd : Value}{A : Around}{outer : List Env}{s s1 : Shared}{H : Hp}{E : XK}{us : List Value}{vs : List V}
    (S : aN N ps scope) (hd : A.handled=none) (e0 : rF P w K mg base A outer s H) (hl : vs.length=ps.length) (r : bc vs us)
    (x : InCallC s s.heap.objs.size (bindL (envOfC qual scope s.heap.objs.size f cd).kindOf (ps.zip us) fun _ => none) (cellsFrom (s.heap.objs.size+1) scope.names []) (bindC (envOfC qual scope s.heap.objs.size f cd).kindOf (ps.zip us) fun _ => none) s1) :
    Inv (nX CX P w K mg base N qual scope f cd A outer s H E) [] (start N vs) H s1 := by
  have hpl : ps.length≤N.length := by have := vz List.length S.pre;rw [uR] at this;omega
  obtain ⟨h1, tk, rfl, hk⟩ := x.done
  have noA : ∀ b : Addr, b∉(nX CX P w K mg base N qual scope f cd A outer s H E).ex := fun b z => absurd (show b∈([] : List Addr) from z) (by simp)
  refine ⟨⟨e0.mod, S.kind, rfl, rfl, uG _, fun y z c h1 h2 => ?_, fun y hy => ?_, fun y c _ h => ?_, fun _ => hd, Around.frames_deeper e0.frames, .inr ⟨rfl, rfl⟩, fun b z => absurd z (noA b), e0.bs, e0.bsz, fun b _ _ => noA b, fun b z => absurd z (noA b), e0.funs, e0.frf⟩,
    rfl, e0.bare, Un.kept hk, ⟨_, x.toInCall.ns, fun i y v h1 h2 h3 => ?_⟩, fun y c h => ⟨_, x.cell y c h⟩, e0.hok.fresh (uG _), fun y c h => ?_, fun p hp => absurd (show p∈([] : List (Addr × Obj)) from hp) (by simp), e0.hok.kept hk, ?_⟩
  · exact name_of_addr x.apart (v8 h1) (v8 h2)
  · have hy : scope.names.lookup y=some .cell ∨ scope.names.lookup y=some .free := hy
    rcases hy with hy | hy
    · exact iy hy
    · exact absurd rfl (S.nofree _ (v8 hy))
  · exact y6 (x.above y c (v8 h))
  · have hi : i < vs.length := by
      unfold start at h2
      by_cases hi : i < vs.length
      · exact hi
      · rw [ve (by simpa using hi)] at h2
        rw [List.getElem?_replicate] at h2
        split at h2 <;> cases h2
    have ha : vs[i]? = some v := by
      unfold start at h2
      rw [wb (by simpa using hi), u_] at h2
      cases e : vs[i]? with
      | none => rw [e] at h2;cases h2
      | some a => rw [e] at h2;cases h2;rfl
    obtain ⟨u, hu, rv⟩ := r.get ha
    have hp : ps[i]? = some y := by
      rw [← S.pre, vS (by omega)];exact h1
    have ndP : ps.Nodup := by rw [← S.pre];exact S.nd.sublist (List.take_sublist _ _)
    refine ⟨u, rv, ?_⟩
    rcases S.par y (uU hp) with k | k
    · exact .inl ⟨k, fN ndP hp hu k⟩
    · obtain ⟨c, e⟩ := iy (n := s.heap.objs.size+1) k
      refine .inr ⟨.inl k, c, e, ?_⟩
      have q := x.cell y c e
      rw [fO ndP hp hu (by show scope.names.lookup y≠_;rw [k];decide)] at q
      exact q
  · exact e0.hok.fresh (y6 (x.above y c (v8 h)))
  · unfold start
    show _=N.length
    rw [uF, uD, xI]
    omega
theorem sh {CX : CXT}{P : Program}{w : World}{K : PySem.W.Frag}{mg : Str → Option Value}{base : Heap}{k : Nat}{f : Addr}{name qual : Str}{params : Arguments}{body : List Stmt}{scope : Scope}{dV kV doc pm cdv ct oc : Value}{an od : Option Addr}
    {osl : Array (Option Value)} {N ps : List Str} {sp : Sp} (lk : K.lookup f=some ⟨oc, od, .func (PySem.W.fnOf name qual params body scope dV kV doc pm an cdv ct), osl⟩) (hcd : PySem.W.codeIn K cdv qual=true) (S : aN N ps scope)
    (len : ∀ vs H Q E, sp vs H Q E → vs.length=ps.length)
    (hbody : ∀ (A : Around) (outer : List Env) (s : Shared) (H : Hp) (vs : List V) (Q : VK) (E : XK), eS k (A.deeper (envOfC qual scope s.heap.objs.size f cdv)) → sp vs H Q E →
      ∃ t, PSs (nX CX P w K mg base N qual scope f cdv A outer s H E) body t ∧ t { nx := fun _ H' => Q .non H', rt := Q } (start N vs) H) :
    lj P w K mg base CX (k+1) f (PySem.W.fnOf name qual params body scope dV kV doc pm an cdv ct) ps sp := by
  refine ⟨len, fun A outer s H args us vs Q E hr e0 hb r hsp => ?_⟩
  have hl := len _ _ _ _ hsp
  have KX : K.In s.heap := e0.mod.kin.keeps fun b o e => (e0.bs b o e).1
  have lim : s.heap.NoLimit := e0.mod.nolimit.keeps fun b o e => (e0.bs b o e).1
  have hkind : ∀ y∈ps.zip us, scope.names.lookup y.1=some .local ∨ (scope.names.lookup y.1=some .cell ∧ ((cellsFrom (s.heap.objs.size+1) scope.names []).lookup y.1).isSome=true) := fun ⟨n, v⟩ hy => by
    rcases S.par n (y7 hy).1 with q | q
    · exact .inl q
    · exact .inr ⟨q, yX _ _ _ (.inl q)⟩
  refine codeAny_call_function hr.depth (KX _ _ lk) rfl S.co S.gen rfl (PySem.W.codeRec_of KX hcd) (hb _ _ _ _ ?_)
  refine wpAny_newFunctionEnv_cells S.kind hkind fun env he s1 x => ?_
  subst he
  refine ⟨lim.keeps x.toInCall.keep, codeAny_func ?_⟩
  obtain ⟨t, ht, hq⟩ := hbody A outer s H vs Q E (hr.deeper _) hsp
  have I : Inv (nX CX P w K mg base N qual scope f cdv A outer s H E) [] (start N vs) H s1 := jB S hr.hd e0 hl r x
  refine wN (ht [] s1 (start N vs) H _ I hq) (fun fl s' hs => ?_) fun e s' hs => hs
  have fin : ∀ {σ' : St} {H' : Hp} {v : V} {u : Value}, Inv (nX CX P w K mg base N qual scope f cdv A outer s H E) [] σ' H' s' → bJ v u → Q v H' → CE outer P w H s Q u s' :=
    fun {σ' H' v u} J rv q => ⟨v, H', J.os, J.bare, J.base, J.hok, rv, q⟩
  cases fl with
  | ret u =>
    obtain ⟨v, σ', H', J, rv, q⟩ := hs
    exact fin J rv q
  | next =>
    obtain ⟨σ', H', J, q⟩ := hs
    exact fin (v := V.non) (u := Value.none) J rfl q
  | brk =>
    obtain ⟨_, _, _, q⟩ := hs
    exact False.elim q
  | cont =>
    obtain ⟨_, _, _, q⟩ := hs
    exact False.elim q
section
variable {X : Cx} {x : Str} {p pos : Pos} {e : Expr} {es : List Expr} {t : TA} {id T : String} {r : List V → Hp → VK → Prop}
def pZ (r : List V → Hp → VK → Prop)(Q : VK) : List V → Hp → Prop := fun vs H1 => r vs H1 Q
def tCB (r : List V → Hp → VK → Prop)(t : TA) : TE := fun σ H Q => t σ H (pZ r Q)
theorem aj (hc : cP X (.builtin id) r)(hg : Gl X x)(hm : X.mg x=none)(hv : bootBuiltins x=some (.builtin id))(ha : PA X (e::es) t)(hn : x ≠ "__name__" := by decide)(hdb : (x == ("__debug__" : Str))=false := by decide)
    (he : starEach (e::es) X.env=(false, eval e X.env)::starEach es X.env := by rfl) (hpl : (backTo pos (starEach es X.env)).any (·.1)=false := by rfl) : PE X (.Call (.Name x p) (e::es) [] pos) (tCB r t) := by
  intro pins s σ H Q I h
  refine yo (dY I hg hm hv ?_ hn hdb)
  exact PyProof.Rows.callWith_builtin1 (thn (ha pos pins s σ H _ I h) fun us s1 zq60 => (by obtain ⟨vs, H1, I1, r1, q1⟩ := zq60;exact hc pins s1 σ H1 vs us Q I1 r1 q1)) he hpl
theorem bA (hc : cP X (.type T) r)(hg : Gl X x)(hm : X.mg x=none)(hv : bootBuiltins x=some (.type T))(ha : PA X (e::es) t)(hn : x ≠ "__name__" := by decide)(hdb : (x == ("__debug__" : Str))=false := by decide)
    (he : starEach (e::es) X.env=(false, eval e X.env)::starEach es X.env := by rfl) (hpl : (backTo pos (starEach es X.env)).any (·.1)=false := by rfl) : PE X (.Call (.Name x p) (e::es) [] pos) (tCB r t) := by
  intro pins s σ H Q I h
  refine yo (dY I hg hm hv ?_ hn hdb)
  exact vU (thn (ha pos pins s σ H _ I h) fun us s1 zq61 => (by obtain ⟨vs, H1, I1, r1, q1⟩ := zq61;exact hc pins s1 σ H1 vs us Q I1 r1 q1)) he hpl
end
end L2
namespace HT
open PySem PyProof.Rows
section
open PySem.SeqAt
open PySem.AutoSeq1 (wpAny_loadPart')
open PySem.MeetsSeq PySem.MeetsSeq2 PySem.MeetsSeq3
end
section
variable {prog : Program} {w : World} {A : Around} {E : Value → Shared → Prop} {s : Shared}
theorem nY {t b : Addr}{vs ws : List Value}{Q : Value → Shared → Prop}(ht : IsTup s.heap t vs.toArray)(hb : IsTup s.heap b ws.toArray)(hv : vs≠[])
    (h1 : ws=[] → Q (.ref t) s) (h2 : ws≠[] → Q (.ref s.heap.objs.size) { s with heap := s.heap.push { cls := .type "tuple", data := .seq (vs++ws).toArray } })
    (hsz : vs.length+ws.length≤sizeLine) : wpAny (model prog w) A (binaryOp .Add (.ref t) (.ref b)) Q E s := by
  obtain ⟨⟨cls, dd, data, sl⟩, ho, hc, n, hd⟩ := id ht
  obtain ⟨⟨cls2, dd2, data2, sl2⟩, ho2, hc2, n2, hd2⟩ := id hb
  simp only at hc hd hc2 hd2
  subst hc hd hc2 hd2
  have e : vs.toArray++ws.toArray=(vs++ws).toArray := by simp
  by_cases hw : ws=[]
  · exact concat_meets ⟨_, ho, rfl⟩ ⟨_, ho2, rfl⟩ yR seq_tuple_add xD xu (xo _ _)
      (tuple_addW1 t b vs.toArray ws.toArray n n2 dd dd2 sl sl2 (by simpa using hv) (by simp [hw])) ⟨ho, ho2, h1 hw⟩
  · refine concat_meets ⟨_, ho, rfl⟩ ⟨_, ho2, rfl⟩ yR seq_tuple_add xD xu (xo _ _)
      (tuple_addW2 t b vs.toArray ws.toArray n n2 dd dd2 sl sl2 (by simpa using hv) (by simpa using hw) (by rw [uK, uK];exact hsz)) ⟨ho, ho2, ?_⟩
    rw [e]
    exact h2 hw
def sIx (n d : Nat) : Option Int → Nat
  | none => d
  | some v => if v < 0 then (v+(n : Int)).toNat else min v.toNat n
theorem cT (n d : Nat) : sIx n d none=d := rfl
theorem cv (n d k : Nat) : sIx n d (some (k : Int))=min k n := by
  show (if (k : Int) < 0 then ((k : Int)+(n : Int)).toNat else min (k : Int).toNat n)=min k n
  rw [if_neg (by omega), vh]
theorem jC (n d : Nat)(hd : d≤n)(o : Option Int) : sIx n d o≤n := by
  cases o with
  | none => exact hd
  | some v =>
    show (if v < 0 then (v+(n : Int)).toNat else min v.toNat n)≤n
    by_cases hv : v < 0
    · rw [if_pos hv];omega
    · rw [if_neg hv];exact Nat.min_le_right _ _
theorem jD (v : Int)(n d : Nat) : (if v < 0 then max (v+(n : Int)) 0 else min v (n : Int))=((sIx n d (some v) : Nat) : Int) := by
  show (if v < 0 then max (v+(n : Int)) 0 else min v (n : Int))=(((if v < 0 then (v+(n : Int)).toNat else min v.toNat n) : Nat) : Int)
  by_cases hv : v < 0
  · simp only [if_pos hv];omega
  · simp only [if_neg hv];omega
theorem i7 (lo hi : Option Int)(n : Nat) : Builtin.Slice.sliceAdjust lo hi 1 (n : Int)=(((sIx n 0 lo : Nat) : Int), ((sIx n n hi : Nat) : Int)) := by
  have h1 : ¬ ((1 : Int) < 0) := by omega
  unfold Builtin.Slice.sliceAdjust
  simp only [h1, vN]
  refine Prod.ext ?_ ?_
  · cases lo with
    | none => rfl
    | some v => exact jD v n 0
  · cases hi with
    | none => rfl
    | some v => exact jD v n n
theorem i8 (i j : Nat) : Builtin.Slice.slicePlaces (i : Int) (j : Int) 1=j - i := by
  unfold Builtin.Slice.slicePlaces
  have h1 : (1 : Int) > 0 := by omega
  simp only [h1, wj, Int.ediv_one]
  split <;> omega
theorem eU {v : Value}{o : Option Int}{Q : Option Int → Shared → Prop}(p : IsPart v o)(h : Q o s) : wpAny (model prog w) A (Builtin.Slice.slicePartIndex v) Q E s := by
  cases p with
  | none => exact yt h
  | int i t => exact slicePart_int h
theorem cm {sl : Addr}{vl vu : Value}{lo hi : Option Int}{n : Nat}{Q : Int × Int × Nat → Shared → Prop}(hs : s.heap.IsSliceOf sl vl vu .none)(pl : IsPart vl lo)(pu : IsPart vu hi)
    (h : Q (((sIx n 0 lo : Nat) : Int), 1, sIx n n hi - sIx n 0 lo) s) : wpAny (model prog w) A (Builtin.Slice.sliceApplied (.ref sl) (pure (n : Int))) Q E s := by
  obtain ⟨os, hos, hcs, hds⟩ := id hs
  unfold Builtin.Slice.sliceApplied Builtin.Slice.sliceFields
  refine fu (fu (vC hos hds (x := vl) rfl (fu (vC hos hds (x := vu) rfl (fu (vC hos hds (x := .none) rfl (uH ?_)))))))
  refine fu (yt ?_)
  show wpAny _ _ (if ((1 : Int) == 0)=true then _ else _) _ _ s
  rw [if_neg (by decide)]
  refine fu (eU pl (fu (eU pu (fu (uH ?_)))))
  show wpAny _ _ (match Builtin.Slice.sliceAdjust lo hi 1 (n : Int) with | (lo, hi) => pure (lo, (1 : Int), Builtin.Slice.slicePlaces lo hi 1)) _ _ s
  rw [i7 lo hi n]
  show wpAny _ _ (pure (((sIx n 0 lo : Nat) : Int), (1 : Int), Builtin.Slice.slicePlaces ((sIx n 0 lo : Nat) : Int) ((sIx n n hi : Nat) : Int) 1)) _ _ s
  rw [i8]
  exact uH h
theorem lM (xs : Array Value)(i k : Nat) : ((List.range k).filterMap fun (m : Nat) => xs[((i : Int)+(m : Int)*1).toNat]?).toArray=((xs.toList.drop i).take k).toArray := by
  have e : (fun (m : Nat) => xs[((i : Int)+(m : Int)*1).toNat]?)=fun m => xs[i+m]? := by
    funext m
    have : ((i : Int)+(m : Int)*1).toNat=i+m := by omega
    rw [this]
  rw [e]
  have := pick_run xs i k
  rw [List.filterMap_map] at this
  have e2 : ((fun x => xs[x]?) ∘ fun x => i+x)=fun m => xs[i+m]? := rfl
  rw [e2] at this
  rw [this]
theorem dr {t sl : Addr}{items : Array Value}{vl vu : Value}{lo hi : Option Int}{Q : Value → Shared → Prop}(ht : IsTup s.heap t items)(hs : s.heap.IsSliceOf sl vl vu .none)(pl : IsPart vl lo)(pu : IsPart vu hi)
    (hw : ¬ (sIx items.size 0 lo=0 ∧ sIx items.size items.size hi=items.size))
    (h : Q (.ref s.heap.objs.size) { s with heap := s.heap.push { cls := .type "tuple", data := .seq ((items.toList.drop (sIx items.size 0 lo)).take (sIx items.size items.size hi - sIx items.size 0 lo)).toArray } })
    (hsz : items.size≤sizeLine) : wpAny (model prog w) A (getItem (.ref t) (.ref sl)) Q E s := by
  have htake : sizeOk (.seq ((items.toList.drop (sIx items.size 0 lo)).take (sIx items.size items.size hi - sIx items.size 0 lo)).toArray) := by
    show ((items.toList.drop (sIx items.size 0 lo)).take (sIx items.size items.size hi - sIx items.size 0 lo)).toArray.size≤sizeLine
    rw [uK, uR, vv, uI]
    omega
  have hj : sIx items.size items.size hi≤items.size := jC _ _ (uG _) hi
  obtain ⟨os, hos, hcs, hds⟩ := id hs
  have hTs : s.TypeIs (.ref sl) "slice" := ⟨os, hos, hcs⟩
  unfold getItem
  try with_reducible refine wy ?_
  first | refine fu (uH ?_) | skip
  refine fu (yz ht.typeIs (by decide) ?_)
  refine fu (vB (name := Str.ofString "__getitem__") ht.typeIs vw
    (vO vw ht.typeIs x9 ?_ (yp _ _)))
  show wpAny _ _ (Builtin.Tuple.tupleItemsOf (.ref t) >>= _) _ _ s
  refine fu (tupleItemsOf_ ht ?_)
  refine fu (xJ hTs ?_)
  rw [if_pos (by decide)]
  refine fu (cm hs pl pu ?_)
  have hno : ¬ ((((sIx items.size 0 lo : Nat) : Int) == 0 && (1 : Int) == 1 && (sIx items.size items.size hi - sIx items.size 0 lo) == items.size)=true) := by
    intro q
    rw [u3, u3] at q
    have q1 : ((sIx items.size 0 lo : Nat) : Int)=0 := eq_of_beq q.1.1
    have q2 : sIx items.size items.size hi - sIx items.size 0 lo=items.size := eq_of_beq q.2
    exact hw ⟨by omega, by omega⟩
  show wpAny _ _ (if (((sIx items.size 0 lo : Nat) : Int) == 0 && (1 : Int) == 1 && (sIx items.size items.size hi - sIx items.size 0 lo) == items.size)=true then _ else _) _ _ s
  rw [if_neg hno, lM]
  first
    | exact fu (m := Builtin.Tuple.tupleExact _) (vH (uH ⟨_, rfl, uH h⟩) htake)
    | exact fu (m := Builtin.Tuple.tupleExact _) (vH (fu (uH (uH ⟨_, rfl, uH h⟩))) htake)
    | exact fu (fu (m := Builtin.Tuple.tupleExact _) (vH (uH (uH ⟨_, rfl, uH h⟩)) htake))
    | exact fu (fu (m := Builtin.Tuple.tupleExact _) (vH (uH ⟨_, rfl, uH h⟩) htake))
end
end HT
namespace L2
open PySem PySem.Spec PyProof.Rows
abbrev TO := St → Hp → (Option Int → Hp → Prop) → Prop
def PO (X : Cx)(e : Option Expr)(t : TO) : Prop :=
  ∀ (pins : List (Addr × Obj)) (s : Shared) (σ : St) (H : Hp) (Q : Option Int → Hp → Prop), Inv X pins σ H s → t σ H Q →
    wpAny (model X.prog X.w) X.A (evalPart e X.env) (fun u s' => ∃ o H', Inv X pins σ H' s' ∧ IsPart u o ∧ Q o H') X.xe s
def nZ : TO := fun _ H Q => Q none H
inductive IsI (x : V)(H : Hp)(Q : Option Int → Hp → Prop) : Prop
  | mk : ∀ i, (x = .int i) → (Q (some i) H) → IsI x H Q
def lN (Q : (Option Int → Hp → Prop)) : V → Hp → Prop := fun x H1 => IsI x H1 Q
def si (t : TE) : TO := fun σ H Q => t σ H (lN Q)
section
variable {X : Cx} {e : Expr} {te : TE} {lo hi : Option Expr} {tl th : TO} {pos p2 : Pos}
theorem aO : PO X none nZ := by
  intro pins s σ H Q I h
  rw [yI]
  exact uH ⟨none, H, I, .none, h⟩
theorem aG (h : PE X e te) : PO X (some e) (si te) := by
  intro pins s σ H Q I hw
  rw [evalPart_some]
  refine thn (h pins s σ H _ I hw) fun u s1 zq62 => ?_
  obtain ⟨x, H1, I1, r1, q1⟩ := zq62
  obtain ⟨i, rfl, q⟩ := q1
  obtain ⟨t, rfl⟩ := r1
  exact ⟨some i, H1, I1, .int i t, q⟩
def SlR (X : Cx)(r : V → Option Int → Option Int → Hp → VK → Prop) : Prop :=
  ∀ (pins : List (Addr × Obj)) (s : Shared) (σ : St) (H : Hp) (x : V) (v vl vu : Value) (lo hi : Option Int) (sl : Addr) (Q : VK), Inv X pins σ H s → bJ x v → s.heap.IsSliceOf sl vl vu .none → IsPart vl lo → IsPart vu hi → r x lo hi H Q →
    ∃ T id, typeLookup (.type T) "__getitem__" = pure (some (.builtin id)) ∧ s.TypeIs v T ∧ wpAny (model X.prog X.w) X.A (getItem v (.ref sl)) (EP X pins σ Q) X.xe s
def p6 (r : V → Option Int → Option Int → Hp → VK → Prop)(Q : VK)(x : V)(l : Option Int) : Option Int → Hp → Prop := fun u H3 => r x l u H3 Q
def p7 (r : V → Option Int → Option Int → Hp → VK → Prop)(th : TO)(σ : St)(Q : VK)(x : V) : Option Int → Hp → Prop := fun l H2 => th σ H2 (p6 r Q x l)
def p8 (r : V → Option Int → Option Int → Hp → VK → Prop)(tl : TO)(th : TO)(σ : St)(Q : VK) : V → Hp → Prop := fun x H1 => tl σ H1 (p7 r th σ Q x)
def tSl (r : V → Option Int → Option Int → Hp → VK → Prop)(te : TE)(tl th : TO) : TE := fun σ H Q => te σ H (p8 r tl th σ Q)
theorem aA {r : V → Option Int → Option Int → Hp → VK → Prop}(hr : SlR X r)(he : PE X e te)(hl : PO X lo tl)(hu : PO X hi th) : PE X (.Subscript e (.Slice lo hi none p2) pos) (tSl r te tl th) := by
  intro pins s σ H Q I h
  refine Subscript_ (thn (he pins s σ H _ I h) fun v s1 zq63 => ?_)
  obtain ⟨x, H1, I1, r1, q1⟩ := zq63
  refine wpAny_Slice (thn (hl pins s1 σ H1 _ I1 q1) fun vl s2 ⟨l, H2, I2, pl, q2⟩ => thn (hu pins s2 σ H2 _ I2 q2) fun vu s3 zq64 => ?_)
  obtain ⟨u, H3, I3, pu, q3⟩ := zq64
  rw [yI]
  refine uH ?_
  have I4 : Inv X pins σ H3 { s3 with heap := s3.heap.push { cls := .type "slice", data := .fields #[vl, vu, .none] } } := I3.kept (t' := s3.toks) fun b ob q => uC _ q
  obtain ⟨T, id, hT, ht, hg⟩ := hr pins { s3 with heap := s3.heap.push { cls := .type "slice", data := .fields #[vl, vu, .none] } } σ H3 x v vl vu l u s3.heap.objs.size Q I4 r1 (Heap.IsSliceOf.new ..) pl pu q3
  show wpAny (model X.prog X.w) X.A (subscriptTail e (.Slice lo hi none p2) v (.ref s3.heap.objs.size)) (EP X pins σ Q) X.xe { s3 with heap := s3.heap.push { cls := .type "slice", data := .fields #[vl, vu, .none] } }
  exact tail_any (ops := [.ref s3.heap.objs.size, v]) ht hT hg (by with_unfolding_all rfl)
def dF (xs : List V)(lo hi : Option Int) : List V := (xs.drop (HT.sIx xs.length 0 lo)).take (HT.sIx xs.length xs.length hi - HT.sIx xs.length 0 lo)
theorem d3 (xs : List V)(lo hi : Option Int) : (dF xs lo hi).length≤xs.length := by
  unfold dF
  rw [uR, vv]
  omega
inductive tB (K : PySem.W.Frag)(x : V)(lo : Option Int)(hi : Option Int)(H : Hp)(Q : VK) : Prop
  | mk : ∀ a xs, (x = .ref a) → (SqT K H a xs) → (¬ (HT.sIx xs.length 0 lo=0 ∧ HT.sIx xs.length xs.length hi=xs.length)) → (∀ p, H p=none → Q (.ref p) (upd H p (.tup (dF xs lo hi)))) → tB K x lo hi H Q
theorem p9 : SlR X (tB X.K) := by
  intro pins s σ H x v vl vu lo hi sl Q I rx hs pl pu h
  obtain ⟨a, xs, rfl, hx, hw, q⟩ := h
  cases rx
  obtain ⟨its, r, ht, hz⟩ := I.tuple hx
  have hlen : its.toArray.size=xs.length := by rw [uK];exact r.length.symm
  refine ⟨"tuple", _, vw.lookup, ht.typeIs, ?_⟩
  refine HT.dr ht hs pl pu (by rw [hlen];exact hw) ?_ (by rw [hlen];exact hz)
  rw [hlen]
  refine ⟨.ref s.heap.objs.size, _, I.laid (t' := s.toks) (o := .tup (dF xs lo hi)) (fun b ob q => uC _ q) (uG _) ?_, rfl, q _ (I.hok.fresh (uG _))⟩
  exact ⟨vi (d3 xs lo hi) hz, _, (r.drop (HT.sIx xs.length 0 lo)).take (HT.sIx xs.length xs.length hi - HT.sIx xs.length 0 lo), IsTup.new _ _, .new _ _ rfl⟩
inductive p_ (K : PySem.W.Frag)(x : V)(y : V)(H : Hp)(Q : VK) : Prop
  | mk : ∀ a b xs ys, (x = .ref a) → (y = .ref b) → (SqT K H a xs) → (SqT K H b ys) → (xs≠[]) → (xs.length+ys.length≤sizeLine) → ((ys=[] → Q (.ref a) H)) → ((ys≠[] → ∀ p, H p=none → Q (.ref p) (upd H p (.tup (xs++ys))))) → p_ K x y H Q
theorem bc.nil_iff {xs : List V}{us : List Value}(r : bc xs us) : us=[] ↔ xs=[] := by
  cases r with
  | nil => simp
  | cons _ _ => simp
theorem n8 : OpR X (binaryOp .Add) (p_ X.K) := by
  intro pins s σ H x y v u Q I rx ry h
  obtain ⟨a, b, xs, ys, rfl, rfl, ha, hb, hx, hz, q1, q2⟩ := h
  cases rx
  cases ry
  obtain ⟨its, r1, p1, _⟩ := I.tuple ha
  obtain ⟨its2, r2, p2, _⟩ := I.tuple hb
  refine HT.nY p1 p2 (fun z => hx (r1.nil_iff.mp z)) (fun z => ⟨.ref a, H, I, rfl, q1 (r2.nil_iff.mp z)⟩) (fun z => ?_) (by rw [← r1.length, ← r2.length];exact hz)
  refine ⟨.ref s.heap.objs.size, _, I.laid (t' := s.toks) (o := .tup (xs++ys)) (fun b ob q => uC _ q) (uG _) ?_, rfl, q2 (fun w => z (r2.nil_iff.mpr w)) _ (I.hok.fresh (uG _))⟩
  exact ⟨by rw [uF];exact hz, _, r1.append r2, IsTup.new _ _, .new _ _ rfl⟩
end
def ixN (n : Nat)(i : Int) : Option Nat := if 0≤i then (if i < n then some i.toNat else none) else if -(n : Int)≤i then some (i+n).toNat else none
def atI {α : Type}(xs : List α)(i : Int) : Option α := (ixN xs.length i).bind fun j => xs[j]?
theorem jE {n : Nat}{i : Int}{j : Nat}(h : ixN n i=some j) : seqIndex? i n=some j ∧ j < n ∧ -(n : Int)≤i ∧ i < n := by
  unfold ixN at h
  by_cases h0 : 0≤i
  · rw [if_pos h0] at h
    by_cases h1 : i < n
    · rw [if_pos h1] at h
      have e : i.toNat=j := uV h
      exact ⟨by rw [seqIndex_of h0 h1, e], by omega, by omega, h1⟩
    · rw [if_neg h1] at h;cases h
  · rw [if_neg h0] at h
    by_cases h1 : -(n : Int)≤i
    · rw [if_pos h1] at h
      have e : (i+n).toNat=j := uV h
      exact ⟨by rw [seqIndex_neg (by omega) h1, e], by omega, h1, by omega⟩
    · rw [if_neg h1] at h;cases h
theorem gK {α : Type}{xs : List α}{i : Int}{v : α}(h : atI xs i=some v) : ∃ j, seqIndex? i xs.length=some j ∧ xs[j]? = some v ∧ j < xs.length ∧ -(xs.length : Int)≤i ∧ i < xs.length := by
  unfold atI at h
  cases e : ixN xs.length i with
  | none => rw [e] at h;cases h
  | some j =>
    rw [e] at h
    obtain ⟨h1, h2, h3, h4⟩ := jE e
    exact ⟨j, h1, h, h2, h3, h4⟩
theorem b_ {α : Type}{xs : List α}{j : Nat}{v : α}(h : xs[j]? = some v) : atI xs (j : Int)=some v := by
  have hj : j < xs.length := (uJ.mp h).1
  have e : ixN xs.length (j : Int)=some j := by
    unfold ixN
    rw [if_pos (by omega), if_pos (by omega)];simp
  unfold atI;rw [e];exact h
theorem iz {α : Type}(xs : List α)(v : α) : atI (xs++[v]) (-1)=some v := by
  have hl : (xs++[v]).length=xs.length+1 := by simp
  have e : ixN (xs++[v]).length (-1)=some xs.length := by
    unfold ixN
    rw [hl, if_neg (by decide), if_pos (by omega)]
    congr 1
    omega
  unfold atI
  rw [e]
  show (xs++[v])[xs.length]? = some v
  simp
def n9 (b : Expr) : Prop := ∀ o i, subscripted b false o i=operate [o, i] (getItem o i)
def IxR (X : Cx)(r : R2) : Prop :=
  ∀ (value slice : Expr) (pins : List (Addr × Obj)) (s : Shared) (σ : St) (H : Hp) (x y : V) (v u : Value) (Q : VK), Inv X pins σ H s → bJ x v → bJ y u → r x y H Q →
    subscripted slice false v u=operate [v, u] (getItem v u) → wpAny (model X.prog X.w) X.A (subscriptTail value slice v u) (EP X pins σ Q) X.xe s
def MtR (X : Cx)(id : String)(r : V → List V → Hp → VK → Prop) : Prop :=
  ∀ (pins : List (Addr × Obj)) (s : Shared) (σ : St) (H : Hp) (x : V) (xs : List V) (v : Value) (us : List Value) (Q : VK), Inv X pins σ H s → bJ x v → bc xs us → r x xs H Q →
    wpAny (model X.prog X.w) X.A (call (.builtin id) (v::us)) (EP X pins σ Q) X.xe s
section
variable {X : Cx} {a b : Expr} {ta tb : TE} {pos : Pos}
theorem aR {r : R2}(hr : IxR X r)(ha : PE X a ta)(hb : PE X b tb)(hs : n9 b) : PE X (.Subscript a b pos) (tOp r ta tb) := by
  intro pins s σ H Q I h
  exact Subscript_ (r9 ha hb I h fun v u s2 x y H2 I2 rx ry q => hr a b pins s2 σ H2 x y v u Q I2 rx ry q (hs _ _))
inductive tD (K : PySem.W.Frag)(x : V)(y : V)(H : Hp)(Q : VK) : Prop
  | mk : ∀ p xs i v, (x = .ref p) → (y = .int i) → (SqL K H p xs) → (atI xs i=some v) → (Q v H) → tD K x y H Q
inductive tE (K : PySem.W.Frag)(x : V)(y : V)(H : Hp)(Q : VK) : Prop
  | mk : ∀ p xs i v, (x = .ref p) → (y = .int i) → (SqT K H p xs) → (atI xs i=some v) → (Q v H) → tE K x y H Q
inductive tF (x : V)(y : V)(H : Hp)(Q : VK) : Prop
  | mk : ∀ z i c, (x = .str z) → (y = .int i) → (z.length≤sizeLine) → (atI z.cps.toList i=some c) → (Q (.str ⟨#[c]⟩) H) → tF x y H Q
theorem aZ : IxR X (tD X.K) := by
  intro value slice pins s σ H x y v u Q I rx ry h hs
  obtain ⟨p, xs, i, z, rfl, rfl, hq, he, q⟩ := h
  cases rx
  obtain ⟨t, rfl⟩ := ry
  obtain ⟨its, r, pl, hz⟩ := I.list hq
  obtain ⟨j, h1, h2, h3, h4, h5⟩ := gK he
  obtain ⟨w, ew, rw'⟩ := r.get h2
  have hl := r.length
  have hn := dD
  have fin : EP X pins σ Q w s := ⟨z, H, I, rw', q⟩
  by_cases h0 : 0≤i
  · have hj : i.toNat=j := by
      rw [seqIndex_of h0 h5] at h1
      exact uV h1
    exact item_listR pl.isList h0 (by omega) (by rw [hj];simpa using ew) fin hs
  · have hj : (i+(its.toArray.size : Int)).toNat=j := by
      rw [seqIndex_neg (by omega) h4] at h1
      rw [uK, ← hl]
      exact uV h1
    exact subscriptTail_builtinR (x := w) pl.isList.typeIs slot_list_getitem.lookup
      (wpAny_getItem_list_neg (Q := fun r s' => r=w ∧ EP X pins σ Q r s') pl.isList (by omega) (by rw [uK] <;> omega) (by omega) (by rw [hj];simpa using ew) ⟨rfl, fin⟩) hs
theorem bo : IxR X (tE X.K) := by
  intro value slice pins s σ H x y v u Q I rx ry h hs
  obtain ⟨p, xs, i, z, rfl, rfl, hq, he, q⟩ := h
  cases rx
  obtain ⟨t, rfl⟩ := ry
  obtain ⟨its, r, pl, hz⟩ := I.tuple hq
  obtain ⟨j, h1, h2, h3, h4, h5⟩ := gK he
  obtain ⟨w, ew, rw'⟩ := r.get h2
  have hl := r.length
  have hn := dD
  have fin : EP X pins σ Q w s := ⟨z, H, I, rw', q⟩
  exact subscriptTail_builtinR (x := w) pl.typeIs slot_tuple_getitem.lookup
    (getItem_tuple (j := j) (Q := fun r s' => r=w ∧ EP X pins σ Q r s') pl (by omega) (by omega) (by rw [uK, ← hl];exact h1) (by simpa using ew) ⟨rfl, fin⟩) hs
theorem dG : IxR X tF := by
  intro value slice pins s σ H x y v u Q I rx ry h hs
  obtain ⟨z, i, c, rfl, rfl, hz, he, q⟩ := h
  obtain ⟨t, rfl⟩ := rx
  obtain ⟨t', rfl⟩ := ry
  obtain ⟨j, h1, h2, h3, h4, h5⟩ := gK he
  have hl : z.cps.toList.length=z.length := by simp [Str.length]
  rw [hl] at h1 h4 h5
  have hn := dD
  exact tail_any (zh s z t) slot_str_getitem.lookup (getItem_str (c := c) (by
    have e1 : decide (i < -(2 ^ 63 : Int))=false := uP (by omega)
    have e2 : decide (i≥2 ^ 63)=false := uP (by omega)
    rw [e1, e2, Bool.or_false]) (by rw [h1];simpa using h2) ⟨.str ⟨#[c]⟩, H, I.tok _, ⟨_, rfl⟩, q⟩) hs
theorem i9 (its : List Value)(n j : Nat)(u : Value) : Obj.mapSeq (·.setIfInBounds j u) { cls := .type "list", data := .seq its.toArray n }={ cls := .type "list", data := .seq (its.set j u).toArray n } := by
  simp [Obj.mapSeq]
theorem Inv.lst {pins : List (Addr × Obj)}{σ : St}{H : Hp}{s : Shared}{p : Addr}{xs : List V}(I : Inv X pins σ H s)(h : H p=some (.lst xs)) :
    ∃ (its : List Value) (n : Nat), bc xs its ∧ s.heap.get? p=some { cls := .type "list", data := .seq its.toArray n } ∧ xs.length≤sizeLine := by
  obtain ⟨z, its, n, r, e⟩ := I.hok p _ h
  exact ⟨its, n, r, e, z⟩
theorem Inv.lstUpd {pins : List (Addr × Obj)}{σ : St}{H : Hp}{s : Shared}{p : Addr}{xs ys : List V}{its its' : List Value}{n n' : Nat}{f : Obj → Obj}(I : Inv X pins σ H s)(h : H p=some (.lst xs))
    (ho : s.heap.get? p=some { cls := .type "list", data := .seq its.toArray n }) (hf : f { cls := .type "list", data := .seq its.toArray n }={ cls := .type "list", data := .seq its'.toArray n' }) (r : bc ys its') (hz : ys.length≤sizeLine) (t : Nat) :
    Inv X pins σ (upd H p (.lst ys)) { s with heap := s.heap.update p f, toks := t } := by
  have e : (s.heap.update p f).get? p=some { cls := .type "list", data := .seq its'.toArray n' } := by
    rw [Heap.get?_update_self f ho (by rw [hf] <;> rfl), hf]
  refine I.write (x := p) (e := p) (by rw [h];trivial) (.inl rfl) (fun b u hb q => (vq _ _ (Ne.symm hb)).trans q) ⟨_, e⟩ ?_
  exact ⟨hz, its', n', r, e⟩
inductive qa (o : V)(i : V)(v : V)(H : Hp)(Q : (Hp → Prop)) : Prop
  | mk : ∀ p xs k j, (o = .ref p) → (i = .int k) → (H p=some (.lst xs)) → (ixN xs.length k=some j) → (Q (upd H p (.lst (xs.set j v)))) → qa o i v H Q
theorem dQ : tm X qa := by
  intro pins s σ H o i v ov iv u Q I ro ri rv h
  obtain ⟨p, xs, k, j, rfl, rfl, hp, hj, q⟩ := h
  cases ro
  obtain ⟨t, rfl⟩ := ri
  obtain ⟨its, n, r, ho, hz⟩ := I.lst hp
  obtain ⟨h1, h2, h3, h4⟩ := jE hj
  have hl := r.length
  have hn := dD
  have I' : Inv X pins σ (upd H p (.lst (xs.set j v))) { s with heap := s.heap.update p (Obj.mapSeq (·.setIfInBounds j u)) } :=
    I.lstUpd hp ho (i9 its n j u) (r.set rv j) (by rw [List.length_set];exact hz) s.toks
  by_cases h0 : 0≤k
  · have hk : k.toNat=j := by
      rw [seqIndex_of h0 h4] at h1
      exact uV h1
    exact PySem.W.ki_setAt ho h0 (by omega) (by rw [uK, ← hl];exact h4) (by rw [hk];exact ⟨_, I', q⟩)
  · have hk : (k+(its.toArray.size : Int)).toNat=j := by
      rw [seqIndex_neg (by omega) h3] at h1
      rw [uK, ← hl]
      exact uV h1
    exact PySem.W.ki_setBack ho (by omega) (by rw [uK, ← hl];exact h3) (by omega) (by rw [hk];exact ⟨_, I', q⟩)
theorem fP (lo hi : Option Int)(n : Nat) : (sliceBounds lo hi none n).1=((HT.sIx n 0 lo : Nat) : Int) ∧ (sliceBounds lo hi none n).2.1=((HT.sIx n n hi : Nat) : Int) ∧ (sliceBounds lo hi none n).2.2=1 := by
  refine ⟨?_, ?_, rfl⟩
  · cases lo with
    | none => simp [sliceBounds, HT.sIx]
    | some i =>
      simp only [sliceBounds, HT.sIx, Option.getD_none, show (1 : Int) > 0 by decide, wj]
      by_cases h : i < 0
      · simp only [h, wj] <;> omega
      · simp only [h, vN] <;> omega
  · cases hi with
    | none => simp [sliceBounds, HT.sIx]
    | some i =>
      simp only [sliceBounds, HT.sIx, Option.getD_none, show (1 : Int) > 0 by decide, wj]
      by_cases h : i < 0
      · simp only [h, wj] <;> omega
      · simp only [h, vN] <;> omega
theorem fg (its : List Value)(lo hi : Option Int) : slicePick its.toArray lo hi none=((its.drop (HT.sIx its.length 0 lo)).take (HT.sIx its.length its.length hi - HT.sIx its.length 0 lo)).toArray := by
  obtain ⟨h1, h2, h3⟩ := fP lo hi its.toArray.size
  unfold slicePick
  rw [h1, h2, h3]
  simp only [sliceRange_one, pick_run, uK] <;> rfl
inductive tG (K : PySem.W.Frag)(x : V)(lo : Option Int)(hi : Option Int)(H : Hp)(Q : VK) : Prop
  | mk : ∀ a xs, (x = .ref a) → (SqL K H a xs) → (∀ p, H p=none → Q (.ref p) (upd H p (.lst (dF xs lo hi)))) → tG K x lo hi H Q
theorem jF : SlR X (tG X.K) := by
  intro pins s σ H x v vl vu lo hi sl Q I rx hs pl pu h
  obtain ⟨a, xs, rfl, hx, q⟩ := h
  cases rx
  obtain ⟨its, r, ht, hz⟩ := I.list hx
  have hlen := r.length
  refine ⟨"list", _, slot_list_getitem.lookup, ht.isList.typeIs, ?_⟩
  refine wpAny_getItem_list_slice ht.isList hs pl pu .none (by simp) ?_ (by rw [uK] <;> omega)
  rw [fg, ← hlen]
  refine ⟨.ref s.heap.objs.size, _, I.laid (t' := s.toks) (o := .lst (dF xs lo hi)) (fun b ob q => uC _ q) (uG _) ?_, rfl, q _ (I.hok.fresh (uG _))⟩
  exact ⟨vi (d3 xs lo hi) hz, _, 0, (r.drop (HT.sIx xs.length 0 lo)).take (HT.sIx xs.length xs.length hi - HT.sIx xs.length 0 lo), uN _ rfl⟩
def n_ : V → Bool
  | .non => true
  | .bl _ => true
  | .int _ => true
  | .str _ => true
  | _ => false
inductive cJ (K : PySem.W.Frag)(xs : List V)(H : Hp)(Q : VK) : Prop
  | mk : ∀ p ys, (xs=[.ref p]) → ((SqL K H p ys ∨ SqT K H p ys)) → (Q (.int ys.length) H) → cJ K xs H Q
theorem aq : cP X (.builtin "len") (cJ X.K) := by
  intro pins s σ H xs us Q I r h
  obtain ⟨p, ys, rfl, hq, q⟩ := h
  obtain ⟨u, rfl, rx⟩ := cQ r
  cases rx
  have hn := dD
  rcases hq with hq | hq
  · obtain ⟨its, r', pl, hz⟩ := I.list hq
    have hlen := r'.length
    exact Calls.call_len_list pl.isList (by simp only [uK] <;> omega) ⟨.int ys.length, H, I.tok _, ⟨s.toks+1, by rw [uK, hlen]⟩, q⟩
  · obtain ⟨its, r', pl, hz⟩ := I.tuple hq
    have hlen := r'.length
    exact len_tuple pl (by simp only [uK] <;> omega) ⟨.int ys.length, H, I.tok _, ⟨s.toks+1, by rw [uK, hlen]⟩, q⟩
inductive cK  (xs : List V)(H : Hp)(Q : VK) : Prop
  | mk : ∀ z, (xs=[.str z]) → (z.length≤sizeLine) → (Q (.int z.length) H) → cK xs H Q
theorem aJ : cP X (.builtin "len") cK := by
  intro pins s σ H xs us Q I r h
  obtain ⟨z, rfl, hz, q⟩ := h
  obtain ⟨u, rfl, t, rfl⟩ := cQ r
  have hn := dD
  exact len_str (by omega) ⟨.int z.length, H, I.tok _, ⟨_, rfl⟩, q⟩
inductive cL (K : PySem.W.Frag)(xs : List V)(H : Hp)(Q : VK) : Prop
  | mk : ∀ p ys, (xs=[.ref p]) → ((SqL K H p ys ∨ SqT K H p ys)) → (∀ l, H l=none → Q (.ref l) (upd H l (.lst ys))) → cL K xs H Q
theorem cw : cP X (.type "list") (cL X.K) := by
  intro pins s σ H xs us Q I r h
  obtain ⟨p, ys, rfl, hq, q⟩ := h
  obtain ⟨u, rfl, rx⟩ := cQ r
  cases rx
  have fin : ∀ (its : List Value), bc ys its → ys.length≤sizeLine → ∀ (h' : Heap) (c' : Nat), (∀ b o', s.heap.get? b=some o' → h'.get? b=some o') →
      h'.get? s.heap.objs.size=some { cls := .type "list", dict := none, data := .seq its.toArray c', slots := #[] } → EP X pins σ Q (.ref s.heap.objs.size) { s with heap := h' } := fun its r' hz h' c' kp e =>
    ⟨.ref s.heap.objs.size, _, I.laid (t' := s.toks) kp (uG _) (show bW X.prog X.w _ h' _ (.lst ys) from ⟨hz, its, c', r', e⟩), rfl, q _ (I.hok.fresh (uG _))⟩
  rcases hq with hq | hq
  · obtain ⟨its, r', pl, hz⟩ := I.list hq
    have hlen := r'.length
    obtain ⟨o, ho, hc, n, hd⟩ := pl.isList
    exact call_list_seq p (.inl rfl) ho hc hd (fun h' c' kp e => fin its r' hz h' c' kp e) (by simp only [uK] <;> omega)
  · obtain ⟨its, r', pl, hz⟩ := I.tuple hq
    have hlen := r'.length
    obtain ⟨o, ho, hc, n, hd⟩ := pl
    exact call_list_seq p (.inr rfl) ho hc hd (fun h' c' kp e => fin its r' hz h' c' kp e) (by simp only [uK] <;> omega)
inductive bM (K : PySem.W.Frag)(xs : List V)(H : Hp)(Q : VK) : Prop
  | mk : ∀ p ys, (xs=[.ref p]) → (((SqL K H p ys ∧ ∀ l, H l=none → Q (.ref l) (upd H l (.tup ys))) ∨ (SqT K H p ys ∧ Q (.ref p) H))) → bM K xs H Q
theorem cb : cP X (.type "tuple") (bM X.K) := by
  intro pins s σ H xs us Q I r h
  obtain ⟨p, ys, rfl, h⟩ := h
  obtain ⟨u, rfl, rx⟩ := cQ r
  cases rx
  rcases h with ⟨hq, q⟩ | ⟨hq, q⟩
  · obtain ⟨its, r', pl, hz⟩ := I.list hq
    have hlen := r'.length
    refine call_tuple_list pl.isList (fun h' kp => ?_) (by simp only [uK] <;> omega)
    have I1 : Inv X pins σ H { s with heap := h' } := I.kept (t' := s.toks) kp
    have I2 : Inv X pins σ (upd H h'.objs.size (.tup ys)) { s with heap := h'.push { cls := .type "tuple", data := .seq its.toArray } } :=
      I1.laid (t' := s.toks) (fun b o e => uC _ e) (uG _) (show bW X.prog X.w _ _ _ (.tup ys) from ⟨hz, its, r', IsTup.new _ _, .new _ _ rfl⟩)
    exact ⟨.ref h'.objs.size, _, I2, rfl, q _ (I1.hok.fresh (uG _))⟩
  · obtain ⟨its, r', pl, hz⟩ := I.tuple hq
    exact call_tuple_same pl ⟨.ref p, H, I, rfl, q⟩
def tyV (K : PySem.W.Frag)(T : String)(x : V)(H : Hp) : Prop := match x with
  | .str _ => T = "str"
  | .int _ => T = "int"
  | .ref p => (T = "list" ∧ ∃ xs, SqL K H p xs) ∨ (T = "tuple" ∧ ((∃ o, K.lookup p=some o ∧ o.cls = .type "tuple" ∧ o.dict=none) ∨ ∃ xs, H p=some (.tup xs))) ∨
      (T = "dict" ∧ ((∃ kvs, H p=some (.dK kvs)) ∨ ∃ kvs, H p=some (.dT kvs))) ∨ (T = "set" ∧ ∃ S n, H p=some (.set S n))
  | _ => False
theorem nj {pins : List (Addr × Obj)}{σ : St}{H : Hp}{s : Shared}{T : String}{x : V}{v : Value}(I : Inv X pins σ H s)(r : bJ x v)(ty : tyV X.K T x H) :
    s.TypeIs v T ∧ ∀ a, v = .ref a → ∃ ob, s.heap.get? a=some ob ∧ ob.dict=none := by
  cases x with
  | str z =>
    obtain ⟨t, rfl⟩ := r
    cases (show T = "str" from ty)
    exact ⟨zh s z t, fun _ e => nomatch e⟩
  | int i =>
    obtain ⟨t, rfl⟩ := r
    cases (show T = "int" from ty)
    exact ⟨typeIs_int s i t, fun _ e => nomatch e⟩
  | ref p =>
    cases r
    rcases ty with ⟨rfl, xs, hq⟩ | ⟨rfl, ⟨o, hk, hc, hd⟩ | ⟨xs, hk⟩⟩ | ⟨rfl, hk⟩ | ⟨rfl, S, n, hk⟩
    · obtain ⟨its, _, pl, _⟩ := I.list hq
      refine ⟨pl.isList.typeIs, fun a e => ?_⟩
      cases e
      obtain ⟨o, n, e, c, hd, _⟩ := pl
      exact ⟨o, e, hd⟩
    · refine ⟨⟨o, I.kIn p o hk, hc⟩, fun a e => ?_⟩
      cases e
      exact ⟨o, I.kIn _ o hk, hd⟩
    · obtain ⟨_, _, _, ⟨o, e, hc, _⟩, hn⟩ := I.hok p _ hk
      refine ⟨⟨o, e, hc⟩, fun a e => ?_⟩
      cases e
      exact hn
    · have z : ∃ o, s.heap.get? p=some o ∧ o.ExactDict := by
        rcases hk with ⟨kvs, hk⟩ | ⟨kvs, hk⟩
        · obtain ⟨_, _, _, _, o, _, _, e, ex, _⟩ := I.hok p _ hk
          exact ⟨o, e, ex⟩
        · obtain ⟨_, _, _, _, o, _, _, e, ex, _⟩ := I.hok p _ hk
          exact ⟨o, e, ex⟩
      obtain ⟨o, e, ex⟩ := z
      refine ⟨⟨o, e, ex.1⟩, fun a e2 => ?_⟩
      cases e2
      exact ⟨o, e, ex.2.1⟩
    · obtain ⟨o, _, _, _, e, ex, _⟩ := I.hok p _ hk
      refine ⟨⟨o, e, ex.1⟩, fun a e2 => ?_⟩
      cases e2
      exact ⟨o, e, ex.2.1⟩
  | _ => exact False.elim ty
def oa (K : PySem.W.Frag)(T : String)(r : V → List V → Hp → VK → Prop)(Q : VK) : V → Hp → Prop := fun x H1 => tyV K T x H1 ∧ r x [] H1 Q
def tH (K : PySem.W.Frag)(T : String)(r : V → List V → Hp → VK → Prop)(to : TE) : TE := fun σ H Q => to σ H (oa K T r Q)
def qb (r : V → List V → Hp → VK → Prop)(Q : VK)(x : V) : List V → Hp → Prop := fun xs H2 => r x xs H2 Q
def qc (K : PySem.W.Frag)(T : String)(r : V → List V → Hp → VK → Prop)(t : TA)(σ : St)(Q : VK) : V → Hp → Prop := fun x H1 => tyV K T x H1 ∧ t σ H1 (qb r Q x)
def tBM (K : PySem.W.Frag)(T : String)(r : V → List V → Hp → VK → Prop)(to : TE)(t : TA) : TE := fun σ H Q => to σ H (qc K T r t σ Q)
variable {o e : Expr} {es : List Expr} {to : TE} {t : TA} {name : Str} {apos cpos : Pos} {T id : String} {r : V → List V → Hp → VK → Prop}
theorem iA (pa : PlainAttrs T)(slot : Slot T name id)(hty : typeOf (.builtin id)=pure (.type "method_descriptor"))(hm : MtR X id r)(ho : PE X o to)
    (hbase : attributeBase o name X.env (eval o X.env)=eval o X.env := by rfl) (hline : (apos.endLine == cpos.line)=true := by rfl) : PE X (.Call (.Attribute o name apos) [] [] cpos) (tH X.K T r to) := by
  intro pins s σ H Q I h
  refine wpAny_Call_method0_late hbase hline (thn (ho pins s σ H _ I h) fun v s1 zq65 => ?_)
  obtain ⟨x, H1, I1, r1, ty, q1⟩ := zq65
  obtain ⟨h1, h2⟩ := nj I1 r1 ty
  exact ⟨T, id, pa, slot, hty, h1, h2, Calls.callWith_builtin rfl (PySem.evalArgs_none (hm pins s1 σ H1 x [] v [] Q I1 r1 .nil q1))⟩
theorem du (pa : PlainAttrs T)(slot : Slot T name id)(hty : typeOf (.builtin id)=pure (.type "method_descriptor"))(hm : MtR X id r)(ho : PE X o to)(ha : PA X (e::es) t)
    (hbase : attributeBase o name X.env (eval o X.env)=eval o X.env := by rfl)
    (hfew : ((backTo cpos (starEach (e::es) X.env)).all (fun x => !x.1) && (backToKw cpos (keywordEach [] X.env)).all (fun x => x.1.isSome)
      && decide ((e::es).length+([] : List Keyword).length+(if ([] : List Keyword).isEmpty then 0 else 1) < 30))=true := by rfl)
    (hline : (apos.endLine == cpos.line)=true := by rfl) (hs : starEach (e::es) X.env=(false, eval e X.env)::starEach es X.env := by rfl) (hplain : (backTo cpos (starEach es X.env)).any (·.1)=false := by rfl) :
    PE X (.Call (.Attribute o name apos) (e::es) [] cpos) (tBM X.K T r to t) := by
  intro pins s σ H Q I h
  refine wpAny_Call_method_late hbase hfew hline rfl (thn (ho pins s σ H _ I h) fun v s1 zq66 => ?_)
  obtain ⟨x, H1, I1, r1, ty, q1⟩ := zq66
  obtain ⟨h1, h2⟩ := nj I1 r1 ty
  refine ⟨T, id, pa, slot, hty, h1, h2, ?_⟩
  have hA := ha cpos pins s1 σ H1 _ I1 q1
  rw [hs] at hA ⊢
  refine Calls.callWith_builtin (by show (false || (backTo cpos (starEach es X.env)).any (·.1))=false;rw [hplain] <;> rfl) (Calls.evalArgs_plain ?_)
  exact thn hA fun us s2 zq67 => (by obtain ⟨vs, H2, I2, r2, q2⟩ := zq67;exact hm pins s2 σ H2 x vs v us Q I2 r1 r2 q2)
/- xs.append(e), list.index on a module's tuple .. are MtR facts of 06m -/
end
def MtM (X : Cx)(id : String)(r : V → List V → Hp → VK → Prop) : Prop :=
  ∀ (pins : List (Addr × Obj)) (s : Shared) (σ : St) (H : Hp) (x : V) (xs : List V) (v : Value) (us : List Value) (Q : VK), Inv X pins σ H s → bJ x v → bc xs us → r x xs H Q →
    wpAny (model X.prog X.w) X.A (call (.builtin id) (v::us)) (EP X pins σ Q) X.xe s
theorem bc.one : ∀ {x : V} {us : List Value}, bc [x] us → ∃ u, us=[u] ∧ bJ x u
  | _, _, .cons r .nil => ⟨_, rfl, r⟩
theorem bc.zero : ∀ {us : List Value}, bc [] us → us=[]
  | _, .nil => rfl
theorem bc.dropLast {xs : List V}{us : List Value}(h : bc xs us) : bc xs.dropLast us.dropLast := by
  induction h with
  | nil => exact .nil
  | cons r t ih =>
    cases t with
    | nil => exact .nil
    | cons q t' => exact .cons r ih
theorem bc.reverse {xs : List V}{us : List Value}(h : bc xs us) : bc xs.reverse us.reverse := by
  induction h with
  | nil => exact .nil
  | cons r t ih => rw [List.reverse_cons, List.reverse_cons];exact bc.append ih (.cons r .nil)
theorem i_ {α : Type}(l : List α) : l.eraseIdx (l.length - 1)=l.dropLast := by
  induction l with
  | nil => rfl
  | cons a r ih =>
    cases r with
    | nil => rfl
    | cons b r =>
      have e : (a::b::r).length - 1=((b::r).length - 1)+1 := by
        have h1 : (a::b::r).length=r.length+2 := rfl
        have h2 : (b::r).length=r.length+1 := rfl
        omega
      rw [e, List.eraseIdx_cons_succ, ih]
      all_goals rfl
theorem fQ (its : List Value) : ∀ (k : Nat) (acc : List Value),
    List.foldl (fun x1 x2 => x1++x2) acc.toArray (List.replicate k its.toArray)=(acc++(List.replicate k its).flatten).toArray
  | 0, acc => by simp
  | k+1, acc => by
    have e : acc.toArray++its.toArray=(acc++its).toArray := by simp
    have e2 : (acc++its)++(List.replicate k its).flatten=acc++(List.replicate (k+1) its).flatten := by
      rw [xj, v9, uO]
    rw [← e2, ← fQ its k (acc++its), ← e, xj, y8]
section
variable {X : Cx} {pins : List (Addr × Obj)} {σ : St} {H : Hp} {s : Shared} {l b : Addr} {xs ys zs : List V}
theorem Inv.lset {its its' : List Value}{n : Nat}{f : Array Value → Array Value}{t' : Nat}(I : Inv X pins σ H s)(hH : H l=some (.lst xs))
    (e : s.heap.get? l=some { cls := .type "list", data := .seq its.toArray n }) (hf : f its.toArray=its'.toArray) (hv : bc ys its') (hz : ys.length≤sizeLine) :
    Inv X pins σ (upd H l (.lst ys)) { s with heap := s.heap.update l (Obj.mapSeq f), toks := t' } := by
  have q := yS e f
  rw [hf] at q
  refine I.write (x := l) (e := l) (by rw [hH];exact trivial) (.inl rfl) (fun b' u hb hu => (vq s.heap (Obj.mapSeq f) (Ne.symm hb)).trans hu) ⟨_, q⟩ ?_
  exact ⟨hz, its', _, hv, q⟩
theorem Inv.lnew {its : List Value}{t' : Nat}(I : Inv X pins σ H s)(hv : bc ys its)(hz : ys.length≤sizeLine) :
    Inv X pins σ (upd H s.heap.objs.size (.lst ys)) { s with heap := s.heap.push { cls := .type "list", data := .seq its.toArray }, toks := t' } :=
  I.laid (fun _ _ q => uC _ q) (uG _) ⟨hz, its, 0, hv, uN _ rfl⟩
theorem Inv.fresh (I : Inv X pins σ H s) : H s.heap.objs.size=none := I.hok.fresh (uG _)
theorem Inv.lstM (I : Inv X pins σ H s)(hH : H l=some (.lst xs)) : xs.length≤sizeLine ∧ ∃ (its : List Value) (n : Nat), bc xs its ∧ xs.length=its.length ∧ s.heap.get? l=some { cls := .type "list", data := .seq its.toArray n } := by
  obtain ⟨z, its, n, r, e⟩ := I.hok l _ hH
  exact ⟨z, its, n, r, r.length, e⟩
theorem lO {n : Nat}(h : n≤sizeLine) : Builtin.List.listTooLong n=false := by
  unfold Builtin.List.listTooLong
  exact uP (by omega)
end
section
variable {X : Cx}
inductive jG (x : V)(vs : List V)(H : Hp)(Q : VK) : Prop
  | mk : ∀ l xs y, (x = .ref l) → (vs=[y]) → (H l=some (.lst xs)) → (xs.length < sizeLine) → (Q .non (upd H l (.lst (xs++[y])))) → jG x vs H Q
theorem cU : MtM X "list.append" jG := by
  intro pins s σ H x vs v us Q I rx rv h
  obtain ⟨l, xs, y, rfl, rfl, hH, hz, q⟩ := h
  cases rx
  obtain ⟨u, rfl, ru⟩ := rv.one
  obtain ⟨z, its, n, r, hl, e⟩ := I.lstM hH
  refine xp vR ⟨_, e, rfl⟩ x_ (xU _ _) (yA l its.toArray n u (by rw [uK];omega)) ⟨e, ?_⟩
  refine ⟨.non, _, I.lset (its' := its++[u]) hH e (by simp) (r.append (.cons ru .nil)) ?_, rfl, q⟩
  rw [uF, xK]
  omega
inductive jH (x : V)(vs : List V)(H : Hp)(Q : VK) : Prop
  | mk : ∀ l b xs zs, (x = .ref l) → (vs=[.ref b]) → (H l=some (.lst xs)) → (H b=some (.lst zs)) → (xs.length+zs.length≤sizeLine) → (Q .non (upd H l (.lst (xs++zs)))) → jH x vs H Q
theorem fS : MtM X "list.extend" jH := by
  intro pins s σ H x vs v us Q I rx rv h
  obtain ⟨l, b, xs, zs, rfl, rfl, hH, hB, hz, q⟩ := h
  cases rx
  obtain ⟨u, rfl, ru⟩ := rv.one
  cases ru
  obtain ⟨z, its, n, r, hl, e⟩ := I.lstM hH
  obtain ⟨z2, its2, n2, r2, hl2, e2⟩ := I.lstM hB
  have hsz : its.toArray.size+its2.toArray.size≤sizeLine := by rw [uK, uK];omega
  have hlong : ¬ (!its.toArray.isEmpty && Builtin.List.listTooLong (its.toArray.size+its2.toArray.size))=true := by
    rw [lO hsz, zd]
    exact u5
  refine xp F.slot_list_extend ⟨_, e, rfl⟩ F.entry_list_extend (F.args_list_extend_2 _ _)
    (AutoSeq1.list_extend_list_list_0 l its.toArray n b its2.toArray n2 hlong (by rw [uK];omega) (by omega)) ⟨e, e2, ?_⟩
  refine ⟨.non, _, I.lset (its' := its++its2) hH e (by simp) (r.append r2) ?_, rfl, q⟩
  rw [uF]
  omega
inductive tI (x : V)(vs : List V)(H : Hp)(Q : VK) : Prop
  | mk : ∀ l xs y, (x = .ref l) → (vs=[]) → (H l=some (.lst xs)) → (xs[xs.length - 1]? = some y) → (Q y (upd H l (.lst xs.dropLast))) → tI x vs H Q
theorem qd : MtM X "list.pop" tI := by
  intro pins s σ H x vs v us Q I rx rv h
  obtain ⟨l, xs, y, rfl, rfl, hH, hy, q⟩ := h
  cases rx
  have hus := rv.zero
  subst hus
  obtain ⟨z, its, n, r, hl, e⟩ := I.lstM hH
  obtain ⟨u, hu, ru⟩ := r.get hy
  have hy' : its.toArray[its.toArray.size - 1]? = some u := by
    show its.toArray[its.length - 1]? = some u
    rw [← vo, ← hl]
    exact hu
  refine xp F.slot_list_pop ⟨_, e, rfl⟩ F.entry_list_pop (F.args_list_pop_1 _) (MeetsSeq.list_pop_last l its.toArray n u hy' (by rw [uK];omega)) ⟨e, ?_⟩
  refine ⟨y, _, I.lset (its' := its.dropLast) hH e ?_ r.dropLast ?_, ru, q⟩
  · show its.toArray.eraseIdxIfInBounds (its.toArray.size - 1)=its.dropLast.toArray
    rw [uK, List.eraseIdxIfInBounds_toArray, i_]
  · rw [List.length_dropLast]
    omega
inductive tJ (x : V)(y : V)(H : Hp)(Q : VK) : Prop
  | mk : ∀ l b xs zs, (x = .ref l) → (y = .ref b) → (H l=some (.lst xs)) → (H b=some (.lst zs)) → (xs.length+zs.length≤sizeLine) → (∀ p, H p=none → Q (.ref p) (upd H p (.lst (xs++zs)))) → tJ x y H Q
theorem nk : OpR X (binaryOp .Add) tJ := by
  intro pins s σ H x y v u Q I rx ry h
  obtain ⟨l, b, xs, zs, rfl, rfl, hH, hB, hz, q⟩ := h
  cases rx
  cases ry
  obtain ⟨z, its, n, r, hl, e⟩ := I.lstM hH
  obtain ⟨z2, its2, n2, r2, hl2, e2⟩ := I.lstM hB
  refine PySem.P.add_list e e2 ?_ (by rw [uK, uK];omega)
  have ea : its.toArray++its2.toArray=(its++its2).toArray := by simp
  rw [ea]
  exact ⟨.ref _, _, I.lnew (t' := s.toks) (r.append r2) (by rw [uF];omega), rfl, q _ I.fresh⟩
end
section
variable {prog : Program} {w : World} {A : Around} {E : Value → Shared → Prop} {s : Shared}
end
section
variable {X : Cx}
end
section
variable {κ : Type} [DecidableEq κ]
def rG (kvs : List (κ × V))(k : κ)(v : V) : List (κ × V) :=
  if (kvs.any fun kv => decide (kv.1=k))=true then kvs.map (fun kv => if kv.1=k then (kv.1, v) else kv) else kvs++[(k, v)]
end
section
variable {P : Program} {w : World} {H : Hp} {h : Heap} {a : Addr}
end
def rH (H : Hp)(a : Addr)(y v : V)(H' : Hp) : Prop :=
  (∃ kvs k, H a=some (.dK kvs) ∧ y=kV k ∧ kvs.length < sizeLine ∧ H'=upd H a (.dK (rG kvs k v))) ∨
  ∃ kvs k b, H a=some (.dT kvs) ∧ y = .ref b ∧ H b=some (.tup (k.map kV)) ∧ kvs.length < sizeLine ∧ H'=upd H a (.dT (rG kvs k v))
theorem rH.k {H : Hp}{a : Addr}{kvs : List (Key × V)}{k : Key}{v : V}(e : H a=some (.dK kvs))(hl : kvs.length < sizeLine) : rH H a (kV k) v (upd H a (.dK (rG kvs k v))) := .inl ⟨kvs, k, e, rfl, hl, rfl⟩
section
variable {X : Cx} {pins : List (Addr × Obj)} {σ : St} {H : Hp} {s : Shared} {a : Addr} {y v : V} {u r : Value} {o : Option V} {A : Around} {E : Value → Shared → Prop}
end
section
variable {X : Cx} {pins : List (Addr × Obj)} {σ : St} {H : Hp} {s : Shared} {a : Addr} {kvs : List (Key × V)} {k : Key} {u : Value} {A : Around} {E : Value → Shared → Prop}
end
section
variable {X : Cx} {o i e value : Expr} {pos pos' tpos : Pos} {td ty tv : TE}
end
section
variable {X : Cx} {pos : Pos}
end
section
variable {X : Cx} {pins : List (Addr × Obj)} {σ : St} {H : Hp} {s : Shared} {a : Addr} {y d : V} {u r : Value} {o : Option V} {A : Around} {E : Value → Shared → Prop}
end
section
variable {X : Cx} {o e f : Expr} {apos cpos : Pos} {td ty tx : TE}
end
section
variable {X : Cx} {pins : List (Addr × Obj)} {σ : St} {H : Hp} {s : Shared} {a : Addr} {kvs : List (Key × V)} {A : Around} {E : Value → Shared → Prop}
end
section
variable {X : Cx} {pins : List (Addr × Obj)} {σ : St} {H : Hp} {s : Shared} {a : Addr} {y : V} {u : Value} {A : Around} {E : Value → Shared → Prop}
end
end L2
namespace Att
open PySem PySem.W PySem.Calls PyProof.Rows
theorem d6 {P : Params}{h : Heap} : ∀ (ns : List Int) (vs : List Value), WellAll P h vs (ns.map WData.int) → IntsAre vs ns := by
  intro ns
  induction ns with
  | nil =>
    intro vs w
    rw [zi] at w
    cases w
    exact .nil
  | cons n ns ih =>
    intro vs w
    rw [vV] at w
    cases w with
    | cons a b =>
      cases a
      exact .cons _ _ (ih _ b)
theorem jI {l : OpenLaw}{n : Nat}(hn : l.most=some n){P : Params}{h : Heap}{args : List WData}{vals : List Value}
    (hpre : l.row.toRowW.claim.pre args=true) (hwl : WellAll P h vals args) :
    ∃ a vs ns, vals=[Value.ref a] ∧ args=[WData.list (ns.map WData.int)] ∧ h.get? a=some { cls := .type "list", data := .seq vs.toArray } ∧ IntsAre vs ns ∧ ns.length≤n := by
  have hsh : WShape.hasAll [] args [.list .int]=true := (pre_splitW hpre).1
  have hc : l.pre.holds [] { args := args }=true := (pre_splitW hpre).2
  obtain ⟨d, r, rfl, h1, h2⟩ := hasAllW_cons hsh
  obtain rfl := hasAllW_nil h2
  obtain ⟨xs, rfl, h3⟩ := hasW_list h1
  obtain ⟨ns, rfl⟩ := items_int h3
  have hlen : ns.length≤n := by
    unfold OpenLaw.pre at hc
    have h4 : (WTm.not (.lt (.lit (.int (n : Int))) (.len (.arg 0)))).holds [] { args := [.list (ns.map .int)] }=true := by
      have h4 := (holds_andW hc).1
      rw [hn] at h4
      exact h4
    have h5 := condW_of h4 (w_not (w_lt w_lit (w_len_list (w_arg rfl))))
    rw [uD] at h5
    refine Nat.le_of_not_lt fun q => ?_
    have q' : (n : Int) < ((ns.length : Nat) : Int) := by omega
    first
      | (rw [va q'] at h5;exact absurd h5 (by decide))
      | (simp at h5;omega)
  cases hwl with
  | cons w1 w2 =>
    cases w2
    cases w1 with
    | list ho hall => exact ⟨_, _, ns, rfl, rfl, ho, d6 ns _ hall, hlen⟩
theorem jJ (l : OpenLaw)(args : List WData) : l.row.toRowW.claim.post args (.bool true) args=true :=
  postW_of (r := l.row.toRowW) (X := (true == true))
    (show WShape.has [] (.bool true) .bool=true by first | rfl | decide | simp [WShape.has, WShape.arms, WShape.armsAll])
    (show (WTm.eq .res (.lit (.bool true))).value [] { args := args, res := some (.bool true), after := args }=some (.bool (true == true)) from w_eq_bool (w_res rfl) w_lit) rfl
theorem attach_call {l : OpenLaw}{n : Nat}{q : Program}{loose : List Str}{XP : (Str → Option Value) → Heap → Prop}{YP : World → Heap → Prop}{d : DefRec}
    (hn : l.most=some n) (hdf : d.params.defaults=[])
    (call : ∀ (w : World) (s₀ s₁ : Shared) (mg mb : Str → Option Value) (fa : Addr) (o : Obj) (pm cd doc : Value) (a : Addr) (vs : List Value) (ns : List Int),
      Ground q loose [] XP w s₀ mg mb s₁.heap → YP w s₁.heap →
      s₁.heap.get? fa=some o → o.data = .func (docDef d.name d.params d.body d.scope pm cd doc) → s₁.heap.CodeRec cd d.name → mg d.name=some (.ref fa) →
      s₁.heap.get? a=some { cls := .type "list", data := .seq vs.toArray } → IntsAre vs ns → ns.length≤n → s₁.gens=#[] →
      codeAny (model l.prog w) callerA (.call (.ref fa) ⟨[.ref a], []⟩) (fun r s' => r = .ok (.ret (.bool true)) ∧ OldK s₁.heap s'.heap ∧ s'.os=s₁.os ∧ AllBare s'.gens) s₁) :
    WalkO q loose XP YP l.row.toRowW d [] (fun f vs => PySem.call f vs) := by
  intro w s₀ s₁ mg mb G Y fa o pm cd doc dV kV ho hd hcd hD hmg hg args vals as hpre hlay hrd hwl hlo
  obtain rfl : dV = .none := Dflts.none hD hdf
  obtain rfl : kV = .none := Dflts.noKw hD
  obtain ⟨a, vs, ns, rfl, rfl, hobj, hints, hlen⟩ := jI hn hpre hwl
  refine enter_call (codeAny_mono (call w s₀ s₁ mg mb fa o pm cd doc a vs ns G Y ho (fd_plain hd) hcd hmg hobj hints hlen hg) fun r s' hq => ?_)
  obtain ⟨rfl, h2, h3, h4⟩ := hq
  exact ⟨.inl ⟨.bool true, .bool true, [], rfl, fun _ => rfl, .bool true, jJ l _, fun _ => ⟨List.Pairwise.nil, fun _ hm => (nomatch hm)⟩⟩, h2, h3, h4⟩
section
variable {prog : Program} {w : World} {A : Around} {E : Value → Shared → Prop} {s : Shared} {K : Frag}
end
end Att
namespace L2
open PySem PySem.Spec PyProof.Rows
theorem fT : ∀ {vs : List Value} {ns : List Int}, IntsAre vs ns → bc (ns.map V.int) vs
  | _, _, .nil => .nil
  | _, _, .cons n t h => .cons ⟨t, rfl⟩ (fT h)
def sj (H : Hp) : Prop := ∀ b, H b=none ∨ ∃ o xs, H b=some (.frz o (.lst xs))
theorem lP {P : Program}{w : World}{K : PySem.W.Frag}{mg mb : Str → Option Value}{CX : CXT}{k : Nat}{fa a : Addr}{fd : FuncData}{x : Str}{sp : Sp}{s₁ : Shared}{vs : List Value}{ns : List Int}
    (KX : K.In s₁.heap) (hns : s₁.heap.Ns mainGlobals mg) (hb : s₁.heap.Ns builtinsNs mb) (hbb : ∀ x : Str, x ≠ "__name__" → mb x=bootBuiltins x) (hlim : s₁.heap.NoLimit) (hg : s₁.gens=#[])
    (ha : s₁.heap.get? a=some { cls := .type "list", data := .seq vs.toArray }) (hi : IntsAre vs ns) (hl : ns.length≤sizeLine) (hr : eS k callerA)
    (F : ∀ base : Heap, K.In base → base.Ns mainGlobals mg → lj P w K mg base CX k fa fd [x] sp) (hbind : ∀ (s : Shared) (u : Value), BindsTo s fd ⟨[u], []⟩ [(x, u)])
    (hsp : ∀ H : Hp, sj H → SqL K H a (ns.map V.int) → sp [.ref a] H (fun v _ => v = .bl true) fun _ _ _ => False)
    (hCX : ∀ H e s', CX [] H s₁ (fun _ _ _ => False) e s' → False) :
    codeAny (model P w) callerA (.call (.ref fa) ⟨[.ref a], []⟩) (fun r s' => r = .ok (.ret (.bool true)) ∧ OldK s₁.heap s'.heap ∧ s'.os=s₁.os ∧ AllBare s'.gens) s₁ := by
  have rv := fT hi
  have lenV := hi.length
  -- from an abstract heap in which nothing but the script may be tracked
  have core : ∀ H : Hp, sj H → SqL K H a (ns.map V.int) → HOk P w H s₁.heap → (∀ b, H b≠none → b=a) → (H a≠none → K.lookup a=none) →
      codeAny (model P w) callerA (.call (.ref fa) ⟨[.ref a], []⟩) (fun r s' => r = .ok (.ret (.bool true)) ∧ OldK s₁.heap s'.heap ∧ s'.os=s₁.os ∧ AllBare s'.gens) s₁ := by
    intro H hO hS hok hA hK
    have base_of : ∀ {b : Addr} {o : Obj}, s₁.heap.get? b=some o → H b=none → (lq s₁.heap H).get? b=some o := fun e n => lu e n
    have noA : ∀ {b : Addr} {o : Obj} {es : Array DictEntry} {ep : Nat}, s₁.heap.get? b=some o → o.data = .dict es ep → H b=none := fun {b o es ep} e d => by
      cases q : H b with
      | none => rfl
      | some u =>
        have e' : b=a := hA b (by rw [q];simp)
        subst e'
        rw [ha] at e;cases e
        have d' : Data.seq vs.toArray _=Data.dict es ep := d
        cases d'
    have nsK : ∀ {b : Addr} {m : Str → Option Value}, s₁.heap.Ns b m → (lq s₁.heap H).Ns b m := fun {b m} ⟨o, es, ep, e, d, r⟩ => ⟨o, es, ep, base_of e (noA e d), d, r⟩
    have hKb : K.In (lq s₁.heap H) := fun b o e => base_of (KX b o e) (by
      cases q : H b with
      | none => rfl
      | some u =>
        have e' : b=a := hA b (by rw [q];simp)
        subst e'
        rw [hK (by rw [q];simp)] at e;cases e)
    have hM : Mod K mg (lq s₁.heap H) := ⟨hKb, nsK hns, ⟨mb, nsK hb, hbb⟩, let ⟨mc, h1, h2⟩ := hlim;⟨mc, nsK h1, h2⟩⟩
    have e0 : rF P w K mg (lq s₁.heap H) callerA [] s₁ H := ⟨rfl, hM, fun b o e => nK e, Nat.le_of_eq (jl _ _), trivial, fun b hb => absurd (show b∈([] : List Addr) from hb) (by simp), hok, .of_eq hg⟩
    refine codeAny_mono ((F _ hKb (nsK hns)).run callerA [] s₁ H ⟨[.ref a], []⟩ [.ref a] [.ref a] _ _ hr e0 (hbind s₁ (.ref a)) (.cons rfl .nil) (hsp H hO hS)) fun r s' h => ?_
    cases r with
    | error e => exact (hCX H e s' h).elim
    | ok fl =>
      cases fl with
      | next => exact False.elim h
      | brk => exact False.elim h
      | cont => exact False.elim h
      | ret u =>
        obtain ⟨v, H', os, bare, un, hok', r', q⟩ := h
        have q' : v = .bl true := q
        subst q'
        obtain rfl : u=Value.bool true := r'
        refine ⟨rfl, OldK.of_keep fun b o e => ?_, os, bare⟩
        cases q : H b with
        | none => exact un.keep b o e q (by intro z;exact absurd (show b∈([] : List Addr) from z) (by simp)) (by simp)
        | some u =>
          rcases hO b with z | ⟨ob, xs, z⟩
          · rw [q] at z;cases z
          · have z2 := un.frzs b ob _ z
            obtain ⟨e1, _⟩ := hok b _ z
            obtain ⟨e2, _⟩ := hok' b _ z2
            rw [e] at e1;cases e1
            exact e2
  cases hk : K.lookup a with
  | some o =>
    -- the script is one of the module's own objects
    have e := KX a o hk
    rw [ha] at e
    cases e
    refine core (fun _ => none) (fun _ => .inl rfl) (.inr ⟨_, vs.toArray, _, hk, rfl, rfl, rfl, by rw [uK, lenV];exact hl, by simpa using rv⟩) (fun b u z => by have z' : (none : Option HO)=some u := z;cases z') (fun b z => absurd rfl z) fun z => absurd rfl z
  | none =>
    refine core (fun b => if b=a then some (.frz { cls := .type "list", data := .seq vs.toArray } (.lst (ns.map V.int))) else none) (fun b => ?_) (.inl (.inr ⟨{ cls := .type "list", data := .seq vs.toArray }, if_pos rfl⟩)) (fun b u z => ?_) (fun b z => ?_) fun _ => hk
    · by_cases hb : b=a
      · exact .inr ⟨_, _, if_pos hb⟩
      · exact .inl (if_neg hb)
    · by_cases hb : b=a
      · have z' := (if_pos hb).symm.trans z
        cases z'
        subst hb
        exact ⟨ha, by rw [uD];exact hl, vs, _, rv, ha⟩
      · have z' := (if_neg hb).symm.trans z
        cases z'
    · by_cases hb : b=a
      · exact hb
      · exact absurd (if_neg hb) z
theorem jK {l : PySem.W.OpenLaw}{n k : Nat}{q : Program}{loose : List Str}{XP : (Str → Option Value) → Heap → Prop}{YP : World → Heap → Prop}{d : DefRec}{K : Params → PySem.W.Frag}{CX : World → CXT}{sp : World → Sp}{x : Str}
    (hn : l.most=some n) (hn2 : n≤sizeLine) (hdf : d.params.defaults=[]) (hr : eS k callerA)
    (hY : ∀ (w : World) (h : Heap), YP w h → (K w.params).In h)
    (F : ∀ (w : World) (mg : Str → Option Value) (fa : Addr) (h : Heap), (K w.params).In h → h.Ns mainGlobals mg → mg d.name=some (.ref fa) →
      ∃ fd : FuncData, (∀ (s : Shared) (u : Value), BindsTo s fd ⟨[u], []⟩ [(x, u)]) ∧
        ∀ base : Heap, (K w.params).In base → base.Ns mainGlobals mg → lj l.prog w (K w.params) mg base (CX w) k fa fd [x] (sp w))
    (hsp : ∀ (w : World) (H : Hp) (a : Addr) (ns : List Int), ns.length≤n → sj H → SqL (K w.params) H a (ns.map V.int) → sp w [.ref a] H (fun v _ => v = .bl true) fun _ _ _ => False)
    (hCX : ∀ (w : World) (H : Hp) (s : Shared) (e : Value) (s' : Shared), CX w [] H s (fun _ _ _ => False) e s' → False) :
    PySem.W.WalkO q loose XP YP l.row.toRowW d [] (fun f vs => PySem.call f vs) := by
  refine Att.attach_call hn hdf fun w s₀ s₁ mg mb fa o pm cd doc a vs ns G Y ho hd hcd hmg hobj hints hlen hg => ?_
  have KX := hY w _ Y
  obtain ⟨fd, hb, hF⟩ := F w mg fa _ KX G.T.g hmg
  exact lP KX G.T.g G.T.b G.T.builtins G.T.nolimit hg hobj hints (vi hlen hn2) hr hF hb (fun H hO hS => hsp w H a ns hlen hO hS) fun H e s' => hCX w H s₁ e s'
end L2
/- THE LAST THEOREM (shape;LID, My.* are yours):
   My.Adr: a structure of the addresses that your layer names (classes, functions);My.Txt K t: a structure (Prop) of the equations over K;
   My.txt_mk : {K} {implicit addresses ..} (e1 : nsIn K mainGlobals "law" = some (some (.ref f))) (e2 : K.lookup f=some ⟨oc, od, .func (fnOf "law" "law" params body scope dV kV doc pm an cdv ct), sl⟩) (e3 : codeIn K cdv "law" = true) .. : ∃ t, My.Txt K t
set_option maxRecDepth 100000 in
set_option maxHeartbeats 0 in
theorem PySem.Challenge.cw_LID_holds : PySem.Challenge.rw_LID.Holds := by
  w_on;o_law;k_head;(case hw => w_witness2)
  k_fill
  refine L2.jK (l := PySem.Challenge.rw_LID) (n := 63) (k := 40) (x := "script") (CX := fun w => ..) (sp := fun _ => My.sp_law) rfl (by decide) rfl ⟨rfl, by decide, by decide⟩ (fun w h Y => PySem.W.kIn_of Y) ?F ?S ?C
  case F =>
    intro w mg fa h KX G hmg
    have T : ∃ t, My.Txt (L2.KOf KX) t := by
      dsimp only [L2.KOf]                          -- K must stand as «<heap const> w.params» for k_is
      refine' My.txt_mk ?e1 ?e2 ?e3 ..
      (case e1 => PySem.W.k_is)                    -- in the order: a name -> its address -> its object -> its parts
      (case e2 => PySem.W.k_is)
      ..
    obtain ⟨t, T⟩ := T
    have e0 := hmg.symm.trans (yJ KX G T.law)
    cases e0                                       -- fa is the law's own address
    exact ⟨_, fun s u => .of_eq rfl, fun base kb nb => My.law_fn T kb nb⟩     -- if «.of_eq rfl» comes too early: refine' ⟨_, ?b, fun base kb nb => My.law_fn T kb nb⟩;exact fun s u => .of_eq rfl
  case S => exact fun w H a ns hl hO hS => ..
  case C => exact ..
(the tactic k_is has no namespace: write k_is) -/
namespace L2
open PySem PySem.Spec PyProof.Rows
def aI (s : Stmt) : Arguments := match s with
  | .FunctionDef _ a _ _ _ _ _ _ _ _ => a
  | _ => { posonlyargs := [], args := [], vararg := none, kwonlyargs := [], kw_defaults := [], kwarg := none, defaults := [] }
def aH (s : Stmt) : List Stmt := match s with
  | .FunctionDef _ _ b _ _ _ _ _ _ _ => b
  | _ => []
def ai (s : Stmt) : Scope := match s with
  | .FunctionDef _ _ _ _ _ _ sc _ _ _ => sc
  | _ => { kind := .function, names := [], isGenerator := false, isCoroutine := false }
abbrev CX0 : CXT := fun _ _ _ _ _ _ => False
abbrev E0 : XK := fun _ _ _ => False
theorem sk {X : Cx} : jA CX0 X E0 := fun _ _ _ _ _ _ _ h => h.elim
structure Fun (K : PySem.W.Frag) (x qual : Str) (st : Stmt) (f : Addr) (fd : FuncData) : Prop where
  ex : ∃ (oc : Value) (od : Option Addr) (kV doc pm : Value) (an : Option Addr) (cdv ct : Value) (osl : Array (Option Value)),
    fd=PySem.W.fnOf x qual (aI st) (aH st) (ai st) .none kV doc pm an cdv ct ∧ K.lookup f=some ⟨oc, od, .func fd, osl⟩ ∧ PySem.W.codeIn K cdv qual=true
  kp : PySem.W.keepIn K (.ref f)=true
section
variable {P : Program} {w : World} {K : PySem.W.Frag} {mg : Str → Option Value} {base : Heap}
theorem Fun.ok {x qual : Str}{st : Stmt}{f : Addr}{fd : FuncData}{N ps : List Str}{k : Nat}{sp : Sp}(F : Fun K x qual st f fd)(S : aN N ps (ai st))(len : ∀ vs H Q E, sp vs H Q E → vs.length=ps.length)
    (hbody : ∀ (cdv : Value) (A : Around) (outer : List Env) (s : Shared) (H : Hp) (vs : List V) (Q : VK) (E : XK), eS k (A.deeper (envOfC qual (ai st) s.heap.objs.size f cdv)) → sp vs H Q E →
      ∃ t, PSs (nX CX0 P w K mg base N qual (ai st) f cdv A outer s H E).nox (aH st) t ∧ t { nx := fun _ H' => Q .non H', rt := Q } (start N vs) H) : lj P w K mg base CX0 (k+1) f fd ps sp := by
  obtain ⟨oc, od, kV, doc, pm, an, cdv, ct, osl, rfl, lk, hcd⟩ := F.ex
  refine sh lk hcd S len fun A outer s H vs Q E hr hsp => ?_
  obtain ⟨t, h, q⟩ := hbody cdv A outer s H vs Q E hr hsp
  exact ⟨t, h.nox, q⟩
theorem Fun.binds {x qual : Str}{st : Stmt}{f : Addr}{fd : FuncData}{ps : List Str}(F : Fun K x qual st f fd)
    (h : ∀ (kV doc pm : Value) (an : Option Addr) (cdv ct : Value) (us : List Value), us.length=ps.length → bindArgs (PySem.W.fnOf x qual (aI st) (aH st) (ai st) .none kV doc pm an cdv ct) ⟨us, []⟩=pure (ps.zip us)) : i6 K fd ps [] := by
  obtain ⟨oc, od, kV, doc, pm, an, cdv, ct, osl, rfl, lk, hcd⟩ := F.ex
  exact .all (h kV doc pm an cdv ct)
theorem nq {x qual : Str}{st : Stmt}{f : Addr}{oc : Value}{od an : Option Addr}{osl : Array (Option Value)}{kV doc pm cdv ct : Value}(l : K.lookup f=some ⟨oc, od, .func (PySem.W.fnOf x qual (aI st) (aH st) (ai st) .none kV doc pm an cdv ct), osl⟩)
    (c : PySem.W.codeIn K cdv qual=true) (k : PySem.W.keepIn K (.ref f)=true) : Fun K x qual st f (PySem.W.fnOf x qual (aI st) (aH st) (ai st) .none kV doc pm an cdv ct) := ⟨⟨oc, od, kV, doc, pm, an, cdv, ct, osl, rfl, l, c⟩, k⟩
end
theorem sq {A : Around}{k : Nat}(hr : eS k A) : A.units+1 < cLine := Nat.lt_of_le_of_lt (Nat.add_le_add_left (by decide : 1≤64) _) hr.units
section
variable {X : Cx}
theorem pv (i : Nat){x : Str}{pos : Pos}(hN : X.N[i]? = some x := by rfl)(hv : Vis X.env.scope x := by first | exact Or.inl rfl | exact Or.inr (Or.inl rfl) | exact Or.inr (Or.inr rfl))(hd : (x == ("__debug__" : Str))=false := by decide)
    (hcd : (x == ("__classdict__" : Str))=false := by decide) : PE X (.Name x pos) (rP i) := pK hN hv hd hcd
end
theorem lQ {A B : Prop}(h : B) : if false=true then A else B := by
  rw [if_neg u5]
  exact h
theorem nu {A B : Prop}(h : A) : if true=true then A else B := by
  rw [if_pos rfl]
  exact h
theorem dR {c A B : Prop}[Decidable c](h1 : c → A)(h2 : ¬ c → B) : if c then A else B := by
  by_cases h : c
  · rw [if_pos h]
    exact h1 h
  · rw [if_neg h]
    exact h2 h
theorem su {c A B : Prop}[Decidable c](hc : c)(h : B) : if (!decide c)=true then A else B := by
  rw [va hc]
  exact lQ h
def au (H H' : Hp) : Prop := ∀ b o, H b=some o → H' b=some o
theorem au.refl (H : Hp) : au H H := fun _ _ h => h
theorem au.trans {H H1 H2 : Hp}(a : au H H1)(b : au H1 H2) : au H H2 := fun c o h => b c o (a c o h)
section
variable {κ : Type} [DecidableEq κ]
end
end L2
namespace L2
open PySem PySem.Spec PyProof.Rows
def iB (cells : List (Str × Addr)) : List (Str × NameKind) → List (Str × Addr) → List (Str × Addr)
  | [], acc => acc
  | (x, k)::r, acc => if k == NameKind.free then iB cells r ((x, (cells.lookup x).getD 0)::acc) else iB cells r acc
theorem fh {cells : List (Str × Addr)}{p : Str × Addr} : ∀ {names : List (Str × NameKind)} {acc : List (Str × Addr)}, p∈iB cells names acc → p∈acc ∨ ((p.1, NameKind.free)∈names ∧ p.2=(cells.lookup p.1).getD 0)
  | [], _, h => .inl h
  | (x, k)::r, acc, h => by
    unfold iB at h
    by_cases hk : (k == NameKind.free)=true
    · rw [if_pos hk] at h
      have ek : k=NameKind.free := by simpa using hk
      subst ek
      rcases fh h with h | ⟨h, e⟩
      · rcases u4.mp h with h | h
        · subst h
          exact .inr ⟨vf, rfl⟩
        · exact .inl h
      · exact .inr ⟨u6 _ h, e⟩
    · rw [if_neg hk] at h
      rcases fh h with h | ⟨h, e⟩
      · exact .inl h
      · exact .inr ⟨u6 _ h, e⟩
theorem fi {cells : List (Str × Addr)}{p : Str × Addr} : ∀ {names : List (Str × NameKind)} {acc : List (Str × Addr)}, p∈acc → p∈iB cells names acc
  | [], _, h => h
  | (x, k)::r, acc, h => by
    unfold iB
    split
    · exact fi (u6 _ h)
    · exact fi h
theorem fj {cells : List (Str × Addr)}{x : Str} : ∀ {names : List (Str × NameKind)} {acc : List (Str × Addr)}, (x, NameKind.free)∈names → (x, (cells.lookup x).getD 0)∈iB cells names acc
  | [], _, h => by simp at h
  | (y, k)::r, acc, h => by
    unfold iB
    rcases u4.mp h with h | h
    · have e1 : x=y := vz Prod.fst h
      have e2 : NameKind.free=k := vz Prod.snd h
      subst e1 e2
      rw [if_pos (by simp)]
      exact fi vf
    · split
      · exact fj h
      · exact fj h
theorem cV {x : Str}{c : Addr} : ∀ {l : List (Str × Addr)}, (x, c)∈l → ∃ d, l.lookup x=some d
  | [], h => by simp at h
  | (y, d)::r, h => by
    rw [xS]
    by_cases e : (x == y)=true
    · rw [e];exact ⟨d, rfl⟩
    · have e' : (x == y)=false := by simpa using e
      rw [e']
      rcases u4.mp h with h | h
      · have : x=y := vz Prod.fst h
        exact absurd (by simpa using this) e
      · exact cV h
theorem cW {env : Env}{scope : Scope}(h : ∀ y∈scope.names, y.2=NameKind.free → ∃ c, env.cells.lookup y.1=some c) : closureFor scope env=pure (iB env.cells scope.names []) := by
  have all : ∀ (names : List (Str × NameKind)) (acc : List (Str × Addr)), (∀ y∈names, y.2=NameKind.free → ∃ c, env.cells.lookup y.1=some c) →
      (forIn names acc (fun (p : Str × NameKind) (r : List (Str × Addr)) => (if (p.2 == NameKind.free)=true then (do let a ← cellOf env p.1;pure (ForInStep.yield ((p.1, a)::r))) else pure (ForInStep.yield r) : Sem (ForInStep (List (Str × Addr))))))=(pure (iB env.cells names acc) : Sem (List (Str × Addr))) := by
    intro names
    induction names with
    | nil => intro acc _;rfl
    | cons p r ih =>
      intro acc hh
      obtain ⟨x, k⟩ := p
      have hr : ∀ y∈r, y.2=NameKind.free → ∃ c, env.cells.lookup y.1=some c := fun y hy => hh y (u6 _ hy)
      rw [xv]
      unfold iB
      by_cases hk : (k == NameKind.free)=true
      · obtain ⟨c, hc⟩ := hh (x, k) vf (by simpa using hk)
        have hc : env.cells.lookup x=some c := hc
        have ec : cellOf env x=pure c := by
          unfold cellOf
          rw [hc]
        simp only [hk, wj, ec, pure_bind, hc, Option.getD_some]
        exact ih _ hr
      · simp only [hk, vN, pure_bind]
        exact ih _ hr
  have e := all scope.names [] h
  unfold closureFor
  simp only [bind_pure]
  exact e
def qe (scope sc : Scope)(NB own : List Str)(cap : List Nat)(N : List Str) : Bool :=
  (scope.kind == .function) && (sc.kind == .function) &&
  (scope.names.all fun y => match y.2 with
    | .cell => false
    | .free => sc.names.lookup y.1 == some NameKind.cell
    | .local => scope.names.lookup y.1 == some NameKind.local
    | _ => true) &&
  (own.all fun x => scope.names.lookup x == some NameKind.local && scope.names.all fun y => !(y.1 == x) || y.2 == NameKind.local) &&
  (NB == own++cap.map fun i => N.getD i "") && (cap.all fun i => decide (i < N.length) && scope.names.lookup (N.getD i "") == some NameKind.free)
structure Blk (X : Cx) (scope : Scope) (NB own : List Str) (cap : List Nat) : Prop where
  kind : scope.kind = .function
  outk : X.env.scope.kind = .function
  nocell : ∀ y∈scope.names, y.2 ≠ .cell
  free : ∀ y∈scope.names, y.2 = .free → X.env.kindOf y.1=some .cell
  names : ∀ y∈scope.names, y.2 = .local → scope.names.lookup y.1=some .local
  owns : ∀ x∈own, ∀ y∈scope.names, y.1=x → y.2 = .local
  nb : NB=own++cap.map fun i => X.N.getD i ""
  caps : ∀ i∈cap, i < X.N.length ∧ scope.names.lookup (X.N.getD i "")=some .free
theorem cx {X : Cx}{scope sc : Scope}{NB own : List Str}{cap : List Nat}(hs : X.env.scope=sc)(h : qe scope sc NB own cap X.N=true) : Blk X scope NB own cap := by
  unfold qe at h
  simp only [u3] at h
  obtain ⟨⟨⟨⟨⟨h1, h2⟩, h3⟩, h4⟩, h5⟩, h6⟩ := h
  rw [vP] at h3 h4 h6
  subst hs
  refine ⟨by simpa using h1, by simpa using h2, fun y hy e => ?_, fun y hy e => ?_, fun y hy e => ?_, fun x hx y hy e => ?_, by simpa using h5, fun i hi => ?_⟩
  · have := h3 y hy
    rw [e] at this
    exact absurd this (by simp)
  · have := h3 y hy
    rw [e] at this
    show X.env.scope.names.lookup y.1=some .cell
    simpa using this
  · have := h3 y hy
    rw [e] at this
    simpa using this
  · have := h4 x hx
    simp only [u3, vP] at this
    have q := this.2 y hy
    subst e
    simpa using q
  · have := h6 i hi
    simp only [u3] at this
    exact ⟨yB this.1, by simpa using this.2⟩
def cxB (X : Cx)(NB own : List Str)(scope : Scope)(C : Addr)(fp : List Addr)(s₀ : Shared)(H₀ : Hp) : Cx where
  prog := X.prog
  w := X.w
  K := X.K
  mg := X.mg
  base := X.base
  A := X.A
  N := NB
  s₀ := s₀
  H₀ := H₀
  env := compEnvC scope (iB X.env.cells scope.names []) C X.env
  outer := X.stack
  stack := X.stack
  ex := fp
  fn := fun x => own.contains x
  calm := X.calm
  pn := []
  xe := fun _ _ => False
theorem cy {env : Env}{x : Str}{k : NameKind}(hk : k = .cell ∨ k = .free) : ∀ {names : List (Str × NameKind)}, (∀ y∈names, y.2 ≠ .cell) →
    (names.map fun (n, k) => if (k == NameKind.free && env.scope.kind == .function && env.kindOf n == some .cell) then (n, NameKind.cell) else (n, k)).lookup x=some k → (x, NameKind.free)∈names
  | [], _, h => by simp at h
  | (n, q)::r, hn, h => by
    have ih := @cy env x k hk r fun y hy => hn y (u6 _ hy)
    rw [vV, xS] at h
    have key : (if (q == NameKind.free && env.scope.kind == .function && env.kindOf n == some .cell)=true then (n, NameKind.cell) else (n, q)).1=n := by split <;> rfl
    by_cases e : (x == n)=true
    · have en : x=n := by simpa using e
      subst en
      by_cases hq : q = .free
      · subst hq;exact vf
      · have hqf : (q == NameKind.free)=false := by simpa using hq
        simp only [hqf, vG, uZ, vN, yT] at h
        have h' : q=k := uV h
        rcases hk with z | z
        · exact absurd (h'.trans z) (hn (x, q) vf)
        · exact absurd (h'.trans z) hq
    · have e' : (x == n)=false := by simpa using e
      refine u6 _ (ih ?_)
      have e2 : (x == (if (q == NameKind.free && env.scope.kind == .function && env.kindOf n == some .cell)=true then (n, NameKind.cell) else (n, q)).1)=false := by rw [key];exact e'
      rw [e2] at h
      exact h
theorem d7 {env : Env}{x : Str}(hk : env.scope.kind = .function)(hc : env.kindOf x=some .cell) : ∀ {names : List (Str × NameKind)}, names.lookup x=some .free →
    (names.map fun (n, k) => if (k == NameKind.free && env.scope.kind == .function && env.kindOf n == some .cell) then (n, NameKind.cell) else (n, k)).lookup x=some .cell
  | [], h => by simp at h
  | (n, q)::r, h => by
    have ih := @d7 env x hk hc r
    rw [xS] at h
    rw [vV, xS]
    by_cases e : (x == n)=true
    · have en : x=n := by simpa using e
      subst en
      rw [e] at h
      have hq : q = .free := uV h
      subst hq
      simp [hk, hc]
    · have e' : (x == n)=false := by simpa using e
      rw [e'] at h
      have key : (if (q == NameKind.free && env.scope.kind == .function && env.kindOf n == some .cell)=true then (n, NameKind.cell) else (n, q)).1=n := by split <;> rfl
      have e2 : (x == (if (q == NameKind.free && env.scope.kind == .function && env.kindOf n == some .cell)=true then (n, NameKind.cell) else (n, q)).1)=false := by rw [key];exact e'
      rw [e2]
      exact ih h
def stB (own : List Str)(cap : List Nat)(σ : St) : St := (own.map fun _ => none)++cap.map fun i => (σ[i]?).getD none
section
variable {X : Cx} {pins : List (Addr × Obj)} {σ : St} {H : Hp} {s : Shared} {scope : Scope} {NB own : List Str} {cap : List Nat} {fp : List Addr} {C : Addr}
theorem Blk.cells (B : Blk X scope NB own cap)(ok : X.Ok){x : Str}{c : Addr}(h : (iB X.env.cells scope.names []).lookup x=some c) : X.env.cells.lookup x=some c ∧ (x, NameKind.free)∈scope.names := by
  rcases fh (v8 h) with q | ⟨q, e⟩
  · simp at q
  · obtain ⟨d, hd⟩ := ok.has x (.inl (B.free (x, .free) q rfl))
    have e : c=(X.env.cells.lookup x).getD 0 := e
    rw [hd] at e
    refine ⟨?_, q⟩
    rw [hd, e];rfl
theorem Blk.cell (B : Blk X scope NB own cap)(ok : X.Ok){x : Str}(h : (x, NameKind.free)∈scope.names) : ∃ c, (iB X.env.cells scope.names []).lookup x=some c := cV (fj h)
theorem Blk.start (B : Blk X scope NB own cap)(I : Inv X pins σ H s)(hf : ∀ b∈fp, gJ X pins H b)(hfs : ∀ b∈fp, ∃ o, s.heap.get? b=some o){h' : Heap}{tk : Nat}{m : Str → Option Value}(hC : s.heap.objs.size≤C)
    (k : ∀ b o, s.heap.get? b=some o → h'.get? b=some o) (hn : h'.Ns C m) :
    Inv (cxB X NB own scope C fp s H) [] (stB own cap σ) H { s with heap := h', toks := tk } := by
  have hlen : NB.length=own.length+cap.length := by rw [B.nb];simp
  have okB : (cxB X NB own scope C fp s H).Ok := by
    refine ⟨I.ok.mod, B.kind, I.ok.glob, I.ok.blt, hC, fun x y c h1 h2 => I.ok.inj x y c (B.cells I.ok h1).1 (B.cells I.ok h2).1, fun x hx => ?_, fun x c h1 h2 => ?_, I.ok.hd, I.ok.frames, .inl rfl, fun b hb => ⟨?_, fun x c h => ?_⟩, I.bs, vi I.ok.bsz I.sz, fun b o e hb => ?_, fun b hb z => ?_, I.stack, I.stkFree⟩
    · have : (x, NameKind.free)∈scope.names := by
        rcases hx with z | z
        · exact cy (.inl rfl) B.nocell z
        · exact cy (.inr rfl) B.nocell z
      exact B.cell I.ok this
    · have hx : x∈own := by simpa [cxB] using h1
      have q := B.owns x hx _ (B.cells I.ok h2).2 rfl
      exact absurd q (by simp)
    · obtain ⟨o, e⟩ := hfs b hb
      exact vm (uX (uQ e) hC)
    · exact (hf b hb).2.2.2.2.1 x c (B.cells I.ok h).1
    · have hb : b∈fp := hb
      rcases (hf b hb).2.2.2.1 with z | z
      · exact I.ok.noex b o e z
      · exact absurd (uX (uQ e) (vi I.ok.bsz z)) (vD _)
    · rcases u4.mp (I.stkSub b z) with z | z
      · exact (hf b hb).2.1 z
      · exact (hf b hb).2.2.1 z
  refine ⟨okB, rfl, I.bare, Un.kept k, ⟨m, hn, fun i x v e1 e2 e3 => ?_⟩, fun x c h => ?_, I.hok.fresh hC, fun x c h => I.freeC x c (B.cells I.ok h).1, fun p hp => absurd (show p∈([] : List (Addr × Obj)) from hp) (by simp), I.hok.kept k, ?_⟩
  · have e1 : NB[i]? = some x := e1
    have hi : ¬ i < own.length := fun hi => by
      unfold stB at e2
      rw [wb (by simpa using hi), u_] at e2
      cases q : own[i]? <;> rw [q] at e2 <;> cases e2
    unfold stB at e2
    rw [ve (by simpa using hi), u_] at e2
    rw [B.nb, ve (by omega), u_] at e1
    simp only [uD] at e2
    cases q : cap[i - own.length]? with
    | none => rw [q] at e1;cases e1
    | some j =>
      rw [q] at e1 e2
      have ex : X.N.getD j "" = x := uV e1
      have ev : (σ[j]?).getD none=some v := uV e2
      obtain ⟨hj, hjf⟩ := B.caps j (uU q)
      rw [ex] at hjf
      have hN : X.N[j]? = some x := by rw [← ex, u9, uB hj];rfl
      have hσ : σ[j]? = some (some v) := by
        cases z : σ[j]? with
        | none => rw [z] at ev;cases ev
        | some u => rw [z] at ev;exact vz some ev
      have hmem : (x, NameKind.free)∈scope.names := v8 hjf
      have hkc := B.free _ hmem rfl
      obtain ⟨m0, hn0, hl⟩ := I.loc
      obtain ⟨u, r, l⟩ := hl j x v hN hσ (.inr (.inl hkc))
      refine ⟨u, r, .inr ⟨.inl (d7 B.outk hkc hjf), ?_⟩⟩
      obtain ⟨c, hc⟩ := B.cell I.ok hmem
      refine ⟨c, hc, ?_⟩
      rcases l with ⟨z, _⟩ | ⟨_, c', hc', ⟨oc, hoc, hd⟩⟩
      · rw [show X.env.kindOf x=some .cell from hkc] at z;cases z
      · have := (B.cells I.ok hc).1
        rw [hc'] at this
        have : c'=c := uV this
        subst this
        exact ⟨oc, k _ _ hoc, hd⟩
  · obtain ⟨v, oc, hoc, hd⟩ := I.cell x c (B.cells I.ok h).1
    exact ⟨v, oc, k _ _ hoc, hd⟩
  · show (stB own cap σ).length=NB.length
    unfold stB
    rw [hlen];simp
theorem Blk.done (B : Blk X scope NB own cap)(I : Inv X pins σ H s)(hf : ∀ b∈fp, gJ X pins H b){σB : St}{H' : Hp}{s' : Shared}{h'' : Heap}{D : Addr}{ys : List V}{its : List Value}{n : Nat}(hC : s.heap.objs.size≤C)(hD : s.heap.objs.size≤D)(hDC : D≠C)
    (J : Inv (cxB X NB own scope C fp s H) [] σB H' s') (hn : H' D=none) (e : s'.heap.get? D=some { cls := .type "list", data := .seq its.toArray n }) (hv : bc ys its) (hz : ys.length≤sizeLine)
    (sb : Heap.SameBut C s'.heap h'') : Inv X pins σ (upd H' D (.lst ys)) { s' with heap := h'' } := by
  have un : Un (frs X.stack) fp H H' s.heap s'.heap := J.base
  have neC : ∀ {b o}, s.heap.get? b=some o → b≠C := fun q => vm (uX (uQ q) hC)
  have neD : ∀ {b o}, s.heap.get? b=some o → b≠D := fun q => vm (uX (uQ q) hD)
  have hCn : H' C=none := J.free
  refine I.call' (s' := { s' with heap := h'' }) (ch := fp) J.os ⟨fun b o q n hb hx => ?_, fun b o q n hb hx => ?_, fun b o q n hx => ?_, fun b o q hx => ?_, fun b xs q => ?_, fun b o u q => ?_, fun b ps q => ?_⟩ (fun b u q => ?_) J.bare fun b hb => ?_
  · exact (sb.2 b (neC q)).trans (un.keep b o q n hb hx)
  · obtain ⟨sl, r⟩ := un.slot b o q n hb hx
    exact ⟨sl, (sb.2 b (neC q)).trans r⟩
  · rw [aC (neD q)]
    exact un.free b o q n hx
  · obtain ⟨o', r⟩ := un.there b o q hx
    exact ⟨o', (sb.2 b (neC q)).trans r⟩
  · have r := un.tups b xs q
    rw [aC (ao r hn)]
    exact r
  · have r := un.frzs b o u q
    rw [aC (ao r hn)]
    exact r
  · obtain ⟨more, r⟩ := un.tbls b ps q
    exact ⟨more, by rw [aC (ao r hn)];exact r⟩
  · by_cases hb : b=D
    · subst hb
      rw [ab] at q
      cases q
      exact ⟨hz, its, n, hv, (sb.2 b hDC).trans e⟩
    · rw [aC hb] at q
      refine (J.hok b u q).stay (fun c v hc r => (sb.2 c ?_).trans r) (fun c r => ?_) fun c xs r => ?_
      · rcases hc with z | z
        · rw [z];exact ao q hCn
        · exact ao z hCn
      · rw [aC (ao r hn)];exact r
      · rw [aC (ao r hn)];exact r
  · obtain ⟨_, f1, _, f3, f4, f5⟩ := hf b hb
    exact ⟨f3, f1, f4, f5⟩
end
def PIf (X : Cx)(ifs : List Expr)(t : TT) : Prop :=
  ∀ (pins : List (Addr × Obj)) (s : Shared) (σ : St) (H : Hp) (Q : Bool → Hp → Prop), Inv X pins σ H s → t σ H Q →
    wpAny (model X.prog X.w) X.A (forIn ifs true fun c r => if r=true then do let ok ← isTrue c X.env (eval c X.env);pure (ForInStep.yield ok) else pure (ForInStep.yield r)) (TP X pins σ Q) X.xe s
def uo : TT := fun _ H Q => Q true H
theorem bI {X : Cx} : PIf X [] uo := fun _ _ _ H _ I h => wpAny_tests_nil ⟨H, I, h⟩
theorem iC {X : Cx}{c : Expr}{t : TT}(h : PT X c t) : PIf X [c] t := fun pins s σ H Q I q => wpAny_tests_one (h pins s σ H Q I q)
section
variable {prog : Program} {w : World} {A : Around} {R : Result → Shared → Prop} {s : Shared}
abbrev noE : Value → Shared → Prop := fun _ _ => False
theorem fU {elt tg iter : Expr}{ifs : List Expr}{scope : Scope}{pos : Pos}{it acc : Value}{env : Env}(I : Nat → Shared → Prop)
    (turn : ∀ n s, I n s → wpAny (model prog w) A (pyNext it) (fun r s₁ => match r with
      | none => R (.ok .next) s₁
      | some v => wpAny (model prog w) A (letOwnedTupleGo tg it v) (fun _ s₀ => wpAny (model prog w) A (assign tg env v) (fun _ s₂ =>
          wpAny (model prog w) A (forIn ifs true fun c r => if r=true then do let ok ← isTrue c env (eval c env);pure (ForInStep.yield ok) else pure (ForInStep.yield r)) (fun ok s₃ =>
            if ok=true then wpAny (model prog w) A (eval elt env) (fun x s₄ => wpAny (model prog w) A (call (.builtin "list.append") [acc, x]) (fun _ s₅ => ∃ m, m < n ∧ I m s₅) noE s₄) noE s₃
            else ∃ m, m < n ∧ I m s₃) noE s₂) noE s₀) noE s₁) noE s)
    (n : Nat) (h : I n s) : codeAny (model prog w) A (.compLoop (.ListComp elt [⟨tg, iter, ifs, 0⟩] scope pos) 0 it acc env) R s := by
  refine codeAny_loop rfl I (fun n s hI => ?_) n h
  show wpAny _ A ((compTurn (.ListComp elt [⟨tg, iter, ifs, 0⟩] scope pos) 0 it acc env).onRaise (fun x => do noteFrame x env;theTreesLotGoes x)) _ _ s
  refine wpAny_noted ?_
  rw [compTurn_list]
  refine fu (wpAny_standAt (fu (wN (turn n s hI) (fun r s₁ h₁ => ?_) fun _ _ z => False.elim z)))
  cases r with
  | none => exact uH h₁
  | some v =>
    refine fu (wN h₁ (fun _ s₀ h₀ => fu (wN h₀ (fun _ s₂ h₂ => fu (wN h₂ (fun ok s₃ h₃ => ?_) fun _ _ z => False.elim z)) fun _ _ z => False.elim z)) fun _ _ z => False.elim z)
    cases ok with
    | false => exact uH ⟨rfl, h₃⟩
    | true => exact fu (fu (wN h₃ (fun x s₄ h₄ => fu (wN h₄ (fun _ s₅ h₅ => uH (uH ⟨rfl, h₅⟩)) fun _ _ z => False.elim z)) fun _ _ z => False.elim z))
end
def lS (own : List Str)(cap : List Nat)(g : TG)(ti : TT)(te : TE)(Q : VK)(σ : St)(J : It)(H1 : Hp) : Prop := ∃ W : Nat → Nat → List V → St → Hp → Prop, (∃ m, W 0 m [] (stB own cap σ) H1) ∧ ∀ i m ys σ H, W i m ys σ H →
  (J.stop i H ∧ ys.length≤sizeLine ∧ ∀ D, H D=none → Q (.ref D) (upd H D (.lst ys))) ∨
  (J.go i H ∧ ys.length < sizeLine ∧ ∀ x H', J.yld i H x H' → g x σ H' fun σ2 H2 => ti σ2 H2 fun b H3 => if b=true then te σ2 H3 fun y H4 => ∃ m', m' < m ∧ W (i+1) m' (ys++[y]) σ2 H4 else ∃ m', m' < m ∧ W (i+1) m' ys σ2 H3)
def qf (own : List Str)(cap : List Nat)(wi : TI)(g : TG)(ti : TT)(te : TE) : TE := fun σ H Q => wi σ H fun J H1 => lS own cap g ti te Q σ J H1
theorem bT {X : Cx}{elt iter tg : Expr}{ifs : List Expr}{scope : Scope}{pos : Pos}{NB own : List Str}{cap : List Nat}{wi : TI}{g : TG}{ti : TT}{te : TE}(B : Blk X scope NB own cap)(hc : X.calm=true)(hi : PI X tg iter wi)
    (hg : ∀ C fp s₀ H₀, PG (cxB X NB own scope C fp s₀ H₀) tg g) (ht : ∀ C fp s₀ H₀, PIf (cxB X NB own scope C fp s₀ H₀) ifs ti) (he : ∀ C fp s₀ H₀, PE (cxB X NB own scope C fp s₀ H₀) elt te)
    (hs : ∀ x, foldedSetIterable iter X.env x=pure x := by intro _;rfl) : PE X (.ListComp elt [⟨tg, iter, ifs, 0⟩] scope pos) (qf own cap wi g ti te) := by
  intro pins s σ H Q I0 h
  rw [eval_ListComp]
  have hclos := cW (env := X.env) (scope := scope) fun y hy e => I0.ok.has y.1 (.inl (B.free y hy e))
  refine yC (use := none) rfl hs hclos B.kind B.names (thn (hi pins s σ H _ I0 h) fun v s1 h1 => thn h1 fun itv s2 h2 => ?_)
  obtain ⟨it, fp, tn, J, H2, rfl, I, T, st2, f2, W, ⟨m0, w0⟩, turn⟩ := h2
  refine xw ?_
  refine wpAny_newFunctionEnv B.nocell (by intro y hy;simp at hy) (fun h₁ hns₁ hsb₁ => ?_) B.kind
  dsimp only at hns₁ hsb₁ ⊢
  generalize hP : s2.heap.push { cls := .type "list", dict := none, data := .seq ([] : List Value).toArray }=P at hns₁ hsb₁ ⊢
  have hC : P.objs.size=s2.heap.objs.size+1 := by rw [← hP, wO]
  have hDC : s2.heap.objs.size≠P.objs.size := by rw [hC];exact vm (Nat.lt_succ_self _)
  have hCle : s2.heap.objs.size≤P.objs.size := by rw [hC];exact zg _
  have old : ∀ b o, s2.heap.get? b=some o → h₁.get? b=some o := fun b o e => by
    refine (hsb₁.2 b ?_).trans (uC _ (hP ▸ uC _ e))
    exact vm (uX (uQ e) hCle)
  have hD : h₁.get? s2.heap.objs.size=some { cls := .type "list", data := .seq ([] : List Value).toArray 0 } := by
    refine (hsb₁.2 _ hDC).trans (uC _ ?_)
    rw [← hP]
    exact uN _ rfl
  have hfs : ∀ b∈fp, ∃ o, s2.heap.get? b=some o := fun b hb => let ⟨o, e, _⟩ := T.obj _ _ st2 b hb;⟨o, e⟩
  have st4 : tn 0 h₁ := T.keep _ _ _ st2 fun b _ o e => old b o e
  generalize htk : s2.toks+([] : List (Str × Value)).length=tk4
  have I4 := B.start (C := P.objs.size) (tk := tk4) I f2 hfs hCle old hns₁
  have fOk : ∀ {H' : Hp} {b : Addr} {ob : Obj}, b∈fp → H' b=none → gJ (cxB X NB own scope P.objs.size fp s2 H2) [(s2.heap.objs.size, ob)] H' b := fun {H' b ob} hb hn => by
    obtain ⟨o, e⟩ := hfs b hb
    refine ⟨hn, (I4.ok.exf b hb).1, I4.ok.exfs b hb, .inl hb, (I4.ok.exf b hb).2, fun p hp => ?_⟩
    have ep : p=(s2.heap.objs.size, ob) := uE.mp (show p∈[(s2.heap.objs.size, ob)] from hp)
    rw [ep]
    exact fun z => absurd (uQ e) (by rw [← z];exact vD _)
  have dnf : s2.heap.objs.size∉frs X.stack := fun z => by
    rcases u4.mp (I.stkSub _ z) with z | z
    · exact absurd I.lt (by rw [← z];exact vD _)
    · exact I.nofs (uG _) z
  have I3D : ∀ {σ3 : St} {H3 : Hp} {s3 : Shared} {its : List Value} {k : Nat}, Inv (cxB X NB own scope P.objs.size fp s2 H2) [] σ3 H3 s3 → s3.heap.get? s2.heap.objs.size=some { cls := .type "list", data := .seq its.toArray k } → H3 s2.heap.objs.size=none →
      Inv (cxB X NB own scope P.objs.size fp s2 H2) [(s2.heap.objs.size, { cls := .type "list", data := .seq its.toArray k })] σ3 H3 s3 := fun I3 e n => I3.pins_of fun p hp => by
    have ep := uE.mp hp
    subst ep
    exact ⟨e, n, hDC, dnf, fun v z => by cases z⟩
  have ndf : s2.heap.objs.size∉fp := fun z => by
    obtain ⟨o, e⟩ := hfs _ z
    exact absurd (uQ e) (vD _)
  have nCD : ∀ x c, (cxB X NB own scope P.objs.size fp s2 H2).env.cells.lookup x=some c → c≠s2.heap.objs.size := fun x c e z => by
    obtain ⟨v, o, ho, _⟩ := I.cell x c (B.cells I.ok e).1
    rw [z] at ho
    exact absurd (uQ ho) (vD _)
  have loop : ∀ s₃ : Shared, s₃ = { s2 with heap := h₁, toks := tk4 } → codeAny (model X.prog X.w) X.A (.compLoop (.ListComp elt [⟨tg, iter, ifs, 0⟩] scope pos) 0 (.ref it) (.ref s2.heap.objs.size) (cxB X NB own scope P.objs.size fp s2 H2).env)
      (compPost (model X.prog X.w) X.A X.xe none (EP X pins σ Q) (.ref s2.heap.objs.size) P.objs.size) s₃ := by
    rintro s₃ rfl
    refine fU (fun n s' => ∃ i σB H' ys its k, Inv (cxB X NB own scope P.objs.size fp s2 H2) [] σB H' s' ∧ tn i s'.heap ∧ (∀ b∈fp, H' b=none) ∧ s'.heap.get? s2.heap.objs.size=some { cls := .type "list", data := .seq (its : List Value).toArray k } ∧ bc ys its ∧ H' s2.heap.objs.size=none ∧ W i n ys σB H') ?_ m0
      ⟨0, stB own cap σ, H2, [], [], 0, I4, st4, fun b hb => (f2 b hb).1, hD, .nil, I.hok.fresh (uG _), w0⟩
    rintro n s3 ⟨i, σ3, H3, ys, its, k, I3, st3, fr3, hD3, rv, hn3, w3⟩
    rcases turn i n ys σ3 H3 w3 with ⟨stop, hz, q⟩ | ⟨go, hz, step⟩
    · refine thn (T.done (cxB X NB own scope P.objs.size fp s2 H2) rfl rfl rfl hc i _ s3 σ3 H3 noE (I3D I3 hD3 hn3) (fun b hb => fOk hb (fr3 b hb)) st3 stop) fun r s4 zq1 => ?_
      obtain ⟨hr, I4'⟩ := zq1
      subst hr
      have hD4 : s4.heap.get? s2.heap.objs.size=some { cls := .type "list", data := .seq (its : List Value).toArray k } := (I4'.pin (s2.heap.objs.size, _) (uL _ (uE.mpr rfl))).1
      have I5 : Inv (cxB X NB own scope P.objs.size fp s2 H2) [] σ3 H3 s4 := I4'.pins_of fun p hp => absurd (show p∈([] : List (Addr × Obj)) from hp) (by simp)
      obtain ⟨mC, hnC, _⟩ := I5.loc
      exact ⟨mC, hnC, fun h'' sb => ⟨.ref s2.heap.objs.size, _, B.done I f2 hCle (uG _) hDC I5 hn3 hD4 rv hz sb, rfl, q _ hn3⟩⟩
    · refine thn (T.item (cxB X NB own scope P.objs.size fp s2 H2) rfl rfl rfl hc i _ s3 σ3 H3 noE (I3D I3 hD3 hn3) (fun b hb => fOk hb (fr3 b hb)) st3 go) fun r s4 zq2 => ?_
      obtain ⟨u, hr, h4⟩ := zq2
      subst hr
      refine thn h4 fun _ s5 zq3 => ?_
      obtain ⟨x, H5, I5, r5, y5, st5, fr5⟩ := zq3
      have I5' := I5.pinned (fun b hb => fOk hb (fr5 b hb)) (T.obj _ _ st5)
      refine thn (hg _ fp s2 H2 _ s5 σ3 H5 x u _ I5' r5 (step x H5 y5)) fun _ s6 zq4 => ?_
      obtain ⟨σ6, H6, I6, q6⟩ := zq4
      refine thn (ht _ fp s2 H2 _ s6 σ6 H6 _ I6 q6) fun b s7 zq5 => ?_
      obtain ⟨H7, I7, q7⟩ := zq5
      have pinned : ∀ {σ8 : St} {H8 : Hp} {s8 : Shared}, Inv (cxB X NB own scope P.objs.size fp s2 H2) ([(s2.heap.objs.size, { cls := .type "list", data := .seq (its : List Value).toArray k })]++eP fp s5.heap) σ8 H8 s8 →
          tn (i+1) s8.heap ∧ (∀ b∈fp, H8 b=none) ∧ s8.heap.get? s2.heap.objs.size=some { cls := .type "list", data := .seq (its : List Value).toArray k } ∧ H8 s2.heap.objs.size=none := fun {σ8 H8 s8} I8 => by
        refine ⟨T.keep _ _ _ st5 fun b hb o e => (I8.pin (b, o) (uL _ (uL _ (bK hb e)))).1, fun b hb => ?_, ?_, ?_⟩
        · obtain ⟨o, e, d⟩ := T.obj _ _ st5 b hb
          exact (I8.pin (b, o) (uL _ (uL _ (bK hb e)))).2.1
        · exact (I8.pin (s2.heap.objs.size, _) (uL _ (u7 _ (uE.mpr rfl)))).1
        · exact (I8.pin (s2.heap.objs.size, _) (uL _ (u7 _ (uE.mpr rfl)))).2.1
      have nopin : ∀ {pp : List (Addr × Obj)} {σ8 : St} {H8 : Hp} {s8 : Shared}, Inv (cxB X NB own scope P.objs.size fp s2 H2) pp σ8 H8 s8 → Inv (cxB X NB own scope P.objs.size fp s2 H2) [] σ8 H8 s8 := fun I8 => I8.pins_of fun p hp => absurd (show p∈([] : List (Addr × Obj)) from hp) (by simp)
      cases b with
      | false =>
        rw [if_neg u5] at q7 ⊢
        obtain ⟨m', hm, w7⟩ := q7
        obtain ⟨p1, p2, p3, p4⟩ := pinned I7
        exact ⟨m', hm, i+1, σ6, H7, ys, its, k, nopin I7, p1, p2, p3, rv, p4, w7⟩
      | true =>
        rw [if_pos rfl] at q7 ⊢
        refine thn (he _ fp s2 H2 _ s7 σ6 H7 _ I7 q7) fun yv s8 zq6 => ?_
        obtain ⟨y, H8, I8, r8, m', hm, w8⟩ := zq6
        obtain ⟨p1, p2, p3, p4⟩ := pinned I8
        refine xp vR ⟨_, p3, rfl⟩ x_ (xU _ _) (yA s2.heap.objs.size its.toArray k yv (by rw [uK, ← rv.length];omega)) ⟨p3, ?_⟩
        have q := yS p3 fun a => a.push yv
        have ea : its.toArray.push yv=(its++[yv]).toArray := by simp
        rw [ea] at q
        have I9 : Inv (cxB X NB own scope P.objs.size fp s2 H2) [] σ6 H8 { s8 with heap := s8.heap.update s2.heap.objs.size (Obj.mapSeq fun a => a.push yv), toks := s8.toks } :=
          (nopin I8).turned (it := s2.heap.objs.size) (fun b o hb e => (vq s8.heap _ (Ne.symm hb)).trans e) p4 hDC (.inr (uG _)) (fun x c e => nCD x c e) fun p hp => absurd (show p∈([] : List (Addr × Obj)) from hp) (by simp)
        refine ⟨m', hm, i+1, σ6, H8, ys++[y], its++[yv], _, I9, ?_, p2, q, rv.append (.cons r8 .nil), p4, w8⟩
        refine T.keep _ _ _ p1 fun b hb o e => (vq s8.heap _ ?_).trans e
        intro z
        rw [z] at ndf
        exact ndf hb
  exact codeAny_compStart_list (loop _ rfl) (T.self X.A 0 _ _ _ st4 (loop _ rfl))
theorem cA {own : List Str}{cap : List Nat}{J : It}{g : TG}{ti : TT}{te : TE}{σ : St}{H : Hp}{Q : VK}(n : Nat)(Pv : Nat → List V → St → Hp → Prop)(h0 : Pv 0 [] (stB own cap σ) H)(hz : ∀ i ys σ H, i≤n → Pv i ys σ H → ys.length≤i)(hn : n≤sizeLine)
    (hgo : ∀ i ys σ H, i < n → Pv i ys σ H → J.go i H) (hst : ∀ ys σ H, Pv n ys σ H → J.stop n H)
    (hs : ∀ i ys σ H x H' (N : List V → St → Hp → Prop), i < n → Pv i ys σ H → J.yld i H x H' → (∀ ys' σ' H'', Pv (i+1) ys' σ' H'' → N ys' σ' H'') → g x σ H' fun σ2 H2 => ti σ2 H2 fun b H3 => if b=true then te σ2 H3 fun y H4 => N (ys++[y]) σ2 H4 else N ys σ2 H3)
    (hd : ∀ ys σ H D, Pv n ys σ H → H D=none → Q (.ref D) (upd H D (.lst ys))) :
    lS own cap g ti te Q σ J H := by
  refine ⟨fun i m ys σ H => m=n - i ∧ i≤n ∧ Pv i ys σ H, ⟨n, by simp, vE _, h0⟩, ?_⟩
  rintro i m ys σ H ⟨rfl, hi, p⟩
  have hl := hz i ys σ H hi p
  by_cases hlt : i < n
  · refine .inr ⟨hgo i ys σ H hlt p, by omega, fun x H' y => ?_⟩
    exact hs i ys σ H x H' (fun ys' σ' H'' => ∃ m', m' < n - i ∧ m'=n - (i+1) ∧ i+1≤n ∧ Pv (i+1) ys' σ' H'') hlt p y fun ys' σ' H'' q => ⟨n - (i+1), by omega, rfl, hlt, q⟩
  · have e : i=n := by omega
    subst e
    exact .inl ⟨hst ys σ H p, by omega, fun D hD => hd ys σ H D p hD⟩
end L2
namespace L2
open PySem PySem.Spec PyProof.Rows
def Its (z : Str) : It := ⟨fun i _ => i < z.cps.size, fun i H x H' => H'=H ∧ ∃ c, z.cps[i]? = some c ∧ x = .str ⟨#[c]⟩, fun i _ => i=z.cps.size⟩
theorem cX {P : Program}{w : World}{K : PySem.W.Frag}{tg : Expr}{it n : Nat}{Pv : Nat → Value → Prop}{st : Nat → Heap → Prop}{J : It}{T : String}{fl : Nat → Array Value}
    (W : ∀ A : Around, A.handled=none → Walks P w A it [it] [it] n Pv st) (hst : ∀ i h, st i h → ∃ o, h.get? it=some o ∧ o.cls = .type T ∧ o.data = .fields (fl i))
    (hT : ["enumerate", "zip", "dict_itemiterator", "dict_reverseitemiterator", "odict_iterator", "itertools.zip_longest", "itertools.pairwise"].contains T=false)
    (hgo : ∀ i H, J.go i H → i < n) (hstop : ∀ i H, J.stop i H → i=n) (hy : ∀ i H u, J.go i H → Pv i u → ∃ x, bJ x u ∧ J.yld i H x H)
    (hself : ∀ (A : Around) (i : Nat) (s : Shared) (Q : Value → Shared → Prop) (E : Value → Shared → Prop), st i s.heap → Q (.ref it) s → wpAny (model P w) A (pyIter (.ref it)) Q E s) : nP P w K tg J [it] it st where
  mem := by simp
  obj := fun i h s b hb => by
    have e : b=it := by simpa using hb
    subst e
    obtain ⟨o, e, c, d⟩ := hst i h s
    exact ⟨o, e, fun v z => by rw [d] at z;cases z⟩
  keep := fun i h h' s k => (W {} rfl).frame i h h' s k
  item := by
    intro X hP hw hK hc i pins s σ H E I hf s0 hg
    subst hP hw hK
    obtain ⟨f0, f1, f2, f3, f4, f5⟩ := hf it (by simp)
    refine (W X.A (I.ok.hd hc)).item i s _ _ (hgo i H hg) s0 fun v h' tk hv st' kk => ?_
    have I1 : Inv X pins σ H { s with heap := h', toks := tk } := I.turned (fun b o hb e => kk b o (by simpa using hb) e) f0 f1 f3 f4 f5
    obtain ⟨o, e, c, d⟩ := hst _ _ st'
    obtain ⟨x, rx, yx⟩ := hy i H v hg hv
    exact ⟨v, rfl, lF (s := { s with heap := h', toks := tk }) e c d hT ⟨x, H, I1, rx, yx, st', fun b hb => (hf b hb).1⟩⟩
  done := by
    intro X hP hw hK hc i pins s σ H E I hf s0 hg
    subst hP hw hK
    obtain ⟨f0, f1, f2, f3, f4, f5⟩ := hf it (by simp)
    have e := hstop i H hg
    subst e
    exact (W X.A (I.ok.hd hc)).done s _ _ s0 fun h' tk kk => ⟨rfl, I.turned (fun b o hb e => kk b o (by simpa using hb) e) f0 f1 f3 f4 f5⟩
  self := hself
section
variable {X : Cx} {tg : Expr}
def uq (tl : TE) : TI := fun σ H R => tl σ H fun x H1 => ∃ z, x = .str z ∧ R (Its z) H1
theorem jL {z : Str}{i : Nat}{H : Hp}{u : Value}(h : SignAt z i u) : ∃ x, bJ x u ∧ (Its z).yld i H x H := by
  obtain ⟨c, t, e, rfl⟩ := h
  exact ⟨.str ⟨#[c]⟩, ⟨t, rfl⟩, rfl, c, e, rfl⟩
theorem nv {l : Expr}{tl : TE}(hl : PE X l tl) : PI X tg l (uq tl) := by
  intro pins s σ H R I h
  refine thn (hl pins s σ H _ I h) fun v s1 zq1 => ?_
  obtain ⟨x, H1, I1, r1, q1⟩ := zq1
  obtain ⟨z, rfl, q⟩ := q1
  obtain ⟨t, rfl⟩ := r1
  have fp : ∀ b∈[s1.heap.objs.size], gJ X pins H1 b := fun b hb => by
    have e : b=s1.heap.objs.size := by simpa using hb
    subst e
    exact I1.fpOk (uG _) (I1.hok.fresh (uG _))
  cases ha : z.cps.all (· < 128)
  · refine wpAny_pyIter_wide ha ⟨s1.heap.objs.size, [s1.heap.objs.size], _, Its z, H1, rfl, I1.kept (t' := s1.toks) fun b o e => uC _ e,
      cX (T := "str_iterator") (fl := fun i => #[.str z t, .int i 0]) (fun A hh => Walks.strWide hh _ z t) (fun i h st => st) (by decide) (fun i H g => g) (fun i H g => g) (fun i H u _ hu => jL hu) (fun A i s Q E st h => wpAny_pyIter_striter_wide st h), ⟨_, uN _ rfl, rfl, rfl⟩, fp, q⟩
  · refine wpAny_pyIter_ascii ha ⟨s1.heap.objs.size, [s1.heap.objs.size], _, Its z, H1, rfl, I1.kept (t' := s1.toks) fun b o e => uC _ e,
      cX (T := "str_ascii_iterator") (fl := fun i => #[.str z t, .int i 0]) (fun A hh => Walks.strAscii hh _ z t) (fun i h st => st) (by decide) (fun i H g => g) (fun i H g => g) (fun i H u _ hu => jL hu) (fun A i s Q E st h => wpAny_pyIter_striter_ascii st h), ⟨_, uN _ rfl, rfl, rfl⟩, fp, q⟩
inductive tK (x : V)(lo : Option Int)(hi : Option Int)(H : Hp)(Q : VK) : Prop
  | mk : ∀ z, (x = .str z) → (z.length≤sizeLine) → (Q (.str (Txt.slice z lo hi)) H) → tK x lo hi H Q
theorem cM : SlR X tK := by
  intro pins s σ H x v vl vu lo hi sl Q I rx hs pl pu h
  obtain ⟨z, rfl, hz, q⟩ := h
  obtain ⟨t, rfl⟩ := rx
  have fin : ∀ (lo hi : Option Int), Q (.str (Txt.slice z lo hi)) H → ∀ t' k, EP X pins σ Q (.str (Txt.slice z lo hi) t') { s with toks := k } := fun lo hi q t' k => ⟨.str _, H, I.tok _, ⟨_, rfl⟩, q⟩
  refine ⟨"str", _, F.slot_str_getitem.lookup, zh _ _ _, ?_⟩
  cases pl with
  | none =>
    cases pu with
    | none => exact wk (l := none) (u := none) (st := none) hs rfl (xx ⟨vi (xM z _ _) hz, fun t' k => fin _ _ q t' k⟩)
    | int j uj => exact wk (l := none) (u := some (j, uj)) (st := none) hs rfl (xx ⟨vi (xM z _ _) hz, fun t' k => fin _ _ q t' k⟩)
  | int i ui =>
    cases pu with
    | none => exact wk (l := some (i, ui)) (u := none) (st := none) hs rfl (xx ⟨vi (xM z _ _) hz, fun t' k => fin _ _ q t' k⟩)
    | int j uj => exact wk (l := some (i, ui)) (u := some (j, uj)) (st := none) hs rfl (xx ⟨vi (xM z _ _) hz, fun t' k => fin _ _ q t' k⟩)
inductive ny (x : V)(vs : List V)(H : Hp)(Q : VK) : Prop
  | mk : ∀ z, (x = .str z) → (vs=[]) → (z.length≤5592405) → (Q (.str (Txt.upper z)) H) → ny x vs H Q
inductive nz (x : V)(vs : List V)(H : Hp)(Q : VK) : Prop
  | mk : ∀ z, (x = .str z) → (vs=[]) → (z.length≤5592405) → (Q (.str (Txt.lower z)) H) → nz x vs H Q
theorem lU : MtR X "str.upper" ny := by
  intro pins s σ H x vs v us Q I rx rv h
  obtain ⟨z, rfl, rfl, hz, q⟩ := h
  obtain ⟨t, rfl⟩ := rx
  cases rv
  exact SCL.upper hz fun _ => ⟨.str _, H, I.tok _, ⟨_, rfl⟩, q⟩
theorem dS : MtR X "str.lower" nz := by
  intro pins s σ H x vs v us Q I rx rv h
  obtain ⟨z, rfl, rfl, hz, q⟩ := h
  obtain ⟨t, rfl⟩ := rx
  cases rv
  exact SCL.lower hz fun _ => ⟨.str _, H, I.tok _, ⟨_, rfl⟩, q⟩
theorem eV : ∀ {ys : List Str} {us : List Value}, bc (ys.map V.str) us → StrsAre us ys
  | [], _, r => by
    rw [zi] at r
    cases r
    exact .nil
  | y::ys, us, r => by
    rw [vV] at r
    cases r with
    | cons r1 r2 =>
      obtain ⟨t, e⟩ := r1
      subst e
      exact .cons y t (eV r2)
inductive qg (K : PySem.W.Frag)(x : V)(vs : List V)(H : Hp)(Q : VK) : Prop
  | mk : ∀ z p ys, (x = .str z) → (vs=[.ref p]) → (SqL K H p (ys.map V.str)) → ((ys.map (·.length)).sum+ys.length*z.length≤16777216) → (Q (.str (Txt.join z ys)) H) → qg K x vs H Q
theorem fk : MtR X "str.join" (qg X.K) := by
  intro pins s σ H x vs v us Q I rx rv h
  obtain ⟨z, p, ys, rfl, rfl, hq, hz, q⟩ := h
  obtain ⟨t, rfl⟩ := rx
  obtain ⟨u, rfl, ru⟩ := cQ rv
  cases ru
  obtain ⟨its, r, pl, _⟩ := I.list hq
  exact join_list pl.isList (by simpa using eV r) hz fun t' k => ⟨.str _, H, I.tok _, ⟨_, rfl⟩, q⟩
inductive dH  (x : V)(y : V)(H : Hp)(Q : VK) : Prop
  | mk : ∀ z n, (x = .str z) → (y = .int n) → (MulOk z n) → (Q (.str (Txt.mul z n)) H) → dH x y H Q
theorem eW : OpR X (binaryOp .Mult) dH := by
  intro pins s σ H x y v u Q I rx ry h
  obtain ⟨z, n, rfl, rfl, hz, q⟩ := h
  obtain ⟨t, rfl⟩ := rx
  obtain ⟨t', rfl⟩ := ry
  exact SB.mul hz fun t' k => ⟨.str _, H, I.tok _, ⟨_, rfl⟩, q⟩
end
theorem og {z : Str}{g : TG}{tb : TS}{D : gF}{σ : St}{H : Hp}(Pv : Nat → St → Hp → Prop)(h0 : Pv 0 σ H)
    (hs : ∀ i c σ H, z.cps[i]? = some c → Pv i σ H → g (.str ⟨#[c]⟩) σ H fun σ2 H2 => tb { D with nx := Pv (i+1), ct := Pv (i+1), bk := D.nx } σ2 H2) (hd : ∀ σ H, Pv z.cps.size σ H → D.nx σ H) :
    ∃ W : Nat → Nat → St → Hp → Prop, (∃ m, W 0 m σ H) ∧ ∀ i m σ H, W i m σ H →
      ((Its z).stop i H ∧ D.nx σ H) ∨ ((Its z).go i H ∧ ∃ N : St → Hp → Prop, (∀ σ' H', N σ' H' → ∃ m', m' < m ∧ W (i+1) m' σ' H') ∧ ∀ x H', (Its z).yld i H x H' → g x σ H' fun σ2 H2 => tb { D with nx := N, ct := N, bk := D.nx } σ2 H2) := by
  refine ⟨fun i m σ H => m=z.cps.size - i ∧ i≤z.cps.size ∧ Pv i σ H, ⟨z.cps.size, by simp, vE _, h0⟩, ?_⟩
  rintro i m σ H ⟨rfl, hi, p⟩
  by_cases hlt : i < z.cps.size
  · refine .inr ⟨hlt, Pv (i+1), fun σ' H' p' => ⟨z.cps.size - (i+1), by omega, rfl, hlt, p'⟩, fun x H' y => ?_⟩
    obtain ⟨e, c, hc, ex⟩ := y
    subst e ex
    exact hs i c σ _ hc p
  · have e : i=z.cps.size := by omega
    subst e
    exact .inl ⟨rfl, hd σ H p⟩
end L2
namespace PySem
open Sem (wp)
open Builtin Builtin.SmallTypes
namespace F
end F
section
variable {prog : Program} {w : World} {A : Around} {E : Value → Shared → Prop} {s : Shared} {x : Str} {t : Tok}
end
end PySem
namespace L2
open PySem PySem.Spec PyProof.Rows
section
variable {X : Cx} {tg : Expr}
end
end L2
namespace Wd
abbrev L := Fin 12
def inv (x : L) : L := if h : x.val < 6 then ⟨x.val+6, by omega⟩ else ⟨x.val - 6, by omega⟩
def bk (w : List L) : List L := (w.map inv).reverse
theorem cY (w : List L) : (bk w).length=w.length := by simp [bk]
theorem nA (x : L) : bk [x]=[inv x] := rfl
def push (st : List L)(x : L) : List L := match st with
  | [] => [x]
  | y::r => if y=inv x then r else x::y::r
def Rd : List L → Prop
  | [] => True
  | [_] => True
  | x::y::r => y≠inv x ∧ Rd (y::r)
def rep : Nat → List L → List L
  | 0, _ => []
  | n+1, w => rep n w++w
theorem iD (w : List L) : ∀ n, rep n w++w=w++rep n w
  | 0 => by simp [rep]
  | n+1 => by
    show (rep n w++w)++w=w++(rep n w++w)
    rw [← uO, ← iD w n]
theorem eX (w : List L) : ∀ n, (rep n w).length=n*w.length
  | 0 => by simp [rep]
  | n+1 => by
    show (rep n w++w).length=_
    rw [uF, eX w n, Nat.succ_mul]
def pw (w : List L)(n : Int) : List L := rep n.natAbs (if n < 0 then bk w else w)
end Wd
namespace L2
open PySem PySem.Spec PyProof.Rows Wd
def cp (x : L) : Nat := if x.val < 6 then 97+x.val else 59+x.val
theorem oh : ∀ x : L, cp x < 128 := by decide
theorem qh : ∀ x y : L, cp x=cp y → x=y := by decide
def toS (w : List L) : Str := ⟨(w.map cp).toArray⟩
def tx (w : List L) : V := .str (toS w)
theorem cf (w : List L) : (toS w).cps.toList=w.map cp := by simp [toS]
theorem af (w : List L) : (toS w).length=w.length := by simp [toS, Str.length]
theorem cZ (w : List L) : (toS w).cps.size=w.length := by simp [toS]
theorem eY (u v : List L) : toS u++toS v=toS (u++v) := by
  apply Str.ext'
  rw [Str.cps_append]
  simp [toS]
theorem dw : ∀ {u v : List L}, u.map cp=v.map cp → u=v
  | [], [], _ => rfl
  | [], _::_, h => by simp at h
  | _::_, [], h => by simp at h
  | x::u, y::v, h => by
    simp only [vV, y9] at h
    rw [qh x y h.1, dw h.2]
theorem oj {u v : List L}(h : toS u=toS v) : u=v := by
  have : (toS u).cps.toList=(toS v).cps.toList := by rw [h]
  rw [cf, cf] at this
  exact dw this
theorem jM {u v : List L}(h : tx u=tx v) : u=v := oj (V.str.inj h)
theorem nB (u v : List L) : decide (tx u=tx v)=decide (u=v) := by
  by_cases h : u=v
  · subst h;simp
  · rw [uP h, uP fun e => h (jM e)]
theorem lV : toS [0, 1, 2, 3, 4, 5]=("abcdef" : Str) := by decide +kernel
theorem big : toS [6, 7, 8, 9, 10, 11]=("ABCDEF" : Str) := by decide +kernel
theorem gL {w : List L}{i c : Nat}(h : (toS w).cps[i]? = some c) : ∃ x, w[i]? = some x ∧ (⟨#[c]⟩ : Str)=toS [x] := by
  have h : ((w.map cp).toArray)[i]? = some c := h
  rw [List.getElem?_toArray, u_] at h
  cases e : w[i]? with
  | none => rw [e] at h;cases h
  | some x =>
    rw [e] at h
    have : cp x=c := uV h
    exact ⟨x, rfl, by rw [← this];rfl⟩
theorem dy {w : List L}{k : Nat}{x : L}{i : Int}(hk : i=(k : Int))(h : w[k]? = some x) : atI (toS w).cps.toList i=some (cp x) := by
  subst hk
  rw [cf]
  obtain ⟨hl, e⟩ := uJ.mp h
  unfold atI ixN
  rw [if_pos (by omega), if_pos (by rw [uD];omega)]
  show (w.map cp)[((k : Nat) : Int).toNat]? = _
  rw [vh, u_, h]
  rfl
def lX (w : List L)(lo hi : Option Int) : List L := (w.drop (HT.sIx w.length 0 lo)).take (HT.sIx w.length w.length hi - HT.sIx w.length 0 lo)
theorem om (lo hi : Option Int)(n : Nat) : Builtin.Str.strSliceIndices lo hi 1 n=(List.range (HT.sIx n n hi - HT.sIx n 0 lo)).map (fun k => HT.sIx n 0 lo+k) := by
  have cl : ∀ v : Int, max (0 : Int) (min (if v < 0 then v+(n : Int) else v) (n : Int))=(((if v < 0 then (v+(n : Int)).toNat else min v.toNat n) : Nat) : Int) := fun v => by
    by_cases hv : v < 0
    · simp only [if_pos hv];omega
    · simp only [if_neg hv];omega
  have fin : ∀ a b : Nat, sliceRange (a : Int) (b : Int) 1=(List.range (b - a)).map (fun k => a+k) := fun a b => by
    unfold sliceRange
    simp only [show ((1 : Int) > 0)=True from by simp, wj]
    by_cases hlt : (a : Int) < b
    · have e3 : (((b : Int) - a+1 - 1) / 1).toNat=b - a := by first | omega | (simp;done) | (simp;omega)
      simp only [hlt, wj, e3]
      exact List.map_congr_left fun k _ => by omega
    · have : b - a=0 := by omega
      simp [hlt, this]
  unfold Builtin.Str.strSliceIndices
  simp only [show ((1 : Int) > 0)=True from by simp, wj]
  cases lo with
  | none =>
    cases hi with
    | none => exact fin 0 n
    | some j => simp only [cl];exact fin 0 _
  | some i =>
    cases hi with
    | none => simp only [cl];exact fin _ n
    | some j => simp only [cl];exact fin _ _
theorem bu (w : List L)(lo hi : Option Int) : Txt.slice (toS w) lo hi=toS (lX w lo hi) := by
  have h1 := HT.jC w.length 0 (vE _) lo
  have h2 := HT.jC w.length w.length (uG _) hi
  unfold Txt.slice
  rw [om, af]
  split
  · rename_i h
    have hl : HT.sIx w.length w.length hi - HT.sIx w.length 0 lo=w.length := by simpa using h
    have e : lX w lo hi=w := by
      unfold lX
      rw [hl]
      have ha : HT.sIx w.length 0 lo=0 ∨ w.length=0 := by omega
      rcases ha with ha | ha
      · rw [ha, yu, vZ]
      · have : w=[] := xT ha
        subst this
        simp
    rw [e]
  · apply Str.ext'
    show (List.filterMap _ _).toArray=_
    have e := StrLaws.picks (w.map cp) (HT.sIx w.length w.length hi - HT.sIx w.length 0 lo) (HT.sIx w.length 0 lo)
    by_cases hle : HT.sIx w.length 0 lo≤HT.sIx w.length w.length hi
    · have e := e (by rw [uD];omega)
      have e2 : (fun k : Nat => (toS w).cps[k]?)=fun k : Nat => (w.map cp)[k]? := funext fun k => by simp [toS]
      rw [e2, e]
      simp [toS, lX, List.map_take, List.map_drop]
    · have z : HT.sIx w.length w.length hi - HT.sIx w.length 0 lo=0 := by omega
      rw [z]
      simp [toS, lX, z]
theorem dI (w : List L){n : Int}(h : 0≤n) : lX w none (some n)=w.take n.toNat := by
  obtain ⟨k, rfl⟩ := vW h
  unfold lX
  rw [HT.cT, HT.cv, yu, zj, vh]
  by_cases hk : k≤w.length
  · rw [Nat.min_eq_left hk]
  · rw [Nat.min_eq_right (by omega), vZ, vj (by omega)]
theorem iE (w : List L){n : Int}(h : 0≤n) : lX w (some n) none=w.drop n.toNat := by
  obtain ⟨k, rfl⟩ := vW h
  unfold lX
  rw [HT.cT, HT.cv, vh]
  by_cases hk : k≤w.length
  · rw [Nat.min_eq_left hk, vj (by rw [vv];omega)]
  · rw [Nat.min_eq_right (by omega), yU, List.drop_eq_nil_of_le (by omega)]
    simp
theorem jN (w : List L) : Txt.upper (toS w)=⟨((w.map cp).map up1).toArray⟩ := by
  rw [upper_ascii fun c hc => by rw [cf] at hc;obtain ⟨x, _, rfl⟩ := v7.mp hc;exact oh x]
  simp [toS]
theorem jO (w : List L) : Txt.lower (toS w)=⟨((w.map cp).map lo1).toArray⟩ := by
  rw [lower_ascii fun c hc => by rw [cf] at hc;obtain ⟨x, _, rfl⟩ := v7.mp hc;exact oh x]
  simp [toS]
theorem sv : ∀ x : L, x.val < 6 → up1 (cp x)=cp (inv x) := by decide
theorem sC : ∀ x : L, ¬ x.val < 6 → lo1 (cp x)=cp (inv x) := by decide
theorem jP {x : L}(h : x.val < 6) : Txt.upper (toS [x])=toS [inv x] := by
  rw [jN]
  show (⟨#[up1 (cp x)]⟩ : Str)=⟨#[cp (inv x)]⟩
  rw [sv x h]
theorem jQ {x : L}(h : ¬ x.val < 6) : Txt.lower (toS [x])=toS [inv x] := by
  rw [jO]
  show (⟨#[lo1 (cp x)]⟩ : Str)=⟨#[cp (inv x)]⟩
  rw [sC x h]
theorem lY : ∀ w : List L, Txt.join ("" : Str) (w.map fun x => toS [x])=toS w := by
  intro w
  have e0 : ("" : Str)=Str.empty := by decide +kernel
  unfold Txt.join
  rw [StrLaws.glued_eq_join, e0]
  induction w with
  | nil => rfl
  | cons x r ih =>
    cases r with
    | nil => rfl
    | cons y r =>
      show toS [x]++Str.empty++Str.join Str.empty ((y::r).map fun x => toS [x])=_
      rw [ih, Str.append_empty, eY]
      rfl
theorem oo (w : List L) : ((w.map fun x => toS [x]).map (·.length)).sum=w.length := by
  induction w with
  | nil => rfl
  | cons x r ih =>
    simp only [vV, List.sum_cons, vQ]
    rw [ih, af]
    simp only [xK]
    omega
theorem dJ (w : List L) : ∀ (n : Nat) (acc : Array Nat), (List.replicate n (toS w).cps).foldl (· ++ ·) acc=acc++((rep n w).map cp).toArray
  | 0, acc => by simp [rep]
  | n+1, acc => by
    rw [xj, y8, dJ w n]
    show _=acc++((rep n w++w).map cp).toArray
    rw [iD]
    simp [toS]
theorem jR : ∀ n, rep n ([] : List L)=[]
  | 0 => rfl
  | n+1 => by show rep n []++[]=[];rw [jR n];rfl
theorem oq (w : List L)(n : Int) : Txt.mul (toS w) n=toS (rep n.toNat w) := by
  unfold Txt.mul
  by_cases h1 : n < 1
  · rw [if_pos h1]
    have : n.toNat=0 := by omega
    rw [this]
    rfl
  · rw [if_neg h1]
    split
    · rename_i h
      rw [af] at h
      simp only [yd, beq_iff_eq] at h
      rcases h with h | h
      · subst h
        show toS w=toS (rep 1 w)
        show toS w=toS ([]++w)
        rfl
      · have : w=[] := xT h
        subst this
        rw [jR]
    · apply Str.ext'
      show (List.replicate n.toNat (toS w).cps).foldl (· ++ ·) #[]=_
      rw [dJ]
      simp [toS]
theorem fV (w : List L){n : Int}(h1 : -1000000≤n)(h2 : n≤1000)(hw : w.length≤10000) : MulOk (toS w) n := by
  refine ⟨?_, fun hn _ => ?_, fun hn _ => ?_⟩
  · have e1 : decide (n < -(2 ^ 63 : Int))=false := uP (by omega)
    have e2 : decide (n≥2 ^ 63)=false := uP (by omega)
    rw [e1, e2, Bool.or_false]
  · rw [af]
    have hn1 : 1≤n := by omega
    have q : (9223372036854775 : Int)≤(2 ^ 63 - 1) / n := by
      rw [Int.le_ediv_iff_mul_le (by omega)]
      omega
    omega
  · rw [af]
    unfold Builtin.Str.tooLong
    have e : sizeLine=16777216 := x8
    obtain ⟨k, rfl⟩ := vW (show 0≤n by omega)
    have hk : k≤1000 := by omega
    rw [vh]
    have q : w.length*k≤10000*1000 := Nat.mul_le_mul hw hk
    exact uP (by omega)
end L2
namespace L2
open PySem PySem.Spec PyProof.Rows Wd
structure Fnc (P : Program) (w : World) (K : PySem.W.Frag) (mg : Str → Option Value) (base : Heap) (x : Str) (ps : List Str) (k : Nat) (sp : Sp) : Prop where
  ex : ∃ (f : Addr) (fd : FuncData), mg x=some (.ref f) ∧ PySem.W.keepIn K (.ref f)=true ∧ i6 K fd ps [] ∧ lj P w K mg base CX0 k f fd ps sp
theorem aV {X : Cx}{x : Str}{ps : List Str}{k j : Nat}{sp : Sp}{e : Expr}{es : List Expr}{t : TA}{p pos : Pos}(F : Fnc X.prog X.w X.K X.mg X.base x ps j sp)(hr : eS k X.A)(hj : j≤k)(hg : Gl X x)(ha : PA X (e::es) t)
    (hdb : (x == ("__debug__" : Str))=false := by decide) (he : starEach (e::es) X.env=(false, eval e X.env)::starEach es X.env := by rfl) (hpl : (backTo pos (starEach es X.env)).any (·.1)=false := by rfl) :
    PE X (.Call (.Name x p) (e::es) [] pos) (pX sp [] E0 t) := by
  obtain ⟨f, fd, hm, hk, hb, F⟩ := F.ex
  exact nW F (hr.mono hj) hg hm hk hb .nil sk ha hdb he hpl
structure Df (K : PySem.W.Frag) (mg : Str → Option Value) (x : Str) (st : Stmt) : Prop where
  ex : ∃ (f : Addr) (fd : FuncData), mg x=some (.ref f) ∧ Fun K x x st f fd
theorem Df.ok {P : Program}{w : World}{K : PySem.W.Frag}{mg : Str → Option Value}{base : Heap}{x : Str}{st : Stmt}{N ps : List Str}{k : Nat}{sp : Sp}(D : Df K mg x st)(S : aN N ps (ai st))
    (hb : ∀ (kV doc pm : Value) (an : Option Addr) (cdv ct : Value) (us : List Value), us.length=ps.length → bindArgs (PySem.W.fnOf x x (aI st) (aH st) (ai st) .none kV doc pm an cdv ct) ⟨us, []⟩=pure (ps.zip us))
    (len : ∀ vs H Q E, sp vs H Q E → vs.length=ps.length)
    (hbody : ∀ (f : Addr) (cdv : Value) (A : Around) (outer : List Env) (s : Shared) (H : Hp) (vs : List V) (Q : VK) (E : XK), eS k (A.deeper (envOfC x (ai st) s.heap.objs.size f cdv)) → sp vs H Q E →
      ∃ t, PSs (nX CX0 P w K mg base N x (ai st) f cdv A outer s H E).nox (aH st) t ∧ t { nx := fun _ H' => Q .non H', rt := Q } (start N vs) H) : Fnc P w K mg base x ps (k+1) sp := by
  obtain ⟨f, fd, hm, F⟩ := D.ex
  exact ⟨f, fd, hm, F.kp, F.binds hb, F.ok S len fun cdv A outer s H vs Q E hr h => hbody f cdv A outer s H vs Q E hr h⟩
def a_ (d : Addr)(H H' : Hp) : Prop := ∀ b o, b≠d → H b=some o → H' b=some o
theorem a_.trans {d : Addr}{H H1 H2 : Hp}(a : a_ d H H1)(b : a_ d H1 H2) : a_ d H H2 := fun c o n h => b c o n (a c o n h)
theorem au.b {d : Addr}{H H' : Hp}(a : au H H') : a_ d H H' := fun b o _ h => a b o h
theorem au.new {H : Hp}{a : Addr}{o : HO}(h : H a=none) : au H (upd H a o) := fun b u e => by rw [aC (ao e h)]; exact e
theorem a_.upd {d : Addr}{H : Hp}{o : HO} : a_ d H (upd H d o) := fun b u n e => by rw [aC n]; exact e
theorem au.then {H H1 : Hp}{a : Addr}{o : HO}(s : au H H1)(h : H1 a=none) : au H (L2.upd H1 a o) := s.trans (au.new h)
def kS (x : Str) : Key := .inr x
theorem ou {ns : List Int}(h : ns≠[])(i : Int) : ∃ n : Int, atI (ns.map V.int) (i % ((ns.map V.int).length : Int))=some (.int n) := by
  have hl : 0 < ns.length := ye.mpr h
  rw [uD]
  have h0 := wt i (show (ns.length : Int)≠0 by omega)
  have h1 := vX i (show (0 : Int) < ns.length by omega)
  obtain ⟨k, hk⟩ := vW h0
  rw [hk] at h1 ⊢
  have hk' : k < ns.length := by omega
  refine ⟨ns[k], ?_⟩
  unfold atI ixN
  rw [if_pos (by omega), if_pos (by rw [uD];omega)]
  show (ns.map V.int)[((k : Nat) : Int).toNat]? = _
  rw [vh, u_, uB hk']
  rfl
end L2
namespace L2
open PySem PySem.Spec PyProof.Rows Wd
mutual
inductive Dt (H : Hp) : V → PyData → Prop where
  | non : Dt H .non .none
  | bl (b : Bool) : Dt H (.bl b) (.bool b)
  | int (i : Int) : Dt H (.int i) (.int i)
  | str (x : Str) : Dt H (.str x) (.str x)
  | lst {a : Addr} {xs : List V} {ds : List PyData} : H a=some (.lst xs) → Dts H xs ds → Dt H (.ref a) (.list ds)
  | tup {a : Addr} {xs : List V} {ds : List PyData} : H a=some (.tup xs) → Dts H xs ds → Dt H (.ref a) (.tuple ds)
inductive Dts (H : Hp) : List V → List PyData → Prop where
  | nil : Dts H [] []
  | cons {v : V} {d : PyData} {vs : List V} {ds : List PyData} : Dt H v d → Dts H vs ds → Dts H (v::vs) (d::ds)
end
section
variable {P : Program} {w : World} {H : Hp} {h : Heap}
mutual
theorem Dt.reads (ok : HOk P w H h) : ∀ {v : V} {d : PyData}, Dt H v d → ∀ {u : Value}, bJ v u → ∃ as, Reads h u d as
  | _, _, .non, u, r => by cases r;exact ⟨_, .none⟩
  | _, _, .bl b, u, r => by cases r;exact ⟨_, .bool b⟩
  | _, _, .int i, u, r => by obtain ⟨t, rfl⟩ := r;exact ⟨_, .int i t⟩
  | _, _, .str x, u, r => by obtain ⟨t, rfl⟩ := r;exact ⟨_, .str x t⟩
  | _, _, .lst e q, u, r => by
    cases r
    obtain ⟨_, its, n, rv, g⟩ := ok _ _ e
    obtain ⟨as, ra⟩ := Dts.reads ok q rv
    exact ⟨_, .list g rfl rfl (by simpa using ra)⟩
  | _, _, .tup e q, u, r => by
    cases r
    obtain ⟨_, its, rv, ⟨ob, g, c, n, d⟩, _⟩ := ok _ _ e
    obtain ⟨as, ra⟩ := Dts.reads ok q rv
    exact ⟨_, .tuple g c d (by simpa using ra)⟩
theorem Dts.reads (ok : HOk P w H h) : ∀ {vs : List V} {ds : List PyData}, Dts H vs ds → ∀ {us : List Value}, bc vs us → ∃ as, ReadsAll h us ds as
  | _, _, .nil, _, r => by cases r;exact ⟨_, .nil⟩
  | _, _, .cons q qs, _, r => by
    cases r with
    | cons r rs =>
      obtain ⟨as, a1⟩ := Dt.reads ok q r
      obtain ⟨bs, a2⟩ := Dts.reads ok qs rs
      exact ⟨_, .cons a1 a2⟩
end
end
section
variable {X : Cx}
end
end L2
namespace Kx
open PySem PySem.Spec PyProof.Rows L2 Wd
theorem jS : bootBuiltins "list" = some (.type "list") := by kernel_rfl
theorem qi : bootBuiltins "int" = some (.type "int") := by kernel_rfl
theorem nC : bootBuiltins "repr" = some (.builtin "repr") := by kernel_rfl
theorem iF : bootBuiltins "sorted" = some (.builtin "sorted") := by kernel_rfl
theorem bN : bootBuiltins "tuple" = some (.type "tuple") := by kernel_rfl
theorem aM : bootBuiltins "isinstance" = some (.builtin "isinstance") := by kernel_rfl
theorem ow : bootBuiltins "all" = some (.builtin "all") := by kernel_rfl
theorem sD : bootBuiltins "str" = some (.type "str") := by kernel_rfl
theorem sE : bootBuiltins "zip" = some (.type "zip") := by kernel_rfl
theorem dp {H : Hp}{d : Addr}{kvs kvs' : List (Key × V)}{k : Str}{v : V}(h : H d=some (.dK kvs))(hl : kvs.length < sizeLine)(e : rG kvs (kS k) v=kvs') : rH H d (.str k) v (upd H d (.dK kvs')) := by
  have q := rH.k (k := kS k) (v := v) h hl
  rw [e] at q
  exact q
theorem sF {ns : List Int}(h : ns.length≤63) : dF (ns.map V.int) none (some 63)=ns.map V.int := by
  unfold dF
  have e : HT.sIx (ns.map V.int).length (ns.map V.int).length (some 63)=(ns.map V.int).length := by
    have := HT.cv (ns.map V.int).length (ns.map V.int).length 63
    rw [show ((63 : Nat) : Int)=63 from rfl] at this
    rw [this, uD]
    omega
  rw [e, HT.cT, yu, zj, vZ]
def bG (w : List L) : List V := w.map fun x => tx [x]
theorem c_ (w : List L) : bG w=(w.map fun x => toS [x]).map V.str := by unfold bG; rw [xN]; rfl
theorem cB (w : List L)(x : L) : bG w++[tx [x]]=bG (w++[x]) := by unfold bG; rw [uY]; rfl
theorem bq (w : List L) : (bG w).length=w.length := by unfold bG; rw [uD]
theorem cC (w : List L) : V.str (Txt.join ("" : Str) (w.map fun x => toS [x]))=tx w := vz V.str (lY w)
theorem cD (w : List L)(h : w.length≤1000000) : ((w.map fun x => toS [x]).map (·.length)).sum+(w.map fun x => toS [x]).length*("" : Str).length≤16777216 := by
  have e : ("" : Str).length=0 := by decide +kernel
  rw [e, oo]
  omega
theorem br : sizeLine=16777216 := x8
inductive rJ (vs : List V)(H : Hp)(Q : VK)(u3_ : XK) : Prop
  | mk : ∀ w, (vs=[tx w]) → (w.length≤5000) → (∀ H', au H H' → Q (tx (bk w)) H') → rJ vs H Q u3_
theorem jT (u v : List L) : V.str (toS u++toS v)=tx (u++v) := vz V.str (eY u v)
def sg (m : Int) : List L := ([0, 1, 2, 3, 4, 5] : List L).take m.toNat++([6, 7, 8, 9, 10, 11] : List L).take m.toNat
theorem jU {m : Int}(h1 : 1≤m)(h2 : m≤6) : (sg m).length=2*m.toNat := by
  unfold sg
  rw [uF, uR, uR]
  simp only [vQ, yf]
  omega
theorem lZ {m : Int}(h1 : 1≤m) : V.str (Txt.slice ("abcdef" : Str) none (some m)++Txt.slice ("ABCDEF" : Str) none (some m))=tx (sg m) := by
  rw [← lV, ← big, bu, bu, dI _ (by omega), dI _ (by omega), jT]
  rfl
theorem fW : ("abcdef" : Str).length=6 := by decide +kernel
theorem jV : ("ABCDEF" : Str).length=6 := by decide +kernel
theorem qj (u : List L){i : Nat}{y : L}(hi : i < u.length)(h : u[u.length - 1 - i]? = some y) : (bk u)[i]? = some (inv y) := by
  unfold bk
  rw [w4 (by rw [uD];exact hi), uD, u_, h]
  rfl
theorem d8 {u : List L}{i : Nat}{x : L}(h : u[i]? = some x) : u.take (i+1)=u.take i++[x] := by
  obtain ⟨hl, e⟩ := uJ.mp h
  rw [v_, h]
  rfl
theorem nD {c : Bool}{A B : Prop}(hc : c=true)(h : A) : if c=true then A else B := by rw [if_pos hc]; exact h
theorem nE {c : Bool}{A B : Prop}(hc : c=false)(h : B) : if c=true then A else B := by rw [hc]; exact lQ h
theorem sm6 : ∀ j : Fin 6, ([0, 1, 2, 3, 4, 5] : List L)[j.val]? = some ⟨j.val, Nat.lt_trans j.isLt (by decide)⟩ := by decide
end Kx
namespace Tv
open PySem PyProof.Rows
theorem av {σ : Type}{M : Model}{A : Around}{E : Value → Shared → Prop}{s : Shared}{α : Type}{c : Prop}[Decidable c]{x y : StateT σ Sem α}{Q : α → σ → Prop}{st : σ}(h : c)(p : wpS M A E s x Q st) : wpS M A E s (if c then x else y) Q st := by
  rw [if_pos h];exact p
theorem ay {σ : Type}{M : Model}{A : Around}{E : Value → Shared → Prop}{s : Shared}{α : Type}{c : Prop}[Decidable c]{x y : StateT σ Sem α}{Q : α → σ → Prop}{st : σ}(h : ¬ c)(p : wpS M A E s y Q st) : wpS M A E s (if c then x else y) Q st := by
  rw [if_neg h];exact p
def kof (κ : KeyKind)(p : Keyed) : κ.α := (κ.keyOf p.1).getD κ.dflt
def Gd (κ : KeyKind)(p : Keyed) : Prop := ∃ a, κ.keyOf p.1=some a
theorem Gd.eq {κ : KeyKind}{p : Keyed}(h : Gd κ p) : κ.keyOf p.1=some (kof κ p) := by
  obtain ⟨a, e⟩ := h
  unfold kof
  rw [e]
  rfl
structure TB (kd : SortKind) (st : SortSt) : Prop where
  kind : kindOf st=kd
  failed : failedOf st=none
def Lt1 (κ : KeyKind)(prog : Program)(w : World)(A : Around)(s : Shared)(kd : SortKind) : Prop := ∀ (E : Value → Shared → Prop) (x y : Value) (a b : κ.α) (Q : Bool → Shared → Prop), κ.keyOf x=some a → κ.keyOf y=some b → Q (κ.blt a b) s → wpAny (model prog w) A (keyLt' kd x y) Q E s
def gal : Bool → Keyed → Array Keyed → Nat → Nat → Nat → StateT SortSt Sem (Option Nat) := sortPriv% PySem.Builtin.gallop
def gbd (lf : Bool)(key : Keyed)(arr : Array Keyed)(b i : Nat) : StateT SortSt Sem (Option Bool) := do
  let it ← elem' arr (b+i)
  if lf then lt' it key else return (← lt' key it).map (!·)
def rK (lf : Bool)(key : Keyed)(arr : Array Keyed)(b n d0 u0 : Nat) : StateT SortSt Sem (Option Nat) := do
  let mut dn := d0
  let mut up := u0
  for _ in [0:n] do
    if dn≥up then break
    let md := dn+(up - dn) / 2
    let some mr ← gbd lf key arr b md | return none
    if mr then dn := md+1 else up := md
  return some up
theorem qk (lf : Bool)(key : Keyed)(arr : Array Keyed)(b n h : Nat) : gal lf key arr b n h=(do
  let mut la := 0
  let mut of := 1
  let some rt ← gbd lf key arr b h | return none
  if rt then
    for _ in [0:n] do
      if of≥n - h then break
      let some mr ← gbd lf key arr b (h+of) | return none
      if !mr then break
      la := of
      of := 2*of+1
    rK lf key arr b n (h+la+1) (h+min of (n - h))
  else
    for _ in [0:n] do
      if of≥h+1 then break
      let some fd ← gbd lf key arr b (h - of) | return none
      if fd then break
      la := of
      of := 2*of+1
    rK lf key arr b n (h+1 - min of (h+1)) (h - la)) := rfl
section
variable {prog : Program} {w : World} {A : Around} {E : Value → Shared → Prop} {s : Shared} {κ : KeyKind} {kd : SortKind}
theorem fX {st : SortSt}{x y : Keyed}{Q : Option Bool → SortSt → Prop}(hO : Lt1 κ prog w A s kd)(hB : TB kd st)(hx : Gd κ x)(hy : Gd κ y)(h : Q (some (κ.blt (kof κ x) (kof κ y))) st) : wpS (model prog w) A E s (lt' x y) Q st := by
  rw [lt'_eq]
  refine uM (yg ?_)
  rw [hB.kind]
  refine uM (zc (yK (hO _ x.1 y.1 _ _ _ hx.eq hy.eq ⟨rfl, ?_⟩)))
  exact uS h
def bdB (κ : KeyKind)(lf : Bool)(key : κ.α)(x : κ.α) : Bool := if lf then κ.blt x key else !κ.blt key x
theorem ox {st : SortSt}{lf : Bool}{key p : Keyed}{arr : Array Keyed}{b i : Nat}{Q : Option Bool → SortSt → Prop}(hO : Lt1 κ prog w A s kd)(hB : TB kd st)(hk : Gd κ key)(e : arr[b+i]? = some p)(hp : Gd κ p)
    (h : Q (some (bdB κ lf (kof κ key) (kof κ p))) st) : wpS (model prog w) A E s (gbd lf key arr b i) Q st := by
  unfold gbd
  rw [elem'_eq, e]
  refine uM (uS ?_)
  unfold bdB at h
  cases lf with
  | true => exact fX hO hB hp hk h
  | false => exact uM (fX hO hB hk hp (uS h))
theorem gM {st : SortSt}{lf : Bool}{key : Keyed}{arr : Array Keyed}{b n h : Nat}{Q : Option Nat → SortSt → Prop}(hO : Lt1 κ prog w A s kd)(hB : TB kd st)(hk : Gd κ key)(B : Nat → Bool)(hh : h < n)
    (at_ : ∀ i, i < n → ∃ p, arr[b+i]? = some p ∧ Gd κ p ∧ bdB κ lf (kof κ key) (kof κ p)=B i) (mono : ∀ i j, i≤j → j < n → B j=true → B i=true)
    (hq : ∀ k, k≤n → (∀ i, i < k → B i=true) → (∀ i, k≤i → i < n → B i=false) → Q (some k) st) : wpS (model prog w) A E s (gal lf key arr b n h) Q st := by
  have ask : ∀ {i : Nat} {R : Option Bool → SortSt → Prop}, i < n → R (some (B i)) st → wpS (model prog w) A E s (gbd lf key arr b i) R st := fun {i R} hi r => by
    obtain ⟨p, e, g, eb⟩ := at_ i hi
    exact ox hO hB hk e g (by rw [eb];exact r)
  have no : ∀ i j, i≤j → j < n → B i=false → B j=false := fun i j hij hj e => by
    cases ej : B j with
    | false => rfl
    | true => rw [mono i j hij hj ej] at e;cases e
  -- the last part
  have fin : ∀ dn up, dn≤up → up≤n → (∀ i, i < dn → B i=true) → (∀ i, up≤i → i < n → B i=false) → wpS (model prog w) A E s (rK lf key arr b n dn up) Q st := by
    intro dn up h1 h2 h3 h4
    unfold rK
    refine uM (wm (vA (I := fun x c st' => st'=st ∧ ∃ dn up, c=(none, dn, up) ∧ dn≤up ∧ up≤n ∧ up - dn≤n - x ∧ (∀ i, i < dn → B i=true) ∧ (∀ i, up≤i → i < n → B i=false))
      (Q := fun c st' => st'=st ∧ ∃ k, c=(none, k, k) ∧ k≤n ∧ (∀ i, i < k → B i=true) ∧ (∀ i, k≤i → i < n → B i=false)) ?step ?fin ⟨rfl, dn, up, rfl, h1, h2, by omega, h3, h4⟩) ?post)
    case post =>
      rintro c st' ⟨rfl, k, rfl, a1, a2, a3⟩
      exact uS (hq k a1 a2 a3)
    case fin =>
      rintro c st' ⟨rfl, dn, up, rfl, a1, a2, a3, a4, a5⟩
      have : dn=up := by omega
      subst this
      exact ⟨rfl, dn, rfl, a2, a4, a5⟩
    case step =>
      rintro x c st' _ hx ⟨rfl, dn, up, rfl, a1, a2, a3, a4, a5⟩
      dsimp only
      by_cases hd : dn≥up
      · refine av hd ?_
        have : dn=up := by omega
        subst this
        exact uS ⟨rfl, dn, rfl, a2, a4, a5⟩
      · refine ay hd ?_
        refine uM (ask (by omega) ?_)
        cases eb : B (dn+(up - dn) / 2) with
        | true =>
          simp only [wj]
          exact uS ⟨rfl, dn+(up - dn) / 2+1, up, rfl, by omega, a2, by omega, fun i hi => mono i _ (by omega) (by omega) eb, a5⟩
        | false =>
          simp only [uZ, vN]
          exact uS ⟨rfl, dn, dn+(up - dn) / 2, rfl, by omega, by omega, by omega, a4, fun i hi1 hi2 => no _ i (by omega) hi2 eb⟩
  rw [qk]
  refine uM (ask hh ?_)
  cases eh : B h with
  | true =>
    dsimp only
    refine av rfl ?_
    refine uM (wm (vA (I := fun x c st' => st'=st ∧ ∃ la of, c=(none, la, of) ∧ la < of ∧ x+1≤of ∧ h+la < n ∧ B (h+la)=true)
      (Q := fun c st' => st'=st ∧ ∃ la of, c=(none, la, of) ∧ la < of ∧ h+la < n ∧ B (h+la)=true ∧ (of≥n - h ∨ (h+of < n ∧ B (h+of)=false))) ?step ?fin ⟨rfl, 0, 1, rfl, by omega, by omega, by omega, eh⟩) ?post)
    case post =>
      rintro c st' ⟨rfl, la, of, rfl, a1, a2, a3, a4⟩
      dsimp only
      refine fin (h+la+1) (h+min of (n - h)) (by omega) (by omega) (fun i hi => mono i _ (by omega) a2 a3) fun i hi1 hi2 => ?_
      rcases a4 with a4 | ⟨a4, a5⟩
      · omega
      · exact no _ i (by omega) hi2 a5
    case fin =>
      rintro c st' ⟨rfl, la, of, rfl, a1, a2, a3, a4⟩
      exact ⟨rfl, la, of, rfl, a1, a3, a4, .inl (by omega)⟩
    case step =>
      rintro x c st' _ hx ⟨rfl, la, of, rfl, a1, a2, a3, a4⟩
      dsimp only
      by_cases ho : of≥n - h
      · refine av ho ?_
        exact uS ⟨rfl, la, of, rfl, a1, a3, a4, .inl ho⟩
      · refine ay ho ?_
        refine uM (ask (by omega) ?_)
        cases eb : B (h+of) with
        | true =>
          simp only [w9, uZ, vN]
          exact uS ⟨rfl, of, 2*of+1, rfl, by omega, by omega, by omega, eb⟩
        | false =>
          simp only [ze, wj]
          exact uS ⟨rfl, la, of, rfl, a1, a3, a4, .inr ⟨by omega, eb⟩⟩
  | false =>
    dsimp only
    refine ay u5 ?_
    refine uM (wm (vA (I := fun x c st' => st'=st ∧ ∃ la of, c=(none, la, of) ∧ la < of ∧ x+1≤of ∧ la≤h ∧ B (h - la)=false)
      (Q := fun c st' => st'=st ∧ ∃ la of, c=(none, la, of) ∧ la < of ∧ la≤h ∧ B (h - la)=false ∧ (of≥h+1 ∨ (of≤h ∧ B (h - of)=true))) ?step ?fin ⟨rfl, 0, 1, rfl, by omega, by omega, by omega, eh⟩) ?post)
    case post =>
      rintro c st' ⟨rfl, la, of, rfl, a1, a2, a3, a4⟩
      dsimp only
      refine fin (h+1 - min of (h+1)) (h - la) (by omega) (by omega) (fun i hi => ?_) fun i hi1 hi2 => no _ i hi1 hi2 a3
      rcases a4 with a4 | ⟨a4, a5⟩
      · omega
      · exact mono i _ (by omega) (by omega) a5
    case fin =>
      rintro c st' ⟨rfl, la, of, rfl, a1, a2, a3, a4⟩
      exact ⟨rfl, la, of, rfl, a1, a3, a4, .inl (by omega)⟩
    case step =>
      rintro x c st' _ hx ⟨rfl, la, of, rfl, a1, a2, a3, a4⟩
      dsimp only
      by_cases ho : of≥h+1
      · refine av ho ?_
        exact uS ⟨rfl, la, of, rfl, a1, a3, a4, .inl ho⟩
      · refine ay ho ?_
        refine uM (ask (by omega) ?_)
        cases eb : B (h - of) with
        | false =>
          simp only [uZ, vN]
          exact uS ⟨rfl, of, 2*of+1, rfl, by omega, by omega, by omega, eb⟩
        | true =>
          simp only [wj]
          exact uS ⟨rfl, la, of, rfl, a1, a3, a4, .inr ⟨by omega, eb⟩⟩
end
end Tv
namespace Tv
open PySem PyProof.Rows
def mlo : Array Keyed → Array Keyed → StateT SortSt Sem (Array Keyed) := sortPriv% PySem.Builtin.mergeLo
def smg : Nat → StateT SortSt Sem Unit := sortPriv% PySem.Builtin.setMinGallop
abbrev mDn (a b o : Array Keyed)(i j : Nat) : Array Keyed := o++a.extract i a.size++b.extract j b.size
abbrev mLa (a b o : Array Keyed)(i j : Nat) : Array Keyed := o++b.extract j b.size++a.extract i a.size
theorem ql (a b : Array Keyed) : mlo a b=(do
  rule "list.sort.merge-lo"
  let mut o : Array Keyed := #[← elem' b 0]
  let mut i := 0
  let mut j := 1
  if j == b.size then return mDn a b o i j
  if i+1 == a.size then return mLa a b o i j
  let mut g := gallopOf (← get)
  for _ in [0:a.size+b.size] do
    let mut p := 0
    let mut q := 0
    for _ in [0:a.size+b.size] do
      let some w ← lt' (← elem' b j) (← elem' a i) | return mDn a b o i j
      if w then
        o := o.push (← elem' b j)
        j := j+1
        q := q+1
        p := 0
        if j == b.size then return mDn a b o i j
        if q≥g then break
      else
        o := o.push (← elem' a i)
        i := i+1
        p := p+1
        q := 0
        if i+1 == a.size then return mLa a b o i j
        if p≥g then break
    rule "list.sort.gallop"
    g := g+1
    for _ in [0:a.size+b.size] do
      if g > 1 then g := g - 1
      smg g
      let some k ← gal false (← elem' b j) a i (a.size - i) 0 | return mDn a b o i j
      p := k
      if k > 0 then
        o := o++a.extract i (i+k)
        i := i+k
        if i+1 == a.size then return mLa a b o i j
        if i == a.size then return mDn a b o i j
      o := o.push (← elem' b j)
      j := j+1
      if j == b.size then return mDn a b o i j
      let some k ← gal true (← elem' a i) b j (b.size - j) 0 | return mDn a b o i j
      q := k
      if k > 0 then
        o := o++b.extract j (j+k)
        j := j+k
        if j == b.size then return mDn a b o i j
      o := o.push (← elem' a i)
      i := i+1
      if i+1 == a.size then return mLa a b o i j
      if p < 7 && q < 7 then break
    g := g+1
    smg g
  unsupported "internal:list.sort.merge-bound") := rfl
end Tv
namespace Tv
open PySem PyProof.Rows
variable {κ : KeyKind} {kd : SortKind}
def lek (κ : KeyKind)(x y : Keyed) : Prop := κ.kle (kof κ x) (kof κ y)
theorem de {x y z : Keyed}(h : lek κ x y)(g : lek κ y z) : lek κ x z := wM h g
theorem l_ (x : Keyed) : lek κ x x := vM _
def Srt (κ : KeyKind)(l : List Keyed) : Prop := l.Pairwise (lek κ)
theorem Srt.drop {l : List Keyed}(h : Srt κ l)(i : Nat) : Srt κ (l.drop i) := List.Pairwise.sublist (List.drop_sublist i l) h
theorem Srt.take {l : List Keyed}(h : Srt κ l)(i : Nat) : Srt κ (l.take i) := List.Pairwise.sublist (List.take_sublist i l) h
def Lel (κ : KeyKind)(l m : List Keyed) : Prop := ∀ x∈l, ∀ y∈m, lek κ x y
theorem bg {l m : List Keyed} : Srt κ (l++m) ↔ Srt κ l ∧ Srt κ m ∧ Lel κ l m := List.pairwise_append
theorem Srt.at {l : List Keyed}(h : Srt κ l){i j : Nat}{x y : Keyed}(hij : i≤j)(hx : l[i]? = some x)(hy : l[j]? = some y) : lek κ x y := by
  by_cases e : i=j
  · subst e
    rw [hx] at hy
    cases hy
    exact l_ _
  · obtain ⟨h1, e1⟩ := uJ.mp hx
    obtain ⟨h2, e2⟩ := uJ.mp hy
    have := xh.mp h i j h1 h2 (by omega)
    rw [e1, e2] at this
    exact this
theorem bO {l : List Keyed}{i : Nat}{x : Keyed}(h : l[i]? = some x) : l.drop i=x::l.drop (i+1) := by
  obtain ⟨h1, e1⟩ := uJ.mp h
  rw [wc h1, e1]
theorem bf {l : List Keyed}{i : Nat}{x : Keyed}(h : l[i]? = some x) : l.take (i+1)=l.take i++[x] := by
  rw [v_, h]
  rfl
structure Mc (κ : KeyKind) (A B O : List Keyed) (i j : Nat) : Prop where
  pm : O.Perm (A.take i++B.take j)
  so : Srt κ O
  la : Lel κ O (A.drop i)
  lb : Lel κ O (B.drop j)
  hi : i≤A.length
  hj : j≤B.length
theorem Mc.pushA {A B O : List Keyed}{i j : Nat}(M : Mc κ A B O i j)(sA : Srt κ A){x : Keyed}(h : A[i]? = some x)(hx : Lel κ [x] (B.drop j)) : Mc κ A B (O++[x]) (i+1) j := by
  have ed := bO h
  have sd := sA.drop i
  rw [ed] at sd
  have sd' := wX.mp sd
  refine ⟨?_, bg.mpr ⟨M.so, yL _ _, fun o ho y hy => ?_⟩, fun o ho y hy => ?_, fun o ho y hy => ?_, (uJ.mp h).1, M.hj⟩
  · rw [bf h]
    refine (M.pm.append_right [x]).trans ?_
    rw [uO, uO]
    exact we _ wA
  · rw [uE] at hy
    subst hy
    exact M.la o ho _ (by rw [ed];exact vf)
  · rcases uW.mp ho with ho | ho
    · exact M.la o ho y (by rw [ed];exact u6 _ hy)
    · rw [uE] at ho
      subst ho
      exact sd'.1 y hy
  · rcases uW.mp ho with ho | ho
    · exact M.lb o ho y hy
    · exact hx o ho y hy
theorem Mc.pushB {A B O : List Keyed}{i j : Nat}(M : Mc κ A B O i j)(sB : Srt κ B){x : Keyed}(h : B[j]? = some x)(hx : Lel κ [x] (A.drop i)) : Mc κ A B (O++[x]) i (j+1) := by
  have ed := bO h
  have sd := sB.drop j
  rw [ed] at sd
  have sd' := wX.mp sd
  refine ⟨?_, bg.mpr ⟨M.so, yL _ _, fun o ho y hy => ?_⟩, fun o ho y hy => ?_, fun o ho y hy => ?_, M.hi, (uJ.mp h).1⟩
  · rw [bf h]
    refine (M.pm.append_right [x]).trans ?_
    rw [uO]
  · rw [uE] at hy
    subst hy
    exact M.lb o ho _ (by rw [ed];exact vf)
  · rcases uW.mp ho with ho | ho
    · exact M.la o ho y hy
    · exact hx o ho y hy
  · rcases uW.mp ho with ho | ho
    · exact M.lb o ho y (by rw [ed];exact u6 _ hy)
    · rw [uE] at ho
      subst ho
      exact sd'.1 y hy
theorem Mc.pushAs {A B O : List Keyed}{i j : Nat}(M : Mc κ A B O i j)(sA : Srt κ A) : ∀ k, i+k≤A.length → Lel κ ((A.drop i).take k) (B.drop j) → Mc κ A B (O++(A.drop i).take k) (i+k) j
  | 0, _, _ => by simpa using M
  | k+1, hk, hl => by
    have hlt : i+k < A.length := by omega
    have e : (A.drop i)[k]? = some A[i+k] := by rw [vK, uB hlt]
    have et : (A.drop i).take (k+1)=(A.drop i).take k++[A[i+k]] := bf e
    rw [et] at hl ⊢
    have ih := Mc.pushAs M sA k (by omega) fun x hx => hl x (u7 _ hx)
    have := ih.pushA sA (uB hlt) fun x hx => hl x (uL _ hx)
    rw [uO] at this
    exact this
theorem Mc.pushBs {A B O : List Keyed}{i j : Nat}(M : Mc κ A B O i j)(sB : Srt κ B) : ∀ k, j+k≤B.length → Lel κ ((B.drop j).take k) (A.drop i) → Mc κ A B (O++(B.drop j).take k) i (j+k)
  | 0, _, _ => by simpa using M
  | k+1, hk, hl => by
    have hlt : j+k < B.length := by omega
    have e : (B.drop j)[k]? = some B[j+k] := by rw [vK, uB hlt]
    have et : (B.drop j).take (k+1)=(B.drop j).take k++[B[j+k]] := bf e
    rw [et] at hl ⊢
    have ih := Mc.pushBs M sB k (by omega) fun x hx => hl x (u7 _ hx)
    have := ih.pushB sB (uB hlt) fun x hx => hl x (uL _ hx)
    rw [uO] at this
    exact this
def Mg (κ : KeyKind)(A B R : List Keyed) : Prop := R.Perm (A++B) ∧ Srt κ R
theorem Mc.perm {A B O : List Keyed}{i j : Nat}(M : Mc κ A B O i j) : (O++(A.drop i++B.drop j)).Perm (A++B) := by
  have h1 : (O++(A.drop i++B.drop j)).Perm ((A.take i++B.take j)++(A.drop i++B.drop j)) := M.pm.append_right _
  refine h1.trans ?_
  have h2 : ((A.take i++B.take j)++(A.drop i++B.drop j)).Perm ((A.take i++A.drop i)++(B.take j++B.drop j)) := by
    rw [uO, uO]
    refine we _ ?_
    rw [← uO, ← uO]
    exact wR _ wA
  rw [vb, vb] at h2
  exact h2
theorem Mc.done {A B O : List Keyed}{i j : Nat}(M : Mc κ A B O i j)(sA : Srt κ A)(sB : Srt κ B)(h : i=A.length ∨ j=B.length) : Mg κ A B (O++A.drop i++B.drop j) := by
  refine ⟨by rw [uO];exact M.perm, ?_⟩
  rw [uO]
  refine bg.mpr ⟨M.so, bg.mpr ⟨sA.drop i, sB.drop j, fun x hx y hy => ?_⟩, fun o ho y hy => ?_⟩
  · rcases h with h | h
    · subst h;rw [yU] at hx;cases hx
    · subst h;rw [yU] at hy;cases hy
  · rcases uW.mp hy with hy | hy
    · exact M.la o ho y hy
    · exact M.lb o ho y hy
theorem Mc.last {A B O : List Keyed}{i j : Nat}(M : Mc κ A B O i j)(sA : Srt κ A)(sB : Srt κ B)(h : i+1=A.length)(hl : ∀ z, A[A.length - 1]? = some z → Lel κ B [z]) : Mg κ A B (O++B.drop j++A.drop i) := by
  have hlt : i < A.length := by omega
  have ed : A.drop i=[A[i]] := by rw [bO (uB hlt), xE (by omega)]
  refine ⟨?_, ?_⟩
  · refine List.Perm.trans ?_ M.perm
    rw [uO]
    exact we _ wA
  · rw [uO]
    refine bg.mpr ⟨M.so, bg.mpr ⟨sB.drop j, sA.drop i, fun x hx y hy => ?_⟩, fun o ho y hy => ?_⟩
    · rw [ed] at hy
      exact hl A[i] (by rw [show A.length - 1=i by omega];exact uB hlt) x (vI hx) y hy
    · rcases uW.mp hy with hy | hy
      · exact M.lb o ho y hy
      · exact M.la o ho y hy
theorem iG (a b o : Array Keyed)(i j : Nat) : (mDn a b o i j).toList=o.toList++a.toList.drop i++b.toList.drop j := by
  simp [mDn, vY, vj]
theorem iH (a b o : Array Keyed)(i j : Nat) : (mLa a b o i j).toList=o.toList++b.toList.drop j++a.toList.drop i := by
  simp [mLa, vY, vj]
theorem iI (a : Array Keyed)(i k : Nat) : (a.extract i (i+k)).toList=(a.toList.drop i).take k := by
  simp [vY, List.take_drop]
theorem iJ {lf : Bool}{key x y : κ.α}(h : κ.kle x y)(hb : bdB κ lf key y=true) : bdB κ lf key x=true := by
  unfold bdB at hb ⊢
  cases lf with
  | true => exact KeyOrd.klt_of_kle_of_klt h hb
  | false =>
    have hb : (!κ.blt key y)=true := hb
    have hy : κ.kle y key := by show κ.blt key y=false;simpa using hb
    have := wM h hy
    show (!κ.blt key x)=true
    have this : κ.blt key x=false := this
    rw [this]
    rfl
end Tv
namespace Tv
open PySem PyProof.Rows
section
variable {prog : Program} {w : World} {A : Around} {E : Value → Shared → Prop} {s : Shared} {κ : KeyKind} {kd : SortKind}
structure Ok (kd : SortKind) (st st' : SortSt) : Prop where
  tb : TB kd st'
  ar : arrOf st'=arrOf st
  pd : pendingOf st'=pendingOf st
theorem Ok.refl {st : SortSt}(h : TB kd st) : Ok kd st st := ⟨h, rfl, rfl⟩
theorem fm {st st' : SortSt}{g : Nat}{Q : Unit → SortSt → Prop}(h : Ok kd st st')(q : ∀ st'', Ok kd st st'' → Q () st'') : wpS (model prog w) A E s (smg g) Q st' := by
  refine xq (q _ ⟨⟨h.tb.kind, h.tb.failed⟩, h.ar, h.pd⟩)
theorem aT {st : SortSt}{arr : Array Keyed}{i : Nat}{x : Keyed}{Q : Keyed → SortSt → Prop}(e : arr.toList[i]? = some x)(h : Q x st) : wpS (model prog w) A E s (elem' arr i) Q st := by
  have e' : arr[i]? = some x := by simpa using e
  rw [elem'_eq, e']
  exact uS h
theorem iK {st : SortSt}{lf : Bool}{key : Keyed}{arr : Array Keyed}{i : Nat}{Q : Option Nat → SortSt → Prop}(hO : Lt1 κ prog w A s kd)(hB : TB kd st)(hk : Gd κ key)(hg : ∀ x∈arr.toList, Gd κ x)(sa : Srt κ arr.toList)(hi : i < arr.size)
    (hq : ∀ k, i+k≤arr.size → (∀ x∈(arr.toList.drop i).take k, bdB κ lf (kof κ key) (kof κ x)=true) → (∀ x∈arr.toList.drop (i+k), bdB κ lf (kof κ key) (kof κ x)=false) → Q (some k) st) :
    wpS (model prog w) A E s (gal lf key arr i (arr.size - i) 0) Q st := by
  have hl : arr.toList.length=arr.size := uI
  refine gM hO hB hk (fun t => match arr.toList[i+t]? with | some p => bdB κ lf (kof κ key) (kof κ p) | none => false) (by omega) (fun t ht => ?_) (fun t u htu hu hb => ?_) (fun k hk' h1 h2 => hq k (by omega) (fun x hx => ?_) fun x hx => ?_)
  · have hlt : i+t < arr.toList.length := by omega
    have e := uB hlt
    refine ⟨arr.toList[i+t], by simpa using e, hg _ (vc hlt), ?_⟩
    rw [e]
  · have h1 : i+t < arr.toList.length := by omega
    have h2 : i+u < arr.toList.length := by omega
    have e1 := uB h1
    have e2 := uB h2
    rw [e2] at hb
    rw [e1]
    exact iJ (sa.at (by omega) e1 e2) hb
  · obtain ⟨t, e⟩ := vJ hx
    have ht : t < k := by
      have := (uJ.mp e).1
      rw [uR] at this
      omega
    rw [yq, if_pos ht, vK] at e
    have := h1 t ht
    rw [e] at this
    exact this
  · obtain ⟨t, e⟩ := vJ hx
    rw [vK] at e
    have hlt := (uJ.mp e).1
    have := h2 (k+t) (by omega) (by omega)
    rw [show i+(k+t)=i+k+t by omega, e] at this
    exact this
theorem not_lt {x y : Keyed}(h : κ.blt (kof κ x) (kof κ y)=false) : lek κ y x := h
theorem ma {x y : Keyed}(h : κ.blt (kof κ x) (kof κ y)=true) : lek κ x y := w_ h
theorem d9 {l : List Keyed}(sl : Srt κ l){i : Nat}{x y : Keyed}(e : l[i]? = some y)(h : lek κ x y) : Lel κ [x] (l.drop i) := fun z hz t ht => by
  rw [uE] at hz
  subst hz
  rw [bO e] at ht
  rcases u4.mp ht with rfl | ht
  · exact h
  · have sd := sl.drop i
    rw [bO e] at sd
    exact de h ((wX.mp sd).1 t ht)
abbrev MSt := Option (Array Keyed) × Array Keyed × Nat × Nat × Nat × Nat × Nat
def jp3 (a b : Array Keyed)(i g p q : Nat)(o : Array Keyed)(j : Nat) : StateT SortSt Sem (ForInStep MSt) := do
  let e ← elem' a i
  if (i+1+1 == a.size)=true then pure (.done (some (mLa a b (o.push e) (i+1) j), o.push e, i+1, j, g, p, q))
  else if (decide (p < 7) && decide (q < 7))=true then pure (.done (none, o.push e, i+1, j, g, p, q)) else pure (.yield (none, o.push e, i+1, j, g, p, q))
def jp2 (a b : Array Keyed)(j g p q : Nat)(o : Array Keyed)(i : Nat) : StateT SortSt Sem (ForInStep MSt) := do
  let e ← elem' b j
  if (j+1 == b.size)=true then pure (.done (some (mDn a b (o.push e) i (j+1)), o.push e, i, j+1, g, p, q))
  else do
    let f ← elem' a i
    let y ← gal true f b (j+1) (b.size - (j+1)) 0
    match y with
    | some k => if k > 0 then (if (j+1+k == b.size)=true then pure (.done (some (mDn a b (o.push e++b.extract (j+1) (j+1+k)) i (j+1+k)), o.push e++b.extract (j+1) (j+1+k), i, j+1+k, g, p, k)) else jp3 a b i g p k (o.push e++b.extract (j+1) (j+1+k)) (j+1+k)) else jp3 a b i g p k (o.push e) (j+1)
    | _ => pure (.done (some (mDn a b (o.push e) i (j+1)), o.push e, i, j+1, g, p, q))
def jp1 (a b : Array Keyed)(o : Array Keyed)(i j p q g : Nat) : StateT SortSt Sem (ForInStep MSt) := do
  smg g
  let e ← elem' b j
  let y ← gal false e a i (a.size - i) 0
  match y with
  | some k => if k > 0 then (if (i+k+1 == a.size)=true then pure (.done (some (mLa a b (o++a.extract i (i+k)) (i+k) j), o++a.extract i (i+k), i+k, j, g, k, q)) else if (i+k == a.size)=true then pure (.done (some (mDn a b (o++a.extract i (i+k)) (i+k) j), o++a.extract i (i+k), i+k, j, g, k, q)) else jp2 a b j g k q (o++a.extract i (i+k)) (i+k)) else jp2 a b j g k q o i
  | _ => pure (.done (some (mDn a b o i j), o, i, j, g, p, q))
def Pst (κ : KeyKind)(a b : Array Keyed)(x : Nat)(st : SortSt)(r : ForInStep MSt)(st' : SortSt) : Prop := match r with
  | .done c => ((∃ r z, c=(some r, z) ∧ Mg κ a.toList b.toList r.toList) ∨ ∃ o i j g p q, c=(none, o, i, j, g, p, q) ∧ Mc κ a.toList b.toList o.toList i j ∧ i+1 < a.size ∧ j < b.size ∧ x+2≤i+j) ∧ Ok kd st st'
  | .yield c => ∃ o i j g p q, c=(none, o, i, j, g, p, q) ∧ Mc κ a.toList b.toList o.toList i j ∧ i+1 < a.size ∧ j < b.size ∧ x+2≤i+j ∧ Ok kd st st'
structure Two (κ : KeyKind) (a b : Array Keyed) : Prop where
  ga : ∀ x∈a.toList, Gd κ x
  gb : ∀ x∈b.toList, Gd κ x
  sa : Srt κ a.toList
  sb : Srt κ b.toList
  hl : ∀ z, a.toList[a.size - 1]? = some z → Lel κ b.toList [z]
theorem Two.atA {a b : Array Keyed}(T : Two κ a b){i : Nat}(hi : i < a.size) : ∃ x, a.toList[i]? = some x ∧ Gd κ x := ⟨a.toList[i]'(by rw [uI]; exact hi), uB (by rw [uI]; exact hi), T.ga _ (vc _)⟩
theorem Two.atB {a b : Array Keyed}(T : Two κ a b){i : Nat}(hi : i < b.size) : ∃ x, b.toList[i]? = some x ∧ Gd κ x := ⟨b.toList[i]'(by rw [uI]; exact hi), uB (by rw [uI]; exact hi), T.gb _ (vc _)⟩
theorem Two.dn {a b : Array Keyed}(T : Two κ a b){o : Array Keyed}{i j : Nat}(M : Mc κ a.toList b.toList o.toList i j)(h : i=a.size ∨ j=b.size) : Mg κ a.toList b.toList (mDn a b o i j).toList := by
  rw [iG]
  exact M.done T.sa T.sb (by rw [uI, uI];exact h)
theorem Two.ls {a b : Array Keyed}(T : Two κ a b){o : Array Keyed}{i j : Nat}(M : Mc κ a.toList b.toList o.toList i j)(h : i+1=a.size) : Mg κ a.toList b.toList (mLa a b o i j).toList := by
  rw [iH]
  exact M.last T.sa T.sb (by rw [uI];exact h) (by rw [uI];exact T.hl)
theorem jW {st st' : SortSt}{a b o : Array Keyed}{i j g p q x : Nat}{xa : Keyed}(T : Two κ a b)(M : Mc κ a.toList b.toList o.toList i j)(hi : i+1 < a.size)(hj : j < b.size)(hx : x+2≤i+j)(ok : Ok kd st st')(exa : a.toList[i]? = some xa)(hle : Lel κ [xa] (b.toList.drop j)) :
    wpS (model prog w) A E s (jp3 a b i g p q o j) (Pst (kd := kd) κ a b x st) st' := by
  unfold jp3
  refine uM (aT exa ?_)
  have M' : Mc κ a.toList b.toList (o.push xa).toList (i+1) j := by rw [xf];exact M.pushA T.sa exa hle
  by_cases hia : i+1+1=a.size
  · refine av (by simpa using hia) ?_
    exact uS ⟨.inl ⟨_, _, rfl, T.ls M' hia⟩, ok⟩
  · refine ay (by simpa using hia) ?_
    by_cases hpq : (decide (p < 7) && decide (q < 7))=true
    · refine av hpq ?_
      exact uS ⟨.inr ⟨_, _, _, _, _, _, rfl, M', by omega, hj, by omega⟩, ok⟩
    · refine ay hpq ?_
      exact uS ⟨_, _, _, _, _, _, rfl, M', by omega, hj, by omega, ok⟩
theorem dU {x y : Keyed} : bdB κ false (kof κ x) (kof κ y)=true → lek κ y x := fun h => by
  unfold bdB at h
  have h : (!κ.blt (kof κ x) (kof κ y))=true := h
  show κ.blt (kof κ x) (kof κ y)=false
  simpa using h
theorem d_ {x y : Keyed} : bdB κ false (kof κ x) (kof κ y)=false → lek κ x y := fun h => by
  unfold bdB at h
  have h : (!κ.blt (kof κ x) (kof κ y))=false := h
  exact ma (by simpa using h)
theorem gN {x y : Keyed} : bdB κ true (kof κ x) (kof κ y)=true → lek κ y x := fun h => ma h
theorem fo {x y : Keyed} : bdB κ true (kof κ x) (kof κ y)=false → lek κ x y := fun h => h
theorem jX {st st' : SortSt}{a b o : Array Keyed}{i j g p q x : Nat}{xb : Keyed}(hO : Lt1 κ prog w A s kd)(T : Two κ a b)(M : Mc κ a.toList b.toList o.toList i j)(hi : i+1 < a.size)(hj : j < b.size)(hx : x+2≤i+j)(ok : Ok kd st st')(exb : b.toList[j]? = some xb)(hle : Lel κ [xb] (a.toList.drop i)) :
    wpS (model prog w) A E s (jp2 a b j g p q o i) (Pst (kd := kd) κ a b x st) st' := by
  have la : a.toList.length=a.size := uI
  have lb : b.toList.length=b.size := uI
  unfold jp2
  refine uM (aT exb ?_)
  have M' : Mc κ a.toList b.toList (o.push xb).toList i (j+1) := by rw [xf];exact M.pushB T.sb exb hle
  by_cases hjb : j+1=b.size
  · refine av (by simpa using hjb) ?_
    exact uS ⟨.inl ⟨_, _, rfl, T.dn M' (.inr hjb)⟩, ok⟩
  refine ay (by simpa using hjb) ?_
  obtain ⟨xa, exa, gxa⟩ := T.atA (i := i) (by omega)
  refine uM (aT exa (uM (iK hO ok.tb gxa T.gb T.sb (by omega) fun k hk t1 t2 => ?_)))
  dsimp only
  have MB : Mc κ a.toList b.toList ((o.push xb).toList++(b.toList.drop (j+1)).take k) i (j+1+k) := M'.pushBs T.sb k (by omega) fun z hz => d9 T.sa exa (gN (t1 z hz)) z (uE.mpr rfl)
  have rest : Lel κ [xa] (b.toList.drop (j+1+k)) := fun z hz y hy => by
    rw [uE] at hz
    subst hz
    exact fo (t2 y hy)
  by_cases hk0 : k > 0
  · refine av hk0 ?_
    have MB' : Mc κ a.toList b.toList (o.push xb++b.extract (j+1) (j+1+k)).toList i (j+1+k) := by rw [yh, iI];exact MB
    by_cases hje : j+1+k=b.size
    · refine av (by simpa using hje) ?_
      exact uS ⟨.inl ⟨_, _, rfl, T.dn MB' (.inr hje)⟩, ok⟩
    · refine ay (by simpa using hje) ?_
      exact jW T MB' hi (by omega) (by omega) ok exa rest
  · refine ay hk0 ?_
    have : k=0 := by omega
    subst this
    exact jW T M' hi (by omega) (by omega) ok exa rest
theorem jY {st st' : SortSt}{a b o : Array Keyed}{i j g p q x : Nat}(hO : Lt1 κ prog w A s kd)(T : Two κ a b)(M : Mc κ a.toList b.toList o.toList i j)(hi : i+1 < a.size)(hj : j < b.size)(hx : x+2≤i+j)(ok : Ok kd st st') :
    wpS (model prog w) A E s (jp1 a b o i j p q g) (Pst (kd := kd) κ a b x st) st' := by
  have la : a.toList.length=a.size := uI
  have lb : b.toList.length=b.size := uI
  unfold jp1
  refine uM (fm ok fun st3 ok3 => ?_)
  obtain ⟨xb, exb, gxb⟩ := T.atB hj
  refine uM (aT exb (uM (iK hO ok3.tb gxb T.ga T.sa (by omega) fun k hk t1 t2 => ?_)))
  dsimp only
  have MA : Mc κ a.toList b.toList (o.toList++(a.toList.drop i).take k) (i+k) j := M.pushAs T.sa k (by omega) fun z hz => d9 T.sb exb (dU (t1 z hz)) z (uE.mpr rfl)
  have rest : Lel κ [xb] (a.toList.drop (i+k)) := fun z hz y hy => by
    rw [uE] at hz
    subst hz
    exact d_ (t2 y hy)
  by_cases hk0 : k > 0
  · refine av hk0 ?_
    have MA' : Mc κ a.toList b.toList (o++a.extract i (i+k)).toList (i+k) j := by rw [yh, iI];exact MA
    by_cases h1 : i+k+1=a.size
    · refine av (by simpa using h1) ?_
      exact uS ⟨.inl ⟨_, _, rfl, T.ls MA' h1⟩, ok3⟩
    · refine ay (by simpa using h1) ?_
      by_cases h2 : i+k=a.size
      · refine av (by simpa using h2) ?_
        exact uS ⟨.inl ⟨_, _, rfl, T.dn MA' (.inl h2)⟩, ok3⟩
      · refine ay (by simpa using h2) ?_
        exact jX hO T MA' (by omega) hj (by omega) ok3 exb rest
  · refine ay hk0 ?_
    have : k=0 := by omega
    subst this
    exact jX hO T M hi hj hx ok3 exb rest
theorem oy {st : SortSt}{a b : Array Keyed}{Q : Array Keyed → SortSt → Prop}(hO : Lt1 κ prog w A s kd)(hB : TB kd st)(ga : ∀ x∈a.toList, Gd κ x)(gb : ∀ x∈b.toList, Gd κ x)(sa : Srt κ a.toList)(sb : Srt κ b.toList)(h0 : 0 < a.size)(h1 : 0 < b.size)
    (hf : ∀ x y, a.toList[0]? = some x → b.toList[0]? = some y → lek κ y x) (hl : ∀ z, a.toList[a.size - 1]? = some z → Lel κ b.toList [z])
    (hq : ∀ r st', Ok kd st st' → Mg κ a.toList b.toList r.toList → Q r st') : wpS (model prog w) A E s (mlo a b) Q st := by
  have la : a.toList.length=a.size := uI
  have lb : b.toList.length=b.size := uI
  have hl : ∀ z, a.toList[a.toList.length - 1]? = some z → Lel κ b.toList [z] := by rw [la];exact hl
  have atA : ∀ {i : Nat}, i < a.size → ∃ x, a.toList[i]? = some x ∧ Gd κ x := fun {i} hi => ⟨a.toList[i]'(by omega), uB (by omega), ga _ (vc _)⟩
  have atB : ∀ {i : Nat}, i < b.size → ∃ x, b.toList[i]? = some x ∧ Gd κ x := fun {i} hi => ⟨b.toList[i]'(by omega), uB (by omega), gb _ (vc _)⟩
  rw [ql]
  refine uM (zc (wQ ⟨rfl, ?_⟩))
  obtain ⟨y0, ey0, gy0⟩ := atB h1
  obtain ⟨x0, ex0, gx0⟩ := atA h0
  refine uM (aT ey0 ?_)
  have M0 : Mc κ a.toList b.toList [y0] 0 1 := by
    have : Mc κ a.toList b.toList ([]++[y0]) 0 (0+1) := Mc.pushB (O := []) (i := 0) (j := 0) ⟨xH _, .nil, (fun x hx => by cases hx), (fun x hx => by cases hx), vE _, vE _⟩ sb ey0 (d9 sa ex0 (hf _ _ ex0 ey0))
    exact this
  have dn : ∀ {o : Array Keyed} {i j : Nat}, Mc κ a.toList b.toList o.toList i j → (i=a.size ∨ j=b.size) → Mg κ a.toList b.toList (mDn a b o i j).toList := fun M h => by rw [iG];exact M.done sa sb (by rw [la, lb];exact h)
  have ls : ∀ {o : Array Keyed} {i j : Nat}, Mc κ a.toList b.toList o.toList i j → i+1=a.size → Mg κ a.toList b.toList (mLa a b o i j).toList := fun M h => by rw [iH];exact M.last sa sb (by rw [la];exact h) hl
  dsimp only
  by_cases hb1 : 1=b.size
  · refine av (by simpa using hb1) ?_
    exact uS (hq _ _ (.refl hB) (dn (o := #[y0]) M0 (.inr hb1)))
  refine ay (by simpa using hb1) ?_
  by_cases ha1 : 0+1=a.size
  · refine av (by simpa using ha1) ?_
    exact uS (hq _ _ (.refl hB) (ls (o := #[y0]) M0 ha1))
  refine ay (by simpa using ha1) ?_
  refine uM (yg ?_)
  refine uM (wm (vA (I := fun x c st' => ∃ o i j g, c=(none, o, i, j, g) ∧ Mc κ a.toList b.toList o.toList i j ∧ i+1 < a.size ∧ j < b.size ∧ x+1≤i+j ∧ Ok kd st st')
    (Q := fun c st' => ∃ r z, c=(some r, z) ∧ Mg κ a.toList b.toList r.toList ∧ Ok kd st st') ?step ?fin ⟨#[y0], 0, 1, _, rfl, M0, by omega, by omega, by omega, .refl hB⟩) ?post)
  case post =>
    rintro c st' ⟨r, z, rfl, m, ok⟩
    exact uS (hq _ _ ok m)
  case fin =>
    rintro c st' ⟨o, i, j, g, rfl, M, hi, hj, hx, ok⟩
    omega
  case step =>
    rintro x c st1 _ hx ⟨o, i, j, g, rfl, M, hi, hj, hij, ok1⟩
    dsimp only
    refine uM (wm (vA (I := fun y c st' => st'=st1 ∧ ∃ o i j p q, c=(none, o, i, j, p, q) ∧ Mc κ a.toList b.toList o.toList i j ∧ i+1 < a.size ∧ j < b.size ∧ x+1+y≤i+j)
      (Q := fun c st' => st'=st1 ∧ ((∃ r z, c=(some r, z) ∧ Mg κ a.toList b.toList r.toList) ∨ ∃ o i j p q, c=(none, o, i, j, p, q) ∧ Mc κ a.toList b.toList o.toList i j ∧ i+1 < a.size ∧ j < b.size ∧ x+2≤i+j)) ?step1 ?fin1 ⟨rfl, o, i, j, 0, 0, rfl, M, hi, hj, by omega⟩) ?post1)
    case fin1 =>
      rintro c st' ⟨rfl, o, i, j, p, q, rfl, M, hi, hj, hy⟩
      exact ⟨rfl, .inr ⟨o, i, j, p, q, rfl, M, hi, hj, by omega⟩⟩
    case step1 =>
      rintro y c st' _ hy ⟨rfl, o, i, j, p, q, rfl, M, hi, hj, hij⟩
      dsimp only
      obtain ⟨xb, exb, gxb⟩ := atB hj
      obtain ⟨xa, exa, gxa⟩ := atA (i := i) (by omega)
      refine uM (aT exb (uM (aT exa (uM (fX hO ok1.tb gxb gxa ?_)))))
      cases eb : κ.blt (kof κ xb) (kof κ xa) with
      | true =>
        simp only [wj]
        refine uM (aT exb ?_)
        have M' : Mc κ a.toList b.toList (o.push xb).toList i (j+1) := by rw [xf];exact M.pushB sb exb (d9 sa exa (ma eb))
        by_cases hjb : j+1=b.size
        · refine av (by simpa using hjb) ?_
          exact uS ⟨rfl, .inl ⟨_, _, rfl, dn M' (.inr hjb)⟩⟩
        · refine ay (by simpa using hjb) ?_
          by_cases hqg : q+1≥g
          · refine av hqg ?_
            exact uS ⟨rfl, .inr ⟨_, _, _, _, _, rfl, M', hi, by omega, by omega⟩⟩
          · refine ay hqg ?_
            exact uS ⟨rfl, _, _, _, _, _, rfl, M', hi, by omega, by omega⟩
      | false =>
        simp only [uZ, vN]
        refine uM (aT exa ?_)
        have M' : Mc κ a.toList b.toList (o.push xa).toList (i+1) j := by rw [xf];exact M.pushA sa exa (d9 sb exb (not_lt eb))
        by_cases hia : i+1+1=a.size
        · refine av (by simpa using hia) ?_
          exact uS ⟨rfl, .inl ⟨_, _, rfl, ls M' hia⟩⟩
        · refine ay (by simpa using hia) ?_
          by_cases hpg : p+1≥g
          · refine av hpg ?_
            exact uS ⟨rfl, .inr ⟨_, _, _, _, _, rfl, M', by omega, hj, by omega⟩⟩
          · refine ay hpg ?_
            exact uS ⟨rfl, _, _, _, _, _, rfl, M', by omega, hj, by omega⟩
    case post1 =>
      rintro c st' ⟨rfl, ⟨r, z, rfl, m⟩ | ⟨o, i, j, p, q, rfl, M, hi, hj, hij⟩⟩
      · exact uS ⟨r, _, rfl, m, ok1⟩
      dsimp only
      refine uM (zc (wQ ⟨rfl, ?_⟩))
      refine uM (wm (vA (I := fun y c st' => ∃ o i j g p q, c=(none, o, i, j, g, p, q) ∧ Mc κ a.toList b.toList o.toList i j ∧ i+1 < a.size ∧ j < b.size ∧ x+2≤i+j ∧ Ok kd st st')
        (Q := fun c st' => ((∃ r z, c=(some r, z) ∧ Mg κ a.toList b.toList r.toList) ∨ ∃ o i j g p q, c=(none, o, i, j, g, p, q) ∧ Mc κ a.toList b.toList o.toList i j ∧ i+1 < a.size ∧ j < b.size ∧ x+2≤i+j) ∧ Ok kd st st') ?step2 ?fin2 ⟨o, i, j, _, p, q, rfl, M, hi, hj, hij, ok1⟩) ?post2)
      case fin2 =>
        rintro c st' ⟨o, i, j, g, p, q, rfl, M, hi, hj, hij, ok⟩
        exact ⟨.inr ⟨o, i, j, g, p, q, rfl, M, hi, hj, hij⟩, ok⟩
      case post2 =>
        rintro c st' ⟨⟨r, z, rfl, m⟩ | ⟨o, i, j, g, p, q, rfl, M, hi, hj, hij⟩, ok⟩
        · exact uS ⟨r, _, rfl, m, ok⟩
        · dsimp only
          exact uM (fm ok fun st'' ok' => uS ⟨o, i, j, _, rfl, M, hi, hj, by omega, ok'⟩)
      case step2 =>
        rintro y c st2 _ hy ⟨o, i, j, g, p, q, rfl, M, hi, hj, hij, ok2⟩
        dsimp only
        change wpS _ _ _ _ (if g > 1 then jp1 a b o i j p q (g - 1) else jp1 a b o i j p q g) _ _
        refine wm (Q := Pst (kd := kd) κ a b x st) ?_ fun r st' h => ?_
        rotate_left
        · cases r with
          | done c => exact h
          | yield c => exact h
        by_cases hg : g > 1
        · refine av hg ?_
          exact jY hO ⟨ga, gb, sa, sb, by rw [← la];exact hl⟩ M hi hj hij ok2
        · refine ay hg ?_
          exact jY hO ⟨ga, gb, sa, sb, by rw [← la];exact hl⟩ M hi hj hij ok2
end
end Tv
namespace Tv
open PySem PyProof.Rows
def mhi : Array Keyed → Array Keyed → StateT SortSt Sem (Array Keyed) := sortPriv% PySem.Builtin.mergeHi
abbrev hDn (a b o : Array Keyed)(i j : Nat) : Array Keyed := a.extract 0 i++b.extract 0 j++o.reverse
abbrev hFb (a b o : Array Keyed)(i j : Nat) : Array Keyed := b.extract 0 j++a.extract 0 i++o.reverse
theorem qo (a b : Array Keyed) : mhi a b=(do
  rule "list.sort.merge-hi"
  let mut i := a.size - 1
  let mut j := b.size
  let mut o : Array Keyed := #[← elem' a i]
  if i == 0 then return hDn a b o i j
  if j == 1 then return hFb a b o i j
  let mut g := gallopOf (← get)
  for _ in [0:a.size+b.size] do
    let mut p := 0
    let mut q := 0
    for _ in [0:a.size+b.size] do
      let some w ← lt' (← elem' b (j - 1)) (← elem' a (i - 1)) | return hDn a b o i j
      if w then
        i := i - 1
        o := o.push (← elem' a i)
        p := p+1
        q := 0
        if i == 0 then return hDn a b o i j
        if p≥g then break
      else
        j := j - 1
        o := o.push (← elem' b j)
        q := q+1
        p := 0
        if j == 1 then return hFb a b o i j
        if q≥g then break
    rule "list.sort.gallop"
    g := g+1
    for _ in [0:a.size+b.size] do
      if g > 1 then g := g - 1
      smg g
      let some t ← gal false (← elem' b (j - 1)) a 0 i (i - 1) | return hDn a b o i j
      let k := i - t
      p := k
      if k > 0 then
        o := o++(a.extract t i).reverse
        i := t
        if i == 0 then return hDn a b o i j
      j := j - 1
      o := o.push (← elem' b j)
      if j == 1 then return hFb a b o i j
      let some t ← gal true (← elem' a (i - 1)) b 0 j (j - 1) | return hDn a b o i j
      let k := j - t
      q := k
      if k > 0 then
        o := o++(b.extract t j).reverse
        j := t
        if j == 1 then return hFb a b o i j
        if j == 0 then return hDn a b o i j
      i := i - 1
      o := o.push (← elem' a i)
      if i == 0 then return hDn a b o i j
      if p < 7 && q < 7 then break
    g := g+1
    smg g
  unsupported "internal:list.sort.merge-bound") := rfl
variable {κ : KeyKind} {kd : SortKind}
structure Mh (κ : KeyKind) (A B R : List Keyed) (i j : Nat) : Prop where
  pm : R.Perm (A.drop i++B.drop j)
  so : Srt κ R
  la : Lel κ (A.take i) R
  lb : Lel κ (B.take j) R
  hi : i≤A.length
  hj : j≤B.length
theorem Mh.pushA {A B R : List Keyed}{i j : Nat}(M : Mh κ A B R (i+1) j)(sA : Srt κ A){x : Keyed}(h : A[i]? = some x)(hx : Lel κ (B.take j) [x]) : Mh κ A B (x::R) i j := by
  have et := bf h
  have st := sA.take (i+1)
  rw [et] at st
  have st' := bg.mp st
  refine ⟨?_, wX.mpr ⟨fun y hy => M.la x (by rw [et];simp) y hy, M.so⟩, fun y hy z hz => ?_, fun y hy z hz => ?_, by have := M.hi;omega, M.hj⟩
  · rw [bO h, List.cons_append]
    exact M.pm.cons x
  · rcases u4.mp hz with rfl | hz
    · exact st'.2.2 y hy _ (by simp)
    · exact M.la y (by rw [et];exact u7 _ hy) z hz
  · rcases u4.mp hz with rfl | hz
    · exact hx y hy _ (by simp)
    · exact M.lb y hy z hz
theorem Mh.pushB {A B R : List Keyed}{i j : Nat}(M : Mh κ A B R i (j+1))(sB : Srt κ B){x : Keyed}(h : B[j]? = some x)(hx : Lel κ (A.take i) [x]) : Mh κ A B (x::R) i j := by
  have et := bf h
  have st := sB.take (j+1)
  rw [et] at st
  have st' := bg.mp st
  refine ⟨?_, wX.mpr ⟨fun y hy => M.lb x (by rw [et];simp) y hy, M.so⟩, fun y hy z hz => ?_, fun y hy z hz => ?_, M.hi, by have := M.hj;omega⟩
  · rw [bO h]
    exact (M.pm.cons x).trans List.perm_middle.symm
  · rcases u4.mp hz with rfl | hz
    · exact hx y hy _ (by simp)
    · exact M.la y hy z hz
  · rcases u4.mp hz with rfl | hz
    · exact st'.2.2 y hy _ (by simp)
    · exact M.lb y (by rw [et];exact u7 _ hy) z hz
theorem Mh.pushAs {A B R : List Keyed}{t j : Nat}(sA : Srt κ A) : ∀ k, Mh κ A B R (t+k) j → Lel κ (B.take j) ((A.drop t).take k) → Mh κ A B ((A.drop t).take k++R) t j
  | 0, M, _ => by simpa using M
  | k+1, M, hl => by
    have hlt : t+k < A.length := by have := M.hi;omega
    have e : (A.drop t)[k]? = some A[t+k] := by rw [vK, uB hlt]
    have et : (A.drop t).take (k+1)=(A.drop t).take k++[A[t+k]] := bf e
    rw [et] at hl ⊢
    have M1 : Mh κ A B (A[t+k]::R) (t+k) j := Mh.pushA M sA (uB hlt) fun y hy z hz => hl y hy z (uL _ hz)
    have := Mh.pushAs sA k M1 fun y hy z hz => hl y hy z (u7 _ hz)
    rw [uO]
    exact this
theorem Mh.pushBs {A B R : List Keyed}{t i : Nat}(sB : Srt κ B) : ∀ k, Mh κ A B R i (t+k) → Lel κ (A.take i) ((B.drop t).take k) → Mh κ A B ((B.drop t).take k++R) i t
  | 0, M, _ => by simpa using M
  | k+1, M, hl => by
    have hlt : t+k < B.length := by have := M.hj;omega
    have e : (B.drop t)[k]? = some B[t+k] := by rw [vK, uB hlt]
    have et : (B.drop t).take (k+1)=(B.drop t).take k++[B[t+k]] := bf e
    rw [et] at hl ⊢
    have M1 : Mh κ A B (B[t+k]::R) i (t+k) := Mh.pushB M sB (uB hlt) fun y hy z hz => hl y hy z (uL _ hz)
    have := Mh.pushBs sB k M1 fun y hy z hz => hl y hy z (u7 _ hz)
    rw [uO]
    exact this
theorem Mh.perm {A B R : List Keyed}{i j : Nat}(M : Mh κ A B R i j) : (A.take i++B.take j++R).Perm (A++B) := by
  have h1 : (A.take i++B.take j++R).Perm (A.take i++B.take j++(A.drop i++B.drop j)) := M.pm.append_left _
  refine h1.trans ?_
  have h2 : ((A.take i++B.take j)++(A.drop i++B.drop j)).Perm ((A.take i++A.drop i)++(B.take j++B.drop j)) := by
    rw [uO, uO]
    refine we _ ?_
    rw [← uO, ← uO]
    exact wR _ wA
  rw [vb, vb] at h2
  exact h2
theorem Mh.done {A B R : List Keyed}{i j : Nat}(M : Mh κ A B R i j)(sA : Srt κ A)(sB : Srt κ B)(h : i=0 ∨ j=0) : Mg κ A B (A.take i++B.take j++R) := by
  refine ⟨M.perm, bg.mpr ⟨bg.mpr ⟨sA.take i, sB.take j, fun x hx y hy => ?_⟩, M.so, fun o ho y hy => ?_⟩⟩
  · rcases h with h | h
    · subst h;simp at hx
    · subst h;simp at hy
  · rcases uW.mp ho with ho | ho
    · exact M.la o ho y hy
    · exact M.lb o ho y hy
theorem Mh.first {A B R : List Keyed}{i j : Nat}(M : Mh κ A B R i j)(sA : Srt κ A)(sB : Srt κ B)(h : j=1)(hf : ∀ z, B[0]? = some z → Lel κ [z] A) : Mg κ A B (B.take j++A.take i++R) := by
  refine ⟨List.Perm.trans (wR _ wA) M.perm, bg.mpr ⟨bg.mpr ⟨sB.take j, sA.take i, fun x hx y hy => ?_⟩, M.so, fun o ho y hy => ?_⟩⟩
  · subst h
    cases B with
    | nil => simp at hx
    | cons z B =>
      have hx : x=z := by simpa using hx
      subst hx
      exact hf x rfl x (by simp) y (vt hy)
  · rcases uW.mp ho with ho | ho
    · exact M.lb o ho y hy
    · exact M.la o ho y hy
theorem me (a b o : Array Keyed)(i j : Nat) : (hDn a b o i j).toList=a.toList.take i++b.toList.take j++o.toList.reverse := by
  simp [hDn, vY]
theorem mf (a b o : Array Keyed)(i j : Nat) : (hFb a b o i j).toList=b.toList.take j++a.toList.take i++o.toList.reverse := by
  simp [hFb, vY]
theorem jZ (a : Array Keyed)(t i : Nat) : ((a.extract t i).reverse).toList.reverse=(a.toList.drop t).take (i - t) := by
  simp [vY]
section
variable {prog : Program} {w : World} {A : Around} {E : Value → Shared → Prop} {s : Shared}
theorem iL {st : SortSt}{lf : Bool}{key : Keyed}{arr : Array Keyed}{n : Nat}{Q : Option Nat → SortSt → Prop}(hO : Lt1 κ prog w A s kd)(hB : TB kd st)(hk : Gd κ key)(hg : ∀ x∈arr.toList, Gd κ x)(sa : Srt κ arr.toList)(hn : 0 < n)(hna : n≤arr.size)
    (hq : ∀ k, k≤n → (∀ x∈arr.toList.take k, bdB κ lf (kof κ key) (kof κ x)=true) → (∀ x∈(arr.toList.drop k).take (n - k), bdB κ lf (kof κ key) (kof κ x)=false) → Q (some k) st) :
    wpS (model prog w) A E s (gal lf key arr 0 n (n - 1)) Q st := by
  have hl : arr.toList.length=arr.size := uI
  refine gM hO hB hk (fun t => match arr.toList[t]? with | some p => bdB κ lf (kof κ key) (kof κ p) | none => false) (by omega) (fun t ht => ?_) (fun t u htu hu hb => ?_) (fun k hk' h1 h2 => hq k (by omega) (fun x hx => ?_) fun x hx => ?_)
  · have hlt : t < arr.toList.length := by omega
    have e := uB hlt
    refine ⟨arr.toList[t], by rw [xO];simpa using e, hg _ (vc hlt), ?_⟩
    rw [e]
  · have h1 : t < arr.toList.length := by omega
    have h2 : u < arr.toList.length := by omega
    have e1 := uB h1
    have e2 := uB h2
    rw [e2] at hb
    rw [e1]
    exact iJ (sa.at (by omega) e1 e2) hb
  · obtain ⟨t, e⟩ := vJ hx
    have ht : t < k := by
      have := (uJ.mp e).1
      rw [uR] at this
      omega
    rw [yq, if_pos ht] at e
    have := h1 t ht
    rw [e] at this
    exact this
  · obtain ⟨t, e⟩ := vJ hx
    have ht : t < n - k := by
      have := (uJ.mp e).1
      rw [uR] at this
      omega
    rw [yq, if_pos ht, vK] at e
    have := h2 (k+t) (by omega) (by omega)
    rw [e] at this
    exact this
theorem fq {l : List Keyed}(sl : Srt κ l){i : Nat}{x y : Keyed}(e : l[i]? = some y)(h : lek κ y x) : Lel κ (l.take (i+1)) [x] := fun z hz t ht => by
  rw [uE] at ht
  subst ht
  rw [bf e] at hz
  rcases uW.mp hz with hz | hz
  · have st := sl.take (i+1)
    rw [bf e] at st
    exact de ((bg.mp st).2.2 z hz y (by simp)) h
  · rw [uE] at hz
    subst hz
    exact h
structure jj (κ : KeyKind) (a b : Array Keyed) : Prop where
  ga : ∀ x∈a.toList, Gd κ x
  gb : ∀ x∈b.toList, Gd κ x
  sa : Srt κ a.toList
  sb : Srt κ b.toList
  hf : ∀ z, b.toList[0]? = some z → Lel κ [z] a.toList
theorem jj.atA {a b : Array Keyed}(T : jj κ a b){i : Nat}(hi : i < a.size) : ∃ x, a.toList[i]? = some x ∧ Gd κ x := ⟨a.toList[i]'(by rw [uI]; exact hi), uB (by rw [uI]; exact hi), T.ga _ (vc _)⟩
theorem jj.atB {a b : Array Keyed}(T : jj κ a b){i : Nat}(hi : i < b.size) : ∃ x, b.toList[i]? = some x ∧ Gd κ x := ⟨b.toList[i]'(by rw [uI]; exact hi), uB (by rw [uI]; exact hi), T.gb _ (vc _)⟩
theorem jj.dn {a b : Array Keyed}(T : jj κ a b){o : Array Keyed}{i j : Nat}(M : Mh κ a.toList b.toList o.toList.reverse i j)(h : i=0 ∨ j=0) : Mg κ a.toList b.toList (hDn a b o i j).toList := by
  rw [me]
  exact M.done T.sa T.sb h
theorem jj.fb {a b : Array Keyed}(T : jj κ a b){o : Array Keyed}{i j : Nat}(M : Mh κ a.toList b.toList o.toList.reverse i j)(h : j=1) : Mg κ a.toList b.toList (hFb a b o i j).toList := by
  rw [mf]
  exact M.first T.sa T.sb h T.hf
theorem dW (o : Array Keyed)(x : Keyed) : (o.push x).toList.reverse=x::o.toList.reverse := by simp
theorem j3 (o : Array Keyed)(a : Array Keyed)(t i : Nat) : (o++(a.extract t i).reverse).toList.reverse=(a.toList.drop t).take (i - t)++o.toList.reverse := by
  rw [yh, List.reverse_append, jZ]
abbrev HSt := Option (Array Keyed) × Nat × Nat × Array Keyed × Nat × Nat × Nat
def hq3 (a b : Array Keyed)(i g p q j : Nat)(o : Array Keyed) : StateT SortSt Sem (ForInStep HSt) := do
  let e ← elem' a (i - 1)
  if (i - 1 == 0)=true then pure (.done (some (hDn a b (o.push e) (i - 1) j), i - 1, j, o.push e, g, p, q))
  else if (decide (p < 7) && decide (q < 7))=true then pure (.done (none, i - 1, j, o.push e, g, p, q)) else pure (.yield (none, i - 1, j, o.push e, g, p, q))
def hq2 (a b : Array Keyed)(j g p q i : Nat)(o : Array Keyed) : StateT SortSt Sem (ForInStep HSt) := do
  let e ← elem' b (j - 1)
  if (j - 1 == 1)=true then pure (.done (some (hFb a b (o.push e) i (j - 1)), i, j - 1, o.push e, g, p, q))
  else do
    let f ← elem' a (i - 1)
    let y ← gal true f b 0 (j - 1) (j - 1 - 1)
    match y with
    | some t => if j - 1 - t > 0 then (if (t == 1)=true then pure (.done (some (hFb a b (o.push e++(b.extract t (j - 1)).reverse) i t), i, t, o.push e++(b.extract t (j - 1)).reverse, g, p, j - 1 - t)) else if (t == 0)=true then pure (.done (some (hDn a b (o.push e++(b.extract t (j - 1)).reverse) i t), i, t, o.push e++(b.extract t (j - 1)).reverse, g, p, j - 1 - t)) else hq3 a b i g p (j - 1 - t) t (o.push e++(b.extract t (j - 1)).reverse)) else hq3 a b i g p (j - 1 - t) (j - 1) (o.push e)
    | _ => pure (.done (some (hDn a b (o.push e) i (j - 1)), i, j - 1, o.push e, g, p, q))
def hq1 (a b : Array Keyed)(i j : Nat)(o : Array Keyed)(p q g : Nat) : StateT SortSt Sem (ForInStep HSt) := do
  smg g
  let e ← elem' b (j - 1)
  let y ← gal false e a 0 i (i - 1)
  match y with
  | some t => if i - t > 0 then (if (t == 0)=true then pure (.done (some (hDn a b (o++(a.extract t i).reverse) t j), t, j, o++(a.extract t i).reverse, g, i - t, q)) else hq2 a b j g (i - t) q t (o++(a.extract t i).reverse)) else hq2 a b j g (i - t) q i o
  | _ => pure (.done (some (hDn a b o i j), i, j, o, g, p, q))
def Hst (κ : KeyKind)(a b : Array Keyed)(x : Nat)(st : SortSt)(r : ForInStep HSt)(st' : SortSt) : Prop := match r with
  | .done c => ((∃ r z, c=(some r, z) ∧ Mg κ a.toList b.toList r.toList) ∨ ∃ i j o g p q, c=(none, i, j, o, g, p, q) ∧ Mh κ a.toList b.toList o.toList.reverse i j ∧ 0 < i ∧ 1 < j ∧ x+2+i+j≤a.size+b.size) ∧ Ok kd st st'
  | .yield c => ∃ i j o g p q, c=(none, i, j, o, g, p, q) ∧ Mh κ a.toList b.toList o.toList.reverse i j ∧ 0 < i ∧ 1 < j ∧ x+2+i+j≤a.size+b.size ∧ Ok kd st st'
theorem j4 {st st' : SortSt}{a b o : Array Keyed}{i j g p q x : Nat}{xa : Keyed}(T : jj κ a b)(M : Mh κ a.toList b.toList o.toList.reverse i j)(hi : 0 < i)(hj : 1 < j)(hx : x+2+i+j≤a.size+b.size)(ok : Ok kd st st')(exa : a.toList[i - 1]? = some xa)(hle : Lel κ (b.toList.take j) [xa]) :
    wpS (model prog w) A E s (hq3 a b i g p q j o) (Hst (kd := kd) κ a b x st) st' := by
  unfold hq3
  refine uM (aT exa ?_)
  have M' : Mh κ a.toList b.toList (o.push xa).toList.reverse (i - 1) j := by
    rw [dW]
    exact Mh.pushA (by rw [show i - 1+1=i by omega];exact M) T.sa exa hle
  by_cases h0 : i - 1=0
  · refine av (by simpa using h0) ?_
    exact uS ⟨.inl ⟨_, _, rfl, T.dn M' (.inl h0)⟩, ok⟩
  · refine ay (by simpa using h0) ?_
    by_cases hpq : (decide (p < 7) && decide (q < 7))=true
    · refine av hpq ?_
      exact uS ⟨.inr ⟨_, _, _, _, _, _, rfl, M', by omega, hj, by omega⟩, ok⟩
    · refine ay hpq ?_
      exact uS ⟨_, _, _, _, _, _, rfl, M', by omega, hj, by omega, ok⟩
theorem j5 {st st' : SortSt}{a b o : Array Keyed}{i j g p q x : Nat}{xb : Keyed}(hO : Lt1 κ prog w A s kd)(T : jj κ a b)(M : Mh κ a.toList b.toList o.toList.reverse i j)(hi : 0 < i)(hj : 1 < j)(hx : x+2+i+j≤a.size+b.size)(ok : Ok kd st st')(exb : b.toList[j - 1]? = some xb)(hle : Lel κ (a.toList.take i) [xb]) :
    wpS (model prog w) A E s (hq2 a b j g p q i o) (Hst (kd := kd) κ a b x st) st' := by
  have la : a.toList.length=a.size := uI
  have lb : b.toList.length=b.size := uI
  have hia := M.hi
  have hjb := M.hj
  unfold hq2
  refine uM (aT exb ?_)
  have M' : Mh κ a.toList b.toList (o.push xb).toList.reverse i (j - 1) := by
    rw [dW]
    exact Mh.pushB (by rw [show j - 1+1=j by omega];exact M) T.sb exb hle
  by_cases h1 : j - 1=1
  · refine av (by simpa using h1) ?_
    exact uS ⟨.inl ⟨_, _, rfl, T.fb M' h1⟩, ok⟩
  refine ay (by simpa using h1) ?_
  obtain ⟨xa, exa, gxa⟩ := T.atA (i := i - 1) (by omega)
  refine uM (aT exa (uM (iL hO ok.tb gxa T.gb T.sb (by omega) (by omega) fun t ht t1 t2 => ?_)))
  dsimp only
  have up : Lel κ (b.toList.take t) [xa] := fun z hz y hy => by
    rw [uE] at hy
    subst hy
    exact gN (t1 z hz)
  have MB : Mh κ a.toList b.toList ((b.toList.drop t).take (j - 1 - t)++(o.push xb).toList.reverse) i t := Mh.pushBs T.sb (j - 1 - t) (by rw [show t+(j - 1 - t)=j - 1 by omega];exact M') fun y hy z hz => by
    have := fq T.sa exa (fo (t2 z hz))
    rw [show i - 1+1=i by omega] at this
    exact this y hy z (by simp)
  by_cases hk0 : j - 1 - t > 0
  · refine av hk0 ?_
    have MB' : Mh κ a.toList b.toList (o.push xb++(b.extract t (j - 1)).reverse).toList.reverse i t := by rw [j3];exact MB
    by_cases ht1 : t=1
    · refine av (by simpa using ht1) ?_
      exact uS ⟨.inl ⟨_, _, rfl, T.fb MB' ht1⟩, ok⟩
    · refine ay (by simpa using ht1) ?_
      by_cases ht0 : t=0
      · refine av (by simpa using ht0) ?_
        exact uS ⟨.inl ⟨_, _, rfl, T.dn MB' (.inr ht0)⟩, ok⟩
      · refine ay (by simpa using ht0) ?_
        exact j4 T MB' hi (by omega) (by omega) ok exa up
  · refine ay hk0 ?_
    have : t=j - 1 := by omega
    subst this
    exact j4 T M' hi (by omega) (by omega) ok exa up
theorem j6 {st st' : SortSt}{a b o : Array Keyed}{i j g p q x : Nat}(hO : Lt1 κ prog w A s kd)(T : jj κ a b)(M : Mh κ a.toList b.toList o.toList.reverse i j)(hi : 0 < i)(hj : 1 < j)(hx : x+2+i+j≤a.size+b.size)(ok : Ok kd st st') :
    wpS (model prog w) A E s (hq1 a b i j o p q g) (Hst (kd := kd) κ a b x st) st' := by
  have la : a.toList.length=a.size := uI
  have lb : b.toList.length=b.size := uI
  have hia := M.hi
  have hjb := M.hj
  unfold hq1
  refine uM (fm ok fun st3 ok3 => ?_)
  obtain ⟨xb, exb, gxb⟩ := T.atB (i := j - 1) (by omega)
  refine uM (aT exb (uM (iL hO ok3.tb gxb T.ga T.sa hi (by omega) fun t ht t1 t2 => ?_)))
  dsimp only
  have up : Lel κ (a.toList.take t) [xb] := fun z hz y hy => by
    rw [uE] at hy
    subst hy
    exact dU (t1 z hz)
  have MA : Mh κ a.toList b.toList ((a.toList.drop t).take (i - t)++o.toList.reverse) t j := Mh.pushAs T.sa (i - t) (by rw [show t+(i - t)=i by omega];exact M) fun y hy z hz => by
    have := fq T.sb exb (d_ (t2 z hz))
    rw [show j - 1+1=j by omega] at this
    exact this y hy z (by simp)
  by_cases hk0 : i - t > 0
  · refine av hk0 ?_
    have MA' : Mh κ a.toList b.toList (o++(a.extract t i).reverse).toList.reverse t j := by rw [j3];exact MA
    by_cases ht0 : t=0
    · refine av (by simpa using ht0) ?_
      exact uS ⟨.inl ⟨_, _, rfl, T.dn MA' (.inl ht0)⟩, ok3⟩
    · refine ay (by simpa using ht0) ?_
      exact j5 hO T MA' (by omega) hj (by omega) ok3 exb up
  · refine ay hk0 ?_
    have : t=i := by omega
    subst this
    exact j5 hO T M hi hj hx ok3 exb up
theorem oz {st : SortSt}{a b : Array Keyed}{Q : Array Keyed → SortSt → Prop}(hO : Lt1 κ prog w A s kd)(hB : TB kd st)(T : jj κ a b)(h0 : 0 < a.size)(h1 : 0 < b.size)
    (hl : ∀ z, a.toList[a.size - 1]? = some z → Lel κ b.toList [z])
    (hq : ∀ r st', Ok kd st st' → Mg κ a.toList b.toList r.toList → Q r st') : wpS (model prog w) A E s (mhi a b) Q st := by
  have la : a.toList.length=a.size := uI
  have lb : b.toList.length=b.size := uI
  rw [qo]
  refine uM (zc (wQ ⟨rfl, ?_⟩))
  dsimp only
  obtain ⟨z0, ez0, gz0⟩ := T.atA (i := a.size - 1) (by omega)
  refine uM (aT ez0 ?_)
  have M0 : Mh κ a.toList b.toList (#[z0] : Array Keyed).toList.reverse (a.size - 1) b.size := by
    have : Mh κ a.toList b.toList [z0] (a.size - 1) b.size := Mh.pushA (R := []) (by
      rw [show a.size - 1+1=a.size by omega]
      refine ⟨?_, .nil, (fun x hx y hy => by cases hy), (fun x hx y hy => by cases hy), by omega, by omega⟩
      rw [xE (by omega), xE (by omega)]
      exact xH _) T.sa ez0 (by rw [vj (by omega)];exact hl _ ez0)
    exact this
  by_cases ha1 : a.size - 1=0
  · refine av (by simpa using ha1) ?_
    exact uS (hq _ _ (.refl hB) (T.dn M0 (.inl ha1)))
  refine ay (by simpa using ha1) ?_
  by_cases hb1 : b.size=1
  · refine av (by simpa using hb1) ?_
    exact uS (hq _ _ (.refl hB) (T.fb M0 hb1))
  refine ay (by simpa using hb1) ?_
  refine uM (yg ?_)
  refine uM (wm (vA (I := fun x c st' => ∃ i j o g, c=(none, i, j, o, g) ∧ Mh κ a.toList b.toList o.toList.reverse i j ∧ 0 < i ∧ 1 < j ∧ x+1+i+j≤a.size+b.size ∧ Ok kd st st')
    (Q := fun c st' => ∃ r z, c=(some r, z) ∧ Mg κ a.toList b.toList r.toList ∧ Ok kd st st') ?step ?fin ⟨_, _, _, _, rfl, M0, by omega, by omega, by omega, .refl hB⟩) ?post)
  case post =>
    rintro c st' ⟨r, z, rfl, m, ok⟩
    exact uS (hq _ _ ok m)
  case fin =>
    rintro c st' ⟨i, j, o, g, rfl, M, hi, hj, hx, ok⟩
    omega
  case step =>
    rintro x c st1 _ hx ⟨i, j, o, g, rfl, M, hi, hj, hij, ok1⟩
    dsimp only
    refine uM (wm (vA (I := fun y c st' => st'=st1 ∧ ∃ i j o p q, c=(none, i, j, o, p, q) ∧ Mh κ a.toList b.toList o.toList.reverse i j ∧ 0 < i ∧ 1 < j ∧ x+1+y+i+j≤a.size+b.size)
      (Q := fun c st' => st'=st1 ∧ ((∃ r z, c=(some r, z) ∧ Mg κ a.toList b.toList r.toList) ∨ ∃ i j o p q, c=(none, i, j, o, p, q) ∧ Mh κ a.toList b.toList o.toList.reverse i j ∧ 0 < i ∧ 1 < j ∧ x+2+i+j≤a.size+b.size)) ?step1 ?fin1 ⟨rfl, i, j, o, 0, 0, rfl, M, hi, hj, by omega⟩) ?post1)
    case fin1 =>
      rintro c st' ⟨rfl, i, j, o, p, q, rfl, M, hi, hj, hy⟩
      exact ⟨rfl, .inr ⟨i, j, o, p, q, rfl, M, hi, hj, by omega⟩⟩
    case step1 =>
      rintro y c st' _ hy ⟨rfl, i, j, o, p, q, rfl, M, hi, hj, hij⟩
      dsimp only
      have hia := M.hi
      have hjb := M.hj
      obtain ⟨xb, exb, gxb⟩ := T.atB (i := j - 1) (by omega)
      obtain ⟨xa, exa, gxa⟩ := T.atA (i := i - 1) (by omega)
      refine uM (aT exb (uM (aT exa (uM (fX hO ok1.tb gxb gxa ?_)))))
      cases eb : κ.blt (kof κ xb) (kof κ xa) with
      | true =>
        simp only [wj]
        refine uM (aT exa ?_)
        have M' : Mh κ a.toList b.toList (o.push xa).toList.reverse (i - 1) j := by
          rw [dW]
          refine Mh.pushA (by rw [show i - 1+1=i by omega];exact M) T.sa exa ?_
          have := fq T.sb exb (ma eb)
          rwa [show j - 1+1=j by omega] at this
        by_cases hi0 : i - 1=0
        · refine av (by simpa using hi0) ?_
          exact uS ⟨rfl, .inl ⟨_, _, rfl, T.dn M' (.inl hi0)⟩⟩
        · refine ay (by simpa using hi0) ?_
          by_cases hpg : p+1≥g
          · refine av hpg ?_
            exact uS ⟨rfl, .inr ⟨_, _, _, _, _, rfl, M', by omega, hj, by omega⟩⟩
          · refine ay hpg ?_
            exact uS ⟨rfl, _, _, _, _, _, rfl, M', by omega, hj, by omega⟩
      | false =>
        simp only [uZ, vN]
        refine uM (aT exb ?_)
        have M' : Mh κ a.toList b.toList (o.push xb).toList.reverse i (j - 1) := by
          rw [dW]
          refine Mh.pushB (by rw [show j - 1+1=j by omega];exact M) T.sb exb ?_
          have := fq T.sa exa (not_lt eb)
          rwa [show i - 1+1=i by omega] at this
        by_cases hj1 : j - 1=1
        · refine av (by simpa using hj1) ?_
          exact uS ⟨rfl, .inl ⟨_, _, rfl, T.fb M' hj1⟩⟩
        · refine ay (by simpa using hj1) ?_
          by_cases hqg : q+1≥g
          · refine av hqg ?_
            exact uS ⟨rfl, .inr ⟨_, _, _, _, _, rfl, M', hi, by omega, by omega⟩⟩
          · refine ay hqg ?_
            exact uS ⟨rfl, _, _, _, _, _, rfl, M', hi, by omega, by omega⟩
    case post1 =>
      rintro c st' ⟨rfl, ⟨r, z, rfl, m⟩ | ⟨i, j, o, p, q, rfl, M, hi, hj, hij⟩⟩
      · exact uS ⟨r, _, rfl, m, ok1⟩
      dsimp only
      refine uM (zc (wQ ⟨rfl, ?_⟩))
      refine uM (wm (vA (I := fun y c st' => ∃ i j o g p q, c=(none, i, j, o, g, p, q) ∧ Mh κ a.toList b.toList o.toList.reverse i j ∧ 0 < i ∧ 1 < j ∧ x+2+i+j≤a.size+b.size ∧ Ok kd st st')
        (Q := fun c st' => ((∃ r z, c=(some r, z) ∧ Mg κ a.toList b.toList r.toList) ∨ ∃ i j o g p q, c=(none, i, j, o, g, p, q) ∧ Mh κ a.toList b.toList o.toList.reverse i j ∧ 0 < i ∧ 1 < j ∧ x+2+i+j≤a.size+b.size) ∧ Ok kd st st') ?step2 ?fin2 ⟨i, j, o, _, p, q, rfl, M, hi, hj, hij, ok1⟩) ?post2)
      case fin2 =>
        rintro c st' ⟨i, j, o, g, p, q, rfl, M, hi, hj, hij, ok⟩
        exact ⟨.inr ⟨i, j, o, g, p, q, rfl, M, hi, hj, hij⟩, ok⟩
      case post2 =>
        rintro c st' ⟨⟨r, z, rfl, m⟩ | ⟨i, j, o, g, p, q, rfl, M, hi, hj, hij⟩, ok⟩
        · exact uS ⟨r, _, rfl, m, ok⟩
        · dsimp only
          exact uM (fm ok fun st'' ok' => uS ⟨i, j, o, _, rfl, M, hi, hj, by omega, ok'⟩)
      case step2 =>
        rintro y c st2 _ hy ⟨i, j, o, g, p, q, rfl, M, hi, hj, hij, ok2⟩
        dsimp only
        change wpS _ _ _ _ (if g > 1 then hq1 a b i j o p q (g - 1) else hq1 a b i j o p q g) _ _
        refine wm (Q := Hst (kd := kd) κ a b x st) ?_ fun r st' h => ?_
        rotate_left
        · cases r with
          | done c => exact h
          | yield c => exact h
        by_cases hg : g > 1
        · refine av hg ?_
          exact j6 hO T M hi hj hij ok2
        · refine ay hg ?_
          exact j6 hO T M hi hj hij ok2
end
end Tv
namespace Tv
open PySem PyProof.Rows
variable {κ : KeyKind} {kd : SortKind}
def SrI (κ : KeyKind)(xs : Array Keyed)(lo hi : Nat) : Prop := ∀ i j, lo≤i → i≤j → j < hi → κ.kle (KK κ xs i) (KK κ xs j)
def NiI (κ : KeyKind)(xs : Array Keyed)(lo hi : Nat) : Prop := ∀ i j, lo≤i → i≤j → j < hi → κ.kle (KK κ xs j) (KK κ xs i)
structure Rp (lo hi : Nat) (xs ys : Array Keyed) : Prop where
  pm : ys.Perm xs
  out : ∀ k, (k < lo ∨ hi≤k) → ys[k]? = xs[k]?
theorem Rp.refl (lo hi : Nat)(xs : Array Keyed) : Rp lo hi xs xs := ⟨y_ _, fun _ _ => rfl⟩
theorem Rp.trans {lo hi : Nat}{xs ys zs : Array Keyed}(h : Rp lo hi xs ys)(g : Rp lo hi ys zs) : Rp lo hi xs zs := ⟨g.pm.trans h.pm, fun k hk => (g.out k hk).trans (h.out k hk)⟩
theorem Rp.size {lo hi : Nat}{xs ys : Array Keyed}(h : Rp lo hi xs ys) : ys.size=xs.size := h.pm.size_eq
theorem Rp.mirror {lo hi i j : Nat}{xs : Array Keyed}(h1 : lo≤i)(h2 : j≤hi)(hj : j≤xs.size) : Rp lo hi xs (mirror xs i j ((j - i) / 2)) := by
  refine ⟨mirror_perm _ _ _ _, fun k hk => ?_⟩
  rw [getElem?_mirror_all hj, if_neg (by omega)]
theorem Rp.bubble {lo hi src d : Nat}{xs : Array Keyed}(h1 : lo+d≤src)(h2 : src < hi)(hs : src < xs.size) : Rp lo hi xs (bubble xs src d) := by
  refine ⟨bubble_perm _ _ _, fun k hk => ?_⟩
  rw [getElem?_bubble hs d (by omega), if_neg (by omega), if_neg (by omega)]
structure Rs (kd : SortKind) (κ : KeyKind) (lo hi : Nat) (st st' : SortSt) : Prop where
  tb : TB kd st'
  pd : pendingOf st'=pendingOf st
  gd : ∀ x∈(arrOf st').toList, Gd κ x
  rp : Rp lo hi (arrOf st) (arrOf st')
theorem Rs.refl {lo hi : Nat}{st : SortSt}(h : TB kd st)(g : ∀ x∈(arrOf st).toList, Gd κ x) : Rs kd κ lo hi st st := ⟨h, rfl, g, .refl _ _ _⟩
theorem Rs.arr {lo hi : Nat}{st st' : SortSt}(h : Rs kd κ lo hi st st'){ys : Array Keyed}(r : Rp lo hi (arrOf st') ys) : Rs kd κ lo hi st (setArr st' ys) :=
  ⟨⟨h.tb.kind, h.tb.failed⟩, h.pd, fun x hx => h.gd x ((wu.mp r.pm).mem_iff.mp hx), h.rp.trans r⟩
theorem qp {xs : Array Keyed}(g : ∀ x∈xs.toList, Gd κ x){i : Nat}(hi : i < xs.size) : ∃ x p, xs[i]? = some (x, p) ∧ κ.keyOf x=some (KK κ xs i) := by
  have e : xs[i]? = some xs[i] := getElem?_pos xs i hi
  refine ⟨xs[i].1, xs[i].2, e, ?_⟩
  have := (g xs[i] (by simp)).eq
  rw [this]
  unfold KK kof
  rw [e]
section
variable {prog : Program} {w : World} {A : Around} {E : Value → Shared → Prop} {s : Shared}
theorem dz {st : SortSt}{i j : Nat}{Q : Option Bool → SortSt → Prop}(hO : Lt1 κ prog w A s kd)(hB : TB kd st)(g : ∀ x∈(arrOf st).toList, Gd κ x)(hi : i < (arrOf st).size)(hj : j < (arrOf st).size)
    (h : Q (some (κ.blt (KK κ (arrOf st) i) (KK κ (arrOf st) j))) st) : wpS (model prog w) A E s (ltAt' i j) Q st := by
  obtain ⟨x, p, e1, k1⟩ := qp g hi
  obtain ⟨y, q, e2, k2⟩ := qp g hj
  have hx : Gd κ (x, p) := ⟨_, k1⟩
  have hy : Gd κ (y, q) := ⟨_, k2⟩
  rw [ltAt'_eq]
  refine uM (yg ?_)
  show wpS _ _ _ _ (do let x ← elem' (arrOf st) i;let y ← elem' (arrOf st) j;lt' x y) Q st
  rw [elem'_eq, elem'_eq, e1, e2]
  refine uM (uS (uM (uS (fX hO hB hx hy ?_))))
  have a1 : kof κ (x, p)=_ := uV (hx.eq.symm.trans k1)
  have a2 : kof κ (y, q)=_ := uV (hy.eq.symm.trans k2)
  rw [a1, a2]
  exact h
def sG (lo a nr : Nat) : StateT SortSt Sem (Option Nat) := do
  let mut n := a
  for _ in [a:nr] do
    let some sm ← ltAt' (lo+n) (lo+n - 1) | return none
    if sm then break
    n := n+1
  return some n
def oA (lo a nr : Nat) : StateT SortSt Sem (Option Nat) := do
  reverseSlice' lo (lo+a)
  sG lo a nr
def sH (lo a nr : Nat) : StateT SortSt Sem (Option Nat) := do
  rule "list.sort.descending-run"
  let mut n := a+1
  let mut e := 0
  for _ in [a+1:nr] do
    let some sm ← ltAt' (lo+n) (lo+n - 1) | return none
    if sm then
      if e > 0 then reverseSlice' (lo+n - (e+1)) (lo+n)
      e := 0
    else
      let some lg ← ltAt' (lo+n - 1) (lo+n) | return none
      if lg then break
      e := e+1
    n := n+1
  if e > 0 then reverseSlice' (lo+n - (e+1)) (lo+n)
  oA lo n nr
theorem j7 {xs : Array Keyed}{lo x : Nat}(a1 : SrI κ xs lo (lo+x))(h1 : 1≤x)(e : κ.blt (KK κ xs (lo+x)) (KK κ xs (lo+x - 1))=false) : SrI κ xs lo (lo+(x+1)) := fun i j hi hij hj => by
  by_cases q : j < lo+x
  · exact a1 i j hi hij q
  · have : j=lo+x := by omega
    subst this
    by_cases q2 : i=lo+x
    · subst q2;exact vM _
    · exact wM (a1 i (lo+x - 1) hi (by omega) (by omega)) e
theorem mh {st : SortSt}{lo a nr : Nat}{Q : Option Nat → SortSt → Prop}(hO : Lt1 κ prog w A s kd)(hB : TB kd st)(g : ∀ x∈(arrOf st).toList, Gd κ x)(h1 : 1≤a)(h2 : a≤nr)(h3 : lo+nr≤(arrOf st).size)(hs : SrI κ (arrOf st) lo (lo+a))
    (h : ∀ n, a≤n → n≤nr → SrI κ (arrOf st) lo (lo+n) → Q (some n) st) : wpS (model prog w) A E s (sG lo a nr) Q st := by
  unfold sG
  refine uM (wm (vA (I := fun x c st' => st'=st ∧ c=(none, x) ∧ SrI κ (arrOf st) lo (lo+x))
    (Q := fun c st' => st'=st ∧ ∃ n, c=(none, n) ∧ a≤n ∧ n≤nr ∧ SrI κ (arrOf st) lo (lo+n) ∧ (n=nr ∨ κ.klt (KK κ (arrOf st) (lo+n)) (KK κ (arrOf st) (lo+n - 1)))) ?step ?fin ⟨rfl, rfl, hs⟩) ?post)
  case fin =>
    rintro c st' ⟨rfl, rfl, a1⟩
    have e : max a nr=nr := by omega
    rw [e] at a1 ⊢
    exact ⟨rfl, nr, rfl, by omega, uG _, a1, .inl rfl⟩
  case step =>
    rintro x c st' hx1 hx2 ⟨rfl, rfl, a1⟩
    dsimp only
    refine uM (dz hO hB g (by omega) (by omega) ?_)
    cases e : κ.blt (KK κ (arrOf st') (lo+x)) (KK κ (arrOf st') (lo+x - 1)) with
    | true =>
      simp only [wj]
      exact uS ⟨rfl, x, rfl, hx1, by omega, a1, .inr e⟩
    | false =>
      simp only [uZ, vN]
      exact uS ⟨rfl, rfl, j7 a1 (by omega) e⟩
  case post =>
    rintro c st' ⟨rfl, n, rfl, a1, a2, a3, a4⟩
    exact uS (h n a1 a2 a3)
theorem fY {st st' : SortSt}{lo a nr : Nat}{Q : Option Nat → SortSt → Prop}(hO : Lt1 κ prog w A s kd)(R : Rs kd κ lo (lo+nr) st st')(h1 : 1≤a)(h2 : a≤nr)(h3 : lo+nr≤(arrOf st).size)(hs : NiI κ (arrOf st') lo (lo+a))
    (h : ∀ n st'', 1≤n → n≤nr → Rs kd κ lo (lo+nr) st st'' → SrI κ (arrOf st'') lo (lo+n) → Q (some n) st'') : wpS (model prog w) A E s (oA lo a nr) Q st' := by
  have hz := R.rp.size
  unfold oA
  refine uM (wpS_reverse ?_)
  have R' : Rs kd κ lo (lo+nr) st (setArr st' (mirror (arrOf st') lo (lo+a) ((lo+a - lo) / 2))) := R.arr (Rp.mirror (uG _) (by omega) (by omega))
  refine mh hO R'.tb R'.gd h1 h2 (by rw [R'.rp.size];exact h3) (fun i j hi hij hj => ?_) fun n a1 a2 a3 => h n _ (by omega) a2 R' a3
  show κ.kle (KK κ (mirror (arrOf st') lo (lo+a) ((lo+a - lo) / 2)) i) (KK κ (mirror (arrOf st') lo (lo+a) ((lo+a - lo) / 2)) j)
  rw [KK_mirror (by omega), KK_mirror (by omega), if_pos (by omega), if_pos (by omega)]
  exact hs _ _ (by omega) (by omega) (by omega)
theorem iM {st st' : SortSt}{lo a nr : Nat}{Q : Option Nat → SortSt → Prop}(hO : Lt1 κ prog w A s kd)(R : Rs kd κ lo (lo+nr) st st')(h2 : a+1≤nr)(h3 : lo+nr≤(arrOf st).size)(hs : NiI κ (arrOf st') lo (lo+(a+1)))
    (h : ∀ n st'', 1≤n → n≤nr → Rs kd κ lo (lo+nr) st st'' → SrI κ (arrOf st'') lo (lo+n) → Q (some n) st'') : wpS (model prog w) A E s (sH lo a nr) Q st' := by
  unfold sH
  refine uM (zc (wQ ⟨rfl, ?_⟩))
  dsimp only
  refine uM (wm (vA (I := fun x c st'' => ∃ e, c=(none, x, e) ∧ Rs kd κ lo (lo+nr) st st'' ∧ NiI κ (arrOf st'') lo (lo+x) ∧ e+1≤x ∧ ∀ i, lo+x - (e+1)≤i → i < lo+x → KK κ (arrOf st'') i=KK κ (arrOf st'') (lo+x - 1))
    (Q := fun c st'' => ∃ x e, c=(none, x, e) ∧ a+1≤x ∧ x≤nr ∧ Rs kd κ lo (lo+nr) st st'' ∧ NiI κ (arrOf st'') lo (lo+x) ∧ e+1≤x ∧ ∀ i, lo+x - (e+1)≤i → i < lo+x → KK κ (arrOf st'') i=KK κ (arrOf st'') (lo+x - 1)) ?step ?fin ⟨0, rfl, R, hs, by omega, fun i h1 h2 => by congr 1;omega⟩) ?post)
  case fin =>
    rintro c st'' ⟨e, rfl, R, hs, he, hk⟩
    have ex : max (a+1) nr=nr := by omega
    rw [ex] at hs he hk ⊢
    exact ⟨nr, e, rfl, h2, uG _, R, hs, he, hk⟩
  case post =>
    rintro c st'' ⟨x, e, rfl, hx1, hx2, R, hs, he, hk⟩
    have hz := R.rp.size
    dsimp only
    by_cases h0 : e > 0
    · refine av h0 ?_
      refine uM (wpS_reverse ?_)
      refine fY hO (R.arr (Rp.mirror (by omega) (by omega) (by omega))) (by omega) hx2 h3 (fun i j hi hij hj => ?_) h
      show κ.kle (KK κ (mirror (arrOf st'') _ _ _) j) (KK κ (mirror (arrOf st'') _ _ _) i)
      rw [xy (by omega) hk, xy (by omega) hk]
      exact hs i j hi hij hj
    · refine ay h0 ?_
      exact fY hO R (by omega) hx2 h3 hs h
  case step =>
    rintro x c st'' hx1 hx2 ⟨e, rfl, R, hs, he, hk⟩
    have hz := R.rp.size
    dsimp only
    refine uM (dz hO R.tb R.gd (by omega) (by omega) ?_)
    cases e1 : κ.blt (KK κ (arrOf st'') (lo+x)) (KK κ (arrOf st'') (lo+x - 1)) with
    | true =>
      simp only [wj]
      have nx : ∀ xs : Array Keyed, (∀ k, KK κ xs k=KK κ (arrOf st'') k) → NiI κ xs lo (lo+(x+1)) := fun xs ek i j hi hij hj => by
        rw [ek, ek]
        by_cases q : j < lo+x
        · exact hs i j hi hij q
        · have : j=lo+x := by omega
          subst this
          by_cases q2 : i=lo+x
          · subst q2;exact vM _
          · exact wM (w_ e1) (hs i (lo+x - 1) hi (by omega) (by omega))
      by_cases h0 : e > 0
      · refine av h0 ?_
        exact uM (wpS_reverse (uS ⟨0, rfl, R.arr (Rp.mirror (by omega) (by omega) (by omega)), nx _ (xy (by omega) hk), by omega, fun i h1 h2 => by congr 1;omega⟩))
      · refine ay h0 ?_
        exact uS ⟨0, rfl, R, nx _ fun _ => rfl, by omega, fun i h1 h2 => by congr 1;omega⟩
    | false =>
      simp only [uZ, vN]
      refine uM (dz hO R.tb R.gd (by omega) (by omega) ?_)
      cases e2 : κ.blt (KK κ (arrOf st'') (lo+x - 1)) (KK κ (arrOf st'') (lo+x)) with
      | true =>
        simp only [wj]
        exact uS ⟨x, e, rfl, hx1, by omega, R, hs, he, hk⟩
      | false =>
        simp only [uZ, vN]
        have ee : KK κ (arrOf st'') (lo+x)=KK κ (arrOf st'') (lo+x - 1) := KeyOrd.kle_antisymm e2 e1
        refine uS ⟨e+1, rfl, R, fun i j hi hij hj => ?_, by omega, fun i h1 h2 => ?_⟩
        · by_cases q : j < lo+x
          · exact hs i j hi hij q
          · have : j=lo+x := by omega
            subst this
            by_cases q2 : i=lo+x
            · subst q2;exact vM _
            · rw [ee];exact hs i (lo+x - 1) hi (by omega) (by omega)
        · rw [show lo+(x+1) - 1=lo+x by omega]
          by_cases q : i=lo+x
          · subst q;rfl
          · rw [ee];exact hk i (by omega) (by omega)
theorem mi {st : SortSt}{lo nr : Nat}{Q : Option Nat → SortSt → Prop}(hO : Lt1 κ prog w A s kd)(hB : TB kd st)(g : ∀ x∈(arrOf st).toList, Gd κ x)(h1 : 1≤nr)(h3 : lo+nr≤(arrOf st).size)
    (h : ∀ n st', 1≤n → n≤nr → Rs kd κ lo (lo+nr) st st' → SrI κ (arrOf st') lo (lo+n) → Q (some n) st') : wpS (model prog w) A E s (countRun' lo nr) Q st := by
  have R : Rs kd κ lo (lo+nr) st st := .refl hB g
  rw [countRun'_eq]
  change wpS _ _ _ _ (do
    let mut n := 1
    for _ in [1:nr] do
      let some sm ← ltAt' (lo+n) (lo+n - 1) | return none
      if sm then break
      n := n+1
    if n == nr then return some n
    if n > 1 then
      let some rs ← ltAt' lo (lo+n - 1) | return none
      if rs then return some n
      reverseSlice' lo (lo+n)
    sH lo n nr) _ _
  refine uM (wm (vA (I := fun x c st' => st'=st ∧ c=(none, x) ∧ SrI κ (arrOf st) lo (lo+x))
    (Q := fun c st' => st'=st ∧ ∃ n, c=(none, n) ∧ 1≤n ∧ n≤nr ∧ SrI κ (arrOf st) lo (lo+n) ∧ (n=nr ∨ κ.klt (KK κ (arrOf st) (lo+n)) (KK κ (arrOf st) (lo+n - 1)))) ?step ?fin ⟨rfl, rfl, fun i j hi hij hj => by have : i=j := (by omega);subst this;exact vM _⟩) ?post)
  case fin =>
    rintro c st' ⟨rfl, rfl, a1⟩
    have e : max 1 nr=nr := by omega
    rw [e] at a1 ⊢
    exact ⟨rfl, nr, rfl, by omega, uG _, a1, .inl rfl⟩
  case step =>
    rintro x c st' hx1 hx2 ⟨rfl, rfl, a1⟩
    dsimp only
    refine uM (dz hO hB g (by omega) (by omega) ?_)
    cases e : κ.blt (KK κ (arrOf st') (lo+x)) (KK κ (arrOf st') (lo+x - 1)) with
    | true =>
      simp only [wj]
      exact uS ⟨rfl, x, rfl, hx1, by omega, a1, .inr e⟩
    | false =>
      simp only [uZ, vN]
      exact uS ⟨rfl, rfl, j7 a1 (by omega) e⟩
  rintro c st' ⟨rfl, n, rfl, a1, a2, a3, a4⟩
  dsimp only
  by_cases hn : n=nr
  · refine av (by simpa using hn) ?_
    exact uS (h n st' a1 a2 R a3)
  · refine ay (by simpa using hn) ?_
    have lt : κ.klt (KK κ (arrOf st') (lo+n)) (KK κ (arrOf st') (lo+n - 1)) := a4.resolve_left hn
    by_cases hg : n > 1
    · refine av hg ?_
      refine uM (dz hO hB g (by omega) (by omega) ?_)
      cases e : κ.blt (KK κ (arrOf st') lo) (KK κ (arrOf st') (lo+n - 1)) with
      | true =>
        simp only [wj]
        exact uS (h n st' a1 a2 R a3)
      | false =>
        simp only [uZ, vN]
        refine uM (wpS_reverse ?_)
        have same : ∀ i, lo≤i → i < lo+n → KK κ (arrOf st') i=KK κ (arrOf st') (lo+n - 1) := fun i hi1 hi2 => by
          have b1 := a3 i (lo+n - 1) hi1 (by omega) (by omega)
          have b2 := a3 lo i (uG _) hi1 hi2
          exact KeyOrd.kle_antisymm b1 (wM e b2)
        refine iM hO (R.arr (Rp.mirror (uG _) (by omega) (by omega))) (by omega) h3 (fun i j hi hij hj => ?_) h
        show κ.kle (KK κ (mirror (arrOf st') _ _ _) j) (KK κ (mirror (arrOf st') _ _ _) i)
        rw [xy (by omega) same, xy (by omega) same]
        by_cases q : j < lo+n
        · rw [same i hi (by omega), same j (by omega) q]
          exact vM _
        · have : j=lo+n := by omega
          subst this
          by_cases q2 : i=lo+n
          · subst q2;exact vM _
          · rw [same i hi (by omega)]
            exact w_ lt
    · refine ay hg ?_
      have : n=1 := by omega
      subst this
      refine iM hO R (by omega) h3 (fun i j hi hij hj => ?_) h
      by_cases q2 : i=j
      · subst q2;exact vM _
      · have e1 : i=lo := by omega
        have e2 : j=lo+1 := by omega
        subst e1 e2
        exact w_ lt
end
end Tv
namespace Tv
open PySem PyProof.Rows
variable {κ : KeyKind} {kd : SortKind}
section
variable {prog : Program} {w : World} {A : Around} {E : Value → Shared → Prop} {s : Shared}
theorem mj {st : SortSt}{lo n ok : Nat}{Q : Bool → SortSt → Prop}(hO : Lt1 κ prog w A s kd)(hB : TB kd st)(g : ∀ x∈(arrOf st).toList, Gd κ x)(hn : lo+n≤(arrOf st).size)(hok : ok≤n)(hs : SrI κ (arrOf st) lo (lo+ok))
    (h : ∀ st', Rs kd κ lo (lo+n) st st' → SrI κ (arrOf st') lo (lo+n) → Q true st') : wpS (model prog w) A E s (binarySort' lo n ok) Q st := by
  rw [binarySort'_eq]
  refine uM (wm (vA (I := fun y c st' => c=(none, ()) ∧ Rs kd κ lo (lo+n) st st' ∧ SrI κ (arrOf st') lo (lo+min y n))
    (Q := fun c st' => c=(none, ()) ∧ Rs kd κ lo (lo+n) st st' ∧ SrI κ (arrOf st') lo (lo+n)) ?step ?fin ?init) ?post)
  case post =>
    rintro c st' ⟨rfl, R, hs'⟩
    exact uS (h st' R hs')
  case init =>
    refine ⟨rfl, .refl hB g, fun i j hi hij hj => ?_⟩
    by_cases e : i=j
    · subst e;exact vM _
    · exact hs i j hi hij (by omega)
  case fin =>
    rintro c st' ⟨hc, R, hs'⟩
    rw [show min (max (max ok 1) n) n=n by omega] at hs'
    exact ⟨hc, R, hs'⟩
  case step =>
    rintro y c st' hy1 hy2 ⟨rfl, R, hs'⟩
    have hz := R.rp.size
    rw [show min y n=y by omega] at hs'
    refine uM (wm (vA (I := fun x c st'' => st''=st' ∧ ∃ l r, c=(none, l, r) ∧ l≤r ∧ r≤y ∧ r - l≤y - x ∧
        (∀ i, lo≤i → i < lo+l → κ.kle (KK κ (arrOf st') i) (KK κ (arrOf st') (lo+y))) ∧ (∀ i, lo+r≤i → i < lo+y → κ.klt (KK κ (arrOf st') (lo+y)) (KK κ (arrOf st') i)))
      (Q := fun c st'' => st''=st' ∧ ∃ l r, c=(none, l, r) ∧ l≤y ∧
        (∀ i, lo≤i → i < lo+l → κ.kle (KK κ (arrOf st') i) (KK κ (arrOf st') (lo+y))) ∧ (∀ i, lo+l≤i → i < lo+y → κ.klt (KK κ (arrOf st') (lo+y)) (KK κ (arrOf st') i))) ?istep ?ifin ?iinit) ?ipost)
    case iinit => exact ⟨rfl, 0, y, rfl, by omega, by omega, by omega, fun i h1 h2 => by omega, fun i h1 h2 => by omega⟩
    case ifin =>
      rintro c st'' ⟨rfl, l, r, rfl, q1, q2, q3, q4, q5⟩
      have : l=r := by omega
      subst this
      exact ⟨rfl, l, l, rfl, q2, q4, q5⟩
    case istep =>
      rintro x c st'' _ hx ⟨rfl, l, r, rfl, q1, q2, q3, q4, q5⟩
      dsimp only
      by_cases hge : l≥r
      · refine av hge ?_
        have : l=r := by omega
        subst this
        exact uS ⟨rfl, l, l, rfl, q2, q4, q5⟩
      · refine ay hge ?_
        refine uM (dz hO R.tb R.gd (by omega) (by omega) ?_)
        cases e : κ.blt (KK κ (arrOf st'') (lo+y)) (KK κ (arrOf st'') (lo+(l+r) / 2)) with
        | true =>
          simp only [wj]
          refine uS ⟨rfl, l, (l+r) / 2, rfl, by omega, by omega, by omega, q4, fun i h1 h2 => ?_⟩
          exact KeyOrd.klt_of_klt_of_kle e (hs' _ _ (by omega) h1 h2)
        | false =>
          simp only [uZ, vN]
          refine uS ⟨rfl, (l+r) / 2+1, r, rfl, by omega, by omega, by omega, fun i h1 h2 => ?_, q5⟩
          exact wM (hs' i (lo+(l+r) / 2) h1 (by omega) (by omega)) (show κ.kle _ _ from e)
    case ipost =>
      rintro c st'' ⟨rfl, l, r, rfl, hl, q4, q5⟩
      show wpS _ _ _ _ (do moveDown' (lo+y) (lo+l);pure (ForInStep.yield (none, ()))) _ _
      rw [moveDown'_eq]
      have hk : lo+y < (arrOf st'').size := by omega
      refine uM (xq (uS ⟨rfl, R.arr (Rp.bubble (by omega) (by omega) hk), ?_⟩))
      rw [show min (y+1) n=y+1 by omega]
      intro i j hi hij hj
      show κ.kle (KK κ (bubble (arrOf st'') (lo+y) (lo+y - (lo+l))) i) (KK κ (bubble (arrOf st'') (lo+y) (lo+y - (lo+l))) j)
      rw [KK_bubble hk (by omega), KK_bubble hk (by omega), show lo+y - (lo+y - (lo+l))=lo+l by omega]
      repeat' split
      all_goals first
        | (exfalso;omega)
        | exact vM _
        | exact q4 _ (by omega) (by omega)
        | exact w_ (q5 _ (by omega) (by omega))
        | exact hs' _ _ (by omega) (by omega) (by omega)
end
theorem j8 : ∀ (r : List Keyed) (z b : Nat) (arr : Array Keyed) (X Y Z : List Keyed), arr.toList=X++(Y++Z) → X.length=z+b → Y.length=r.length →
    ((r.zipIdx b).foldl (fun a (p, j) => a.setIfInBounds (z+j) p) arr).toList=X++(r++Z)
  | [], z, b, arr, X, Y, Z, e, h1, h2 => by
    rw [wH.mp h2] at e
    exact e
  | p::r, z, b, arr, X, Y, Z, e, h1, h2 => by
    cases Y with
    | nil => simp at h2
    | cons y Y =>
      rw [yV, y8]
      have := j8 r z (b+1) (arr.setIfInBounds (z+b) p) (X++[p]) Y Z (by
        rw [ym, e, ← h1, List.set_append_right _ _ (uG _), zk]
        simp) (by simp [h1];omega) (by simpa using h2)
      rw [this]
      simp
def mAt (i : Nat) : StateT SortSt Sem Bool := do
  let u ← get
  let (some (za, la, pw), some (zb, lb, _)) := ((pendingOf u)[i]?, (pendingOf u)[i+1]?) | unsupported "internal:list.sort.pending"
  set (setPending u (((pendingOf u).setIfInBounds i (za, la+lb, pw)).eraseIdxIfInBounds (i+1)))
  let some c ← gal false (← elem' (arrOf u) zb) (arrOf u) za la 0 | return false
  let (za, la) := (za+c, la - c)
  if la == 0 then return true
  let some lb ← gal true (← elem' (arrOf u) (za+la - 1)) (arrOf u) zb lb (lb - 1) | return false
  if lb == 0 then return true
  let x := (arrOf u).extract za zb
  let y := (arrOf u).extract zb (zb+lb)
  let out ← if la≤lb then mlo x y else mhi x y
  modify fun v => setArr v (out.toList.zipIdx.foldl (fun a (p, j) => a.setIfInBounds (za+j) p) (arrOf v))
  return (failedOf (← get)).isNone
theorem qq (i : Nat) : mergeAt' i=mAt i := rfl
end Tv
namespace Tv
open PySem PyProof.Rows
variable {κ : KeyKind} {kd : SortKind}
theorem Lel.sym_take {l : List Keyed}(h : Srt κ l)(i : Nat) : Lel κ (l.take i) (l.drop i) := by
  have : Srt κ (l.take i++l.drop i) := by rw [vb];exact h
  exact (bg.mp this).2.2
theorem Lel.memL {l l' m : List Keyed}(h : Lel κ l m)(hs : ∀ x∈l', x∈l) : Lel κ l' m := fun x hx y hy => h x (hs x hx) y hy
theorem Lel.memR {l m m' : List Keyed}(h : Lel κ l m)(hs : ∀ x∈m', x∈m) : Lel κ l m' := fun x hx y hy => h x hx y (hs y hy)
theorem Lel.mid {l m : List Keyed}{x : Keyed}(h : Lel κ l [x])(g : Lel κ [x] m) : Lel κ l m := fun a ha b hb => de (h a ha x (uE.mpr rfl)) (g x (uE.mpr rfl) b hb)
theorem ft {l : List Keyed}{x : Keyed}(h : Srt κ l)(e : l[0]? = some x) : Lel κ [x] l := fun a ha y hy => by
  rw [uE] at ha
  subst ha
  obtain ⟨i, hi⟩ := vJ hy
  exact h.at (vE _) e hi
theorem j9 {l : List Keyed}{x : Keyed}(h : Srt κ l)(e : l[l.length - 1]? = some x) : Lel κ l [x] := fun a ha y hy => by
  rw [uE] at hy
  subst hy
  obtain ⟨i, hi⟩ := vJ ha
  have := (uJ.mp hi).1
  exact h.at (by omega) hi e
theorem oB {l m n : List Keyed} : Lel κ (l++m) n ↔ Lel κ l n ∧ Lel κ m n :=
  ⟨fun h => ⟨h.memL fun x hx => u7 _ hx, h.memL fun x hx => uL _ hx⟩, fun h x hx => (uW.mp hx).elim (h.1 x) (h.2 x)⟩
theorem iN {l m n : List Keyed} : Lel κ l (m++n) ↔ Lel κ l m ∧ Lel κ l n :=
  ⟨fun h => ⟨h.memR fun x hx => u7 _ hx, h.memR fun x hx => uL _ hx⟩, fun h x hx y hy => (uW.mp hy).elim (h.1 x hx y) (h.2 x hx y)⟩
theorem qr {A B r : List Keyed}{c m : Nat}{b0 al : Keyed}(sA : Srt κ A)(sB : Srt κ B)(e0 : B[0]? = some b0)(el : A[A.length - 1]? = some al)
    (h1 : Lel κ (A.take c) [b0]) (h2 : Lel κ [al] (B.drop m)) (M : Mg κ (A.drop c) (B.take m) r) : Mg κ A B (A.take c++(r++B.drop m)) := by
  have mm : ∀ x, x∈r ↔ x∈A.drop c++B.take m := fun x => M.1.mem_iff
  refine ⟨?_, bg.mpr ⟨sA.take c, bg.mpr ⟨M.2, sB.drop m, ?_⟩, iN.mpr ⟨?_, ?_⟩⟩⟩
  · have : (A.take c++(r++B.drop m)).Perm (A.take c++((A.drop c++B.take m)++B.drop m)) := we _ (M.1.append_right _)
    refine this.trans (List.Perm.of_eq ?_)
    rw [uO, ← uO, vb, vb]
  · refine Lel.memL (l := A.drop c++B.take m) (oB.mpr ⟨?_, Lel.sym_take sB m⟩) fun x hx => (mm x).mp hx
    exact Lel.mid ((j9 sA el).memL fun x hx => vI hx) h2
  · refine Lel.memR (m := A.drop c++B.take m) (iN.mpr ⟨Lel.sym_take sA c, ?_⟩) fun x hx => (mm x).mp hx
    exact Lel.mid h1 ((ft sB e0).memR fun x hx => vt hx)
  · exact Lel.mid h1 ((ft sB e0).memR fun x hx => vI hx)
section
variable {prog : Program} {w : World} {A : Around} {E : Value → Shared → Prop} {s : Shared}
theorem oD {st u : SortSt}{Q : PUnit → SortSt → Prop}(h : Q ⟨⟩ u) : wpS (model prog w) A E s (set u : StateT SortSt Sem PUnit) Q st := by
  unfold wpS
  rw [StateT.run_set]
  exact uH ⟨rfl, h⟩
theorem iO {st : SortSt}{lf : Bool}{key : Keyed}{arr : Array Keyed}{P M S : List Keyed}{z n h : Nat}{Q : Option Nat → SortSt → Prop}(hO : Lt1 κ prog w A s kd)(hB : TB kd st)(hk : Gd κ key)(hg : ∀ x∈arr.toList, Gd κ x)(ea : arr.toList=P++(M++S))(lp : P.length=z)(ln : M.length=n)(sa : Srt κ M)(hh : h < n)
    (hq : ∀ k, k≤n → (∀ x∈M.take k, bdB κ lf (kof κ key) (kof κ x)=true) → (∀ x∈M.drop k, bdB κ lf (kof κ key) (kof κ x)=false) → Q (some k) st) :
    wpS (model prog w) A E s (gal lf key arr z n h) Q st := by
  have ga : ∀ i, i < n → arr[z+i]? = M[i]? := fun i hi => by
    rw [← vo, ea, ve (by omega), wb (by omega)]
    congr 1
    omega
  have gm : ∀ x∈M, Gd κ x := fun x hx => hg x (by rw [ea];exact uL _ (u7 _ hx))
  refine gM hO hB hk (fun t => match M[t]? with | some p => bdB κ lf (kof κ key) (kof κ p) | none => false) hh (fun t ht => ?_) (fun t u htu hu hb => ?_) (fun k hk' h1 h2 => hq k hk' (fun x hx => ?_) fun x hx => ?_)
  · have hlt : t < M.length := by omega
    have e := uB hlt
    exact ⟨M[t], by rw [ga t ht, e], gm _ (vc _), by rw [e]⟩
  · have e1 := uB (l := M) (i := t) (by omega)
    have e2 := uB (l := M) (i := u) (by omega)
    rw [e1]
    rw [e2] at hb
    have le := sa.at htu e1 e2
    dsimp only at hb ⊢
    cases lf with
    | true => exact KeyOrd.klt_of_kle_of_klt le hb
    | false =>
      have le2 := de le (dU hb)
      show (!κ.blt _ _)=true
      rw [show κ.blt (kof κ key) (kof κ M[t])=false from le2]
      rfl
  · obtain ⟨i, hi⟩ := vJ hx
    have l1 := (uJ.mp hi).1
    rw [uR] at l1
    rw [vS (by omega)] at hi
    have := h1 i (by omega)
    rw [hi] at this
    exact this
  · obtain ⟨i, hi⟩ := vJ hx
    rw [vK] at hi
    have l1 := (uJ.mp hi).1
    have := h2 (k+i) (by omega) (by omega)
    rw [hi] at this
    exact this
theorem j_ {arr : Array Keyed}{P M S : List Keyed}{i j : Nat}(e : arr.toList=P++(M++S))(h1 : P.length=i)(h2 : j=i+M.length) : (arr.extract i j).toList=M := by
  rw [vY, e, List.extract_eq_drop_take, ← h1, List.drop_left, h2, ← h1, wI, List.take_left]
theorem oE {st : SortSt}{i z na nb pw pw2 : Nat}{P Aa B S : List Keyed}{Q : Bool → SortSt → Prop}(hO : Lt1 κ prog w A s kd)(hB : TB kd st)(g : ∀ x∈(arrOf st).toList, Gd κ x)(e1 : (pendingOf st)[i]? = some (z, na, pw))(e2 : (pendingOf st)[i+1]? = some (z+na, nb, pw2))
    (ea : (arrOf st).toList=P++(Aa++(B++S))) (lp : P.length=z) (la : Aa.length=na) (lb : B.length=nb) (h0 : 0 < na) (h1 : 0 < nb) (sA : Srt κ Aa) (sB : Srt κ B)
    (h : ∀ st' R, TB kd st' → pendingOf st'=((pendingOf st).setIfInBounds i (z, na+nb, pw)).eraseIdxIfInBounds (i+1) → (arrOf st').toList=P++(R++S) → Mg κ Aa B R → Q true st') : wpS (model prog w) A E s (mergeAt' i) Q st := by
  have eb : (arrOf st).toList=(P++Aa)++(B++S) := by rw [ea, uO]
  rw [qq]
  unfold mAt
  refine uM (yg ?_)
  rw [e1, e2]
  dsimp only
  refine uM (oD ?_)
  have hB' : TB kd (setPending st (((pendingOf st).setIfInBounds i (z, na+nb, pw)).eraseIdxIfInBounds (i+1))) := ⟨hB.kind, hB.failed⟩
  generalize hst' : setPending st (((pendingOf st).setIfInBounds i (z, na+nb, pw)).eraseIdxIfInBounds (i+1))=st' at hB' ⊢
  have hp' : pendingOf st'=((pendingOf st).setIfInBounds i (z, na+nb, pw)).eraseIdxIfInBounds (i+1) := by rw [← hst']
  have har : arrOf st'=arrOf st := by rw [← hst']
  obtain ⟨b0, eb0⟩ : ∃ b0, B[0]? = some b0 := ⟨_, uB (by omega)⟩
  obtain ⟨al, eal⟩ : ∃ al, Aa[Aa.length - 1]? = some al := ⟨_, uB (by omega)⟩
  have gA : ∀ x∈Aa, Gd κ x := fun x hx => g x (by rw [ea];simp [hx])
  have gB : ∀ x∈B, Gd κ x := fun x hx => g x (by rw [ea];simp [hx])
  have x0 : (arrOf st).toList[z+na]? = some b0 := by
    rw [eb, ve (by simp;omega), wb (by simp;omega)]
    rw [show z+na - (P++Aa).length=0 by simp;omega]
    exact eb0
  have xl : (arrOf st).toList[z+na - 1]? = some al := by
    rw [ea, ve (by omega), wb (by omega)]
    rw [show z+na - 1 - P.length=Aa.length - 1 by omega]
    exact eal
  refine uM (aT x0 ?_)
  refine uM (iO hO hB' (gB b0 (uU eb0)) g ea lp la sA h0 fun c hc t1 t2 => ?_)
  dsimp only
  have k1 : Lel κ (Aa.take c) [b0] := fun x hx y hy => by
    rw [uE] at hy
    subst hy
    exact dU (t1 x hx)
  have k2 : Lel κ [b0] (Aa.drop c) := fun x hx y hy => by
    rw [uE] at hx
    subst hx
    exact d_ (t2 y hy)
  by_cases hc0 : na - c=0
  · refine av (by simpa using hc0) ?_
    have : Aa.take c=Aa := vj (by omega)
    rw [this] at k1
    exact uS (h st' (Aa++B) hB' hp' (by rw [har, ea, uO]) ⟨xH _, bg.mpr ⟨sA, sB, k1.mid (ft sB eb0)⟩⟩)
  · refine ay (by simpa using hc0) ?_
    rw [show z+c+(na - c) - 1=z+na - 1 by omega]
    refine uM (aT xl ?_)
    refine uM (iO hO hB' (gA al (uU eal)) g eb (by simp;omega) lb sB (by omega) fun m hm u1 u2 => ?_)
    dsimp only
    have k3 : Lel κ (B.take m) [al] := fun x hx y hy => by
      rw [uE] at hy
      subst hy
      exact gN (u1 x hx)
    have k4 : Lel κ [al] (B.drop m) := fun x hx y hy => by
      rw [uE] at hx
      subst hx
      exact fo (u2 y hy)
    by_cases hm0 : m=0
    · refine av (by simpa using hm0) ?_
      subst hm0
      exact uS (h st' (Aa++B) hB' hp' (by rw [har, ea, uO]) ⟨xH _, bg.mpr ⟨sA, sB, (j9 sA eal).mid k4⟩⟩)
    · refine ay (by simpa using hm0) ?_
      have ec : (arrOf st).toList=(P++Aa.take c)++(Aa.drop c++(B++S)) := by
        rw [ea]
        conv => lhs;rw [← vb c Aa]
        simp only [uO]
      have ed : (arrOf st).toList=(P++Aa)++(B.take m++(B.drop m++S)) := by
        rw [eb]
        conv => lhs;rw [← vb m B]
        simp only [uO]
      have ex : ((arrOf st).extract (z+c) (z+na)).toList=Aa.drop c := j_ ec (by simp;omega) (by simp;omega)
      have ey : ((arrOf st).extract (z+na) (z+na+m)).toList=B.take m := j_ ed (by simp;omega) (by simp;omega)
      have sx : ((arrOf st).extract (z+c) (z+na)).size=na - c := by rw [← uI, ex];simp;omega
      have sy : ((arrOf st).extract (z+na) (z+na+m)).size=m := by rw [← uI, ey];simp;omega
      generalize (arrOf st).extract (z+c) (z+na)=x at ex sx ⊢
      generalize (arrOf st).extract (z+na) (z+na+m)=y at ey sy ⊢
      have ga : ∀ t∈x.toList, Gd κ t := fun t ht => gA t (by rw [ex] at ht;exact vI ht)
      have gb : ∀ t∈y.toList, Gd κ t := fun t ht => gB t (by rw [ey] at ht;exact vt ht)
      have sx' : Srt κ x.toList := by rw [ex];exact sA.drop c
      have sy' : Srt κ y.toList := by rw [ey];exact sB.take m
      have y0 : y.toList[0]? = some b0 := by rw [ey, vS (by omega)];exact eb0
      have xn : x.toList[x.size - 1]? = some al := by
        rw [ex, vK, sx, show c+(na - c - 1)=Aa.length - 1 by omega]
        exact eal
      have fin : ∀ (r : Array Keyed) (st2 : SortSt), Ok kd st' st2 → Mg κ x.toList y.toList r.toList → wpS (model prog w) A E s (do
          modify fun v => setArr v (r.toList.zipIdx.foldl (fun a (p, j) => a.setIfInBounds (z+c+j) p) (arrOf v))
          return (failedOf (← get)).isNone : StateT SortSt Sem Bool) Q st2 := fun r st2 ok M => by
        rw [ex, ey] at M
        have lr : r.toList.length=(Aa.drop c++B.take m).length := M.1.length_eq
        refine uM (xq ?_)
        refine uM (yg ?_)
        refine uS ?_
        have hf : failedOf (setArr st2 (r.toList.zipIdx.foldl (fun a (p, j) => a.setIfInBounds (z+c+j) p) (arrOf st2)))=none := ok.tb.failed
        rw [hf]
        refine h _ (Aa.take c++(r.toList++B.drop m)) ⟨ok.tb.kind, ok.tb.failed⟩ (ok.pd.trans hp') ?_ (qr sA sB eb0 eal k1 k4 M)
        show (r.toList.zipIdx.foldl (fun a (p, j) => a.setIfInBounds (z+c+j) p) (arrOf st2)).toList=_
        rw [j8 r.toList (z+c) 0 (arrOf st2) (P++Aa.take c) (Aa.drop c++B.take m) (B.drop m++S) (by
          rw [ok.ar, har, ea]
          conv => lhs;rw [← vb c Aa, ← vb m B]
          simp only [uO]) (by simp;omega) lr.symm]
        simp only [uO]
      by_cases hle : na - c≤m
      · refine av hle ?_
        refine uM (oy hO hB' ga gb sx' sy' (by omega) (by omega) (fun p q hp hq => ?_) (fun t ht => ?_) fun r st2 ok M => fin r st2 ok M)
        · rw [y0] at hq
          cases hq
          rw [ex] at hp
          exact k2 _ (uE.mpr rfl) _ (uU hp)
        · rw [xn] at ht
          cases ht
          rw [ey]
          exact k3
      · refine ay hle ?_
        refine uM (oz hO hB' ⟨ga, gb, sx', sy', fun t ht => ?_⟩ (by omega) (by omega) (fun t ht => ?_) fun r st2 ok M => fin r st2 ok M)
        · rw [y0] at ht
          cases ht
          rw [ex]
          exact k2
        · rw [xn] at ht
          cases ht
          rw [ey]
          exact k3
end
end Tv
namespace Tv
open PySem PyProof.Rows
variable {κ : KeyKind} {kd : SortKind}
def PdL (κ : KeyKind) : Nat → List (Nat × Nat × Nat) → List (List Keyed) → Prop
  | _, [], [] => True
  | z, p::ps, r::rs => p.1=z ∧ p.2.1=r.length ∧ 0 < r.length ∧ Srt κ r ∧ PdL κ (z+r.length) ps rs
  | _, _, _ => False
theorem PdL.app : ∀ {p q : List (Nat × Nat × Nat)} {z : Nat} {rs : List (List Keyed)}, PdL κ z (p++q) rs → ∃ r1 r2, rs=r1++r2 ∧ r1.length=p.length ∧ PdL κ z p r1 ∧ PdL κ (z+r1.flatten.length) q r2
  | [], q, z, rs, h => ⟨[], rs, rfl, rfl, trivial, h⟩
  | _::_, q, z, [], h => h.elim
  | _::p, q, z, r::rs, h => by
    obtain ⟨a1, a2, a3, a4, a5⟩ := h
    obtain ⟨r1, r2, e, l, b1, b2⟩ := PdL.app a5
    refine ⟨r::r1, r2, by rw [e];rfl, by simp [l], ⟨a1, a2, a3, a4, b1⟩, ?_⟩
    rw [v9, uF, ← xA]
    exact b2
theorem PdL.join : ∀ {p q : List (Nat × Nat × Nat)} {z : Nat} {r1 r2 : List (List Keyed)}, PdL κ z p r1 → PdL κ (z+r1.flatten.length) q r2 → PdL κ z (p++q) (r1++r2)
  | [], q, z, [], r2, _, h => h
  | [], q, z, _::_, r2, h, _ => h.elim
  | _::_, q, z, [], r2, h, _ => h.elim
  | _::p, q, z, r::r1, r2, h, g => by
    obtain ⟨a1, a2, a3, a4, a5⟩ := h
    rw [v9, uF, ← xA] at g
    exact ⟨a1, a2, a3, a4, PdL.join a5 g⟩
theorem PdL.len : ∀ {p : List (Nat × Nat × Nat)} {z : Nat} {rs : List (List Keyed)}, PdL κ z p rs → p.length≤rs.flatten.length
  | [], z, [], _ => vE _
  | [], z, _::_, h => h.elim
  | _::_, z, [], h => h.elim
  | _::p, z, r::rs, h => by
    obtain ⟨a1, a2, a3, a4, a5⟩ := h
    have := PdL.len a5
    rw [v9, uF, vQ]
    omega
theorem PdL.same : ∀ {p q : List (Nat × Nat × Nat)} {z : Nat} {rs : List (List Keyed)}, PdL κ z p rs → q.map (fun t => (t.1, t.2.1))=p.map (fun t => (t.1, t.2.1)) → PdL κ z q rs
  | [], [], z, rs, h, _ => h
  | [], _::_, z, rs, _, e => by simp at e
  | _::_, [], z, rs, _, e => by simp at e
  | _::_, _::_, z, [], h, _ => h.elim
  | x::p, y::q, z, r::rs, h, e => by
    obtain ⟨a1, a2, a3, a4, a5⟩ := h
    simp only [vV, y9, Prod.mk.injEq] at e
    exact ⟨e.1.1.trans a1, e.1.2.trans a2, a3, a4, PdL.same a5 e.2⟩
theorem kc {f : Nat × Nat × Nat → Nat × Nat × Nat}(hf : ∀ t, (f t).1=t.1 ∧ (f t).2.1=t.2.1) : ∀ (l : List (Nat × Nat × Nat)) (i : Nat), (l.modify i f).map (fun t => (t.1, t.2.1))=l.map (fun t => (t.1, t.2.1))
  | [], i => by cases i <;> rfl
  | x::l, 0 => by
    show ((f x).1, (f x).2.1)::_=_
    rw [(hf x).1, (hf x).2]
    rfl
  | x::l, i+1 => by
    show (x.1, x.2.1)::(l.modify i f).map _=_
    rw [kc hf l i]
    rfl
theorem ke {xs : Array Keyed}{i : Nat}{x : Keyed}(h : xs.toList[i]? = some x) : KK κ xs i=kof κ x := by
  rw [vo] at h
  unfold KK kof
  rw [h]
structure Iv (kd : SortKind) (κ : KeyKind) (a0 : Array Keyed) (st : SortSt) (lo : Nat) : Prop where
  tb : TB kd st
  pm : (arrOf st).Perm a0
  ex : ∃ rs T, (arrOf st).toList=rs.flatten++T ∧ rs.flatten.length=lo ∧ PdL κ 0 (pendingOf st).toList rs
theorem Iv.gd {a0 : Array Keyed}{st : SortSt}{lo : Nat}(I : Iv kd κ a0 st lo)(h0 : KeysOf κ a0) : ∀ x∈(arrOf st).toList, Gd κ x := fun x hx => h0 x ((wu.mp I.pm).mem_iff.mp hx)
theorem Iv.part {a0 : Array Keyed}{st st' : SortSt}{lo hi : Nat}(I : Iv kd κ a0 st lo)(R : Rs kd κ lo hi st st') : Iv kd κ a0 st' lo := by
  obtain ⟨rs, T, e, l, p⟩ := I.ex
  refine ⟨R.tb, R.rp.pm.trans I.pm, rs, (arrOf st').toList.drop lo, ?_, l, by rw [R.pd];exact p⟩
  have : (arrOf st').toList.take lo=rs.flatten := by
    have e2 : (arrOf st).toList.take lo=rs.flatten := by rw [e, ← l, List.take_left]
    rw [← e2]
    apply yD
    intro k
    by_cases hk : k < lo
    · rw [vS hk, vS hk, vo, vo, R.rp.out k (.inl hk)]
    · rw [wg (by rw [uR];omega), wg (by rw [uR];omega)]
  rw [← this, vb]
theorem Iv.mod {a0 : Array Keyed}{st : SortSt}{lo i : Nat}(I : Iv kd κ a0 st lo){f : Nat × Nat × Nat → Nat × Nat × Nat}(hf : ∀ t, (f t).1=t.1 ∧ (f t).2.1=t.2.1) : Iv kd κ a0 (setPending st ((pendingOf st).modify i f)) lo := by
  obtain ⟨rs, T, e, l, p⟩ := I.ex
  refine ⟨⟨I.tb.kind, I.tb.failed⟩, I.pm, rs, T, e, l, ?_⟩
  show PdL κ 0 ((pendingOf st).modify i f).toList rs
  rw [Array.toList_modify]
  exact p.same (kc hf _ _)
theorem Iv.push {a0 : Array Keyed}{st : SortSt}{lo n w : Nat}(I : Iv kd κ a0 st lo)(hn : 0 < n)(hz : lo+n≤(arrOf st).size)(hs : SrI κ (arrOf st) lo (lo+n)) : Iv kd κ a0 (setPending st ((pendingOf st).push (lo, n, w))) (lo+n) := by
  obtain ⟨rs, T, e, l, p⟩ := I.ex
  have lT : lo+T.length=(arrOf st).size := by rw [← uI, e, uF, l]
  have ln : (T.take n).length=n := by rw [uR];omega
  have at_ : ∀ i x, T[i]? = some x → KK κ (arrOf st) (lo+i)=kof κ x := fun i x hx => ke (by rw [e, ve (by omega), ← l, wI];exact hx)
  refine ⟨⟨I.tb.kind, I.tb.failed⟩, I.pm, rs++[T.take n], T.drop n, ?_, ?_, ?_⟩
  · show (arrOf st).toList=_
    rw [e, wJ, xF, uO, vb]
  · rw [wJ, xF, uF, l, ln]
  · show PdL κ 0 ((pendingOf st).push (lo, n, w)).toList _
    rw [xf]
    refine PdL.join p ⟨by rw [l];omega, ln.symm, by omega, ?_, trivial⟩
    refine xh.mpr fun i j hi hj hij => ?_
    rw [uR] at hi hj
    rw [List.getElem_take, List.getElem_take]
    have := hs (lo+i) (lo+j) (by omega) (by omega) (by omega)
    rw [at_ i _ (uB (by omega)), at_ j _ (uB (by omega))] at this
    exact this
theorem qt {l : List (Nat × Nat × Nat)}{i : Nat}(h : i+1 < l.length) : ∃ p x y q, l=p++x::y::q ∧ p.length=i := by
  refine ⟨l.take i, l[i], l[i+1], l.drop (i+2), ?_, by rw [uR];omega⟩
  conv => lhs;rw [← vb i l]
  rw [wc (by omega), wc h]
section
variable {prog : Program} {w : World} {A : Around} {E : Value → Shared → Prop} {s : Shared}
theorem eg {a0 : Array Keyed}{st : SortSt}{lo i : Nat}{Q : Bool → SortSt → Prop}(hO : Lt1 κ prog w A s kd)(h0 : KeysOf κ a0)(I : Iv kd κ a0 st lo)(hi : i+1 < (pendingOf st).size)
    (h : ∀ st', Iv kd κ a0 st' lo → (pendingOf st').size+1=(pendingOf st).size → (∀ k, lo≤k → (arrOf st')[k]? = (arrOf st)[k]?) → Q true st') : wpS (model prog w) A E s (mergeAt' i) Q st := by
  obtain ⟨rs, T, e, l, p⟩ := I.ex
  obtain ⟨p1, x, y, p2, ep, lp⟩ := qt (l := (pendingOf st).toList) (i := i) (by rw [uI];exact hi)
  rw [ep] at p
  obtain ⟨r1, r2, er, _, P1, P2⟩ := p.app
  match r2, P2, er with
  | A1::B1::r2, P2, er =>
    obtain ⟨x1, x2, x3, x4, y1, y2, y3, y4, P3⟩ := P2
    obtain ⟨xa, xb, xc⟩ := x
    obtain ⟨ya, yb, yc⟩ := y
    dsimp only at x1 x2 y1 y2
    subst er
    have ea : (arrOf st).toList=r1.flatten++(A1++(B1++(r2.flatten++T))) := by
      rw [e]
      simp only [wJ, v9, uO]
    have e1 : (pendingOf st)[i]? = some (r1.flatten.length, A1.length, xc) := by
      rw [← vo, ep, ve (by omega), lp, zk, x1, x2, xO]
      rfl
    have e2 : (pendingOf st)[i+1]? = some (r1.flatten.length+A1.length, B1.length, yc) := by
      rw [← vo, ep, ve (by omega), lp, wI, y1, y2, xO]
      rfl
    refine oE hO I.tb (I.gd h0) e1 e2 ea rfl rfl rfl x3 y3 x4 y4 fun st' R t1 t2 t3 M => ?_
    have lR : R.length=A1.length+B1.length := by rw [M.1.length_eq, uF]
    have ep' : (pendingOf st').toList=p1++(r1.flatten.length, A1.length+B1.length, xc)::p2 := by
      rw [t2, Array.toList_eraseIdxIfInBounds, ym, ep, List.set_append_right _ _ (by omega), List.eraseIdx_append_of_length_le (by omega), lp, zk, wI]
      rfl
    have eT : (arrOf st').toList=(r1++R::r2).flatten++T := by
      rw [t3]
      simp only [wJ, v9, uO]
    have lT : (r1++R::r2).flatten.length=lo := by
      rw [← l]
      simp only [wJ, v9, uF, lR]
      omega
    refine h st' ⟨t1, ?_, r1++R::r2, T, eT, lT, ?_⟩ ?_ fun k hk => ?_
    · refine Array.Perm.trans (wu.mpr ?_) I.pm
      rw [t3, ea, ← uO A1]
      exact we _ (M.1.append_right _)
    · rw [ep']
      refine PdL.join P1 ⟨by omega, lR.symm, by omega, M.2, ?_⟩
      rw [lR, ← xA]
      exact P3
    · rw [← uI, ← uI, ep', ep]
      simp only [uF, vQ]
      omega
    · rw [← vo, ← vo, eT, e, ve (by omega), ve (by omega), lT, l]
theorem Iv.done {a0 : Array Keyed}{st : SortSt}(I : Iv kd κ a0 st a0.size)(h : (pendingOf st).size≤1) : SortedToK κ (arrOf st) a0.size := by
  obtain ⟨rs, T, e, l, p⟩ := I.ex
  have hz : (arrOf st).toList.length=a0.size := by rw [uI];exact I.pm.size_eq
  have hT : T=[] := wH.mp (by rw [e, uF, l] at hz;omega)
  subst hT
  rw [vF] at e
  rw [← uI] at h
  have sr : Srt κ (arrOf st).toList := by
    rw [e]
    match (pendingOf st).toList, rs, p, h with
    | [], [], _, _ => exact List.Pairwise.nil
    | [_], [r], p, _ => rw [xF];exact p.2.2.2.1
    | _::_::_, _, _, h => simp at h
  intro i j hij hj
  have e1 := uB (l := (arrOf st).toList) (i := i) (by omega)
  have e2 := uB (l := (arrOf st).toList) (i := j) (by omega)
  rw [ke e1, ke e2]
  exact sr.at hij e1 e2
structure SB (kd : SortKind) (a0 : Array Keyed) (st : SortSt) : Prop where
  perm : (arrOf st).Perm a0
  kind : kindOf st=kd
  failed : failedOf st=none
  pend : pendingOf st=#[]
theorem ml {a0 : Array Keyed}{st : SortSt}{Q : Unit → SortSt → Prop}(hO : Lt1 κ prog w A s kd)(h0 : KeysOf κ a0)(hB : SB kd a0 st)
    (h : ∀ st', (arrOf st').Perm a0 → failedOf st'=none → SortedToK κ (arrOf st') a0.size → Q () st') : wpS (model prog w) A E s sortRuns' Q st := by
  rw [sortRuns'_eq]
  refine uM (yg ?_)
  dsimp only
  simp only [hB.perm.size_eq]
  refine uM (wm (vA
    (I := fun x c st' => ∃ lo, c=(none, lo) ∧ x≤lo ∧ lo≤a0.size ∧ Iv kd κ a0 st' lo)
    (Q := fun c st' => c=(none, a0.size) ∧ Iv kd κ a0 st' a0.size) ?step ?fin ⟨0, rfl, uG _, vE _, ⟨hB.kind, hB.failed⟩, hB.perm, [], (arrOf st).toList, rfl, rfl, by rw [hB.pend];exact trivial⟩) ?post)
  case fin =>
    rintro c st' ⟨lo, rfl, h1, h2, I⟩
    have : lo=a0.size := by omega
    subst this
    exact ⟨rfl, I⟩
  case step =>
    rintro x c st' hx1 hx2 ⟨lo, rfl, h1, h2, I⟩
    have hz : (arrOf st').size=a0.size := I.pm.size_eq
    dsimp only
    by_cases hge : lo≥a0.size
    · refine av hge ?_
      have : lo=a0.size := by omega
      subst this
      exact uS ⟨rfl, I⟩
    · refine ay hge ?_
      refine uM (mi hO I.tb (I.gd h0) (by omega) (by omega) fun n st2 n1 n2 R s2 => ?_)
      have I2 := I.part R
      have hz2 : (arrOf st2).size=a0.size := I2.pm.size_eq
      dsimp only
      by_cases hm : n < minRun' a0.size a0.size 0
      · refine av hm ?_
        refine uM (zc (wQ ⟨rfl, ?_⟩))
        refine uM (mj hO I2.tb (I2.gd h0) (by omega) (by omega) s2 fun st3 R3 s3 => ?_)
        simp only [w9, uZ, vN]
        have M1 : 1≤(min (a0.size - lo) (minRun' a0.size a0.size 0)) := by omega
        have M2 : lo+(min (a0.size - lo) (minRun' a0.size a0.size 0))≤a0.size := by omega
        have IX := I2.part R3
        have S3 := s3
        refine uM (yg ?_)
        cases (pendingOf st3).back? with
        | none => exact uM (xq (uS ⟨lo+(min (a0.size - lo) (minRun' a0.size a0.size 0)), rfl, by omega, M2, IX.push M1 (by rw [IX.pm.size_eq];exact M2) S3⟩))
        | some t =>
          obtain ⟨a, b, c⟩ := t
          dsimp only
          refine uM (wm (vA (I := fun _ c st3' => c=(none, ()) ∧ Iv kd κ a0 st3' lo ∧ ∀ k, lo≤k → (arrOf st3')[k]? = (arrOf st3)[k]?)
            (Q := fun c st3' => c=(none, ()) ∧ Iv kd κ a0 st3' lo ∧ ∀ k, lo≤k → (arrOf st3')[k]? = (arrOf st3)[k]?) ?step1 (fun _ _ h => h) ⟨rfl, IX, fun _ _ => rfl⟩) ?post1)
          case step1 =>
            rintro y c st3' _ _ ⟨rfl, Iw, kw⟩
            refine uM (yg ?_)
            by_cases hz : (pendingOf st3').size > 1
            · rw [if_pos hz]
              cases e : (pendingOf st3')[(pendingOf st3').size - 2]? with
              | none => exact uS ⟨rfl, Iw, kw⟩
              | some t =>
                obtain ⟨a', b', c'⟩ := t
                dsimp only
                by_cases hp : c'≤power' a0.size (2*a+b) (2*a+b+b+(min (a0.size - lo) (minRun' a0.size a0.size 0))) a0.size
                · refine av hp ?_
                  exact uS ⟨rfl, Iw, kw⟩
                · refine ay hp ?_
                  refine uM (eg hO h0 Iw (by omega) fun stq Iq _ k2 => ?_)
                  simp only [w9, uZ, vN]
                  exact uS ⟨rfl, Iq, fun k hk => (k2 k hk).trans (kw k hk)⟩
            · rw [if_neg hz]
              exact uS ⟨rfl, Iw, kw⟩
          case post1 =>
            rintro c st3' ⟨rfl, Iw, kw⟩
            dsimp only
            refine uM (xq ?_)
            have J2 := Iw.mod (i := (pendingOf st3').size - 1) (f := fun t => (t.1, t.2.1, power' a0.size (2*a+b) (2*a+b+b+(min (a0.size - lo) (minRun' a0.size a0.size 0))) a0.size)) fun t => ⟨rfl, rfl⟩
            refine uM (xq (uS ⟨lo+(min (a0.size - lo) (minRun' a0.size a0.size 0)), rfl, by omega, M2, J2.push M1 (by rw [J2.pm.size_eq];exact M2) fun i j hi hij hj => ?_⟩))
            show κ.kle (KK κ (arrOf st3') i) (KK κ (arrOf st3') j)
            rw [KK_congr (kw i (by omega)), KK_congr (kw j (by omega))]
            exact S3 i j hi hij hj
      · refine ay hm ?_
        have M1 : 1≤n := by omega
        have M2 : lo+n≤a0.size := by omega
        have IX := I2
        have S3 := s2
        refine uM (yg ?_)
        cases (pendingOf st2).back? with
        | none => exact uM (xq (uS ⟨lo+n, rfl, by omega, M2, IX.push M1 (by rw [IX.pm.size_eq];exact M2) S3⟩))
        | some t =>
          obtain ⟨a, b, c⟩ := t
          dsimp only
          refine uM (wm (vA (I := fun _ c st2' => c=(none, ()) ∧ Iv kd κ a0 st2' lo ∧ ∀ k, lo≤k → (arrOf st2')[k]? = (arrOf st2)[k]?)
            (Q := fun c st2' => c=(none, ()) ∧ Iv kd κ a0 st2' lo ∧ ∀ k, lo≤k → (arrOf st2')[k]? = (arrOf st2)[k]?) ?step2 (fun _ _ h => h) ⟨rfl, IX, fun _ _ => rfl⟩) ?post2)
          case step2 =>
            rintro y c st2' _ _ ⟨rfl, Iw, kw⟩
            refine uM (yg ?_)
            by_cases hz : (pendingOf st2').size > 1
            · rw [if_pos hz]
              cases e : (pendingOf st2')[(pendingOf st2').size - 2]? with
              | none => exact uS ⟨rfl, Iw, kw⟩
              | some t =>
                obtain ⟨a', b', c'⟩ := t
                dsimp only
                by_cases hp : c'≤power' a0.size (2*a+b) (2*a+b+b+n) a0.size
                · refine av hp ?_
                  exact uS ⟨rfl, Iw, kw⟩
                · refine ay hp ?_
                  refine uM (eg hO h0 Iw (by omega) fun stq Iq _ k2 => ?_)
                  simp only [w9, uZ, vN]
                  exact uS ⟨rfl, Iq, fun k hk => (k2 k hk).trans (kw k hk)⟩
            · rw [if_neg hz]
              exact uS ⟨rfl, Iw, kw⟩
          case post2 =>
            rintro c st2' ⟨rfl, Iw, kw⟩
            dsimp only
            refine uM (xq ?_)
            have J2 := Iw.mod (i := (pendingOf st2').size - 1) (f := fun t => (t.1, t.2.1, power' a0.size (2*a+b) (2*a+b+b+n) a0.size)) fun t => ⟨rfl, rfl⟩
            refine uM (xq (uS ⟨lo+n, rfl, by omega, M2, J2.push M1 (by rw [J2.pm.size_eq];exact M2) fun i j hi hij hj => ?_⟩))
            show κ.kle (KK κ (arrOf st2') i) (KK κ (arrOf st2') j)
            rw [KK_congr (kw i (by omega)), KK_congr (kw j (by omega))]
            exact S3 i j hi hij hj
  case post =>
    rintro c st' ⟨rfl, I⟩
    dsimp only
    refine uM (wm (vA (I := fun x c st'' => c=(none, ()) ∧ Iv kd κ a0 st'' a0.size ∧ ((pendingOf st'').size+x≤a0.size ∨ (pendingOf st'').size≤1))
      (Q := fun c st'' => c=(none, ()) ∧ Iv kd κ a0 st'' a0.size ∧ (pendingOf st'').size≤1) ?_ ?_ ⟨rfl, I, ?_⟩) ?_)
    · rintro x c st'' _ hx ⟨rfl, I', hp⟩
      refine uM (yg ?_)
      by_cases h1 : (pendingOf st'').size≤1
      · refine av h1 ?_
        exact uS ⟨rfl, I', h1⟩
      · refine ay h1 ?_
        refine uM (eg hO h0 I' (have pick : ∀ (b : Bool) (n : Nat), 1 < n → (if b=true then n - 2 - 1 else n - 2)+1 < n := (fun b n hn => by cases b <;> simp <;> omega);pick _ _ (by omega)) fun st2 I2 z2 _ => ?_)
        simp only [w9, uZ, vN]
        exact uS ⟨rfl, I2, .inl (by omega)⟩
    · rintro c st'' ⟨rfl, I', hp⟩
      exact ⟨rfl, I', by omega⟩
    · obtain ⟨rs, T, e, l, p⟩ := I.ex
      have := p.len
      rw [uI, l] at this
      exact .inl (by omega)
    · rintro c st'' ⟨rfl, I', hp⟩
      exact uS (h st'' I'.pm I'.tb.failed (I'.done hp))
end
end Tv
namespace Tv
open PySem PyProof.Rows
variable {κ : KeyKind} {kd : SortKind}
section
variable {prog : Program} {w : World} {A : Around} {E : Value → Shared → Prop} {s : Shared}
theorem mn {a : Addr}{its : List Value}{m : Nat}{P : Fin → Shared → Prop}(at_ : s.heap.get? a=some (seqObj "list" its.toArray m))(g : KeysOf κ (pairsOf its))
    (hO : Lt1 κ prog w A { s with heap := ((s.heap.update a (Obj.mapSeq fun _ => #[])).push (seqObj "tuple" its.toArray 0)).push (seqObj "list" #[] 0) } kd) (one : ∀ x y r, its=x::y::r → ∀ (Q : SortKind → Shared → Prop), Q kd { s with heap := ((s.heap.update a (Obj.mapSeq fun _ => #[])).push (seqObj "tuple" its.toArray 0)).push (seqObj "list" #[] 0) } → wpAny (model prog w) A (keyKind' (x::y::r).toArray) Q E { s with heap := ((s.heap.update a (Obj.mapSeq fun _ => #[])).push (seqObj "tuple" its.toArray 0)).push (seqObj "list" #[] 0) }) (lim : its.length≤sizeLine)
    (q : ∀ st : SortSt, (arrOf st).Perm (pairsOf its) → SortedToK κ (arrOf st) (pairsOf its).size → P (.done (.ret .none)) { s with heap := sortedHeap s.heap a its ((arrOf st).map (·.2)) }) :
    wpAny (model prog w) A (Builtin.«list.sort» ⟨[.ref a], []⟩) P E s := by
  have la := uQ at_
  have lz : its.toArray.size=its.length := by simp
  rw [list_sort_plain]
  refine fu (xP at_ rfl (fu (yM at_ rfl ?_ (by rw [lz];exact lim))))
  obtain ⟨n1, at1⟩ : ∃ n1, (s.heap.update a (Obj.mapSeq fun _ => #[])).get? a=some (seqObj "list" #[] n1) := ⟨_, get?_update_seq at_ fun _ => #[]⟩
  refine fu (seqEpoch_at at1 rfl (fu (wpAny_newTuple (fu (xw (wy ?_))))))
  have at2 : (((s.heap.update a (Obj.mapSeq fun _ => #[])).push (seqObj "tuple" its.toArray 0)).push (seqObj "list" #[] 0)).get? a=some (seqObj "list" #[] n1) :=
    uC _ (uC _ at1)
  show wpAny (model prog w) A _ P E { s with heap := ((s.heap.update a (Obj.mapSeq fun _ => #[])).push (seqObj "tuple" its.toArray 0)).push (seqObj "list" #[] 0) }
  dsimp only
  by_cases two : its.toArray.size < 2
  · rw [if_pos two, if_pos two]
    refine fu (uH ?_)
    rw [StateT.run_pure]
    refine fu (uH ?_)
    dsimp only
    have zz : ((its.toArray.zip its.toArray).map (·.2)).size≤sizeLine+1 := by
      rw [Array.size_map]
      show (pairsOf its).size≤_
      rw [pairsOf_size]
      omega
    refine fu (seqEpoch_at at2 rfl (fu (yM at2 rfl ?_ (hsz2 := zz))))
    simp only [bne_self_eq_false, uZ, vN]
    refine uH (q (SortSt.mk' general' (its.toArray.zip its.toArray) #[] 7 none) (y_ _) fun i j hij hj => ?_)
    rw [pairsOf_size] at hj
    have : i=j := by omega
    subst this
    exact vM _
  · rw [if_neg two, if_neg two]
    obtain ⟨x, y, r, rfl⟩ : ∃ x y r, its=x::y::r := by
      match its, lz, two with
      | [], _, t => exact absurd (by simp) t
      | [_], _, t => exact absurd (by simp) t
      | x::y::r, _, _ => exact ⟨x, y, r, rfl⟩
    refine fu (one _ _ _ rfl _ (fu (wN (ml (κ := κ) hO (a0 := pairsOf (x::y::r)) (st := SortSt.mk' kd ((x::y::r).toArray.zip (x::y::r).toArray) #[] 7 none)
      (Q := fun _ st => (arrOf st).Perm (pairsOf (x::y::r)) ∧ failedOf st=none ∧ SortedToK κ (arrOf st) (pairsOf (x::y::r)).size) g ⟨y_ _, rfl, rfl, rfl⟩ fun st c1 c2 c3 => ⟨c1, c2, c3⟩) ?_ fun _ _ e => e)))
    rintro ⟨⟨⟩, st⟩ s2 ⟨rfl, c1, c2, c3⟩
    dsimp only
    have zz : ((arrOf st).map (·.2)).size≤sizeLine+1 := by
      rw [Array.size_map, c1.size_eq, pairsOf_size]
      omega
    refine fu (seqEpoch_at at2 rfl (fu (yM at2 rfl ?_ (hsz2 := zz))))
    rw [c2]
    simp only [bne_self_eq_false, uZ, vN]
    exact uH (q st c1 c3)
end
end Tv
namespace L2
open PySem PySem.Spec PyProof.Rows Wd
section
variable {X : Cx} {tg : Expr}
end
section
variable {X : Cx} {o e : Expr} {es : List Expr} {to : TE} {t : TA} {name : Str} {apos cpos : Pos} {T id : String} {r : V → List V → Hp → VK → Prop} {K : PySem.W.Frag}
theorem gO (hK : X.K=K)(pa : PlainAttrs T)(slot : Slot T name id)(hty : typeOf (.builtin id)=pure (.type "method_descriptor"))(hm : MtR X id r)(ho : PE X o to)
    (hbase : attributeBase o name X.env (eval o X.env)=eval o X.env := by rfl) (hline : (apos.endLine == cpos.line)=true := by rfl) : PE X (.Call (.Attribute o name apos) [] [] cpos) (tH K T r to) := by
  subst hK
  exact iA pa slot hty hm ho hbase hline
end
end L2
namespace L2
open PySem PySem.Spec PyProof.Rows Wd
theorem iP : ∀ {bs : List Bool} {us : List Value} {i : Nat} {v : Value}, bc (bs.map V.bl) us → us[i]? = some v → ∃ b, bs[i]? = some b ∧ v = .bool b
  | [], us, i, v, r, h => by
    rw [zi] at r
    cases r
    simp at h
  | b::bs, us, i, v, r, h => by
    rw [vV] at r
    cases r with
    | cons r1 r2 =>
      cases i with
      | zero =>
        simp at h
        subst h
        exact ⟨b, rfl, r1⟩
      | succ i =>
        obtain ⟨b', e1, e2⟩ := iP (i := i) r2 (by simpa using h)
        exact ⟨b', by simpa using e1, e2⟩
theorem iQ : ∀ bs : List Bool, ((List.range bs.length).all fun i => bs.getD i true)=bs.all id
  | [] => rfl
  | b::bs => by
    rw [vQ, yY, yN, xQ, yN]
    have ih := iQ bs
    show (b && (List.range bs.length).all fun i => (b::bs).getD (i+1) true)=_
    have e : (fun i => (b::bs).getD (i+1) true)=fun i => bs.getD i true := by funext i;simp
    rw [e, ih]
    rfl
section
variable {X : Cx}
inductive tL (K : PySem.W.Frag)(xs : List V)(H : Hp)(Q : VK) : Prop
  | mk : ∀ (l : Addr) (bs : List Bool), (xs=[.ref l]) → (SqL K H l (bs.map V.bl)) → (Q (.bl (bs.all id)) H) → tL K xs H Q
theorem bU (hc : X.calm=true) : cP X (.builtin "all") (tL X.K) := by
  intro pins s σ H xs us Q I r h
  obtain ⟨l, bs, rfl, hq, q⟩ := h
  obtain ⟨u, rfl, ru⟩ := cQ r
  cases ru
  obtain ⟨its, rv, pl, _⟩ := I.list hq
  have hl := pl.isList
  have hlen : its.length=bs.length := by rw [← rv.length, uD]
  have hlt : l < s.heap.objs.size := by obtain ⟨_, e, _⟩ := hl;exact uQ e
  refine call_all_walk (yy hl ?_)
  refine ⟨_, _, _, _, _, _, fun i => bs.getD i true, rfl, Walks.list (A := X.A.in1) (I.ok.hd hc) _ l (vm hlt) its.toArray, ⟨⟨_, uN _ rfl, rfl, rfl⟩, hl.push _⟩, ?_, fun h' tk hk => ?_⟩
  · intro i v s' Q' E' hP hQ'
    have hP : its[i]? = some v := by simpa using hP
    obtain ⟨b, hb, e⟩ := iP rv hP
    subst e
    have : bs.getD i true=b := by rw [u9, hb];rfl
    have hQ' : Q' (bs.getD i true) s' := hQ'
    rw [this] at hQ'
    exact wq hQ'
  · have old : ∀ b o, s.heap.get? b=some o → h'.get? b=some o := fun b o e => hk b o (fun z => by rw [uE.mp z] at e;exact absurd (uQ e) (vD _)) (uC _ e)
    refine ⟨.bl _, H, I.kept old, rfl, ?_⟩
    have e : ((List.range its.toArray.size).all fun i => bs.getD i true)=bs.all id := by
      rw [uK, hlen]
      exact iQ bs
    rw [e]
    exact q
inductive cg (K : PySem.W.Frag)(xs : List V)(H : Hp)(Q : VK) : Prop
  | mk : ∀ x t b n, (xs=[x, .ty n]) → (eI K H x t) → (PySem.W.kitOne K t (.type n)=some b) → (Q (.bl b) H) → cg K xs H Q
theorem gP : cP X (.builtin "isinstance") (cg X.K) := by
  intro pins s σ H xs us Q I r h
  obtain ⟨x, t, b, n, rfl, ty, e, q⟩ := h
  obtain ⟨u, u2, rfl, rx, r2⟩ := lI r
  cases r2
  exact jz I rx ty e fun tk => ⟨.bl b, H, I.tok _, rfl, q⟩
inductive nF (x : V)(vs : List V)(H : Hp)(Q : VK) : Prop
  | mk : ∀ z y i rest, (x = .str z) → (vs=[.str y]) → (Builtin.Str.occurrences z y 0 z.length 1=i::rest) → (Q (.int (i : Nat)) H) → nF x vs H Q
theorem mq : MtR X "str.index" nF := by
  intro pins s σ H x vs v us Q I rx rv h
  obtain ⟨z, y, i, rest, rfl, rfl, ho, q⟩ := h
  obtain ⟨t, rfl⟩ := rx
  obtain ⟨u1, rfl, ⟨t1, rfl⟩⟩ := cQ rv
  exact SC.index ho ⟨.int _, H, I.tok _, ⟨_, rfl⟩, q⟩
def ur (z : Str) : List V := z.cps.toList.map fun c => .str ⟨#[c]⟩
inductive cn  (xs : List V)(H : Hp)(Q : VK) : Prop
  | mk : ∀ b, (xs=[.bl b]) → (Q (.str (if b=true then Str.ofString "True" else Str.ofString "False")) H) → cn xs H Q
theorem cN : cP X (.builtin "repr") cn := by
  intro pins s σ H xs us Q I r h
  obtain ⟨b, rfl, q⟩ := h
  obtain ⟨u, rfl, ru⟩ := cQ r
  cases ru
  exact P.repr_of_bool ⟨.str _, H, I.tok _, ⟨_, rfl⟩, q⟩
end
end L2
namespace PySem
open Sem (wp)
structure Ap5 (z TI TO i1 i2 : Addr) : Prop where
  TIz : TI≠z
  TOz : TO≠z
  i1z : i1≠z
  i2z : i2≠z
  TITO : TI≠TO
  TIi1 : TI≠i1
  TIi2 : TI≠i2
  TOi1 : TO≠i1
  TOi2 : TO≠i2
  i12 : i1≠i2
abbrev sI (h : Heap)(i : Addr)(x : Str)(t : Tok)(k : Nat) : Prop := h.IsStrIter i "str_ascii_iterator" x t k
section
variable {prog : Program} {w : World} {A : Around} {E : Value → Shared → Prop} {s : Shared} {z TI TO i1 i2 : Addr} {x y : Str} {t u : Tok} {k c d : Nat} {a b : Value}
end
end PySem
namespace PySem
end PySem
namespace L2
open PySem PySem.Spec PyProof.Rows
theorem Inv.stepT {X : Cx}{pins : List (Addr × Obj)}{σ : St}{H : Hp}{s : Shared}{h' : Heap}{t' : Nat}{ch : List Addr}{T : Addr}{xs : List V}{its : List Value}(I : Inv X pins σ H s)(hf : ∀ b∈ch, gJ X pins H b)
    (k : ∀ b o, b∉ch → s.heap.get? b=some o → h'.get? b=some o) (hT : s.heap.objs.size≤T) (hz : xs.length≤sizeLine) (rv : bc xs its) (ht : IsTup h' T its.toArray) (hnd : NoD h' T) (there : ∀ b∈ch, ∃ o, s.heap.get? b=some o) : Inv X pins σ (upd H T (.tup xs)) { s with heap := h', toks := t' } := by
  have hn : H T=none := I.hok.fresh hT
  have ne : ∀ {b o}, s.heap.get? b=some o → b≠T := fun e => vm (uX (uQ e) hT)
  have nch : ∀ {b u}, H b=some u → b∉ch := fun e z => by rw [(hf _ z).1] at e;cases e
  refine I.step (g' := s.gens) (d' := s.drawn) (ch := ch) (fun b hb => ?_) (fun b o _ _ hc e _ => k b o hc e) (fun b o _ _ hc e _ => ⟨o.slots, k b o hc e⟩) (fun b o _ e n => by rw [aC (ne e)];exact n) (fun b o hc e => ⟨o, k b o hc e⟩)
    (fun b ys e => by rw [aC (ao e hn)];exact e) (fun b o u e => by rw [aC (ao e hn)];exact e) (fun b ps e => ⟨#[], by rw [aC (ao e hn), e];simp⟩) (fun m hm => ?_) (fun b u e => ?_) I.bare
  · obtain ⟨_, f1, _, f3, f4, f5⟩ := hf b hb
    exact ⟨f3, f1, f4, f5⟩
  · obtain ⟨o, es, ep, ho, r⟩ := hm
    exact ⟨o, es, ep, k _ o (fun z => (hf _ z).2.1 rfl) ho, r⟩
  · by_cases hb : b=T
    · subst hb
      rw [ab] at e
      cases e
      exact ⟨hz, its, rv, ht, hnd⟩
    · rw [aC hb] at e
      refine (I.hok b u e).stay (fun c v hc q => k c v ?_ q) (fun c q => by rw [aC (ao q hn)];exact q) fun c ys q => by rw [aC (ao q hn)];exact q
      rcases hc with z | z
      · rw [z];exact nch e
      · exact nch z
section
variable {X : Cx}
theorem qu (n : Nat) : Ap5 (n+4) (n+2) (n+3) n (n+1) := by
  constructor <;> (intro h;have h : (_ : Nat)=_ := h;omega)
theorem oF {K : PySem.W.Frag}{es : List Expr}{k : Nat}{t : TGs}{n : Nat}{pos : Pos}(hK : X.K=K)(hc : X.calm=true)(h : PGs X es t)
    (hn : (assignEach es X.env).length=n := by rfl) (hst : (assignEach es X.env).findIdx? (·.1)=none := by rfl) : PG X (.Tuple es k pos) (tq K n t) := by
  subst hK
  exact ip hc h hn hst
end
end L2
namespace L2
open PySem PySem.Spec PyProof.Rows Wd
def kf : Expr → Bool
  | .Starred _ _ => false
  | _ => true
theorem oG {e : Expr}(h : kf e=true)(es : List Expr)(env : Env) : starEach (e::es) env=(false, eval e env)::starEach es env := by
  cases e <;> first | rfl | cases h
theorem eJ {X : Cx}{e : Expr}{es : List Expr}{te : TE}{t : TA}(ha : PE X e te)(hr : PA X es t)(h : kf e=true := by rfl) : PA X (e::es) (pV te t) := aa ha hr (oG h _ _)
theorem bx {X : Cx}{K : PySem.W.Frag}(hK : X.K=K) : cP X (.builtin "isinstance") (cg K) := by
  subst hK
  exact gP
theorem eI.same {K : PySem.W.Frag}{H H' : Hp}{x : V}{t : Value}(s : au H H')(h : eI K H x t)(hc : ∀ C, t ≠ .ref C) : eI K H' x t := by
  cases h with
  | non => exact .non
  | bl x => exact .bl x
  | int x => exact .int x
  | str x => exact .str x
  | flt x => exact .flt x
  | lst e => exact .lst (s _ _ e)
  | frz e => exact .frz (s _ _ e)
  | tup e => exact .tup (s _ _ e)
  | dK e => exact .dK (s _ _ e)
  | dT e => exact .dT (s _ _ e)
  | _ => exact absurd rfl (hc _)
def oH : List Str := ([0, 1, 2, 3, 4, 5, 6, 7, 8, 9, 10, 11] : List L).map fun x => toS [x]
end L2
namespace Kx
open PySem PySem.Spec PyProof.Rows L2 Wd
theorem asc (u : List L) : (toS u).cps.all (· < 128)=true := by
  rw [← Array.all_toList, cf, vP]
  intro c hc
  obtain ⟨x, _, rfl⟩ := v7.mp hc
  exact va (oh x)
end Kx
namespace L2
open PySem PySem.Spec PyProof.Rows Wd
section
variable {X : Cx}
inductive nG (x : V)(y : V)(H : Hp)(Q : VK) : Prop
  | mk : ∀ a b xs, (x = .ref a) → (y = .ref b) → (H a=some (.lst xs)) → (H b=some (.lst [])) → (Q (.bl (!xs.isEmpty)) H) → nG x y H Q
theorem kg (hu : X.A.units+64 < cLine) : OpR X (compareOp .NotEq) nG := by
  intro pins s σ H x y v u Q I rx ry h
  obtain ⟨a, b, xs, rfl, rfl, ha, hb, q⟩ := h
  cases rx
  cases ry
  obtain ⟨its, n, rv, ea, _⟩ := I.lst ha
  obtain ⟨its2, n2, rv2, eb, _⟩ := I.lst hb
  cases rv2
  have hla : s.heap.IsList a its.toArray := ⟨_, ea, rfl, _, rfl⟩
  have hlb : s.heap.IsList b ([] : List Value).toArray := ⟨_, eb, rfl, _, rfl⟩
  cases xs with
  | nil =>
    cases rv
    refine EqBoolInt.of_rcne (SeqAt.RcNeAt.lists (e := fun _ => true) hla hlb rfl (by omega) (fun j hj => by simp at hj)) ?_
    exact ⟨.bl false, H, I, rfl, q⟩
  | cons z r =>
    cases rv with
    | cons r1 r2 =>
      refine EqBoolInt.of_rcne (SeqAt.RcNeAt.lists_lengths hla hlb (by simp) (by omega)) ?_
      exact ⟨.bl true, H, I, rfl, q⟩
end
theorem bE {K : PySem.W.Frag} : PySem.W.kitOne K (.type "tuple") (.type "tuple")=some true := by unfold PySem.W.kitOne; rw [if_pos (by rfl)]
theorem mw {K : PySem.W.Frag} : PySem.W.kitOne K (.type "NoneType") (.type "tuple")=some false := by kernel_rfl
theorem kh {K : PySem.W.Frag} : PySem.W.kitOne K (.type "bool") (.type "tuple")=some false := by kernel_rfl
theorem mx {K : PySem.W.Frag} : PySem.W.kitOne K (.type "int") (.type "tuple")=some false := by kernel_rfl
theorem cE {K : PySem.W.Frag} : PySem.W.kitOne K (.type "list") (.type "tuple")=some false := by kernel_rfl
theorem my {K : PySem.W.Frag} : PySem.W.kitOne K (.type "str") (.type "tuple")=some false := by kernel_rfl
theorem mz {xs : List V}{lo hi : Option Int}{y : V}(h : y∈dF xs lo hi) : y∈xs := vI (vt h)
end L2
namespace Kx
open PySem PySem.Spec PyProof.Rows L2 Wd
theorem s12 : toS [0, 1, 2, 3, 4, 5, 6, 7, 8, 9, 10, 11]=("abcdefABCDEF" : Str) := by decide +kernel
end Kx
namespace L2
open PySem PySem.Spec PyProof.Rows Wd
theorem df {K : PySem.W.Frag}{a : Addr}{xs : List V}{own : List Str}{cap : List Nat}{g : TG}{ti : TT}{te : TE}{σ : St}{H : Hp}{Q : VK}(Pv : Nat → List V → St → Hp → Prop)(h0 : Pv 0 [] (stB own cap σ) H)(hz : ∀ i ys σ H, i≤xs.length → Pv i ys σ H → ys.length≤i)(hn : xs.length≤sizeLine)
    (hl : ∀ i ys σ H, Pv i ys σ H → SqT K H a xs)
    (hs : ∀ i ys σ H x (N : List V → St → Hp → Prop), xs[i]? = some x → Pv i ys σ H → (∀ ys' σ' H'', Pv (i+1) ys' σ' H'' → N ys' σ' H'') → g x σ H fun σ2 H2 => ti σ2 H2 fun b H3 => if b=true then te σ2 H3 fun y H4 => N (ys++[y]) σ2 H4 else N ys σ2 H3)
    (hd : ∀ ys σ H D, Pv xs.length ys σ H → H D=none → Q (.ref D) (upd H D (.lst ys))) :
    lS own cap g ti te Q σ (Itt K a) H := by
  refine cA (J := Itt K a) xs.length Pv h0 hz hn (fun i ys σ H hi p => ⟨xs, xs[i], hl i ys σ H p, uB hi⟩) (fun ys σ H p => ⟨xs, hl _ ys σ H p, uG _⟩) ?_ hd
  rintro i ys σ H x H' N hi p ⟨rfl, hx⟩ hN
  exact hs i ys σ _ x N (hx xs (hl i ys σ _ p)) p hN
theorem fZ {K : PySem.W.Frag}{a : Addr}{xs : List V}{own : List Str}{cap : List Nat}{g : TG}{ti : TT}{te : TE}{σ : St}{H : Hp}{Q : VK}(Pv : Nat → List V → St → Hp → Prop)(h0 : Pv 0 [] (stB own cap σ) H)(hz : ∀ i ys σ H, i≤xs.length → Pv i ys σ H → ys.length≤i)(hn : xs.length≤sizeLine)
    (hl : ∀ i ys σ H, Pv i ys σ H → SqL K H a xs)
    (hs : ∀ i ys σ H x (N : List V → St → Hp → Prop), xs[i]? = some x → Pv i ys σ H → (∀ ys' σ' H'', Pv (i+1) ys' σ' H'' → N ys' σ' H'') → g x σ H fun σ2 H2 => ti σ2 H2 fun b H3 => if b=true then te σ2 H3 fun y H4 => N (ys++[y]) σ2 H4 else N ys σ2 H3)
    (hd : ∀ ys σ H D, Pv xs.length ys σ H → H D=none → Q (.ref D) (upd H D (.lst ys))) :
    lS own cap g ti te Q σ (Itl K a) H := by
  refine cA (J := Itl K a) xs.length Pv h0 hz hn (fun i ys σ H hi p => ⟨xs, xs[i], hl i ys σ H p, uB hi⟩) (fun ys σ H p => ⟨xs, hl _ ys σ H p, uG _⟩) ?_ hd
  rintro i ys σ H x H' N hi p ⟨rfl, hx⟩ hN
  exact hs i ys σ _ x N (hx xs (hl i ys σ _ p)) p hN
theorem fv {α β : Type}{xs : List α}{i : Nat}{x : α}(f : α → β)(h : xs[i]? = some x) : (xs.take (i+1)).map f=(xs.take i).map f++[f x] := by
  rw [v_, h, uY]
  rfl
theorem qv {X : Cx}{a : Expr}{ta : TE}(ha : PE X a ta)(he : ∀ whole, isTrue a X.env whole=(do let v ← whole; standAt a.pos; holding [v] (truthy v))) : PT X a (pT ta) := by
  intro pins s σ H Q I h
  refine isTrue_plain (thn (ha pins s σ H _ I h) fun v s1 ⟨x, H1, I1, r1, q1⟩ => jx pins s1 σ H1 x v Q I1 r1 ?_) (he _)
  obtain ⟨k, e, q⟩ := q1
  subst e
  exact ⟨k, rfl, q⟩
theorem none_of {H H1 : Hp}{a : Addr}(s : au H H1)(h : H1 a=none) : H a=none := by
  cases e : H a with
  | none => rfl
  | some o => rw [s _ _ e] at h;cases h
end L2
namespace L2
open PySem PySem.Spec PyProof.Rows
theorem oI {X : Cx}{i : Nat}{y : Str}{py spos : Pos}{elt iter tg : Expr}{ifs : List Expr}{scope : Scope}{pos : Pos}{NB own : List Str}{cap : List Nat}{wi : TI}{g : TG}{ti : TT}{te : TE}(hN : X.N.Nodup)(hi0 : X.N[i]? = some y)(hx : Loc X.env.scope y)(B : Blk X scope NB own cap)(hc : X.calm=true)(hi : PI X tg iter wi)
    (hg : ∀ C fp s₀ H₀, PG (cxB X NB own scope C fp s₀ H₀) tg g) (ht : ∀ C fp s₀ H₀, PIf (cxB X NB own scope C fp s₀ H₀) ifs ti) (he : ∀ C fp s₀ H₀, PE (cxB X NB own scope C fp s₀ H₀) elt te)
    (hs : ∀ x, foldedSetIterable iter X.env x=pure x := by intro _;rfl) (hsw : swapsWith (.ListComp elt [⟨tg, iter, ifs, 0⟩] scope pos) (some (.Name y py)) spos.line X.env=pure true := by rfl) (hf : X.fn y=true ∨ X.env.scope.names.lookup y=some .local := by first | exact .inl rfl | exact .inr rfl | assumption) : PS X (.Assign [.Name y py] (.ListComp elt [⟨tg, iter, ifs, 0⟩] scope pos) spos) (rX (qf own cap wi g ti te) (nN i)) := by
  intro pins s σ H DD I0 h
  rw [exec_Assign_Name_used _ _ _ _ hsw]
  refine fu (wpAny_standAt (fu ?_))
  show wpAny _ X.A (do let _ ← comprehension (.ListComp elt [⟨tg, iter, ifs, 0⟩] scope pos) scope X.env _ (newList []) false (eval iter X.env) (some (assign (.Name y py) X.env))) _ _ s
  have hclos := cW (env := X.env) (scope := scope) fun y hy e => I0.ok.has y.1 (.inl (B.free y hy e))
  refine fu (wN (yC (use := some (assign (.Name y py) X.env)) (Q := fun _ s' => SP X pins DD .next s') rfl hs hclos B.kind B.names (thn (hi pins s σ H _ I0 h) fun v s1 h1 => thn h1 fun itv s2 h2 => ?_)) (fun _ s' hq => uH (uH hq)) fun _ _ e => e)
  obtain ⟨it, fp, tn, J, H2, rfl, I, T, st2, f2, W, ⟨m0, w0⟩, turn⟩ := h2
  refine xw ?_
  refine wpAny_newFunctionEnv B.nocell (by intro y hy;simp at hy) (fun h₁ hns₁ hsb₁ => ?_) B.kind
  dsimp only at hns₁ hsb₁ ⊢
  generalize hP : s2.heap.push { cls := .type "list", dict := none, data := .seq ([] : List Value).toArray }=P at hns₁ hsb₁ ⊢
  have hC : P.objs.size=s2.heap.objs.size+1 := by rw [← hP, wO]
  have hDC : s2.heap.objs.size≠P.objs.size := by rw [hC];exact vm (Nat.lt_succ_self _)
  have hCle : s2.heap.objs.size≤P.objs.size := by rw [hC];exact zg _
  have old : ∀ b o, s2.heap.get? b=some o → h₁.get? b=some o := fun b o e => by
    refine (hsb₁.2 b ?_).trans (uC _ (hP ▸ uC _ e))
    exact vm (uX (uQ e) hCle)
  have hD : h₁.get? s2.heap.objs.size=some { cls := .type "list", data := .seq ([] : List Value).toArray 0 } := by
    refine (hsb₁.2 _ hDC).trans (uC _ ?_)
    rw [← hP]
    exact uN _ rfl
  have hfs : ∀ b∈fp, ∃ o, s2.heap.get? b=some o := fun b hb => let ⟨o, e, _⟩ := T.obj _ _ st2 b hb;⟨o, e⟩
  have st4 : tn 0 h₁ := T.keep _ _ _ st2 fun b _ o e => old b o e
  generalize htk : s2.toks+([] : List (Str × Value)).length=tk4
  have I4 := B.start (C := P.objs.size) (tk := tk4) I f2 hfs hCle old hns₁
  have fOk : ∀ {H' : Hp} {b : Addr} {ob : Obj}, b∈fp → H' b=none → gJ (cxB X NB own scope P.objs.size fp s2 H2) [(s2.heap.objs.size, ob)] H' b := fun {H' b ob} hb hn => by
    obtain ⟨o, e⟩ := hfs b hb
    refine ⟨hn, (I4.ok.exf b hb).1, I4.ok.exfs b hb, .inl hb, (I4.ok.exf b hb).2, fun p hp => ?_⟩
    have ep : p=(s2.heap.objs.size, ob) := uE.mp (show p∈[(s2.heap.objs.size, ob)] from hp)
    rw [ep]
    exact fun z => absurd (uQ e) (by rw [← z];exact vD _)
  have dnf : s2.heap.objs.size∉frs X.stack := fun z => by
    rcases u4.mp (I.stkSub _ z) with z | z
    · exact absurd I.lt (by rw [← z];exact vD _)
    · exact I.nofs (uG _) z
  have I3D : ∀ {σ3 : St} {H3 : Hp} {s3 : Shared} {its : List Value} {k : Nat}, Inv (cxB X NB own scope P.objs.size fp s2 H2) [] σ3 H3 s3 → s3.heap.get? s2.heap.objs.size=some { cls := .type "list", data := .seq its.toArray k } → H3 s2.heap.objs.size=none →
      Inv (cxB X NB own scope P.objs.size fp s2 H2) [(s2.heap.objs.size, { cls := .type "list", data := .seq its.toArray k })] σ3 H3 s3 := fun I3 e n => I3.pins_of fun p hp => by
    have ep := uE.mp hp
    subst ep
    exact ⟨e, n, hDC, dnf, fun v z => by cases z⟩
  have ndf : s2.heap.objs.size∉fp := fun z => by
    obtain ⟨o, e⟩ := hfs _ z
    exact absurd (uQ e) (vD _)
  have nCD : ∀ x c, (cxB X NB own scope P.objs.size fp s2 H2).env.cells.lookup x=some c → c≠s2.heap.objs.size := fun x c e z => by
    obtain ⟨v, o, ho, _⟩ := I.cell x c (B.cells I.ok e).1
    rw [z] at ho
    exact absurd (uQ ho) (vD _)
  have loop : ∀ s₃ : Shared, s₃ = { s2 with heap := h₁, toks := tk4 } → codeAny (model X.prog X.w) X.A (.compLoop (.ListComp elt [⟨tg, iter, ifs, 0⟩] scope pos) 0 (.ref it) (.ref s2.heap.objs.size) (cxB X NB own scope P.objs.size fp s2 H2).env)
      (compPost (model X.prog X.w) X.A X.xe (some (assign (.Name y py) X.env)) (fun _ s' => SP X pins DD .next s') (.ref s2.heap.objs.size) P.objs.size) s₃ := by
    rintro s₃ rfl
    refine fU (fun n s' => ∃ i σB H' ys its k, Inv (cxB X NB own scope P.objs.size fp s2 H2) [] σB H' s' ∧ tn i s'.heap ∧ (∀ b∈fp, H' b=none) ∧ s'.heap.get? s2.heap.objs.size=some { cls := .type "list", data := .seq (its : List Value).toArray k } ∧ bc ys its ∧ H' s2.heap.objs.size=none ∧ W i n ys σB H') ?_ m0
      ⟨0, stB own cap σ, H2, [], [], 0, I4, st4, fun b hb => (f2 b hb).1, hD, .nil, I.hok.fresh (uG _), w0⟩
    rintro n s3 ⟨i, σ3, H3, ys, its, k, I3, st3, fr3, hD3, rv, hn3, w3⟩
    rcases turn i n ys σ3 H3 w3 with ⟨stop, hz, q⟩ | ⟨go, hz, step⟩
    · refine thn (T.done (cxB X NB own scope P.objs.size fp s2 H2) rfl rfl rfl hc i _ s3 σ3 H3 noE (I3D I3 hD3 hn3) (fun b hb => fOk hb (fr3 b hb)) st3 stop) fun r s4 zq1 => ?_
      obtain ⟨hr, I4'⟩ := zq1
      subst hr
      have hD4 : s4.heap.get? s2.heap.objs.size=some { cls := .type "list", data := .seq (its : List Value).toArray k } := (I4'.pin (s2.heap.objs.size, _) (uL _ (uE.mpr rfl))).1
      have I5 : Inv (cxB X NB own scope P.objs.size fp s2 H2) [] σ3 H3 s4 := I4'.pins_of fun p hp => absurd (show p∈([] : List (Addr × Obj)) from hp) (by simp)
      obtain ⟨mC, hnC, _⟩ := I5.loc
      have I6 : Inv X pins σ (upd H3 s2.heap.objs.size (.lst ys)) s4 := B.done (h'' := s4.heap) I f2 hCle (uG _) hDC I5 hn3 hD4 rv hz ⟨rfl, fun _ _ => rfl⟩
      obtain ⟨oC, es, ep, hoC, hdC, rC⟩ := hnC
      have hCn : (upd H3 s2.heap.objs.size (.lst ys)) P.objs.size=none := by rw [aC hDC.symm];exact I5.free
      have nL : P.objs.size≠X.env.locals := fun z => absurd I.lt (by rw [← z];exact Nat.not_lt.mpr hCle)
      have I7 : Inv X (pins++[(P.objs.size, oC)]) σ (upd H3 s2.heap.objs.size (.lst ys)) s4 := I6.pins_of fun p hp => by
        rcases uW.mp hp with z | z
        · exact I6.pin p (uL _ z)
        · have ep := uE.mp z
          subst ep
          exact ⟨hoC, hCn, nL, I.nofs hCle, fun v z => by rw [hdC] at z;cases z⟩
      refine thn (aK (pos := py) hN hi0 hx hf (pins++[(P.objs.size, oC)]) s4 σ _ (.ref s2.heap.objs.size) (.ref s2.heap.objs.size) (fun σ' H' => DD.nx σ' H' ∧ H'=upd H3 s2.heap.objs.size (.lst ys)) I7 rfl ⟨q _ hn3, rfl⟩) fun _ s5 zq2 => ?_
      obtain ⟨σ5, H5, I8, q5, e5⟩ := zq2
      subst e5
      have pC := (I8.pin (P.objs.size, oC) (uL _ (uL _ (uE.mpr rfl)))).1
      refine ⟨mC, ⟨oC, es, ep, pC, hdC, rC⟩, fun h'' sb => ⟨σ5, _, ?_, q5⟩⟩
      have I9 : Inv X pins σ5 (upd H3 s2.heap.objs.size (.lst ys)) s5 := I8.pins_of fun p hp => I8.pin p (uL _ (u7 _ hp))
      refine I9.turned (t' := s5.toks) (it := P.objs.size) (fun b o hb e => (sb.2 b hb).trans e) hCn nL (.inr (vi I.sz hCle)) (fun x c e z => ?_) fun p hp z => ?_
      · obtain ⟨v, o, ho, _⟩ := I.cell x c e
        exact absurd (uQ ho) (by rw [z];exact Nat.not_lt.mpr hCle)
      · exact absurd (uQ (I.pin p hp).1) (by rw [z];exact Nat.not_lt.mpr hCle)
    · refine thn (T.item (cxB X NB own scope P.objs.size fp s2 H2) rfl rfl rfl hc i _ s3 σ3 H3 noE (I3D I3 hD3 hn3) (fun b hb => fOk hb (fr3 b hb)) st3 go) fun r s4 zq3 => ?_
      obtain ⟨u, hr, h4⟩ := zq3
      subst hr
      refine thn h4 fun _ s5 zq4 => ?_
      obtain ⟨x, H5, I5, r5, y5, st5, fr5⟩ := zq4
      have I5' := I5.pinned (fun b hb => fOk hb (fr5 b hb)) (T.obj _ _ st5)
      refine thn (hg _ fp s2 H2 _ s5 σ3 H5 x u _ I5' r5 (step x H5 y5)) fun _ s6 zq5 => ?_
      obtain ⟨σ6, H6, I6, q6⟩ := zq5
      refine thn (ht _ fp s2 H2 _ s6 σ6 H6 _ I6 q6) fun b s7 zq6 => ?_
      obtain ⟨H7, I7, q7⟩ := zq6
      have pinned : ∀ {σ8 : St} {H8 : Hp} {s8 : Shared}, Inv (cxB X NB own scope P.objs.size fp s2 H2) ([(s2.heap.objs.size, { cls := .type "list", data := .seq (its : List Value).toArray k })]++eP fp s5.heap) σ8 H8 s8 →
          tn (i+1) s8.heap ∧ (∀ b∈fp, H8 b=none) ∧ s8.heap.get? s2.heap.objs.size=some { cls := .type "list", data := .seq (its : List Value).toArray k } ∧ H8 s2.heap.objs.size=none := fun {σ8 H8 s8} I8 => by
        refine ⟨T.keep _ _ _ st5 fun b hb o e => (I8.pin (b, o) (uL _ (uL _ (bK hb e)))).1, fun b hb => ?_, ?_, ?_⟩
        · obtain ⟨o, e, d⟩ := T.obj _ _ st5 b hb
          exact (I8.pin (b, o) (uL _ (uL _ (bK hb e)))).2.1
        · exact (I8.pin (s2.heap.objs.size, _) (uL _ (u7 _ (uE.mpr rfl)))).1
        · exact (I8.pin (s2.heap.objs.size, _) (uL _ (u7 _ (uE.mpr rfl)))).2.1
      have nopin : ∀ {pp : List (Addr × Obj)} {σ8 : St} {H8 : Hp} {s8 : Shared}, Inv (cxB X NB own scope P.objs.size fp s2 H2) pp σ8 H8 s8 → Inv (cxB X NB own scope P.objs.size fp s2 H2) [] σ8 H8 s8 := fun I8 => I8.pins_of fun p hp => absurd (show p∈([] : List (Addr × Obj)) from hp) (by simp)
      cases b with
      | false =>
        rw [if_neg u5] at q7 ⊢
        obtain ⟨m', hm, w7⟩ := q7
        obtain ⟨p1, p2, p3, p4⟩ := pinned I7
        exact ⟨m', hm, i+1, σ6, H7, ys, its, k, nopin I7, p1, p2, p3, rv, p4, w7⟩
      | true =>
        rw [if_pos rfl] at q7 ⊢
        refine thn (he _ fp s2 H2 _ s7 σ6 H7 _ I7 q7) fun yv s8 zq7 => ?_
        obtain ⟨y, H8, I8, r8, m', hm, w8⟩ := zq7
        obtain ⟨p1, p2, p3, p4⟩ := pinned I8
        refine xp vR ⟨_, p3, rfl⟩ x_ (xU _ _) (yA s2.heap.objs.size its.toArray k yv (by rw [uK, ← rv.length];omega)) ⟨p3, ?_⟩
        have q := yS p3 fun a => a.push yv
        have ea : its.toArray.push yv=(its++[yv]).toArray := by simp
        rw [ea] at q
        have I9 : Inv (cxB X NB own scope P.objs.size fp s2 H2) [] σ6 H8 { s8 with heap := s8.heap.update s2.heap.objs.size (Obj.mapSeq fun a => a.push yv), toks := s8.toks } :=
          (nopin I8).turned (it := s2.heap.objs.size) (fun b o hb e => (vq s8.heap _ (Ne.symm hb)).trans e) p4 hDC (.inr (uG _)) (fun x c e => nCD x c e) fun p hp => absurd (show p∈([] : List (Addr × Obj)) from hp) (by simp)
        refine ⟨m', hm, i+1, σ6, H8, ys++[y], its++[yv], _, I9, ?_, p2, q, rv.append (.cons r8 .nil), p4, w8⟩
        refine T.keep _ _ _ p1 fun b hb o e => (vq s8.heap _ ?_).trans e
        intro z
        rw [z] at ndf
        exact ndf hb
  exact codeAny_compStart_list (loop _ rfl) (T.self X.A 0 _ _ _ st4 (loop _ rfl))
end L2
namespace L2
open PySem PySem.Spec PyProof.Rows Wd
end L2
namespace L2
open PySem PySem.Spec PyProof.Rows Wd
section
variable {X : Cx}
inductive ki (x : V)(vs : List V)(H : Hp)(Q : VK) : Prop
  | mk : ∀ l xs i y, (x = .ref l) → (vs=[.int i, y]) → (H l=some (.lst xs)) → (0≤i) → (i≤xs.length) → (xs.length < sizeLine) → (Q .non (upd H l (.lst (xs.take i.toNat++y::xs.drop i.toNat)))) → ki x vs H Q
theorem f_ : MtM X "list.insert" ki := by
  intro pins s σ H x vs v us Q I rx rv h
  obtain ⟨l, xs, i, y, rfl, rfl, hH, h0, h1, hz, q⟩ := h
  cases rx
  obtain ⟨u1, u2, rfl, ⟨t1, rfl⟩, r2⟩ := lI rv
  obtain ⟨z, its, n, r, hl, e⟩ := I.lstM hH
  have hn := dD
  have hfit : Builtin.List.listFitsIndex i=true := by
    unfold Builtin.List.listFitsIndex
    rw [u3, vg, vg]
    constructor <;> omega
  refine xp xr ⟨_, e, rfl⟩ PySem.F.entry_list_insert (PySem.F.args_list_insert_3 _ _ _) (PySem.AutoSeq1.list_insert_list_int_val_1 l its.toArray n i t1 u2 (by simp [hfit]) (by rw [uK];omega)) ⟨e, ?_⟩
  refine ⟨.non, _, I.lset (its' := its.take i.toNat++u2::its.drop i.toNat) hH e ?_ ((r.take _).append (.cons r2 (r.drop _))) ?_, rfl, q⟩
  · have hm : min i.toNat its.length=i.toNat := by omega
    simp only [uK, if_neg (show ¬ i < 0 by omega), hm]
    apply Array.toList_inj.mp
    simp
    exact vj (by rw [vv];exact uG _)
  · rw [uF, vQ, uR, vv]
    omega
def qw (z : Str) : Str := Txt.sliceBy z none none (-1, 0)
def sJ (te ts : TE) : TE := fun σ H Q => te σ H fun x H1 => ts σ H1 fun k H2 => ∃ z, x = .str z ∧ k = .int (-1) ∧ z.length≤sizeLine ∧ Q (.str (qw z)) H2
theorem oJ {e st : Expr}{te ts : TE}{pos p2 : Pos}(he : PE X e te)(hs : PE X st ts) : PE X (.Subscript e (.Slice none none (some st) p2) pos) (sJ te ts) := by
  intro pins s σ H Q I h
  refine Subscript_ (thn (he pins s σ H _ I h) fun v s1 zq1 => ?_)
  obtain ⟨x, H1, I1, r1, q1⟩ := zq1
  refine wpAny_Slice ?_
  rw [yI]
  refine uH ?_
  refine uH ?_
  rw [evalPart_some]
  refine thn (hs pins s1 σ H1 _ I1 q1) fun vs s3 zq2 => ?_
  obtain ⟨k, H3, I3, r3, z, ez, ek, hz, q3⟩ := zq2
  subst ez ek
  obtain ⟨t, rfl⟩ := r1
  obtain ⟨tk, rfl⟩ := r3
  have I4 : Inv X pins σ H3 { s3 with heap := s3.heap.push { cls := .type "slice", data := .fields #[.none, .none, .int (-1) tk] } } := I3.kept (t' := s3.toks) fun b ob q => uC _ q
  show wpAny (model X.prog X.w) X.A (subscriptTail e (.Slice none none (some st) p2) (.str z t) (.ref s3.heap.objs.size)) (EP X pins σ Q) X.xe { s3 with heap := s3.heap.push { cls := .type "slice", data := .fields #[.none, .none, .int (-1) tk] } }
  refine tail_any (ops := [.ref s3.heap.objs.size, .str z t]) (zh _ _ _) F.slot_str_getitem.lookup ?_ (by with_unfolding_all rfl)
  exact wk (l := none) (u := none) (st := some (-1, tk)) ⟨_, uN _ rfl, rfl, rfl⟩ rfl (xx ⟨vi (Txt.sliceBy_le z none none (-1, tk) (by show (-1 : Int)≠0;decide)) hz, fun t' k => ⟨.str _, H3, I4.tok _, ⟨_, rfl⟩, q3⟩⟩)
theorem mB (u : List L) : qw (toS u)=toS u.reverse := by
  have h : (qw (toS u)).cps.toList=(toS u.reverse).cps.toList := by
    unfold qw
    rw [step_rev_list, cf, af]
    apply yD
    intro i
    rw [u_]
    by_cases hi : i < u.length
    · rw [List.getElem?_range hi, u_, w4 hi]
      have e : (toS u).cps.getD (u.length - 1 - i) 0=cp u[u.length - 1 - i] := by
        simp [toS, Array.getD, show u.length - 1 - i < u.length by omega]
      rw [uB (show u.length - 1 - i < u.length by omega)]
      exact vz some e
    · rw [wg (by simpa using hi), wg (by simp;omega)]
      rfl
  cases hr : qw (toS u) with
  | mk c => 
    rw [hr] at h
    have : c=(toS u.reverse).cps := Array.toList_inj.mp h
    rw [this]
end
end L2
namespace Wd
def fam (k : Nat) : List L := (List.range k).flatMap fun j => if h : j < 6 then [⟨j, by omega⟩, ⟨j+6, by omega⟩] else []
theorem iR : ∀ k : Fin 7, (fam k.val).Nodup ∧ (∀ x∈fam k.val, inv x∈fam k.val) ∧ (fam k.val).length=2*k.val := by decide
theorem mD {k : Nat}(h : k < 6) : fam (k+1)=fam k++[⟨k, by omega⟩, ⟨k+6, by omega⟩] := by
  unfold fam
  rw [xB, yi]
  simp [h]
theorem mE {u v : List L}(x : L)(i : Nat)(p : u.Perm v) : (u.take i++x::u.drop i).Perm (v++[x]) := by
  refine List.perm_middle.trans ?_
  rw [vb]
  exact ((List.Perm.cons x p).trans (List.perm_append_singleton x v).symm)
end Wd
namespace Kx
open PySem PySem.Spec PyProof.Rows L2 Wd
theorem kj (u : List L)(x : L)(i : Nat) : StrLaws.At (toS u) (toS [x]) (toS u).length i ↔ u[i]? = some x := by
  unfold StrLaws.At
  rw [af, af, StrLaws.subAt_eq, af, cf, cf, beq_iff_eq, ← List.map_drop, ← List.map_take]
  simp only [xK]
  constructor
  · rintro ⟨h1, h2⟩
    have h2 := dw h2
    have : (u.drop i).take 1=[u[i]] := by rw [wc (by omega)];rfl
    rw [this] at h2
    rw [uB (by omega)]
    exact vz some (wK h2).1
  · intro h
    obtain ⟨hl, e⟩ := uJ.mp h
    refine ⟨by omega, ?_⟩
    rw [wc hl, e]
    rfl
theorem qx {u : List L}{x : L}(h : x∈u) : ∃ rest, Builtin.Str.occurrences (toS u) (toS [x]) 0 (toS u).length 1=u.idxOf x::rest := by
  have hlt := List.idxOf_lt_length_of_mem h
  have hx : u[u.idxOf x]? = some x := by rw [uB hlt];exact vz some (List.getElem_idxOf hlt)
  rcases StrLaws.occ_head (toS u) (toS [x]) 1 (uG 1) with ⟨h0, hn⟩ | ⟨i, r, h0, hi, hn⟩
  · exact absurd ((kj u x _).mpr hx) (hn _)
  · refine ⟨r, ?_⟩
    rw [h0]
    have hi := (kj u x i).mp hi
    have : i=u.idxOf x := by
      rcases Nat.lt_trichotomy i (u.idxOf x) with h1 | h1 | h1
      · have q := List.not_of_lt_findIdx (p := (· == x)) h1
        obtain ⟨hl, e⟩ := uJ.mp hi
        exact absurd (beq_iff_eq.mpr e) (by simpa using q)
      · exact h1
      · exact absurd ((kj u x _).mpr hx) (hn _ h1)
    rw [this]
theorem qy (x : L) : (!(Builtin.Str.occurrences ("ABCDEF" : Str) (toS [x]) 0 ("ABCDEF" : Str).length 1).isEmpty)=decide (¬ x.val < 6) := by
  have q : ∀ x : L, decide (cp x∈("ABCDEF" : Str).cps.toList)=decide (¬ x.val < 6) := by decide +kernel
  have h := StrLaws.found_one ("ABCDEF" : Str) (cp x)
  rw [q] at h
  exact h
structure Tp (H : Hp) (d c : Addr) : Prop where
  ex : ∃ (i l t : Int) (ns : List Int), H d=some (.lst [.ref c, .int i, .int l, .int t]) ∧ H c=some (.lst (ns.map V.int)) ∧ c≠d ∧ ns.length≤63
theorem Tp.same {H H' : Hp}{d c : Addr}(F : Tp H d c)(s : au H H') : Tp H' d c := by
  obtain ⟨i, l, t, ns, h1, h2, h3, h4⟩ := F.ex
  exact ⟨i, l, t, ns, s _ _ h1, s _ _ h2, h3, h4⟩
theorem Tp.new {H : Hp}{d c a : Addr}{o : HO}(F : Tp H d c)(h : H a=none) : Tp (upd H a o) d c := F.same (au.new h)
theorem Tp.ne {H : Hp}{d c a : Addr}(F : Tp H d c)(h : H a=none) : a≠d := by
  obtain ⟨i, l, t, ns, h1, h2, h3, h4⟩ := F.ex
  exact (ao h1 h).symm
theorem Tp.nec {H : Hp}{d c a : Addr}(F : Tp H d c)(h : H a=none) : a≠c := by
  obtain ⟨i, l, t, ns, h1, h2, h3, h4⟩ := F.ex
  exact (ao h2 h).symm
theorem Tp.but {H H' : Hp}{d c a : Addr}(F : Tp H d c)(h1 : a≠d)(h2 : a≠c)(s : a_ a H H') : Tp H' d c := by
  obtain ⟨i, l, t, ns, g1, g2, g3, g4⟩ := F.ex
  exact ⟨i, l, t, ns, s _ _ h1.symm g1, s _ _ h2.symm g2, g3, g4⟩
theorem none_of {H H' : Hp}{a : Addr}(s : au H H')(h : H' a=none) : H a=none := by
  cases e : H a with
  | none => rfl
  | some o => exact absurd (s _ _ e) (by rw [h];intro z;cases z)
inductive bV (vs : List V)(H : Hp)(Q : VK)(u3_ : XK) : Prop
  | mk : ∀ (d c : Addr) (m : Int), (vs=[.ref d, .int m]) → (Tp H d c) → (0 < m) → (m < 1000000) → (∀ (r : Int) (H' : Hp), 0≤r → r < m → Tp H' d c → a_ d H H' → Q (.int r) H') → bV vs H Q u3_
inductive kl (K : PySem.W.Frag)(vs : List V)(H : Hp)(Q : VK)(u3_ : XK) : Prop
  | mk : ∀ (a : Addr) (ns : List Int), (vs=[.ref a]) → (SqL K H a (ns.map V.int)) → (ns.length≤63) → (∀ (d c : Addr) (H' : Hp), H d=none → H c=none → Tp H' d c → au H H' → Q (.ref d) H') → kl K vs H Q u3_
theorem bg6 : ∀ j : Fin 6, ([6, 7, 8, 9, 10, 11] : List L)[j.val]? = some ⟨j.val+6, by omega⟩ := by decide
theorem sm_at {i : Nat}(h : i < 6) : atI ("abcdef" : Str).cps.toList (i : Int)=some (cp ⟨i, by omega⟩) := by
  rw [← lV]
  exact dy (k := i) rfl (sm6 ⟨i, h⟩)
theorem sL {i : Nat}(h : i < 6) : atI ("ABCDEF" : Str).cps.toList (i : Int)=some (cp ⟨i+6, by omega⟩) := by
  rw [← big]
  exact dy (k := i) rfl (bg6 ⟨i, h⟩)
theorem mF (W : List L)(x : L)(n : Nat) : (bG W).take n++tx [x]::(bG W).drop n=bG (W.take n++x::W.drop n) := by
  unfold bG
  simp
end Kx
namespace Wd
section
variable {α : Type}
end
end Wd
namespace Wd
section
variable {α : Type}
end
end Wd
namespace Wd
end Wd
namespace Wd
def J (u v : List L) : Prop := ∀ x y, u.getLast? = some x → v.head? = some y → y≠inv x
end Wd
namespace L2
open PySem PySem.Spec PyProof.Rows Wd
end L2
namespace Wd
end Wd
namespace L2
open PySem PySem.Spec PyProof.Rows Wd
end L2
namespace Wd
theorem sM {α : Type}[DecidableEq α]{a b : List α}(na : a.Nodup)(nb : b.Nodup)(h : ∀ x, x∈a ↔ x∈b) : a.Perm b := by
  rw [List.perm_iff_count]
  intro x
  by_cases hx : x∈a
  · rw [na.count, nb.count, if_pos hx, if_pos ((h x).mp hx)]
  · rw [List.count_eq_zero.mpr hx, List.count_eq_zero.mpr (fun q => hx ((h x).mpr q))]
end Wd
namespace Wd
section
variable {α : Type}
end
end Wd
namespace Wd
section
variable {α : Type}
end
end Wd
namespace Wd
end Wd
namespace Wd
end Wd
namespace PySem
open Sem (wp)
open AutoSeq1 (wpAny_loadPart')
set_option maxHeartbeats 1000000 in
theorem km (tp : Addr)(its : Array Value)(m : Nat)(dc : Option Addr)(sls : Array (Option Value)) :
    Meets (Builtin.«enumerate.__new__» ⟨[.type "enumerate", .ref tp], []⟩) (fun _ R s => s.heap.get? tp=some { cls := .type "tuple", dict := dc, data := .seq its m, slots := sls } ∧
      R (.ok (.ret (.ref (s.heap.push { cls := .type "tuple_iterator", data := .fields #[.ref tp, .int 0 0] }).objs.size)))
        { s with heap := (s.heap.push { cls := .type "tuple_iterator", data := .fields #[.ref tp, .int 0 0] }).push { cls := .type "enumerate", data := .fields #[.none, .bool false, .ref s.heap.objs.size, rawInt 0, .none, .none] } }) :=
  .of_wp fun prog w A R s h => by
    obtain ⟨hp, gg, dd, tk, os⟩ := s;obtain ⟨ht, h⟩ := h
    have hsub := sub_enumerate
    have hT : Heap.IsTuple (Shared.heap ⟨hp, gg, dd, tk, os⟩) tp its := ⟨_, ht, rfl, m, rfl⟩
    wp_walk using wpAny_loadPart' ht
    refine wpAny_stack_any fun stk => uH ?_
    split
    · rename_i cc _ _ _ _ _
      cases (cc == Value.type "enumerate")
      · (wp_walk using wpAny_loadPart' ht, wz hT);exact ⟨_, rfl, h⟩
      · (wp_walk using wpAny_loadPart' ht, wz hT);exact ⟨_, rfl, h⟩
    · (wp_walk using wpAny_loadPart' ht, wz hT);exact ⟨_, rfl, h⟩
section
variable {prog : Program} {w : World} {A : Around} {E : Value → Shared → Prop} {s : Shared}
theorem mG {tp : Addr}{its : Array Value}{Q : Value → Shared → Prop}(hT : s.heap.IsTuple tp its)
    (h : ∀ h', IsEnum h' (s.heap.objs.size+1) s.heap.objs.size 0 .none → h'.IsTupleIter s.heap.objs.size tp 0 → (∀ b o, s.heap.get? b=some o → h'.get? b=some o) → Q (.ref (s.heap.objs.size+1)) { s with heap := h' }) :
    wpAny (model prog w) A (call (.type "enumerate") [.ref tp]) Q E s := by
  obtain ⟨⟨c, dc, dt, sls⟩, ht, hc, m, hd⟩ := hT
  obtain rfl : c = .type "tuple" := hc
  obtain rfl : dt = .seq its m := hd
  refine callType_new F.called_enumerate (by decide) (F.typeCall_enumerate_1 _) (F.newCall_enumerate_1 _) (fun ob => F.args_object_init_2 ob _) F.entry_enumerate_new (km tp its m dc sls) ⟨ht, ?_⟩
  have hz : (s.heap.push { cls := .type "tuple_iterator", data := .fields #[.ref tp, .int 0 0] }).objs.size=s.heap.objs.size+1 := wO ..
  show _ ∧ _
  rw [hz]
  have he := uN (s.heap.push { cls := .type "tuple_iterator", data := .fields #[.ref tp, .int 0 0] }) (o := { cls := .type "enumerate", data := .fields #[.none, .bool false, .ref s.heap.objs.size, rawInt 0, .none, .none] }) rfl
  rw [hz] at he
  exact ⟨⟨_, he, rfl⟩, h _ he ⟨_, uC _ (uN _ rfl), rfl, rfl⟩ fun b o q => uC _ (uC _ q)⟩
theorem ja {it tp : Addr}{k : Nat}{its : Array Value}{v : Value}{Q : Value → Shared → Prop}(hit : s.heap.IsTupleIter it tp k)(ht : s.heap.IsTuple tp its)(hv : its[k]? = some v)
    (hQ : ∀ h', h'.IsTupleIter it tp (k+1) → Heap.SameBut it s.heap h' → Q v { s with heap := h' }) : wpAny (model prog w) A (Builtin.SmallTypes.nextOf (.ref it)) Q E s := by
  obtain ⟨oi, gi, ci, di⟩ := id hit
  obtain ⟨ot, gt, _, nt, dt⟩ := ht
  unfold Builtin.SmallTypes.nextOf
  refine fu (vB (name := Str.ofString "__next__") hit.typeIs wx (vO wx hit.typeIs yj ?_ (xW _)))
  show wpAny _ _ (field (.ref it) 0 >>= _) _ _ s
  refine fu (vC gi di (x := .ref tp) rfl ?_)
  show wpAny _ _ (if (Value.ref tp == Value.none)=true then _ else _) _ _ s
  rw [if_neg (show ¬ ((Value.ref tp == Value.none)=true) from u5)]
  show wpAny _ _ (field (.ref it) 1 >>= _) _ _ s
  refine fu (vC gi di (x := .int k 0) rfl ?_)
  show wpAny _ _ (seqItems? (.ref tp) >>= _) _ _ s
  refine fu (wC gt dt ?_)
  simp only [vh, hv]
  refine fu (wpAny_setField gi di (by simp) (uH ⟨v, rfl, uH (hQ _ ?_ (Heap.SameBut.update ..))⟩))
  exact ⟨_, Heap.get?_update_self _ gi (Obj.isFreed_of_fields (Obj.data_mapFields di _)), (Obj.cls_mapFields ..).trans ci, by rw [Obj.data_mapFields di];simp [rawInt]⟩
theorem gc {it tp : Addr}{k : Nat}{its : Array Value}{Q : Value → Shared → Prop}(hh : A.handled=none)(hit : s.heap.IsTupleIter it tp k)(ht : s.heap.IsTuple tp its)(hv : its[k]? = none)
    (hE : ∀ h' e, Heap.ExtBut it s.heap h' → (∃ o, h'.get? e=some o ∧ o.cls = .type "StopIteration") → E (.ref e) { s with heap := h' }) : wpAny (model prog w) A (Builtin.SmallTypes.nextOf (.ref it)) Q E s := by
  obtain ⟨oi, gi, ci, di⟩ := id hit
  obtain ⟨ot, gt, _, nt, dt⟩ := ht
  unfold Builtin.SmallTypes.nextOf
  refine fu (vB (name := Str.ofString "__next__") hit.typeIs wx (vO wx hit.typeIs yj ?_ (xW _)))
  show wpAny _ _ (field (.ref it) 0 >>= _) _ _ s
  refine fu (vC gi di (x := .ref tp) rfl ?_)
  show wpAny _ _ (if (Value.ref tp == Value.none)=true then _ else _) _ _ s
  rw [if_neg (show ¬ ((Value.ref tp == Value.none)=true) from u5)]
  show wpAny _ _ (field (.ref it) 1 >>= _) _ _ s
  refine fu (vC gi di (x := .int k 0) rfl ?_)
  show wpAny _ _ (seqItems? (.ref tp) >>= _) _ _ s
  refine fu (wC gt dt ?_)
  simp only [vh, hv]
  refine fu (wQ (fu (wpAny_setField gi di (by simp) ?_)))
  show wpAny _ _ (newExc (.type "StopIteration") [] >>= _) _ _ _
  refine fu ?_
  simp only [newExc, newTuple]
  refine fu (vH ?_ (by size_fits))
  refine fu (m := firstArgMember _ _) (wpAny_of_eq (a := Value.none) (by first | rfl | (simp only [firstArgMember];rfl)) (vH ?_ (by size_fits)))
  simp only [raiseNew]
  refine fu (wpAny_handled ?_)
  first | rw [show A.in1.handled=none from hh] | rw [hh]
  exact fu (uH (wpAny_throw (hE _ _ (((Heap.SameBut.update ..).extBut.push _).push _) ⟨_, uN _ rfl, rfl⟩)))
theorem kn {prog : Program}{w : World}{A : Around}(hh : A.handled=none)(it tp : Addr)(hne : tp≠it)(its : Array Value) :
    Draws prog w A it [it, tp] its.size (fun i x => its[i]? = some x) (fun i h => h.IsTupleIter it tp i ∧ h.IsTuple tp its) where
  live := fun i h st => let ⟨⟨o, e, _⟩, _⟩ := st;⟨o, e⟩
  frame := fun i h h' st kk => ⟨st.1.at fun o e => kk it (by simp) o e, let ⟨o, e, r⟩ := st.2;⟨o, kk tp (by simp) o e, r⟩⟩
  item := fun i s Q E hi st hQ => ja st.1 st.2 (yw hi) fun h' st' sb => hQ _ h' s.toks (yw hi) ⟨st', let ⟨o, e, r⟩ := st.2;⟨o, (sb.2 tp hne).trans e, r⟩⟩ sb
  done := fun s Q E st hE => gc hh st.1 st.2 (Array.getElem?_eq_none (uG _)) hE
end
end PySem
namespace L2
open PySem PySem.Spec PyProof.Rows Wd
def pB (K : PySem.W.Frag)(a : Addr) : It := ⟨fun i H => ∃ xs x, SqT K H a xs ∧ xs[i]? = some x,
  fun i H v H' => ∃ (T : Addr) (x : V), H T=none ∧ v = .ref T ∧ (∀ xs, SqT K H a xs → xs[i]? = some x) ∧ H'=upd H T (.tup [.int i, x]), fun i H => ∃ xs, SqT K H a xs ∧ xs.length≤i⟩
theorem ko {X : Cx}{pins : List (Addr × Obj)}{σ : St}{H : Hp}{s : Shared}{E : Value → Shared → Prop}{elts : List Expr}{k : Nat}{pos : Pos}{e it : Addr}{fp : List Addr}{n i : Nat}{Pv : Nat → Value → Prop}{St' : Nat → Heap → Prop}{old : Value}{tn : Nat → Heap → Prop}{Y : V → Hp → Prop}{x : V}
    (D : Draws X.prog X.w X.A.in1 it fp n Pv St') (I : Inv X pins σ H s) (hf : ∀ b∈[e, it], gJ X pins H b) (he : IsEnum s.heap e it i old) (hst : St' i s.heap) (hi : i < n) (hne : e≠it) (hef : e∉fp) (hrel : ∀ u, Pv i u → bJ x u) (hit : ∃ o, s.heap.get? it=some o)
    (hY : ∀ T, H T=none → Y (.ref T) (upd H T (.tup [.int i, x]))) (htn : ∀ h', St' (i+1) h' → (∃ old, IsEnum h' e it ((i : Int)+1) old) → tn (i+1) h') :
    wpAny (model X.prog X.w) X.A (pyNext (.ref e)) (fun r s1 => ∃ u, r=some u ∧
      wpAny (model X.prog X.w) X.A (letOwnedTupleGo (.Tuple elts k pos) (.ref e) u) (fun _ s2 => ∃ y H', Inv X pins σ H' s2 ∧ bJ y u ∧ Y y H' ∧ tn (i+1) s2.heap ∧ ∀ b∈[e, it], H' b=none) E s1) E s := by
  refine wpAny_pyNext_enum_itemD D he hst hi hne hef fun u h' tk hu b1 b2 b3 b4 b5 => ⟨_, rfl, wpAny_letOwnedTupleGo_enum b1 fun h2 c1 e2 => ?_⟩
  have hTe : s.heap.objs.size≠e := xk (uQ he)
  have kk : ∀ b o, b∉[e, it] → s.heap.get? b=some o → h2.get? b=some o := fun b o hb q => by
    simp only [u4, vn, xi, not_or] at hb
    exact e2.extBut _ _ hb.1 (b5 b o hb.1 hb.2 q)
  have there : ∀ b∈[e, it], ∃ o, s.heap.get? b=some o := fun b hb => by
    simp only [u4, vn, xi] at hb
    rcases hb with rfl | rfl
    · exact ⟨_, he⟩
    · exact hit
  have I2 : Inv X pins σ (upd H s.heap.objs.size (.tup [.int i, x])) { s with heap := h2, toks := tk+1 } :=
    I.stepT (ch := [e, it]) (its := [.int i tk, u]) hf kk (uG _) (by show 2≤sizeLine;decide) (.cons ⟨_, rfl⟩ (.cons (hrel u hu) .nil)) ⟨_, e2.extBut _ _ hTe b3, rfl, _, rfl⟩ ⟨_, e2.extBut _ _ hTe b3, rfl⟩ there
  have hn : H s.heap.objs.size=none := I.hok.fresh (uG _)
  refine ⟨.ref s.heap.objs.size, _, I2, rfl, hY _ hn, htn h2 (D.frame _ _ _ b2 fun b hb o q => e2.extBut _ _ (fun z => hef (z ▸ hb)) q) ⟨_, c1⟩, fun b hb => ?_⟩
  obtain ⟨o, q⟩ := there b hb
  rw [aC (vm (uQ q))]
  exact (hf b hb).1
theorem mH {P : Program}{w : World}{K : PySem.W.Frag}{elts : List Expr}{k : Nat}{pos : Pos}{e it a : Addr}(hne : e≠it) :
    nP P w K (.Tuple elts k pos) (pB K a) [e, it] e (fun i h => (∃ old, IsEnum h e it i old) ∧ h.IsTupleIter it a i) where
  mem := by simp
  obj := fun i h st b hb => by
    obtain ⟨⟨old, s1⟩, ⟨o, s2, _, d2⟩⟩ := st
    simp only [u4, vn, xi] at hb
    rcases hb with rfl | rfl
    · exact ⟨_, s1, fun v q => by cases q⟩
    · exact ⟨_, s2, fun v q => by rw [d2] at q;cases q⟩
  keep := fun i h h' st kk => by
    obtain ⟨⟨old, s1⟩, s2⟩ := st
    exact ⟨⟨old, kk e (by simp) _ s1⟩, s2.at fun o q => kk it (by simp) o q⟩
  item := by
    intro X hP hw hK hc i pins s σ H E I hf st hg
    subst hP hw hK
    obtain ⟨xs, x, hq, hx⟩ := hg
    obtain ⟨its, rv, p, hz⟩ := I.tuple hq
    obtain ⟨u, hu, ru⟩ := rv.get hx
    obtain ⟨⟨old, s1⟩, s2⟩ := st
    have hu' : its.toArray[i]? = some u := by simpa using hu
    have ha : a≠e := fun z => by obtain ⟨o, q, c, _⟩ := p;rw [z, s1] at q;cases q;simp at c
    have hb : a≠it := fun z => by obtain ⟨o, q, c, _⟩ := p;obtain ⟨o2, q2, c2, _⟩ := s2;rw [z, q2] at q;cases q;rw [c2] at c;simp at c
    refine ko (tn := fun i h => (∃ old, IsEnum h e it i old) ∧ h.IsTupleIter it a i) (kn (by exact I.ok.hd hc) it a hb its.toArray) I hf s1 ⟨s2, p⟩ (xg.mp hu').1 hne (by simp only [u4, vn, xi, not_or];exact ⟨hne, fun z => ha z.symm⟩)
      (fun u2 h2 => by rw [show its.toArray[i]? = some u2 from h2] at hu';cases hu';exact ru) (let ⟨o, q, _⟩ := s2;⟨o, q⟩) (fun T hT => ⟨T, x, hT, rfl, fun ys hy => by rw [I.tuple_inj hy hq];exact hx, rfl⟩) fun h' st' ho => ⟨by simpa using ho, st'.1⟩
  done := by
    intro X hP hw hK hc i pins s σ H E I hf st hg
    subst hP hw hK
    obtain ⟨xs, hq, hx⟩ := hg
    obtain ⟨its, rv, p, hz⟩ := I.tuple hq
    obtain ⟨⟨old, s1⟩, s2⟩ := st
    obtain ⟨f0, f1, f2, f3, f4, f5⟩ := hf it (by simp)
    have hl := rv.length
    have hb : a≠it := fun z => by obtain ⟨o, q, c, _⟩ := p;obtain ⟨o2, q2, c2, _⟩ := s2;rw [z, q2] at q;cases q;rw [c2] at c;simp at c
    have T : wpAny (model X.prog X.w) X.A (pyNext (.ref e)) (fun r s1 => r=none ∧ Inv X pins σ H s1) E s := by
      have hT : s.TypeIs (.ref e) "enumerate" := ⟨_, s1, rfl⟩
      unfold pyNext
      refine fu (yK (vB (name := Str.ofString "__next__") hT F.slot_enumerate_next (vO F.slot_enumerate_next hT F.entry_enumerate_next ?_ (F.args_enumerate_next_1 _))))
      show wpAny _ _ (field (.ref e) 2 >>= _) _ _ _
      refine fu (vC s1 rfl (x := .ref it) rfl (fu (gc (by exact I.ok.hd hc) s2 p (by simp;omega) fun h' ex eb hx' => ?_)))
      obtain ⟨o, ho, hcl⟩ := hx'
      exact fu (wpAny_isInstance (T := "StopIteration") (b := true) ⟨o, ho, hcl⟩ isSubtype_stop (uH ⟨rfl, I.turned (t' := s.toks) (fun b o hb q => eb b o hb q) f0 f1 f3 f4 f5⟩))
    exact T
  self := fun _ _ _ _ _ st h => let ⟨⟨_, s1⟩, _⟩ := st;wpAny_pyIter_enum s1 h
section
variable {X : Cx}
def uv (K : PySem.W.Frag)(ta : TA) : TI := fun σ H R => ta σ H fun vs H1 => ∃ a, vs=[.ref a] ∧ (∃ xs, SqT K H1 a xs) ∧ R (pB K a) H1
theorem fp2 {pins : List (Addr × Obj)}{σ : St}{H : Hp}{s : Shared}(I : Inv X pins σ H s) : ∀ b∈[s.heap.objs.size+1, s.heap.objs.size], gJ X pins H b := fun b hb => by
  have hge : s.heap.objs.size≤b := by
    simp only [u4, vn, xi] at hb
    rcases hb with rfl | rfl <;> omega
  exact I.fpOk hge (I.hok.fresh hge)
theorem qz {K : PySem.W.Frag}(hK : X.K=K){a : Expr}{ta : TA}{p pos tp : Pos}{elts : List Expr}{k : Nat}(hg : Gl X "enumerate")(hm : X.mg "enumerate" = none)(hb : bootBuiltins "enumerate" = some (.type "enumerate"))(ha : PA X [a] ta)(hs : starEach [a] X.env=[(false, eval a X.env)] := by rfl) :
    PI X (.Tuple elts k tp) (.Call (.Name "enumerate" p) [a] [] pos) (uv K ta) := by
  subst hK
  intro pins s σ H R I h
  refine Call_ (dY I hg hm hb (vU (thn (ha pos pins s σ H _ I h) fun us s1 zq2 => ?_) hs rfl))
  obtain ⟨vs, H1, I1, r1, q1⟩ := zq2
  obtain ⟨l, rfl, ⟨xs, hq⟩, q⟩ := q1
  obtain ⟨u1, rfl, ru⟩ := cQ r1
  cases ru
  obtain ⟨its, rv, pl, hz⟩ := I1.tuple hq
  refine mG pl fun h' b1 b2 b4 => ?_
  have I2 : Inv X pins σ H1 { s1 with heap := h', toks := s1.toks } := I1.kept b4
  exact wpAny_pyIter_enum (s := { s1 with heap := h', toks := s1.toks }) b1 ⟨s1.heap.objs.size+1, [s1.heap.objs.size+1, s1.heap.objs.size], _, pB X.K l, H1, rfl, I2, mH (Nat.succ_ne_self _), ⟨⟨_, b1⟩, b2⟩, fp2 I1, q⟩
end
theorem oK {K : PySem.W.Frag}{a : Addr}{xs : List V}{g : TG}{tb : TS}{D : gF}{σ : St}{H : Hp}(Pv : Nat → St → Hp → Prop)(h0 : Pv 0 σ H)(hl : ∀ i σ H, i≤xs.length → Pv i σ H → SqT K H a xs)
    (hs : ∀ i x σ H T, xs[i]? = some x → Pv i σ H → H T=none → g (.ref T) σ (upd H T (.tup [.int i, x])) fun σ2 H2 => tb { D with nx := Pv (i+1), ct := Pv (i+1), bk := D.nx } σ2 H2) (hd : ∀ σ H, Pv xs.length σ H → D.nx σ H) :
    ∃ W : Nat → Nat → St → Hp → Prop, (∃ m, W 0 m σ H) ∧ ∀ i m σ H, W i m σ H →
      ((pB K a).stop i H ∧ D.nx σ H) ∨ ((pB K a).go i H ∧ ∃ N : St → Hp → Prop, (∀ σ' H', N σ' H' → ∃ m', m' < m ∧ W (i+1) m' σ' H') ∧ ∀ x H', (pB K a).yld i H x H' → g x σ H' fun σ2 H2 => tb { D with nx := N, ct := N, bk := D.nx } σ2 H2) := by
  refine ⟨fun i m σ H => m=xs.length - i ∧ i≤xs.length ∧ Pv i σ H, ⟨xs.length, by simp, vE _, h0⟩, ?_⟩
  rintro i m σ H ⟨rfl, hi, p⟩
  have q := hl i σ H hi p
  by_cases hlt : i < xs.length
  · refine .inr ⟨⟨xs, xs[i], q, by simp [hlt]⟩, Pv (i+1), fun σ' H' p' => ⟨xs.length - (i+1), by omega, rfl, hlt, p'⟩, ?_⟩
    rintro v H' ⟨T, x, hT, rfl, hx, rfl⟩
    exact hs i x σ _ T (hx xs q) p hT
  · obtain rfl : i=xs.length := by omega
    exact .inl ⟨⟨xs, q, uG _⟩, hd σ H p⟩
end L2
namespace PySem
open Sem (wp)
structure Ap2 (z TO i1 i2 : Addr) (fp1 fp2 : List Addr) : Prop where
  z1 : z∉fp1
  z2 : z∉fp2
  o1 : TO∉fp1
  o2 : TO∉fp2
  i12 : i1∉fp2
  i21 : i2∉fp1
section
variable {prog : Program} {w : World} {A : Around} {E : Value → Shared → Prop} {s : Shared} {z TI TO i1 i2 : Addr} {k n1 n2 : Nat} {a b : Value} {fp1 fp2 : List Addr} {P1 P2 : Nat → Value → Prop} {S1 S2 : Nat → Heap → Prop}
theorem kq {Q : Value → Shared → Prop}(D1 : Draws prog w A i1 fp1 n1 P1 S1)(D2 : Draws prog w A i2 fp2 n2 P2 S2)(D : Ap5 z TI TO i1 i2)
    (B : Ap2 z TO i1 i2 fp1 fp2) (hz : IsZip s.heap z TI TO .none) (hTI : IsPair s.heap TI (.ref i1) (.ref i2)) (hTO : IsPair s.heap TO a b) (h1 : S1 k s.heap) (h2 : S2 k s.heap) (hx : k < n1) (hy : k < n2)
    (hQ : ∀ h' tk v1 v2, P1 k v1 → P2 k v2 → IsZip h' z TI TO (rawInt s.heap.objs.size) → IsPair h' TO v1 v2 → S1 (k+1) h' → S2 (k+1) h' → IsPair h' s.heap.objs.size v1 v2 →
      (∀ e o, e≠z → e≠TO → e≠i1 → e≠i2 → s.heap.get? e=some o → h'.get? e=some o) → Q (.ref s.heap.objs.size) { s with heap := h', toks := tk }) :
    wpAny (model prog w) A (Builtin.«zip.__next__» ⟨[.ref z], []⟩) (fun fin s' => ∃ v, fin = .done (.ret v) ∧ Q v s') E s := by
  show wpAny _ _ (field (.ref z) 2 >>= _) _ _ _
  refine fu (vC hz rfl (x := .bool false) rfl ?_)
  show wpAny _ _ (field (.ref z) 3 >>= _) _ _ _
  refine fu (vC hz rfl (x := .ref TI) rfl (fu (wC hTI rfl ?_)))
  show wpAny _ _ (Builtin.SmallTypes.ownedTupleIsFree (.ref z) >>= _) _ _ _
  refine fu ?_
  unfold Builtin.SmallTypes.ownedTupleIsFree
  refine fu (vC hz rfl (x := .none) rfl (uH ?_))
  simp only [wj]
  refine fu (wQ (fu (vC hz rfl (x := .ref TO) rfl (fu (wB hz (by simp) fun g1 hz1 e1 => ?_)))))
  have hz1 : IsZip g1 z TI TO .ellipsis := hz1
  refine fu ?_
  simp only [yV, List.zipIdx_nil, xv, zf]
  refine fu (fu (yO ?_))
  show wpAny _ _ (Builtin.SmallTypes.nextOf (.ref i1) >>= _) _ _ _
  refine fu (D1.item k _ _ _ hx (D1.frame _ _ _ h1 fun q hq o eq => e1.extBut _ _ (fun zz => B.z1 (zz ▸ hq)) eq) fun v1 g2 tk2 p1 j1 e2 => uH ?_)
  have o2 : IsPair g2 TO a b := e2.extBut _ _ D.TOi1 (e1.extBut _ _ D.TOz hTO)
  refine fu (wC o2 rfl (fu (xV o2 fun g3 o3 e3 => fu (wpAny_letGo (uH ?_)))))
  have o3 : IsPair g3 TO v1 b := o3
  refine fu (fu (yO ?_))
  show wpAny _ _ (Builtin.SmallTypes.nextOf (.ref i2) >>= _) _ _ _
  refine fu (D2.item k _ _ _ hy (D2.frame _ _ _ h2 fun q hq o eq => e3.extBut _ _ (fun zz => B.o2 (zz ▸ hq)) (e2.extBut _ _ (fun zz => B.i12 (zz ▸ hq)) (e1.extBut _ _ (fun zz => B.z2 (zz ▸ hq)) eq))) fun v2 g4 tk4 p2 j2 e4 => uH ?_)
  have o4 : IsPair g4 TO v1 b := e4.extBut _ _ D.TOi2 o3
  refine fu (wC o4 rfl (fu (xV o4 fun g5 o5 e5 => fu (wpAny_letGo (uH (uH ?_))))))
  have o5 : IsPair g5 TO v1 v2 := o5
  refine fu (wC o5 rfl (fu (wpAny_newTuple ?_)))
  have hsz : g5.objs.size=s.heap.objs.size := by rw [e5.1, e4.1, e3.1, e2.1, e1.1]
  have z5 : IsZip g5 z TI TO .ellipsis := e5.extBut _ _ D.TOz.symm (e4.extBut _ _ D.i2z.symm (e3.extBut _ _ D.TOz.symm (e2.extBut _ _ D.i1z.symm hz1)))
  have kk : ∀ e o, e≠z → e≠TO → e≠i1 → e≠i2 → s.heap.get? e=some o → g5.get? e=some o := fun e o n1 n2 n3 n4 q => e5.extBut _ _ n2 (e4.extBut _ _ n4 (e3.extBut _ _ n2 (e2.extBut _ _ n3 (e1.extBut _ _ n1 q))))
  have j1' : S1 (k+1) g5 := D1.frame _ _ _ j1 fun q hq o eq => e5.extBut _ _ (fun zz => B.o1 (zz ▸ hq)) (e4.extBut _ _ (fun zz => B.i21 (zz ▸ hq)) (e3.extBut _ _ (fun zz => B.o1 (zz ▸ hq)) eq))
  have j2' : S2 (k+1) g5 := D2.frame _ _ _ j2 fun q hq o eq => e5.extBut _ _ (fun zz => B.o2 (zz ▸ hq)) eq
  have zlt : z < g5.objs.size := uQ z5
  show wpAny _ _ (Builtin.SmallTypes.ownedTupleHandOut (.ref z) (.ref g5.objs.size) >>= _) _ _ _
  refine fu ?_
  unfold Builtin.SmallTypes.ownedTupleHandOut
  have z6 : IsZip (g5.push { cls := .type "tuple", data := .seq #[v1, v2] }) z TI TO .ellipsis := uC _ z5
  refine fu (wB z6 (by simp) fun g7 z7 e7 => ?_)
  have z7 : IsZip g7 z TI TO (rawInt g5.objs.size) := z7
  refine wB z7 (by simp) fun g8 z8 e8 => ?_
  have z8 : IsZip g8 z TI TO (rawInt g5.objs.size) := z8
  have up : ∀ e o, e≠z → g5.get? e=some o → g8.get? e=some o := fun e o n1 q => e8.extBut _ _ n1 (e7.extBut _ _ n1 (uC _ q))
  have T8 : IsPair g8 g5.objs.size v1 v2 := e8.extBut _ _ (xk zlt) (e7.extBut _ _ (xk zlt) (uN _ rfl))
  rw [hsz] at z8 T8
  refine uH ⟨_, rfl, ?_⟩
  show Q (.ref g5.objs.size) _
  rw [hsz]
  exact hQ g8 _ v1 v2 p1 p2 z8 (up _ _ D.TOz o5) (D1.frame _ _ _ j1' fun q hq o eq => up q o (fun zz => B.z1 (zz ▸ hq)) eq) (D2.frame _ _ _ j2' fun q hq o eq => up q o (fun zz => B.z2 (zz ▸ hq)) eq) T8 fun e o n1 n2 n3 n4 q => up e o n1 (kk e o n1 n2 n3 n4 q)
theorem mI {Q : Fin → Shared → Prop}(D1 : Draws prog w A i1 fp1 n1 P1 S1)(D2 : Draws prog w A i2 fp2 n2 P2 S2)(D : Ap5 z TI TO i1 i2)
    (B : Ap2 z TO i1 i2 fp1 fp2) (hz : IsZip s.heap z TI TO .none) (hTI : IsPair s.heap TI (.ref i1) (.ref i2)) (hTO : IsPair s.heap TO a b) (h1 : S1 k s.heap) (h2 : S2 k s.heap) (hend : k=n1 ∨ (k < n1 ∧ k=n2))
    (hE : ∀ h' tk e, (∀ c o, c≠z → c≠TO → c≠i1 → c≠i2 → s.heap.get? c=some o → h'.get? c=some o) → (∃ o, h'.get? e=some o ∧ o.cls = .type "StopIteration") → E (.ref e) { s with heap := h', toks := tk }) :
    wpAny (model prog w) A (Builtin.«zip.__next__» ⟨[.ref z], []⟩) Q E s := by
  show wpAny _ _ (field (.ref z) 2 >>= _) _ _ _
  refine fu (vC hz rfl (x := .bool false) rfl ?_)
  show wpAny _ _ (field (.ref z) 3 >>= _) _ _ _
  refine fu (vC hz rfl (x := .ref TI) rfl (fu (wC hTI rfl ?_)))
  show wpAny _ _ (Builtin.SmallTypes.ownedTupleIsFree (.ref z) >>= _) _ _ _
  refine fu ?_
  unfold Builtin.SmallTypes.ownedTupleIsFree
  refine fu (vC hz rfl (x := .none) rfl (uH ?_))
  simp only [wj]
  refine fu (wQ (fu (vC hz rfl (x := .ref TO) rfl (fu (wB hz (by simp) fun g1 hz1 e1 => ?_)))))
  have hz1 : IsZip g1 z TI TO .ellipsis := hz1
  refine fu ?_
  simp only [yV, List.zipIdx_nil, xv, zf]
  refine fu (fu (yO ?_))
  show wpAny _ _ (Builtin.SmallTypes.nextOf (.ref i1) >>= _) _ _ _
  rcases hend with hk | ⟨hk, hk2⟩
  · subst hk
    refine fu (D1.done _ _ _ (D1.frame _ _ _ h1 fun q hq o eq => e1.extBut _ _ (fun zz => B.z1 (zz ▸ hq)) eq) fun g2 ev e2 he => ?_)
    obtain ⟨oe, hoe, hce⟩ := he
    have z2 : IsZip g2 z TI TO .ellipsis := e2 _ _ D.i1z.symm hz1
    have hez : ev≠z := fun q => by subst q;rw [z2] at hoe;cases hoe;simp at hce
    exact wB z2 (by simp) fun g3 _ e3 => hE g3 _ ev (fun c o n1 _ n3 _ q => e3.extBut _ _ n1 (e2 _ _ n3 (e1.extBut _ _ n1 q))) ⟨oe, e3.extBut _ _ hez hoe, hce⟩
  · refine fu (D1.item k _ _ _ hk (D1.frame _ _ _ h1 fun q hq o eq => e1.extBut _ _ (fun zz => B.z1 (zz ▸ hq)) eq) fun v1 g2 tk2 p1 j1 e2 => uH ?_)
    have o2 : IsPair g2 TO a b := e2.extBut _ _ D.TOi1 (e1.extBut _ _ D.TOz hTO)
    refine fu (wC o2 rfl (fu (xV o2 fun g3 o3 e3 => fu (wpAny_letGo (uH ?_)))))
    refine fu (fu (yO ?_))
    show wpAny _ _ (Builtin.SmallTypes.nextOf (.ref i2) >>= _) _ _ _
    have h2' := D2.frame _ _ _ h2 fun q hq o eq => e3.extBut _ _ (fun zz => B.o2 (zz ▸ hq)) (e2.extBut _ _ (fun zz => B.i12 (zz ▸ hq)) (e1.extBut _ _ (fun zz => B.z2 (zz ▸ hq)) eq))
    rw [hk2] at h2'
    refine fu (D2.done _ _ _ h2' fun g4 ev e4 he => ?_)
    obtain ⟨oe, hoe, hce⟩ := he
    have z4 : IsZip g4 z TI TO .ellipsis := e4 _ _ D.i2z.symm (e3.extBut _ _ D.TOz.symm (e2.extBut _ _ D.i1z.symm hz1))
    have hez : ev≠z := fun q => by subst q;rw [z4] at hoe;cases hoe;simp at hce
    exact wB z4 (by simp) fun g5 _ e5 => hE g5 _ ev (fun c o n1 n2 n3 n4 q => e5.extBut _ _ n1 (e4 _ _ n4 (e3.extBut _ _ n2 (e2.extBut _ _ n3 (e1.extBut _ _ n1 q))))) ⟨oe, e5.extBut _ _ hez hoe, hce⟩
theorem jb {Q : Option Value → Shared → Prop}(D1 : Draws prog w A.in1 i1 fp1 n1 P1 S1)(D2 : Draws prog w A.in1 i2 fp2 n2 P2 S2)(D : Ap5 z TI TO i1 i2)
    (B : Ap2 z TO i1 i2 fp1 fp2) (hz : IsZip s.heap z TI TO .none) (hTI : IsPair s.heap TI (.ref i1) (.ref i2)) (hTO : IsPair s.heap TO a b) (h1 : S1 k s.heap) (h2 : S2 k s.heap) (hx : k < n1) (hy : k < n2)
    (hQ : ∀ h' tk v1 v2, P1 k v1 → P2 k v2 → IsZip h' z TI TO (rawInt s.heap.objs.size) → IsPair h' TO v1 v2 → S1 (k+1) h' → S2 (k+1) h' → IsPair h' s.heap.objs.size v1 v2 →
      (∀ e o, e≠z → e≠TO → e≠i1 → e≠i2 → s.heap.get? e=some o → h'.get? e=some o) → Q (some (.ref s.heap.objs.size)) { s with heap := h', toks := tk }) :
    wpAny (model prog w) A (pyNext (.ref z)) Q E s := by
  have hT : s.TypeIs (.ref z) "zip" := ⟨_, hz, rfl⟩
  unfold pyNext
  exact fu (yK (vB (name := Str.ofString "__next__") hT yk (vO yk hT F.entry_zip_next
    (kq D1 D2 D B hz hTI hTO h1 h2 hx hy fun h' tk v1 v2 q1 q2 b1 b2 b3 b4 b5 b6 => uH (hQ h' tk v1 v2 q1 q2 b1 b2 b3 b4 b5 b6)) (F.args_zip_next_1 _))))
theorem kr {Q : Option Value → Shared → Prop}(D1 : Draws prog w A.in1 i1 fp1 n1 P1 S1)(D2 : Draws prog w A.in1 i2 fp2 n2 P2 S2)(D : Ap5 z TI TO i1 i2)
    (B : Ap2 z TO i1 i2 fp1 fp2) (hz : IsZip s.heap z TI TO .none) (hTI : IsPair s.heap TI (.ref i1) (.ref i2)) (hTO : IsPair s.heap TO a b) (h1 : S1 k s.heap) (h2 : S2 k s.heap) (hend : k=n1 ∨ (k < n1 ∧ k=n2))
    (hQ : ∀ h' tk, (∀ c o, c≠z → c≠TO → c≠i1 → c≠i2 → s.heap.get? c=some o → h'.get? c=some o) → Q none { s with heap := h', toks := tk }) : wpAny (model prog w) A (pyNext (.ref z)) Q E s := by
  have hT : s.TypeIs (.ref z) "zip" := ⟨_, hz, rfl⟩
  unfold pyNext
  refine fu (yK (vB (name := Str.ofString "__next__") hT yk (vO yk hT F.entry_zip_next
    (mI D1 D2 D B hz hTI hTO h1 h2 hend fun h' tk e hk he => ?_) (F.args_zip_next_1 _))))
  obtain ⟨o, ho, hc⟩ := he
  refine fu (wpAny_isInstance (T := "StopIteration") (b := true) ⟨o, ho, hc⟩ isSubtype_stop ?_)
  exact uH (hQ _ _ hk)
end
end PySem
namespace PySem
end PySem
namespace L2
open PySem PySem.Spec PyProof.Rows Wd
section
variable {X : Cx}
end
end L2
namespace PySem
abbrev zu1 (h : Heap)(x : Str)(t : Tok) : Heap := h.push { cls := .type "str_ascii_iterator", data := .fields #[.str x t, .int 0 0] }
abbrev zu2 (h : Heap)(x : Str)(t : Tok)(q : Addr) : Heap := (zu1 h x t).push { cls := .type "tuple_iterator", data := .fields #[.ref q, .int 0 0] }
abbrev zu3 (h : Heap)(x : Str)(t : Tok)(q : Addr) : Heap := (zu2 h x t q).push { cls := .type "tuple", data := .seq #[.ref h.objs.size, .ref (zu1 h x t).objs.size] }
abbrev zu4 (h : Heap)(x : Str)(t : Tok)(q : Addr) : Heap := (zu3 h x t q).push { cls := .type "tuple", data := .seq #[.none, .none] }
abbrev zu5 (h : Heap)(x : Str)(t : Tok)(q : Addr) : Heap := (zu4 h x t q).push { cls := .type "zip", data := .fields #[.none, .bool false, .bool false, .ref (zu2 h x t q).objs.size, .ref (zu3 h x t q).objs.size] }
set_option maxHeartbeats 2000000 in
theorem gQ (x : Str)(t : Tok)(q : Addr)(ys : Array Value)(hx : x.cps.all (· < 128)=true) : Meets (Builtin.«zip.__new__» ⟨[.type "zip", .str x t, .ref q], []⟩) (fun _ R s => s.heap.IsTuple q ys ∧ R (.ok (.ret (.ref (zu4 s.heap x t q).objs.size))) { s with heap := zu5 s.heap x t q }) :=
  .of_wp fun prog w A R s h => by
    obtain ⟨hp, gg, dd, tk, os⟩ := s
    obtain ⟨t2, h⟩ := h
    have hsub := sub_zip
    have T2 : Heap.IsTuple (Shared.heap ⟨hp.push { cls := .type "str_ascii_iterator", data := .fields #[.str x t, .int 0 0] }, gg, dd, tk, os⟩) q ys := by
      obtain ⟨o, e, r⟩ := t2
      exact ⟨o, uC _ e, r⟩
    wp_walk using wpAny_pyIter_ascii hx, wz T2
    exact ⟨_, rfl, h⟩
theorem jc {prog : Program}{w : World}{A : Around}{E : Value → Shared → Prop}{s : Shared}{x : Str}{t : Tok}{q : Addr}{ys : Array Value}{Q : Value → Shared → Prop}(hx : x.cps.all (· < 128)=true)(hy : s.heap.IsTuple q ys)
    (h : ∀ h', IsZip h' (s.heap.objs.size+4) (s.heap.objs.size+2) (s.heap.objs.size+3) .none → IsPair h' (s.heap.objs.size+2) (.ref s.heap.objs.size) (.ref (s.heap.objs.size+1)) → IsPair h' (s.heap.objs.size+3) .none .none →
      sI h' s.heap.objs.size x t 0 → h'.IsTupleIter (s.heap.objs.size+1) q 0 → (∀ c o, s.heap.get? c=some o → h'.get? c=some o) → Q (.ref (s.heap.objs.size+4)) { s with heap := h' }) :
    wpAny (model prog w) A (call (.type "zip") [.str x t, .ref q]) Q E s := by
  refine callType_new F.called_zip (by decide) (F.typeCall_zip_2 _ _) (F.newCall_zip_2 _ _) (fun obj => F.args_object_init_3 obj _ _) F.entry_zip_new (gQ x t q ys hx) ⟨hy, ?_⟩
  have n1 : (zu1 s.heap x t).objs.size=s.heap.objs.size+1 := wO ..
  have n2 : (zu2 s.heap x t q).objs.size=s.heap.objs.size+2 := by rw [wO, n1]
  have n3 : (zu3 s.heap x t q).objs.size=s.heap.objs.size+3 := by rw [wO, n2]
  have n4 : (zu4 s.heap x t q).objs.size=s.heap.objs.size+4 := by rw [wO, n3]
  have g5 : (zu5 s.heap x t q).get? (zu4 s.heap x t q).objs.size=some _ := uN _ rfl
  have g4 : (zu5 s.heap x t q).get? (zu3 s.heap x t q).objs.size=some _ := uC _ (uN _ rfl)
  have g3 : (zu5 s.heap x t q).get? (zu2 s.heap x t q).objs.size=some _ := uC _ (uC _ (uN _ rfl))
  have g2 : (zu5 s.heap x t q).get? (zu1 s.heap x t).objs.size=some _ := uC _ (uC _ (uC _ (uN _ rfl)))
  have g1 : (zu5 s.heap x t q).get? s.heap.objs.size=some _ := uC _ (uC _ (uC _ (uC _ (uN _ rfl))))
  show _ ∧ _
  rw [n2, n3, n4] at g5
  rw [n1, n2] at g3
  rw [n3] at g4
  rw [n1] at g2
  rw [n4]
  exact ⟨⟨_, g5, rfl⟩, h _ g5 g3 g4 ⟨_, g1, rfl, rfl⟩ ⟨_, g2, rfl, rfl⟩ fun c o q => uC _ (uC _ (uC _ (uC _ (uC _ q))))⟩
end PySem
namespace L2
open PySem PySem.Spec PyProof.Rows Wd
def rL (K : PySem.W.Frag)(x : Str)(q : Addr) : It := ⟨fun i H => ∃ ys y, SqT K H q ys ∧ i < x.cps.size ∧ ys[i]? = some y,
  fun i H v H' => ∃ (T : Addr) (c : Nat) (y : V), H T=none ∧ v = .ref T ∧ x.cps[i]? = some c ∧ (∀ ys, SqT K H q ys → ys[i]? = some y) ∧ H'=upd H T (.tup [.str ⟨#[c]⟩, y]),
  fun i H => ∃ ys, SqT K H q ys ∧ i=min x.cps.size ys.length⟩
theorem qA {s : Shared}{z TI TO i1 i2 q : Addr}{a c : Value}{i : Nat}{x : Str}{t : Tok}{ys : Array Value}(D : Ap5 z TI TO i1 i2)(s1 : IsZip s.heap z TI TO .none)(s3 : IsPair s.heap TO a c)(s4 : sI s.heap i1 x t i)(s5 : s.heap.IsTupleIter i2 q i)
    (p2 : IsTup s.heap q ys) (hTO : q≠TO) : q≠i2 ∧ Ap2 z TO i1 i2 [i1] [i2, q] := by
  obtain ⟨o1, g1, c1, _⟩ := s4
  obtain ⟨o2, g2, c2, _⟩ := s5
  obtain ⟨o4, g4, c4, _⟩ := p2
  have n2 : q≠i2 := fun e => by rw [e, g2] at g4;cases g4;rw [c2] at c4;simp at c4
  have n4 : q≠z := fun e => by rw [e, s1] at g4;cases g4;simp at c4
  have n6 : q≠i1 := fun e => by rw [e, g1] at g4;cases g4;rw [c1] at c4;simp at c4
  refine ⟨n2, ?_, ?_, ?_, ?_, ?_, ?_⟩ <;> simp only [u4, vn, xi, not_or]
  · exact D.i1z.symm
  · exact ⟨D.i2z.symm, n4.symm⟩
  · exact D.TOi1
  · exact ⟨D.TOi2, hTO.symm⟩
  · exact ⟨D.i12, n6.symm⟩
  · exact D.i12.symm
theorem jd {P : Program}{w : World}{K : PySem.W.Frag}{elts : List Expr}{k : Nat}{pos : Pos}{z TI TO i1 i2 : Addr}{x : Str}{t : Tok}{q : Addr}(D : Ap5 z TI TO i1 i2)(hTO : q≠TO) :
    nP P w K (.Tuple elts k pos) (rL K x q) [z, TI, TO, i1, i2] z (fun i h => IsZip h z TI TO .none ∧ IsPair h TI (.ref i1) (.ref i2) ∧ (∃ a b, IsPair h TO a b) ∧ sI h i1 x t i ∧ h.IsTupleIter i2 q i) where
  mem := by simp
  obj := fun i h st b hb => by
    obtain ⟨s1, s2, ⟨a, c, s3⟩, ⟨o1, s4, _, d4⟩, ⟨o2, s5, _, d5⟩⟩ := st
    simp only [u4, vn, xi] at hb
    rcases hb with rfl | rfl | rfl | rfl | rfl
    · exact ⟨_, s1, fun v q => by cases q⟩
    · exact ⟨_, s2, fun v q => by cases q⟩
    · exact ⟨_, s3, fun v q => by cases q⟩
    · exact ⟨_, s4, fun v q => by rw [d4] at q;cases q⟩
    · exact ⟨_, s5, fun v q => by rw [d5] at q;cases q⟩
  keep := fun i h h' st kk => by
    obtain ⟨s1, s2, ⟨a, c, s3⟩, ⟨o1, s4, r4⟩, ⟨o2, s5, r5⟩⟩ := st
    exact ⟨kk z (by simp) _ s1, kk TI (by simp) _ s2, ⟨a, c, kk TO (by simp) _ s3⟩, ⟨o1, kk i1 (by simp) _ s4, r4⟩, ⟨o2, kk i2 (by simp) _ s5, r5⟩⟩
  item := by
    intro X hP hw hK hc i pins s σ H E I hf st hg
    subst hP hw hK
    obtain ⟨ys, vy, hq2, hx, hy⟩ := hg
    obtain ⟨its2, rv2, p2, hz2⟩ := I.tuple hq2
    obtain ⟨u2, hu2, ru2⟩ := rv2.get hy
    obtain ⟨s1, s2, ⟨a, c, s3⟩, s4, s5⟩ := st
    have hu2' : its2.toArray[i]? = some u2 := by simpa using hu2
    obtain ⟨np1, np2⟩ := qA D s1 s3 s4 s5 p2 hTO
    refine jb (Draws.strAscii (by exact I.ok.hd hc) i1 x t) (kn (by exact I.ok.hd hc) i2 q np1 its2.toArray) D np2 s1 s2 s3 s4 ⟨s5, p2⟩ hx (xg.mp hu2').1 fun h' tk v1 v2 w1 w2 b1 b2 b3 b4 b5 b6 => ⟨_, rfl, ?_⟩
    obtain ⟨cc, uu, hcc, rfl⟩ := w1
    obtain rfl : u2=v2 := by rw [show its2.toArray[i]? = some v2 from w2] at hu2';exact (uV hu2').symm
    refine wpAny_letOwnedTupleGo_zip b1 fun h2 c1' e2 => ?_
    have there : ∀ b∈[z, TI, TO, i1, i2], ∃ o, s.heap.get? b=some o := fun b hb => by
      obtain ⟨o1, q4, _⟩ := s4
      obtain ⟨o2, q5, _⟩ := s5
      simp only [u4, vn, xi] at hb
      rcases hb with rfl | rfl | rfl | rfl | rfl
      · exact ⟨_, s1⟩
      · exact ⟨_, s2⟩
      · exact ⟨_, s3⟩
      · exact ⟨_, q4⟩
      · exact ⟨_, q5⟩
    have kk : ∀ b o, b∉[z, TI, TO, i1, i2] → s.heap.get? b=some o → h2.get? b=some o := fun b o hb e => by
      simp only [u4, vn, xi, not_or] at hb
      exact e2.extBut _ _ hb.1 (b6 b o hb.1 hb.2.2.1 hb.2.2.2.1 hb.2.2.2.2 e)
    have hTz : s.heap.objs.size≠z := xk (uQ s1)
    have I2 : Inv X pins σ (upd H s.heap.objs.size (.tup [.str ⟨#[cc]⟩, vy])) { s with heap := h2, toks := tk } :=
      I.stepT (ch := [z, TI, TO, i1, i2]) (its := [.str ⟨#[cc]⟩ uu, u2]) hf kk (uG _) (by show 2≤sizeLine;decide) (.cons ⟨_, rfl⟩ (.cons ru2 .nil)) ⟨_, e2.extBut _ _ hTz b5, rfl, _, rfl⟩ ⟨_, e2.extBut _ _ hTz b5, rfl⟩ there
    have hnT : H s.heap.objs.size=none := I.hok.fresh (uG _)
    have sTI : IsPair h2 TI (.ref i1) (.ref i2) := e2.extBut _ _ D.TIz (b6 _ _ D.TIz D.TITO D.TIi1 D.TIi2 s2)
    refine ⟨.ref s.heap.objs.size, _, I2, rfl, ⟨s.heap.objs.size, cc, vy, hnT, rfl, hcc, fun zs hz => by rw [I.tuple_inj hz hq2];exact hy, rfl⟩,
      ⟨c1', sTI, ⟨_, _, e2.extBut _ _ D.TOz b2⟩, b3.extBut e2.extBut D.i1z, b4.1.at fun o q => e2.extBut _ _ D.i2z q⟩, fun b hb => ?_⟩
    obtain ⟨o, q⟩ := there b hb
    rw [aC (vm (uQ q))]
    exact (hf b hb).1
  done := by
    intro X hP hw hK hc i pins s σ H E I hf st hg
    subst hP hw hK
    obtain ⟨ys, hq2, hi⟩ := hg
    obtain ⟨its2, rv2, p2, hz2⟩ := I.tuple hq2
    have hl2 := rv2.length
    obtain ⟨s1, s2, ⟨a, c, s3⟩, s4, s5⟩ := st
    obtain ⟨np1, np2⟩ := qA D s1 s3 s4 s5 p2 hTO
    refine kr (Draws.strAscii (by exact I.ok.hd hc) i1 x t) (kn (by exact I.ok.hd hc) i2 q np1 its2.toArray) D np2 s1 s2 s3 s4 ⟨s5, p2⟩ ?_ fun h' tk kk => ⟨rfl, ?_⟩
    · simp only [uK]
      omega
    · have nch : ∀ {b u}, H b=some u → b∉[z, TI, TO, i1, i2] := fun e q => by rw [(hf _ q).1] at e;cases e
      have k2 : ∀ b o, b∉[z, TI, TO, i1, i2] → s.heap.get? b=some o → h'.get? b=some o := fun b o hb e => by
        simp only [u4, vn, xi, not_or] at hb
        exact kk b o hb.1 hb.2.2.1 hb.2.2.2.1 hb.2.2.2.2 e
      refine I.step (g' := s.gens) (d' := s.drawn) (ch := [z, TI, TO, i1, i2]) (fun b hb => ?_) (fun b o _ _ hc e _ => k2 b o hc e) (fun b o _ _ hc e _ => ⟨o.slots, k2 b o hc e⟩) (fun _ _ _ _ n => n) (fun b o hc e => ⟨o, k2 b o hc e⟩)
        (fun _ _ e => e) (fun _ _ _ e => e) (fun b ps e => ⟨#[], by rw [e];simp⟩) (fun m hm => ?_) (fun b u e => ?_) I.bare
      · obtain ⟨_, f1, _, f3, f4, f5⟩ := hf b hb
        exact ⟨f3, f1, f4, f5⟩
      · obtain ⟨o, es, ep, ho, r⟩ := hm
        exact ⟨o, es, ep, k2 _ o (fun q => (hf _ q).2.1 rfl) ho, r⟩
      · refine (I.hok b u e).stay (fun c v hc q => k2 c v ?_ q) (fun _ q => q) fun _ _ q => q
        rcases hc with q | q
        · rw [q];exact nch e
        · exact nch q
  self := fun _ _ _ _ _ st h => wpAny_pyIter_zip st.1 h
section
variable {X : Cx}
def qB (K : PySem.W.Frag)(ta : TA) : TI := fun σ H R => ta σ H fun vs H1 => ∃ x q, vs=[.str x, .ref q] ∧ x.cps.all (· < 128)=true ∧ (∃ ys, SqT K H1 q ys) ∧ R (rL K x q) H1
theorem mJ {K : PySem.W.Frag}(hK : X.K=K){a b : Expr}{ta : TA}{p pos tp : Pos}{elts : List Expr}{k : Nat}(hg : Gl X "zip")(hm : X.mg "zip" = none)(hb : bootBuiltins "zip" = some (.type "zip"))(ha : PA X [a, b] ta)(hs : starEach [a, b] X.env=(false, eval a X.env)::starEach [b] X.env := by rfl)(hs2 : (backTo pos (starEach [b] X.env)).any (·.1)=false := by rfl) :
    PI X (.Tuple elts k tp) (.Call (.Name "zip" p) [a, b] [] pos) (qB K ta) := by
  subst hK
  intro pins s σ H R I h
  refine Call_ (dY I hg hm hb (vU (thn (ha pos pins s σ H _ I h) fun us s1 zq1 => ?_) hs hs2))
  obtain ⟨vs, H1, I1, r1, q1⟩ := zq1
  obtain ⟨x, l2, rfl, hx, ⟨ys, hy⟩, q⟩ := q1
  obtain ⟨u1, u2, rfl, r3, r4⟩ := lI r1
  obtain ⟨tt, rfl⟩ := r3
  cases r4
  obtain ⟨its2, rv2, p2, hz2⟩ := I1.tuple hy
  refine jc hx p2 fun h' b1 b2 b3 b4 b5 b6 => ?_
  have I2 : Inv X pins σ H1 { s1 with heap := h', toks := s1.toks } := I1.kept b6
  have hlt : l2 < s1.heap.objs.size := by obtain ⟨o, e, _⟩ := p2;exact uQ e
  refine wpAny_pyIter_zip (s := { s1 with heap := h', toks := s1.toks }) b1 ?_
  refine ⟨s1.heap.objs.size+4, [s1.heap.objs.size+4, s1.heap.objs.size+2, s1.heap.objs.size+3, s1.heap.objs.size, s1.heap.objs.size+1], _, rL X.K x l2, H1, rfl, I2,
    jd (t := tt) (qu s1.heap.objs.size) (vm (uX hlt (Nat.le_add_right _ _))), ⟨b1, b2, ⟨_, _, b3⟩, b4, b5⟩, fun b hb => ?_, q⟩
  have hge : s1.heap.objs.size≤b := by
    simp only [u4, vn, xi] at hb
    rcases hb with rfl | rfl | rfl | rfl | rfl <;> omega
  exact I1.fpOk hge (I1.hok.fresh hge)
end
end L2
namespace L2
open PySem PySem.Spec PyProof.Rows Wd
section
variable {X : Cx}
end
end L2
namespace Wd
theorem oM (x : L) : (inv x).val=if x.val < 6 then x.val+6 else x.val - 6 := by unfold inv; split <;> rfl
def InM (n : Nat)(u : List L) : Prop := ∀ x∈u, x.val % 6 < n
theorem InM.bk {n : Nat}{u : List L}(h : InM n u) : InM n (bk u) := by
  intro x hx
  unfold Wd.bk at hx
  rw [List.mem_reverse, v7] at hx
  obtain ⟨y, hy, rfl⟩ := hx
  have h1 := h y hy
  have := y.isLt
  rw [oM]
  split <;> omega
end Wd
namespace PySem
section
variable {prog : Program} {w : World} {A : Around} {E : Value → Shared → Prop}
end
end PySem
namespace L2
open PySem PySem.Spec PyProof.Rows Wd
section
variable {X : Cx} {pos : Pos}
end
end L2
namespace L2
open PySem PySem.Spec PyProof.Rows Wd
section
variable {X : Cx}
end
theorem qC : ∀ i : _root_.Fin 6, ("abcdef" : Str).cps[i.val]? = some (cp ⟨i.val, by omega⟩) := by decide +kernel
theorem sm_at {i c : Nat}(h : ("abcdef" : Str).cps[i]? = some c) : ∃ x : L, x.val=i ∧ i < 6 ∧ c=cp x := by
  have hl : i < 6 := by
    obtain ⟨h1, _⟩ := xg.mp h
    have : ("abcdef" : Str).cps.size=6 := by decide +kernel
    omega
  have := qC ⟨i, hl⟩
  rw [this] at h
  exact ⟨⟨i, by omega⟩, rfl, hl, (uV h).symm⟩
end L2
namespace Kx
open PySem PySem.Spec PyProof.Rows L2 Wd
end Kx
namespace Wd
end Wd
namespace L2
open PySem PySem.Spec PyProof.Rows Wd
section
variable {X : Cx}
inductive sN (x : V)(y : V)(H : Hp)(Q : VK) : Prop
  | mk : ∀ da db, (Dt H x da) → (Dt H y db) → (da.canLay0=true) → (db.canLay0=true) → (da.depth≤10) → (Q (.bl (PyData.eqv da db)) H) → sN x y H Q
theorem gf (hu : X.A.units+64 < cLine) : OpR X (compareOp .Eq) sN := by
  intro pins s σ H x y v u Q I rx ry h
  obtain ⟨da, db, ha, hb, la, lb, dp, q⟩ := h
  obtain ⟨as, ra⟩ := ha.reads I.hok rx
  obtain ⟨bs, rb⟩ := hb.reads I.hok ry
  exact SeqAt.rcAt_reads ra rb la lb (by omega) _ _ _ _ ⟨.bl _, H, I, rfl, q⟩
end
end L2
namespace Kx
open PySem PySem.Spec PyProof.Rows L2 Wd
end Kx
namespace L2
open PySem PySem.Spec PyProof.Rows Wd
section
variable {X : Cx}
end
end L2
namespace L2
open PySem PySem.Spec PyProof.Rows
section
variable {X : Cx}
end
end L2
namespace L2
open PySem PySem.Spec PyProof.Rows
section
variable {prog : Program} {w : World} {A : Around} {E : Value → Shared → Prop} {s : Shared}
end
section
variable {X : Cx}
def uw (ta tb : TE) : TE := fun σ H Q => ta σ H fun x H1 => ∃ z, x = .str z ∧ z.length≤sizeLine ∧ (if ((z.length : Int) != 0)=true then Q (.str z) H1 else tb σ H1 Q)
theorem qD {a b : Expr}{rest : List Expr}{ta tb : TE}{pos : Pos}(ha : PE X a ta)(hb : PE X (.BoolOp .Or (b::rest) pos) tb) : PE X (.BoolOp .Or (a::b::rest) pos) (uw ta tb) := by
  intro pins s σ H Q I h
  refine BoolOp_or (thn (ha pins s σ H _ I h) fun v s1 zq1 => ?_)
  obtain ⟨x, H1, I1, r1, z, ez, hz, q1⟩ := zq1
  subst ez
  refine thn (jx pins s1 σ H1 (.str z) v (fun c H' => if c=true then Q (.str z) H' else tb σ H' Q) I1 r1 ⟨_, ⟨hz, rfl⟩, q1⟩) fun c s2 zq2 => ?_
  obtain ⟨H2, I2, q2⟩ := zq2
  cases c with
  | false => exact hb pins s2 σ H2 Q I2 (by simpa using q2)
  | true => exact ⟨.str z, H2, I2, r1, by simpa using q2⟩
end
end L2
namespace L2
open PySem PySem.Spec PyProof.Rows Wd
section
variable {X : Cx}
theorem ku : cP X (.type "str") (fun xs H Q => (∃ i, xs=[.int i] ∧ i.natAbs.log2 < 1920 ∧ Q (.str (toString i)) H) ∨ ∃ z, xs=[.str z] ∧ Q (.str z) H) := by
  intro pins s σ H xs us Q I r h
  rcases h with ⟨i, rfl, hz, q⟩ | ⟨z, rfl, q⟩
  · exact fK pins s σ H _ us Q I r ⟨i, rfl, hz, q⟩
  · obtain ⟨u, rfl, t, rfl⟩ := cQ r
    exact PySem.P.str_of_str ⟨.str z, H, I, ⟨_, rfl⟩, q⟩
end
end L2
namespace Kx
open PySem PySem.Spec PyProof.Rows L2 Wd
def Gd (c : Nat) : Prop := (48≤c ∧ c≤57) ∨ 65≤c
end Kx
namespace L2
open PySem PySem.Spec PyProof.Rows Wd
section
variable {X : Cx} {tg : Expr}
def iSq (K : PySem.W.Frag)(tl : TE) : TI := fun σ H R => tl σ H fun x H1 => ∃ a xs, x = .ref a ∧ ((SqL K H1 a xs ∧ R (Itl K a) H1) ∨ (SqT K H1 a xs ∧ R (Itt K a) H1))
theorem sO {l : Expr}{tl : TE}(hl : PE X l tl) : PI X tg l (iSq X.K tl) := by
  intro pins s σ H R I h
  refine thn (hl pins s σ H _ I h) fun v s1 zq1 => ?_
  obtain ⟨x, H1, I1, r1, q1⟩ := zq1
  obtain ⟨a, xs, e, hq⟩ := q1
  subst e
  cases r1
  have fp : ∀ b∈[s1.heap.objs.size], gJ X pins H1 b := fun b hb => by
    obtain rfl : b=s1.heap.objs.size := by simpa using hb
    exact I1.fpOk (uG _) (I1.hok.fresh (uG _))
  rcases hq with ⟨hq, q⟩ | ⟨hq, q⟩
  · obtain ⟨its, rv, p, hz⟩ := I1.list hq
    exact yy p.isList ⟨s1.heap.objs.size, [s1.heap.objs.size], _, _, H1, rfl, I1.kept (t' := s1.toks) fun b o e => uC _ e, fG a _, ⟨_, uN _ rfl, rfl, rfl⟩, fp, q⟩
  · obtain ⟨its, rv, p, hz⟩ := I1.tuple hq
    exact wz (show s1.heap.IsTuple a its.toArray from p) ⟨s1.heap.objs.size, [s1.heap.objs.size], _, _, H1, rfl, I1.kept (t' := s1.toks) fun b o e => uC _ e, eO a _, ⟨_, uN _ rfl, rfl, rfl⟩, fp, q⟩
end
end L2
namespace Kx
open PySem PySem.Spec PyProof.Rows L2 Wd
def dV : V → PyData
  | .int i => .int i
  | .str z => .str z
  | _ => .none
end Kx
namespace Wd
structure SK (u : List L) (k : Nat) : Prop where
  pm : u.Perm (fam k)
  lo : 1≤k
  hi : k≤6
theorem oN {k : Nat}(h : k≤6) : (fam k).length=2*k := (iR ⟨k, by omega⟩).2.2
theorem SK.len {u : List L}{k : Nat}(h : SK u k) : u.length=2*k := by rw [h.pm.length_eq, oN h.hi]
def rfI (u : List L)(a b : L) : Int := ((u.idxOf b : Int) - (u.idxOf a : Int)) % (u.length : Int)
def ic (u : List L)(x z : L) : Int := if rfI u x z < rfI u x (inv x) then 1 else 0
def sd (u : List L)(x y : L) : Int := ic u x y - ic u x (inv y)
def lt6 (j : Nat) : L := if h : j < 12 then ⟨j, h⟩ else 0
end Wd
namespace L2
open PySem PySem.Spec PyProof.Rows
section
variable {X : Cx}
end
end L2
namespace Kx
open PySem PySem.Spec PyProof.Rows L2 Wd
def uA (k : Nat) : List L := (List.range k).map lt6++bk ((List.range k).map lt6)
end Kx
namespace L2
open PySem PySem.Spec PyProof.Rows
section
variable {prog : Program} {w : World} {A : Around} {E : Value → Shared → Prop} {s : Shared}
theorem mK {t b : Addr}{ws : List Value}{Q : Value → Shared → Prop}(ht : IsTup s.heap t ([] : List Value).toArray)(hb : IsTup s.heap b ws.toArray)(h1 : Q (.ref b) s) : wpAny (model prog w) A (binaryOp .Add (.ref t) (.ref b)) Q E s := by
  obtain ⟨⟨c1, d1, o1, l1⟩, e1, g1, n, k1⟩ := id ht
  obtain ⟨⟨c2, d2, o2, l2⟩, e2, g2, n2, k2⟩ := id hb
  simp only at g1 k1 g2 k2
  subst g1 k1 g2 k2
  exact concat_meets ⟨_, e1, rfl⟩ ⟨_, e2, rfl⟩ yR seq_tuple_add xD xu (xo _ _) (tuple_addW0 t b _ ws.toArray n n2 d1 d2 l1 l2 rfl) ⟨e1, e2, h1⟩
end
section
variable {X : Cx}
end
end L2
namespace HT
open PySem PySem.Spec PyProof.Rows
section
variable {prog : Program} {w : World} {A : Around} {E : Value → Shared → Prop} {s : Shared}
theorem ky {t sl : Addr}{its : Array Value}{vl vu : Value}{lo hi : Option Int}{Q : Value → Shared → Prop}(ht : IsTup s.heap t its)(hs : s.heap.IsSliceOf sl vl vu .none)(pl : IsPart vl lo)(pu : IsPart vu hi)
    (hw : sIx its.size 0 lo=0 ∧ sIx its.size its.size hi=its.size) (h : Q (.ref t) s) : wpAny (model prog w) A (getItem (.ref t) (.ref sl)) Q E s := by
  obtain ⟨os, hos, hcs, hds⟩ := id hs
  have hTs : s.TypeIs (.ref sl) "slice" := ⟨os, hos, hcs⟩
  unfold getItem
  try with_reducible refine wy ?_
  first | refine fu (uH ?_) | skip
  refine fu (yz ht.typeIs (by decide) ?_)
  refine fu (vB (name := Str.ofString "__getitem__") ht.typeIs vw (vO vw ht.typeIs x9 ?_ (yp _ _)))
  show wpAny _ _ (Builtin.Tuple.tupleItemsOf (.ref t) >>= _) _ _ s
  refine fu (tupleItemsOf_ ht (fu (xJ hTs ?_)))
  rw [if_pos (by decide)]
  refine fu (cm hs pl pu ?_)
  show wpAny _ _ (if (((sIx its.size 0 lo : Nat) : Int) == 0 && (1 : Int) == 1 && (sIx its.size its.size hi - sIx its.size 0 lo) == its.size)=true then _ else _) _ _ s
  rw [if_pos (by rw [hw.1, hw.2];simp)]
  refine fu ?_
  unfold Builtin.Tuple.tupleIsExact
  refine fu (xJ ht.typeIs (uH ?_))
  rw [if_pos (by decide)]
  refine fu (wQ ?_)
  first
    | exact uH ⟨_, rfl, uH h⟩
    | exact fu (uH (uH ⟨_, rfl, uH h⟩))
end
end HT
namespace L2
open PySem PySem.Spec PyProof.Rows Wd
inductive qE (K : PySem.W.Frag)(x : V)(lo : Option Int)(hi : Option Int)(H : Hp)(Q : VK) : Prop
  | mk : ∀ a xs, (x = .ref a) → (SqT K H a xs) → ((dF xs lo hi=xs → Q (.ref a) H)) → (∀ p, H p=none → Q (.ref p) (upd H p (.tup (dF xs lo hi)))) → qE K x lo hi H Q
theorem oO {X : Cx} : SlR X (qE X.K) := by
  intro pins s σ H x v vl vu lo hi sl Q I rx hs pl pu h
  obtain ⟨a, xs, rfl, hx, hw, q⟩ := h
  by_cases hh : HT.sIx xs.length 0 lo=0 ∧ HT.sIx xs.length xs.length hi=xs.length
  · cases rx
    obtain ⟨its, r, ht, hz⟩ := I.tuple hx
    have hlen : its.toArray.size=xs.length := by rw [uK];exact r.length.symm
    have e : dF xs lo hi=xs := by unfold dF;rw [hh.1, hh.2, yu, zj, vZ]
    exact ⟨"tuple", _, vw.lookup, ht.typeIs, HT.ky ht hs pl pu (by rw [hlen];exact hh) ⟨.ref a, H, I, rfl, hw e⟩⟩
  · exact p9 pins s σ H (.ref a) v vl vu lo hi sl Q I rx hs pl pu ⟨a, xs, rfl, hx, hh, q⟩
end L2
namespace L2
open PySem PySem.Spec PyProof.Rows Wd
section
variable {X : Cx}
inductive qF (x : V)(y : V)(H : Hp)(Q : VK) : Prop
  | mk : ∀ a b xs ys, (x = .ref a) → (y = .ref b) → (H a=some (.tup xs)) → (H b=some (.tup ys)) → (xs.length+ys.length≤sizeLine) → (∀ p H', au H H' → H' p=some (.tup (xs++ys)) → Q (.ref p) H') → qF x y H Q
theorem bB : OpR X (binaryOp .Add) qF := by
  intro pins s σ H x y v u Q I rx ry h
  obtain ⟨a, b, xs, ys, ex, ey, ha, hb, hz, q⟩ := h
  by_cases hx : xs=[]
  · subst ex ey hx
    cases rx
    cases ry
    obtain ⟨its, r1, p1, _⟩ := I.tuple (SqT.of ha)
    obtain ⟨its2, r2, p2, _⟩ := I.tuple (SqT.of hb)
    cases r1
    exact mK p1 p2 ⟨.ref b, H, I, rfl, q b H (au.refl _) hb⟩
  · exact n8 pins s σ H x y v u Q I rx ry ⟨a, b, xs, ys, ex, ey, SqT.of ha, SqT.of hb, hx, hz, fun e => q a H (au.refl _) (by rw [e, vF];exact ha), fun _ p hp => q p _ (au.new hp) ab⟩
end
inductive tM (x : V)(lo : Option Int)(hi : Option Int)(H : Hp)(Q : VK) : Prop
  | mk : ∀ a xs, (x = .ref a) → (H a=some (.tup xs)) → (∀ p H', au H H' → H' p=some (.tup (dF xs lo hi)) → Q (.ref p) H') → tM x lo hi H Q
theorem bh {X : Cx} : SlR X tM := by
  intro pins s σ H x v vl vu lo hi sl Q I rx hs pl pu h
  obtain ⟨a, xs, rfl, hx, q⟩ := h
  exact oO pins s σ H _ v vl vu lo hi sl Q I rx hs pl pu ⟨a, xs, rfl, SqT.of hx, fun e => q a H (au.refl _) (by rw [e];exact hx), fun p hp => q p _ (au.new hp) ab⟩
end L2
namespace Kx
open PySem PySem.Spec PyProof.Rows L2 Wd
end Kx
namespace Kx
open PySem PySem.Spec PyProof.Rows L2 Wd
theorem iS : bootBuiltins "bool" = some (.type "bool") := by kernel_rfl
end Kx
namespace L2
open PySem PySem.Spec PyProof.Rows Wd
section
variable {X : Cx}
end
end L2
namespace Wd
def nm (N : List L)(x : L) : L := if x.val < 6 then N.getD x.val 0 else inv (N.getD (x.val - 6) 0)
end Wd
namespace L2
open PySem PySem.Spec PyProof.Rows Wd
theorem gS {α β : Type}(f : α → β){zs ys : List β}(p : ys.Perm zs) : ∀ W : List α, ys=W.map f → ∃ V : List α, V.Perm W ∧ zs=V.map f := by
  induction p with
  | nil =>
    intro W e
    exact ⟨W, .refl _, e⟩
  | cons x _ ih =>
    intro W e
    cases W with
    | nil => cases e
    | cons w W =>
      obtain ⟨e1, e2⟩ := wK e
      obtain ⟨V, h1, h2⟩ := ih W e2
      exact ⟨w::V, h1.cons w, by rw [h2, e1];rfl⟩
  | swap x y l =>
    intro W e
    match W, e with
    | a::b::W, e =>
      obtain ⟨e1, e2⟩ := wK e
      obtain ⟨e2, e3⟩ := wK e2
      exact ⟨b::a::W, List.Perm.swap a b W, by rw [e1, e2, e3];rfl⟩
  | trans _ _ ih1 ih2 =>
    intro W e
    obtain ⟨V, h1, h2⟩ := ih1 W e
    obtain ⟨V2, h3, h4⟩ := ih2 V h2
    exact ⟨V2, h3.trans h1, h4⟩
section
variable {X : Cx}
end
end L2
namespace Kx
open PySem PySem.Spec PyProof.Rows L2 Wd
end Kx
namespace PySem
open Sem (wp)
section
variable {prog : Program} {w : World} {A : Around} {E : Value → Shared → Prop} {s : Shared}
section
variable {R : Result → Shared → Prop} {I : Addr} {fp wr : List Addr} {G : Array GenState → Array GenState → Prop} {n : Nat} {P : Nat → Value → Prop} {St : Nat → Shared → Prop}
end
end
end PySem
namespace PySem
open Sem (wp)
section
variable {prog : Program} {w : World} {A : Around} {E : Value → Shared → Prop} {s : Shared}
end
end PySem
namespace PySem
open Sem (wp)
section
variable {prog : Program} {w : World} {A : Around} {E : Value → Shared → Prop} {s : Shared}
section
variable {R : Result → Shared → Prop} {I : Addr} {fp wr : List Addr} {G : Array GenState → Array GenState → Prop} {n : Nat} {P : Nat → Value → Prop} {St : Nat → Shared → Prop}
end
end
end PySem
namespace PySem
open Sem (wp)
section
variable {prog : Program} {w : World} {A : Around} {E : Value → Shared → Prop} {s : Shared}
end
end PySem
namespace PySem
open Sem (wp)
section
variable {prog : Program} {w : World} {A : Around} {E : Value → Shared → Prop} {s : Shared}
end
end PySem
namespace PySem
open Sem (wp)
section
variable {prog : Program} {w : World} {A : Around} {E : Value → Shared → Prop} {s : Shared}
end
end PySem
namespace Ts
open PySem PyProof.Rows
section
variable {prog : Program} {w : World} {A : Around} {E : Value → Shared → Prop} {s : Shared} {κ : KeyKind}
end
end Ts
namespace Ts
open PySem PyProof.Rows
end Ts
namespace Ts
open PySem PyProof.Rows
variable {κ : KeyKind}
end Ts
namespace Ts
open PySem PyProof.Rows
section
variable {prog : Program} {w : World} {A : Around} {E : Value → Shared → Prop} {s : Shared} {κ : KeyKind}
end
end Ts
namespace Ts
open PySem PyProof.Rows
variable {κ : KeyKind}
section
variable {prog : Program} {w : World} {A : Around} {E : Value → Shared → Prop} {s : Shared}
end
end Ts
namespace Ts
open PySem PyProof.Rows
variable {κ : KeyKind}
section
variable {prog : Program} {w : World} {A : Around} {E : Value → Shared → Prop} {s : Shared}
end
end Ts
namespace Ts
open PySem PyProof.Rows
variable {κ : KeyKind}
section
variable {prog : Program} {w : World} {A : Around} {E : Value → Shared → Prop} {s : Shared}
end
end Ts
namespace Ts
open PySem PyProof.Rows
variable {κ : KeyKind}
section
variable {prog : Program} {w : World} {A : Around} {E : Value → Shared → Prop} {s : Shared}
end
end Ts
namespace Ts
open PySem PyProof.Rows
variable {κ : KeyKind}
section
variable {prog : Program} {w : World} {A : Around} {E : Value → Shared → Prop} {s : Shared}
end
end Ts
namespace Ts
open PySem PyProof.Rows
variable {κ : KeyKind}
section
variable {prog : Program} {w : World} {A : Around} {E : Value → Shared → Prop} {s : Shared}
end
end Ts
namespace L2
open PySem PySem.Spec PyProof.Rows
section
variable {prog : Program} {w : World} {A : Around} {E : Value → Shared → Prop} {s : Shared}
end
section
variable {X : Cx}
end
section
variable {prog : Program} {w : World} {A : Around} {E : Value → Shared → Prop} {s : Shared}
end
section
variable {X : Cx}
end
end L2
namespace Tv
open PySem PyProof.Rows
def Pr (h : Heap)(v : Value)(i j : Int) : Prop := ∃ (a : Addr) (o : Obj) (t u : Tok) (n : Nat), v = .ref a ∧ h.get? a=some o ∧ o.cls = .type "tuple" ∧ o.data = .seq #[.int i t, .int j u] n
theorem Pr.one {h : Heap}{v : Value}{i j k l : Int}(x : Pr h v i j)(y : Pr h v k l) : (i, j)=(k, l) := by
  obtain ⟨a, o, t, u, n, rfl, e, _, d⟩ := x
  obtain ⟨a', o', t', u', n', e0, e', _, d'⟩ := y
  cases e0
  rw [e] at e'
  cases e'
  rw [d] at d'
  injection d' with d1 _
  have d1 := vz Array.toList d1
  simp only [y9, Value.int.injEq, and_true] at d1
  rw [d1.1.1, d1.2.1]
open Classical in
def pD (h : Heap)(v : Value) : Option (Int × Int) := if hx : ∃ p : Int × Int, Pr h v p.1 p.2 then some (Classical.choose hx) else none
theorem Pr.of {h : Heap}{v : Value}{i j : Int}(x : Pr h v i j) : pD h v=some (i, j) := by
  unfold pD
  rw [dif_pos ⟨(i, j), x⟩]
  exact vz some ((Classical.choose_spec (⟨(i, j), x⟩ : ∃ p : Int × Int, Pr h v p.1 p.2)).one x)
theorem Pr.is {h : Heap}{v : Value}{k : Int × Int}(e : pD h v=some k) : Pr h v k.1 k.2 := by
  unfold pD at e
  split at e
  · rename_i hx
    cases e
    exact Classical.choose_spec hx
  · cases e
@[reducible] noncomputable def pairK (h : Heap) : KeyKind where
  α := Int × Int
  blt a b := decide (a.1 < b.1) || (decide (a.1=b.1) && decide (a.2 < b.2))
  irrefl a := by simp
  trans a b c h1 h2 := by simp only [yd, u3, vg] at *;omega
  negTrans a b c h := by simp only [yd, u3, vg] at *;omega
  total a b h1 h2 := by
    simp only [Bool.or_eq_false_iff, Bool.and_eq_false_iff, yP] at *
    exact Prod.ext (by omega) (by omega)
  keyOf v := pD h v
  dflt := (0, 0)
theorem fw (b : Bool)(x y : Value) : keyLt' (tuples' b) x y=(do
    let xs ← Builtin.List.listItems x;let ys ← Builtin.List.listItems y
    for ((p, q), i) in (xs.toList.zip ys.toList).zipIdx do
      if !(← eqBool p q) then return ← oneLt' (b && i == 0) p q
    return xs.size < ys.size) := rfl
section
variable {prog : Program} {w : World} {A : Around} {E : Value → Shared → Prop} {s : Shared}
theorem eZ {b : Bool}{i k : Int}{t u : Tok}{Q : Bool → Shared → Prop}(h : Q (decide (i < k)) s) : wpAny (model prog w) A (oneLt' b (.int i t) (.int k u)) Q E s := by
  cases b with
  | true => exact oneLt_int h
  | false =>
    rw [oneLt'_eq]
    simp only [uZ, vN]
    show wpAny _ _ (compareOp .Lt (.int i t) (.int k u) >>= _) Q E s
    exact fu (wpAny_lt_int (wq h))
theorem oP {b : Bool}{x y : Value}{i j k l : Int}{Q : Bool → Shared → Prop}(hx : Pr s.heap x i j)(hy : Pr s.heap y k l)(h : Q (decide (i < k) || (decide (i=k) && decide (j < l))) s) :
    wpAny (model prog w) A (keyLt' (tuples' b) x y) Q E s := by
  obtain ⟨a, o, t, u, n, rfl, e, _, d⟩ := hx
  obtain ⟨a', o', t', u', n', rfl, e', _, d'⟩ := hy
  rw [fw]
  refine fu (xP e d (fu (xP e' d' ?_)))
  have ez : (#[Value.int i t, Value.int j u].toList.zip #[Value.int k t', Value.int l u'].toList).zipIdx=[((Value.int i t, Value.int k t'), 0), ((Value.int j u, Value.int l u'), 1)] := rfl
  rw [ez, xv]
  refine fu (fu (fu (yQ ?_)))
  by_cases c : i=k
  · subst c
    rw [yT]
    simp only [w9, uZ, vN]
    refine uH ?_
    dsimp only
    rw [xv]
    refine fu (fu (yQ ?_))
    by_cases c2 : j=l
    · subst c2
      rw [yT]
      simp only [w9, uZ, vN]
      refine uH ?_
      dsimp only
      rw [zf]
      refine uH (uH ?_)
      have : decide (#[Value.int i t, Value.int j u].size < #[Value.int i t', Value.int j u'].size)=false := uP (by show ¬ 2 < 2;decide)
      rw [this]
      simpa using h
    · have c3 : (j == l)=false := by simpa using c2
      rw [c3]
      simp only [ze, wj]
      refine fu (eZ (uH (uH (uH ?_))))
      simpa using h
  · have c3 : (i == k)=false := by simpa using c
    rw [c3]
    simp only [ze, wj]
    refine fu (eZ (uH (uH (uH ?_))))
    simpa [c] using h
theorem kz {α β : Type}{g : α → Sem β}{f : α → β} : ∀ {vs : List α} {Q : List β → Shared → Prop}, (∀ v∈vs, ∀ Q : β → Shared → Prop, Q (f v) s → wpAny (model prog w) A (g v) Q E s) → Q (vs.map f) s → wpAny (model prog w) A (vs.mapM g) Q E s
  | [], Q, _, h => by rw [List.mapM_nil];exact uH h
  | v::vs, Q, hg, h => by
    rw [List.mapM_cons]
    refine fu (hg v vf _ (fu (kz (fun u hu => hg u (u6 _ hu)) (uH ?_))))
    exact h
theorem je {vs : List Value}(hv : ∀ v∈vs, ∃ i j, Pr s.heap v i j)(ne : vs≠[]){Q : SortKind → Shared → Prop}(h : Q (tuples' true) s) : wpAny (model prog w) A (keyKind' vs.toArray) Q E s := by
  rw [keyKind'_eq, List.mapM_toArray]
  show wpAny _ _ ((List.toArray <$> vs.mapM firstOfTuple') >>= _) Q E s
  -- what the first bG are
  let f : Value → Option Value := fun v => match v with
    | .ref a => match s.heap.get? a with
      | some o => match o.data with
        | .seq xs _ => xs[0]?
        | _ => none
      | none => none
    | _ => none
  have hf : ∀ v∈vs, ∃ i t, f v=some (.int i t) := fun v hv' => by
    obtain ⟨i, j, a, o, t, u, n, rfl, e, _, d⟩ := hv v hv'
    refine ⟨i, t, ?_⟩
    show (match s.heap.get? a with | some o => (match o.data with | .seq xs _ => xs[0]? | _ => none) | none => none)=_
    rw [e]
    dsimp only
    rw [d]
    rfl
  refine fu (wpAny_map (kz (f := f) (fun v hv' Q' q => ?_) ?_))
  · obtain ⟨i, j, hp⟩ := hv v hv'
    obtain ⟨a, o, t, u, n, rfl, e, hc, d⟩ := hp
    show wpAny _ _ (typeOf (.ref a) >>= fun ty => if (ty != Value.type "tuple")=true then pure none else (do let xs ← Builtin.List.listItems (.ref a);pure xs[0]?)) Q' E s
    refine fu (xJ (T := "tuple") ⟨o, e, hc⟩ ?_)
    have ht : (Value.type "tuple" != Value.type "tuple")=false := by rfl
    rw [ht]
    simp only [uZ, vN]
    refine fu (xP e d (uH ?_))
    have q : Q' (match s.heap.get? a with | some o => (match o.data with | .seq xs _ => xs[0]? | _ => none) | none => none) s := q
    rw [e] at q
    dsimp only at q
    rw [d] at q
    exact q
  · have h1 : ((vs.map f).toArray.all (·.isSome))=true := by
      simp only [List.all_toArray, xQ, vP]
      intro v hv'
      obtain ⟨i, t, e⟩ := hf v hv'
      show (f v).isSome=true
      rw [e]
      rfl
    rw [if_pos h1]
    refine fu (wQ ?_)
    obtain ⟨ns, hI⟩ : ∃ ns, IntsAre ((vs.map f).filterMap id) ns := by
      clear h1 ne hv h
      induction vs with
      | nil => exact ⟨[], .nil⟩
      | cons v r ih =>
        obtain ⟨i, t, e⟩ := hf v vf
        obtain ⟨ns, q⟩ := ih fun u hu => hf u (u6 _ hu)
        refine ⟨i::ns, ?_⟩
        rw [vV, e]
        exact .cons i t q
    have e2 : (vs.map f).toArray.filterMap id=((vs.map f).filterMap id).toArray := by simp
    rw [e2, oneTypeOnly'_eq, List.mapM_toArray, mapM_typeOf_ints hI]
    simp only [map_pure, pure_bind]
    have ne2 : (vs.map f).filterMap id≠[] := by
      cases vs with
      | nil => exact absurd rfl ne
      | cons v r =>
        obtain ⟨i, t, e⟩ := hf v vf
        rw [vV, e]
        simp
    generalize (vs.map f).filterMap id=fs at ne2
    cases fs with
    | nil => exact absurd rfl ne2
    | cons x r =>
      have h0 : (List.map (fun _ => Value.type "int") (x::r)).toArray[0]? = some (Value.type "int") := by simp
      have hall : ((List.map (fun _ => Value.type "int") (x::r)).toArray.all fun y => y == Value.type "int")=true := by
        simp only [List.all_toArray, xQ, vP]
        intro _ _
        rfl
      rw [h0]
      simp only [hall, wj, pure_bind]
      exact uH h
end
end Tv
namespace Ts
open PySem PyProof.Rows
end Ts
namespace L2
open PySem PySem.Spec PyProof.Rows Wd Ts
section
variable {prog : Program} {w : World} {A : Around} {E : Value → Shared → Prop} {s : Shared}
theorem gT {l : Addr}{vs : List Value}{Q : List Value → Shared → Prop}(hl : s.heap.IsTuple l vs.toArray)
    (h : Q vs { s with heap := (s.heap.push (seqObj "list" #[] 0)).update s.heap.objs.size (Obj.mapSeq (· ++ vs.toArray)) }) (hsz : vs.length≤sizeLine := by size_fits) :
    wpAny (model prog w) A (collect (.ref l)) Q E s := by
  obtain ⟨o, ho, hc, n, hd⟩ := id hl
  unfold collect
  refine fu (wpAny_runValue (codeAny_builtin entry_proto_collect' ?_))
  show wpAny _ _ (do again (.builtin "list.__iadd__" ⟨[← newList [], .ref l], []⟩)) _ _ s
  refine fu (xw (uH ⟨Code.quiet_builtin _ (by decide +kernel), codeAny_builtin entry_list_iadd' ?_⟩))
  show wpAny _ _ (Builtin.List.listExtendWith (.ref s.heap.objs.size) (.ref l) (.ref s.heap.objs.size)) _ _ { s with heap := s.heap.push (seqObj "list" #[] 0) }
  unfold Builtin.List.listExtendWith
  have ho' : (s.heap.push (seqObj "list" #[] 0)).get? l=some o := uC _ ho
  refine fu (xJ (T := "tuple") ⟨o, ho', hc⟩ ?_)
  have ht : (Value.type "tuple" == Value.type "tuple")=true := by rfl
  rw [if_pos (by rw [ht];simp)]
  refine fu (xP ho' hd ?_)
  refine fu (xP (xs := #[]) (n := 0) (uN _ rfl) rfl ?_)
  rw [if_neg (by simp)]
  refine fu (yM (xs := #[]) (n := 0) (uN _ rfl) rfl ?_ (vE _) (by show (#[]++vs.toArray).size≤sizeLine+1;simp only [Array.size_append, uK, yf];omega))
  refine uH ?_
  show wpAny (model prog w) A (do
      let o ← load s.heap.objs.size
      match o.data with
      | .seq xs _ => pure xs.toList
      | _ => unsupported "internal:collect") Q E { s with heap := (s.heap.push (seqObj "list" #[] 0)).update s.heap.objs.size (Obj.mapSeq (· ++ vs.toArray)) }
  refine fu (wpAny_load (get?_update_seq (uN _ rfl) _) ?_)
  show wpAny _ _ (pure ((#[] : Array Value)++vs.toArray).toList) Q E _
  rw [show ((#[] : Array Value)++vs.toArray).toList=vs by simp]
  exact uH h
end
section
variable {X : Cx}
end
end L2
namespace Tv
open PySem PyProof.Rows
theorem Pr.keep {h h' : Heap}{v : Value}{i j : Int}(x : Pr h v i j)(k : ∀ b o, h.get? b=some o → h'.get? b=some o) : Pr h' v i j := by
  obtain ⟨a, o, t, u, n, e0, e, c, d⟩ := x
  exact ⟨a, o, t, u, n, e0, k _ _ e, c, d⟩
def lep (p q : Int × Int) : Prop := p.1 < q.1 ∨ (p.1=q.1 ∧ p.2≤q.2)
theorem lep_anti {p q : Int × Int}(h : lep p q)(g : lep q p) : p=q := by
  unfold lep at *
  exact Prod.ext (by omega) (by omega)
theorem fx {α : Type} : ∀ (l : List α), l.zip l=l.map fun x => (x, x)
  | [] => rfl
  | x::r => by rw [List.zip_cons_cons, fx r];rfl
section
variable {prog : Program} {w : World} {A : Around} {E : Value → Shared → Prop} {s : Shared}
theorem gh {zs0 : List (Addr × Int × Int)}{h : Heap}(hp : ∀ z∈zs0, Pr h (.ref z.1) z.2.1 z.2.2){xs : Array Keyed}(pm : xs.Perm (pairsOf (zs0.map fun z => Value.ref z.1)))(hs : SortedToK (pairK h) xs (pairsOf (zs0.map fun z => Value.ref z.1)).size) :
    ∃ zs : List (Addr × Int × Int), zs.Perm zs0 ∧ (xs.map (·.2)).toList=zs.map (fun z => Value.ref z.1) ∧ (zs.map (·.2)).Pairwise lep := by
  have hl : xs.toList.Perm (zs0.map fun z => (Value.ref z.1, Value.ref z.1)) := by
    have := wu.mp pm
    rw [pairsOf_toList, fx, xN] at this
    exact this
  obtain ⟨zs, h1, h2⟩ := L2.gS (fun z : Addr × Int × Int => ((Value.ref z.1, Value.ref z.1) : Keyed)) hl.symm zs0 rfl
  refine ⟨zs, h1, ?_, ?_⟩
  · rw [Array.toList_map, h2, xN]
    rfl
  · have hz : zs.length=xs.size := by rw [← uI, h2, uD]
    rw [xh]
    intro i j hi hj hij
    rw [uD] at hi hj
    have q := hs i j (y6 hij) (by rw [← pm.size_eq];omega)
    have key : ∀ k (hk : k < zs.length), KK (pairK h) xs k=zs[k].2 := fun k hk => by
      unfold KK
      have e : xs[k]? = some (Value.ref zs[k].1, Value.ref zs[k].1) := by
        rw [← vo, h2, u_, uB hk]
        rfl
      rw [e]
      show ((pD h (.ref zs[k].1)).getD (0, 0))=_
      rw [(hp _ (h1.mem_iff.mp (vc hk))).of]
      rfl
    rw [key i hi, key j hj] at q
    rw [List.getElem_map, List.getElem_map]
    have q : (decide (zs[j].2.1 < zs[i].2.1) || (decide (zs[j].2.1=zs[i].2.1) && decide (zs[j].2.2 < zs[i].2.2)))=false := q
    simp only [Bool.or_eq_false_iff, Bool.and_eq_false_iff, yP] at q
    unfold lep
    omega
theorem e6 {a : Addr}{zs0 : List (Addr × Int × Int)}{m : Nat}{P : Fin → Shared → Prop}(at_ : s.heap.get? a=some (seqObj "list" (zs0.map fun z => Value.ref z.1).toArray m))(hp : ∀ z∈zs0, Pr s.heap (.ref z.1) z.2.1 z.2.2)(lim : zs0.length≤sizeLine)
    (q : ∀ (out : Array Value) (zs : List (Addr × Int × Int)), zs.Perm zs0 → out.toList=zs.map (fun z => Value.ref z.1) → (zs.map (·.2)).Pairwise lep → P (.done (.ret .none)) { s with heap := sortedHeap s.heap a (zs0.map fun z => Value.ref z.1) out }) :
    wpAny (model prog w) A (Builtin.«list.sort» ⟨[.ref a], []⟩) P E s := by
  have la := uQ at_
  -- the pairs stay while the list is empty
  have stay : ∀ z∈zs0, Pr (((s.heap.update a (Obj.mapSeq fun _ => #[])).push (seqObj "tuple" (zs0.map fun z => Value.ref z.1).toArray 0)).push (seqObj "list" #[] 0)) (.ref z.1) z.2.1 z.2.2 := fun z hz => by
    obtain ⟨b, o, t, u, n, e0, e, c, d⟩ := hp z hz
    have hba : b≠a := fun x => by
      subst x
      rw [at_] at e
      rw [← uV e] at c
      simp [seqObj] at c
    refine ⟨b, o, t, u, n, e0, ?_, c, d⟩
    exact uC _ (uC _ ((vq _ _ (Ne.symm hba)).trans e))
  refine mn (κ := pairK (((s.heap.update a (Obj.mapSeq fun _ => #[])).push (seqObj "tuple" (zs0.map fun z => Value.ref z.1).toArray 0)).push (seqObj "list" #[] 0))) (kd := tuples' true) at_ ?_ ?_ ?_ (by rw [uD];exact lim) ?_
  · intro p hp'
    rw [pairsOf_toList, fx, xN] at hp'
    obtain ⟨z, hz, rfl⟩ := v7.mp hp'
    exact ⟨_, (stay z hz).of⟩
  · intro E' x y ka kb Q' hx hy hq
    exact oP (Pr.is hx) (Pr.is hy) hq
  · intro x y r e Q' hq
    refine je (fun v hv => ?_) (by simp) hq
    rw [← e] at hv
    obtain ⟨z, hz, rfl⟩ := v7.mp hv
    exact ⟨_, _, stay z hz⟩
  · intro st c1 c2
    obtain ⟨zs, h1, h2, h3⟩ := gh stay c1 c2
    exact q _ zs h1 h2 h3
theorem fy {l : Addr}{zs0 : List (Addr × Int × Int)}{Q : Value → Shared → Prop}(hl : s.heap.IsList l (zs0.map fun z => Value.ref z.1).toArray ∨ s.heap.IsTuple l (zs0.map fun z => Value.ref z.1).toArray)(hp : ∀ z∈zs0, Pr s.heap (.ref z.1) z.2.1 z.2.2)(lim : zs0.length≤sizeLine)
    (q : ∀ (out : Array Value) (zs : List (Addr × Int × Int)), zs.Perm zs0 → out.toList=zs.map (fun z => Value.ref z.1) → (zs.map (·.2)).Pairwise lep → Q (.ref (s.heap.objs.size+1)) { s with heap := sortedAll s.heap (zs0.map fun z => Value.ref z.1) out }) :
    wpAny (model prog w) A (call (.builtin "sorted") [.ref l]) Q E s := by
  have lim' : (zs0.map fun z => Value.ref z.1).length≤sizeLine := by rw [uD];exact lim
  refine Calls.call_function_entry kind_sorted plain_sorted entry_sorted (args_sorted1 _) ?_
  unfold Builtin.«sorted»
  rcases hl with hl | hl
  · refine fu (m := checkCount "sorted" 1 1 _) (uH (fu (collect_list hl (fu (xw ?_)) (hsz := lim'))))
    have z1 : ((s.heap.push (seqObj "list" #[] 0)).update s.heap.objs.size (Obj.mapSeq (· ++ (zs0.map fun z => Value.ref z.1).toArray))).objs.size=s.heap.objs.size+1 := (Heap.size_update ..).trans (size_push' ..)
    have g : (((s.heap.push (seqObj "list" #[] 0)).update s.heap.objs.size (Obj.mapSeq (· ++ (zs0.map fun z => Value.ref z.1).toArray))).push (seqObj "list" (zs0.map fun z => Value.ref z.1).toArray 0)).get? (s.heap.objs.size+1)=some (seqObj "list" (zs0.map fun z => Value.ref z.1).toArray 0) := z1 ▸ uN _ rfl
    have old : ∀ b o, s.heap.get? b=some o → (((s.heap.push (seqObj "list" #[] 0)).update s.heap.objs.size (Obj.mapSeq (· ++ (zs0.map fun z => Value.ref z.1).toArray))).push (seqObj "list" (zs0.map fun z => Value.ref z.1).toArray 0)).get? b=some o := fun b o e =>
      uC _ ((vq _ _ (xk (uQ e))).trans (uC _ e))
    show wpAny _ _ _ _ _ { s with heap := ((s.heap.push (seqObj "list" #[] 0)).update s.heap.objs.size (Obj.mapSeq (· ++ (zs0.map fun z => Value.ref z.1).toArray))).push (seqObj "list" (zs0.map fun z => Value.ref z.1).toArray 0) }
    rw [z1]
    refine fu (wy (vO slot_list_sort ⟨_, g, rfl⟩ entry_list_sort (e6 (zs0 := zs0) g (fun z hz => (hp z hz).keep old) lim fun out zs h1 h2 h3 => ⟨_, rfl, ?_⟩) (args_list_sort _)))
    exact uH ⟨_, rfl, q _ zs h1 h2 h3⟩
  · refine fu (m := checkCount "sorted" 1 1 _) (uH (fu (L2.gT hl (fu (xw ?_)) (hsz := lim'))))
    have z1 : ((s.heap.push (seqObj "list" #[] 0)).update s.heap.objs.size (Obj.mapSeq (· ++ (zs0.map fun z => Value.ref z.1).toArray))).objs.size=s.heap.objs.size+1 := (Heap.size_update ..).trans (size_push' ..)
    have g : (((s.heap.push (seqObj "list" #[] 0)).update s.heap.objs.size (Obj.mapSeq (· ++ (zs0.map fun z => Value.ref z.1).toArray))).push (seqObj "list" (zs0.map fun z => Value.ref z.1).toArray 0)).get? (s.heap.objs.size+1)=some (seqObj "list" (zs0.map fun z => Value.ref z.1).toArray 0) := z1 ▸ uN _ rfl
    have old : ∀ b o, s.heap.get? b=some o → (((s.heap.push (seqObj "list" #[] 0)).update s.heap.objs.size (Obj.mapSeq (· ++ (zs0.map fun z => Value.ref z.1).toArray))).push (seqObj "list" (zs0.map fun z => Value.ref z.1).toArray 0)).get? b=some o := fun b o e =>
      uC _ ((vq _ _ (xk (uQ e))).trans (uC _ e))
    show wpAny _ _ _ _ _ { s with heap := ((s.heap.push (seqObj "list" #[] 0)).update s.heap.objs.size (Obj.mapSeq (· ++ (zs0.map fun z => Value.ref z.1).toArray))).push (seqObj "list" (zs0.map fun z => Value.ref z.1).toArray 0) }
    rw [z1]
    refine fu (wy (vO slot_list_sort ⟨_, g, rfl⟩ entry_list_sort (e6 (zs0 := zs0) g (fun z hz => (hp z hz).keep old) lim fun out zs h1 h2 h3 => ⟨_, rfl, ?_⟩) (args_list_sort _)))
    exact uH ⟨_, rfl, q _ zs h1 h2 h3⟩
end
end Tv
namespace L2
open PySem PySem.Spec PyProof.Rows Wd Tv
section
variable {X : Cx}
theorem ei : ∀ {as : List Addr} {us : List Value}, bc (as.map V.ref) us → us=as.map Value.ref
  | [], _, .nil => rfl
  | a::as, _, .cons r t => by cases r;rw [ei t];rfl
theorem gj : ∀ (as : List Addr), bc (as.map V.ref) (as.map Value.ref)
  | [] => .nil
  | a::as => .cons rfl (gj as)
theorem sP {pins : List (Addr × Obj)}{σ : St}{H : Hp}{s : Shared}(I : Inv X pins σ H s){a : Addr}{i j : Int}(h : H a=some (.tup [.int i, .int j])) : Pr s.heap (.ref a) i j := by
  obtain ⟨its, r, pl, _⟩ := I.tuple (SqT.of h)
  obtain ⟨u1, u2, rfl, ⟨t, rfl⟩, ⟨u, rfl⟩⟩ := lI r
  obtain ⟨o, e, c, n, d⟩ := pl
  exact ⟨a, o, t, u, n, rfl, e, c, d⟩
inductive bP (K : PySem.W.Frag)(xs : List V)(H : Hp)(Q : VK) : Prop
  | mk : ∀ (l : Addr) (zs0 : List (Addr × Int × Int)), (xs=[.ref l]) → (SqL K H l ((zs0.map (·.1)).map V.ref) ∨ SqT K H l ((zs0.map (·.1)).map V.ref)) → (∀ z∈zs0, H z.1=some (.tup [.int z.2.1, .int z.2.2])) →
      (∀ (p : Addr) (zs : List (Addr × Int × Int)), H p=none → zs.Perm zs0 → (zs.map (·.2)).Pairwise lep → Q (.ref p) (upd H p (.lst ((zs.map (·.1)).map V.ref)))) → bP K xs H Q
theorem bY {K : PySem.W.Frag}(hK : X.K=K) : cP X (.builtin "sorted") (bP K) := by
  subst hK
  intro pins s σ H xs us Q I r h
  obtain ⟨l, zs0, rfl, hq, hp, q⟩ := h
  obtain ⟨u, rfl, ru⟩ := cQ r
  cases ru
  have em : ∀ zs : List (Addr × Int × Int), (zs.map (·.1)).map Value.ref=zs.map fun z => Value.ref z.1 := fun zs => by rw [xN];rfl
  obtain ⟨pl, hz⟩ : (s.heap.IsList l (zs0.map fun z => Value.ref z.1).toArray ∨ s.heap.IsTuple l (zs0.map fun z => Value.ref z.1).toArray) ∧ ((zs0.map (·.1)).map V.ref).length≤sizeLine := by
    rcases hq with hq | hq
    · obtain ⟨its, rv, pl, hz⟩ := I.list hq
      rw [ei rv, em] at pl
      exact ⟨.inl pl.isList, hz⟩
    · obtain ⟨its, rv, pl, hz⟩ := I.tuple hq
      rw [ei rv, em] at pl
      exact ⟨.inr pl, hz⟩
  rw [uD, uD] at hz
  refine fy pl (fun z hz' => sP I (hp z hz')) hz fun out zs h1 h2 h3 => ?_
  obtain ⟨e, he⟩ := sortedAll_at s.heap (zs0.map fun z => Value.ref z.1) out
  have I2 : Inv X pins σ (upd H (s.heap.objs.size+1) (.lst ((zs.map (·.1)).map V.ref))) { s with heap := sortedAll s.heap (zs0.map fun z => Value.ref z.1) out, toks := s.toks } :=
    I.laid (fun b o e => sortedAll_old e) (zg _) ⟨by rw [uD, uD, h1.length_eq];exact hz, out.toList, e, by rw [h2, ← em];exact gj _, by simpa [seqObj] using he⟩
  exact ⟨.ref (s.heap.objs.size+1), _, I2, rfl, q _ zs (I.hok.fresh (zg _)) h1 h3⟩
end
end L2
namespace PySem
end PySem
namespace L2
open PySem PySem.Spec PyProof.Rows Wd
section
variable {X : Cx}
end
end L2
namespace HT
open PySem PySem.Spec PyProof.Rows
section
variable {prog : Program} {w : World} {A : Around} {E : Value → Shared → Prop} {s : Shared}
theorem dO {sl : Addr}{tk : Tok}{n : Nat}{Q : Int × Int × Nat → Shared → Prop}(hs : s.heap.IsSliceOf sl .none .none (.int (-1) tk))
    (h : Q ((n : Int) - 1, -1, n) s) : wpAny (model prog w) A (Builtin.Slice.sliceApplied (.ref sl) (pure (n : Int))) Q E s := by
  obtain ⟨os, hos, hcs, hds⟩ := id hs
  unfold Builtin.Slice.sliceApplied Builtin.Slice.sliceFields
  refine fu (fu (vC hos hds (x := .none) rfl (fu (vC hos hds (x := .none) rfl (fu (vC hos hds (x := .int (-1) tk) rfl (uH ?_)))))))
  refine fu (slicePart_int ?_)
  show wpAny _ _ (if ((-1 : Int) == 0)=true then _ else _) _ _ s
  rw [if_neg (by decide)]
  refine fu (yt (fu (yt (fu (uH ?_)))))
  have e : Builtin.Slice.slicePlaces ((n : Int) - 1) (-1) (-1)=n := by
    unfold Builtin.Slice.slicePlaces
    rw [if_neg (by decide)]
    by_cases hn : n=0
    · subst hn;decide
    · rw [if_pos (by omega), show (-(-1) : Int)=1 from rfl, Int.ediv_one];omega
  show wpAny _ _ (pure ((n : Int) - 1, (-1 : Int), Builtin.Slice.slicePlaces ((n : Int) - 1) (-1) (-1))) _ _ s
  rw [e]
  exact uH h
theorem cO {α β : Type}{f : α → Option β}{g : α → β} : ∀ {l : List α}, (∀ m∈l, f m=some (g m)) → l.filterMap f=l.map g
  | [], _ => rfl
  | a::r, h => by rw [List.filterMap_cons_some (h a vf), vV, cO fun m hm => h m (u6 _ hm)]
theorem mL (xs : Array Value) : ((List.range xs.size).filterMap fun (m : Nat) => xs[((xs.size : Int) - 1+(m : Int)*(-1)).toNat]?).toArray=xs.toList.reverse.toArray := by
  congr 1
  have e : ∀ m∈List.range xs.size, xs[((xs.size : Int) - 1+(m : Int)*(-1)).toNat]? = some ((fun m => xs.toList.getD (xs.size - 1 - m) .none) m) := by
    intro m hm
    have hm := xG.mp hm
    have : ((xs.size : Int) - 1+(m : Int)*(-1)).toNat=xs.size - 1 - m := by omega
    rw [this]
    have hlt : xs.size - 1 - m < xs.size := by omega
    simp [List.getD, hlt]
  rw [cO e]
  apply yD
  intro i
  rw [u_]
  by_cases hi : i < xs.size
  · rw [List.getElem?_range hi, w4 (by simpa using hi)]
    have hlt : xs.size - 1 - i < xs.size := by omega
    simp [List.getD, hlt]
  · rw [wg (by simpa using hi), wg (by simp;omega)]
    rfl
theorem dA {t sl : Addr}{items : Array Value}{tk : Tok}{Q : Value → Shared → Prop}(ht : IsTup s.heap t items)(hs : s.heap.IsSliceOf sl .none .none (.int (-1) tk))
    (h : Q (.ref s.heap.objs.size) { s with heap := s.heap.push { cls := .type "tuple", data := .seq items.toList.reverse.toArray } })
    (hsz : items.size≤sizeLine) : wpAny (model prog w) A (getItem (.ref t) (.ref sl)) Q E s := by
  have htake : sizeOk (.seq items.toList.reverse.toArray) := by
    show items.toList.reverse.toArray.size≤sizeLine
    rw [uK, wa, uI]
    exact hsz
  obtain ⟨os, hos, hcs, hds⟩ := id hs
  have hTs : s.TypeIs (.ref sl) "slice" := ⟨os, hos, hcs⟩
  unfold getItem
  try with_reducible refine wy ?_
  first | refine fu (uH ?_) | skip
  refine fu (yz ht.typeIs (by decide) ?_)
  refine fu (vB (name := Str.ofString "__getitem__") ht.typeIs vw
    (vO vw ht.typeIs x9 ?_ (yp _ _)))
  show wpAny _ _ (Builtin.Tuple.tupleItemsOf (.ref t) >>= _) _ _ s
  refine fu (tupleItemsOf_ ht ?_)
  refine fu (xJ hTs ?_)
  rw [if_pos (by decide)]
  refine fu (dO hs ?_)
  show wpAny _ _ (if ((((items.size : Nat) : Int) - 1 == 0 && (-1 : Int) == 1 && items.size == items.size)=true) then _ else _) _ _ s
  rw [if_neg (by simp), mL]
  first
    | exact fu (m := Builtin.Tuple.tupleExact _) (vH (uH ⟨_, rfl, uH h⟩) htake)
    | exact fu (m := Builtin.Tuple.tupleExact _) (vH (fu (uH (uH ⟨_, rfl, uH h⟩))) htake)
    | exact fu (fu (m := Builtin.Tuple.tupleExact _) (vH (uH (uH ⟨_, rfl, uH h⟩)) htake))
    | exact fu (fu (m := Builtin.Tuple.tupleExact _) (vH (uH ⟨_, rfl, uH h⟩) htake))
end
end HT
namespace L2
open PySem PySem.Spec PyProof.Rows Wd
section
variable {X : Cx}
def sQ (te ts : TE) : TE := fun σ H Q => te σ H fun x H1 => ts σ H1 fun k H2 => ∃ a xs, x = .ref a ∧ k = .int (-1) ∧ H2 a=some (.tup xs) ∧ ∀ p, H2 p=none → Q (.ref p) (upd H2 p (.tup xs.reverse))
theorem oQ {e st : Expr}{te ts : TE}{pos p2 : Pos}(he : PE X e te)(hs : PE X st ts) : PE X (.Subscript e (.Slice none none (some st) p2) pos) (sQ te ts) := by
  intro pins s σ H Q I h
  refine Subscript_ (thn (he pins s σ H _ I h) fun v s1 zq1 => ?_)
  obtain ⟨x, H1, I1, r1, q1⟩ := zq1
  refine wpAny_Slice ?_
  rw [yI]
  refine uH ?_
  refine uH ?_
  rw [evalPart_some]
  refine thn (hs pins s1 σ H1 _ I1 q1) fun vs s3 zq2 => ?_
  obtain ⟨k, H3, I3, r3, a, xs, ez, ek, hx, q3⟩ := zq2
  subst ez ek
  cases r1
  obtain ⟨tk, rfl⟩ := r3
  have I4 : Inv X pins σ H3 { s3 with heap := s3.heap.push { cls := .type "slice", data := .fields #[.none, .none, .int (-1) tk] } } := I3.kept (t' := s3.toks) fun b ob q => uC _ q
  obtain ⟨its, r, ht, hz⟩ := I4.tuple (SqT.of (K := X.K) hx)
  show wpAny (model X.prog X.w) X.A (subscriptTail e (.Slice none none (some st) p2) (.ref a) (.ref s3.heap.objs.size)) (EP X pins σ Q) X.xe { s3 with heap := s3.heap.push { cls := .type "slice", data := .fields #[.none, .none, .int (-1) tk] } }
  refine tail_any (ops := [.ref a, .ref s3.heap.objs.size]) ht.typeIs vw.lookup ?_ (by with_unfolding_all rfl)
  refine HT.dA (tk := tk) ht ⟨_, uN _ rfl, rfl, rfl⟩ ?_ (by rw [uK, ← r.length];exact hz)
  refine ⟨.ref _, _, I4.laid (t' := s3.toks) (o := .tup xs.reverse) (fun b ob q => uC _ q) (uG _) ?_, rfl, q3 _ (I4.hok.fresh (uG _))⟩
  refine ⟨by rw [wa];exact hz, _, ?_, IsTup.new _ _, .new _ _ rfl⟩
  exact r.reverse
end
end L2
namespace Kx
open PySem PySem.Spec PyProof.Rows L2 Wd
def whV : V → Bool
  | .int _ => true
  | _ => false
inductive Wh (K : PySem.W.Frag)(H : Hp) : V → Prop
  | mk {x : V} {n : String} {b1 b2 : Bool} (ty : eI K H x (.type n)) (e1 : PySem.W.kitOne K (.type n) (.type "int")=some b1) (e2 : PySem.W.kitOne K (.type n) (.type "bool")=some b2) (h : whV x=(b1 && !b2)) : Wh K H x
theorem qG {K : PySem.W.Frag} : PySem.W.kitOne K (.type "int") (.type "int")=some true := by unfold PySem.W.kitOne; rw [if_pos (by rfl)]
theorem qH {K : PySem.W.Frag} : PySem.W.kitOne K (.type "int") (.type "bool")=some false := by kernel_rfl
theorem qI {K : PySem.W.Frag} : PySem.W.kitOne K (.type "bool") (.type "int")=some true := by kernel_rfl
theorem qJ {K : PySem.W.Frag} : PySem.W.kitOne K (.type "bool") (.type "bool")=some true := by unfold PySem.W.kitOne; rw [if_pos (by rfl)]
theorem qK {K : PySem.W.Frag} : PySem.W.kitOne K (.type "NoneType") (.type "int")=some false := by kernel_rfl
theorem qL {K : PySem.W.Frag} : PySem.W.kitOne K (.type "NoneType") (.type "bool")=some false := by kernel_rfl
theorem qM {K : PySem.W.Frag} : PySem.W.kitOne K (.type "str") (.type "int")=some false := by kernel_rfl
theorem qN {K : PySem.W.Frag} : PySem.W.kitOne K (.type "str") (.type "bool")=some false := by kernel_rfl
theorem qO {K : PySem.W.Frag} : PySem.W.kitOne K (.type "list") (.type "int")=some false := by kernel_rfl
theorem qP {K : PySem.W.Frag} : PySem.W.kitOne K (.type "list") (.type "bool")=some false := by kernel_rfl
theorem qQ {K : PySem.W.Frag} : PySem.W.kitOne K (.type "tuple") (.type "int")=some false := by kernel_rfl
theorem qR {K : PySem.W.Frag} : PySem.W.kitOne K (.type "tuple") (.type "bool")=some false := by kernel_rfl
theorem mM {K : PySem.W.Frag}{H : Hp}{x : V}{d : PyData}(h : Dt H x d) : Wh K H x := by
  cases h with
  | non => exact .mk .non qK qL rfl
  | bl b => exact .mk (.bl b) qI qJ rfl
  | int i => exact .mk (.int i) qG qH rfl
  | str z => exact .mk (.str z) qM qN rfl
  | lst e q => exact .mk (.lst e) qO qP rfl
  | tup e q => exact .mk (.tup e) qQ qR rfl
theorem Wh.same {K : PySem.W.Frag}{H H' : Hp}{x : V}(s : au H H')(h : Wh K H x) : Wh K H' x := by
  obtain ⟨ty, e1, e2, h⟩ := h
  exact .mk (ty.same s fun C => by intro z;cases z) e1 e2 h
inductive gU (K : PySem.W.Frag)(vs : List V)(H : Hp)(Q : VK)(u3_ : XK) : Prop
  | mk : ∀ x, (vs=[x]) → (Wh K H x) → (Q (.bl (whV x)) H) → gU K vs H Q u3_
inductive Cp (K : PySem.W.Frag)(H : Hp) : V → Option (Int × Int) → Prop
  | cap {a : Addr} {i j : Int} (h : H a=some (.tup [.int i, .int j])) : Cp K H (.ref a) (some (i, j))
  | tup {a : Addr} {xs : List V} (h : H a=some (.tup xs)) (hx : ∀ y∈xs, Wh K H y) (hl : xs.length≤400) (ne : ¬ (xs.length=2 ∧ xs.all whV=true)) : Cp K H (.ref a) none
  | oth {x : V} {n : String} (ty : eI K H x (.type n)) (e : PySem.W.kitOne K (.type n) (.type "tuple")=some false) : Cp K H x none
theorem Cp.same {K : PySem.W.Frag}{H H' : Hp}{x : V}{c : Option (Int × Int)}(s : au H H')(h : Cp K H x c) : Cp K H' x c := by
  cases h with
  | cap h => exact .cap (s _ _ h)
  | tup h hx hl ne => exact .tup (s _ _ h) (fun y hy => (hx y hy).same s) hl ne
  | oth ty e => exact .oth (ty.same s fun C => by intro z;cases z) e
theorem qS {K : PySem.W.Frag}{H : Hp}{a : Addr}{xs : List V}(h : H a=some (.tup xs))(hx : ∀ y∈xs, Wh K H y)(hl : xs.length≤400) : ∃ c, Cp K H (.ref a) c := by
  by_cases ne : xs.length=2 ∧ xs.all whV=true
  · obtain ⟨n2, al⟩ := ne
    match xs, n2 with
    | [x, y], _ =>
      have al : (whV x && (whV y && true))=true := al
      rw [Bool.and_true, u3] at al
      cases x with
      | int i =>
        cases y with
        | int j => exact ⟨_, .cap h⟩
        | _ => exact absurd al.2 (by simp [whV])
      | _ => exact absurd al.1 (by simp [whV])
  · exact ⟨_, .tup h hx hl ne⟩
inductive Cs (K : PySem.W.Frag)(H : Hp) : V → Option (List (Option (Int × Int))) → Prop
  | tup {a : Addr} {xs : List V} {cs : List (Option (Int × Int))} (h : H a=some (.tup xs)) (hx : ∀ (i : Nat) (x : V), xs[i]? = some x → ∃ c, cs[i]? = some c ∧ Cp K H x c) (hl : xs.length≤400) (hc : cs.length=xs.length) : Cs K H (.ref a) (some cs)
  | oth {x : V} {n : String} (ty : eI K H x (.type n)) (e : PySem.W.kitOne K (.type n) (.type "tuple")=some false) : Cs K H x none
theorem Cs.same {K : PySem.W.Frag}{H H' : Hp}{x : V}{c : Option (List (Option (Int × Int)))}(s : au H H')(h : Cs K H x c) : Cs K H' x c := by
  cases h with
  | tup h hx hl hc => exact .tup (s _ _ h) (fun i x e => let ⟨c, h1, h2⟩ := hx i x e;⟨c, h1, h2.same s⟩) hl hc
  | oth ty e => exact .oth (ty.same s fun C => by intro z;cases z) e
def fst (c : Option (Int × Int)) : Int := match c with | some (i, _) => i | none => 0
end Kx
namespace Kx
open PySem PySem.Spec PyProof.Rows L2 Wd
end Kx
namespace L2
open PySem PySem.Spec PyProof.Rows Wd
section
variable {X : Cx}
end
end L2
namespace HT
open PySem PySem.Spec PyProof.Rows PySem.SeqAt
end HT
namespace L2
open PySem PySem.Spec PyProof.Rows Wd
section
variable {X : Cx}
end
theorem qT : bootBuiltins "enumerate" = some (.type "enumerate") := by kernel_rfl
end L2
namespace L2
open PySem PySem.Spec PyProof.Rows
section
variable {M : Model} {A : Around} {E : Value → Shared → Prop} {s : Shared}
end
end L2
namespace L2
open PySem PySem.Spec PyProof.Rows
section
variable {P : Program} {w : World} {H : Hp} {h h' : Heap} {fs : List Addr} {e C : Addr} {d : Option Addr} {b : Bool} {fl : Value}
end
section
variable {P : Program} {w : World} {K : PySem.W.Frag} {mg : Str → Option Value} {base : Heap} {N : List Str} {qual : Str} {scope : Scope} {f : Addr} {cd : Value} {A : Around} {outer : List Env} {s : Shared} {H : Hp} {E : XK}
end
end L2
namespace L2
open PySem PySem.Spec PyProof.Rows
section
variable {prog : Program} {w : World} {A : Around} {E : Value → Shared → Prop} {h : Heap} {g : Array GenState} {d : Drawn} {t : Nat} {os : OsState} {K : PySem.W.Frag} {C fI : Addr} {bm : List Value}
end
section
variable {X : Cx} {k : Nat} {f C : Addr} {fd : FuncData} {ps : List Str} {sp : Sp} {x : Str} {p pos : Pos} {e : Expr} {es : List Expr} {t : TA} {bm : List Value}
end
end L2
namespace L2
open PySem PySem.Spec PyProof.Rows Builtin Builtin.ObjectAttr
section
variable {prog : Program} {w : World} {A : Around} {E : Value → Shared → Prop} {h : Heap} {g : Array GenState} {d : Drawn} {t : Nat} {os : OsState} {K : PySem.W.Frag} {C e : Addr} {bm : List Value} {oe : Obj} {vs : Array Value}
section
variable {name : Str} {v : Value} {mA : Str → Option Value}
end
end
end L2
namespace L2
open PySem PySem.Spec PyProof.Rows
section
variable {X : Cx} {pins : List (Addr × Obj)} {σ : St} {H : Hp} {s : Shared} {A : Around} {E : Value → Shared → Prop} {a C : Addr} {b : Bool} {f : Str} {y : V} {u : Value} {Q : Unit → Shared → Prop}
end
section
variable {X : Cx} {o e value : Expr} {es : List Expr} {f x : Str} {p pos pos' apos : Pos} {ta tv te : TE} {t : TA} {R : Addr} {E : XK}
end
end L2
namespace L2
open PySem PySem.Spec PyProof.Rows
section
variable {prog : Program} {w : World} {A : Around} {E : Value → Shared → Prop} {s : Shared} {K : PySem.W.Frag} {C a : Addr} {bm : List Value} {oe : Obj} {od : Option Obj} {name : Str} {fill expr : Bool} {tk : Tok}
end
section
variable {X : Cx} {pins : List (Addr × Obj)} {σ : St} {H : Hp} {s : Shared} {A : Around} {E : Value → Shared → Prop} {a C dx : Addr} {b : Bool} {fs : List (Str × V)} {f : Str} {v : V}
end
section
variable {X : Cx} {e : Expr} {f : Str} {pos : Pos} {ta : TE}
end
end L2
namespace L2
open PySem PySem.Spec PyProof.Rows
section
variable {X : Cx} {pins : List (Addr × Obj)} {σ : St} {H : Hp} {s : Shared}
end
section
variable {M : Model} {A : Around} {E : Value → Shared → Prop} {s : Shared}
end
end L2
namespace L2
open PySem PySem.Spec PyProof.Rows
section
variable {X : Cx} {E : XK} {x : Str} {ps : List Str} {k j : Nat} {sp : Sp} {e a b : Expr} {es : List Expr} {t : TA} {te tb : TE} {tt : TT} {p pos pos' : Pos}
end
end L2
namespace L2
open PySem PySem.Spec PyProof.Rows
section
variable {K : PySem.W.Frag} {C R N : Addr} {dd d0 : Option Addr} {c0 oc : Value} {cd cdR : ClassData} {k0 k1 k2 k3 k5 : Option Value} {sl sl' : Array (Option Value)} {es : Array DictEntry} {n : Nat} {bm bm' : List Value}
end
end L2
namespace L2
open PySem PySem.Spec PyProof.Rows
section
variable {X : Cx} {x : Str} {C : Addr} {names : List Str} {k j : Nat} {e : Expr} {es : List Expr} {t : TA} {p pos : Pos}
end
section
variable {K : PySem.W.Frag} {C dx a : Addr} {b : Bool} {H : Hp}
end
section
variable {X : Cx} {K : PySem.W.Frag} {e : Expr} {f : Str} {pos : Pos} {ta : TE}
end
end L2
namespace L2
open PySem PySem.Spec PyProof.Rows
section
variable {X : Cx} {E : XK} {e a b c : Expr} {te ta tb : TE} {tA : TT} {pos : Pos}
end
end L2
namespace L2
open PySem PySem.Spec PyProof.Rows
section
variable {X : Cx} {x : Str} {ps : List Str} {k j : Nat} {sp : Sp} {e : Expr} {es : List Expr} {t : TA} {p pos : Pos}
end
section
variable {prog : Program} {w : World} {A : Around} {E : Value → Shared → Prop} {h : Heap} {g : Array GenState} {d : Drawn} {t : Nat} {os : OsState} {K : PySem.W.Frag} {C : Addr} {bm : List Value}
end
end L2
namespace Kx
open PySem PySem.Spec PyProof.Rows L2 Wd
end Kx
namespace Kx
open PySem PySem.Spec PyProof.Rows L2 Wd
structure Bt0 (mg : Str → Option Value) : Prop where
  len : mg "len" = none
  repr : mg "repr" = none
  abs : mg "abs" = none
  max : mg "max" = none
  int : mg "int" = none
  list : mg "list" = none
  range : mg "range" = none
  reversed : mg "reversed" = none
  min : mg "min" = none
  sorted : mg "sorted" = none
  tuple : mg "tuple" = none
  isinstance : mg "isinstance" = none
  all : mg "all" = none
  str : mg "str" = none
  zip : mg "zip" = none
theorem dec_int (j n : Nat) : decide (V.int (0+(j : Int))=V.int (n : Int))=decide (n=j) := by
  by_cases e : n=j
  · subst e;simp
  · rw [uP e, uP]
    intro z
    have := V.int.inj z
    omega
end Kx
namespace L2
open PySem PySem.Spec PyProof.Rows
open Builtin
theorem dP : fillsNumberSlot (.type "tuple") "mul" = pure false :=
  PySem.fillsNumberSlot_seq (id := "tuple.__mul__") (r := some (.builtin "tuple.__rmul__")) F.slot_tuple_mul.lookup (by decide +kernel) F.slot_tuple_rmul.lookup (by decide +kernel)
theorem gk : seqRepeat? (.type "tuple")=pure (some (.builtin "tuple.__mul__")) := by
  unfold seqRepeat?
  rw [PySem.seqSlot_of (T := "tuple") (name := "__mul__") (id := "tuple.__mul__") F.slot_tuple_mul.lookup (by decide +kernel), PySem.seqSlot_of (T := "tuple") (name := "__rmul__") (id := "tuple.__rmul__") F.slot_tuple_rmul.lookup (by decide +kernel)]
  rfl
theorem eM (a : Int)(t : Tok)(l : Addr)(items : Array Value)(n : Nat)(od : Option Addr)(osl : Array (Option Value)) :
    Meets (Builtin.«int.__rmul__» ⟨[.int a t, .ref l], []⟩) (fun _ R s => s.heap.get? l=some { cls := .type "tuple", dict := od, data := .seq items n, slots := osl } ∧ R (.ok (.ret Value.notImplemented)) s) :=
  .of_wp fun prog w A R s h => by
    obtain ⟨hp, g, d, tk, os⟩ := s
    obtain ⟨hl, h⟩ := h
    wp_walk
    exact ⟨_, rfl, h⟩
theorem iT (x : Value)(k : Nat) : (List.replicate k #[x]).foldl (· ++ ·) #[]=(List.replicate k x).toArray := by
  have := fQ [x] k []
  rw [List.nil_append] at this
  have e : (List.replicate k [x]).flatten=List.replicate k x := by
    clear this
    induction k with
    | zero => rfl
    | succ k ih => rw [xj, v9, ih];rfl
  rw [e] at this
  exact this
theorem fz (k : Int)(t : Tok)(l : Addr)(x : Value)(n : Nat)(od : Option Addr)(osl : Array (Option Value))(h2 : 2≤k)(h9 : k < 1000) :
    Meets (Builtin.«tuple.__mul__» ⟨[.ref l, .int k t], []⟩) (fun _ R s => s.heap.get? l=some { cls := .type "tuple", dict := od, data := .seq #[x] n, slots := osl } ∧ R (.ok (.ret (.ref s.heap.objs.size))) { s with heap := s.heap.push { cls := .type "tuple", data := .seq ((List.replicate k.toNat #[x]).foldl (· ++ ·) #[]) } }) :=
  .of_wp fun prog w A R s h => by
    obtain ⟨hp, g, d, tk, os⟩ := s
    obtain ⟨hl, h⟩ := h
    wp_walk
    rw [if_neg (by simp only [yd, vg];omega)]
    wp_walk
    dsimp only
    rw [if_neg (by simp;omega)]
    rw [if_neg (by simp;omega)]
    rw [if_neg (by simp;omega)]
    rw [if_neg (by simp [Tuple.tupleTooMany, sizeLine];omega)]
    wp_walk
    rw [iT] at h ⊢
    rw [if_neg (by simp [x8];omega)]
    wp_walk
    exact ⟨_, rfl, h⟩
theorem gX (t : Tok)(l : Addr)(x : Value)(n : Nat)(od : Option Addr)(osl : Array (Option Value)) :
    Meets (Builtin.«tuple.__mul__» ⟨[.ref l, .int 1 t], []⟩) (fun _ R s => s.heap.get? l=some { cls := .type "tuple", dict := od, data := .seq #[x] n, slots := osl } ∧ R (.ok (.ret (.ref l))) s) :=
  .of_wp fun prog w A R s h => by
    obtain ⟨hp, g, d, tk, os⟩ := s
    obtain ⟨hl, h⟩ := h
    wp_walk
    exact ⟨_, rfl, h⟩
section
variable {X : Cx}
inductive qU (x : V)(y : V)(H : Hp)(Q : VK) : Prop
  | mk : ∀ (a : Addr) (k : Int) (z : V), (x = .ref a) → (y = .int k) → (H a=some (.tup [z])) → (1≤k) → (k < 1000) → (∀ (p : Addr) (H' : Hp), au H H' → H' p=some (.tup (List.replicate k.toNat z)) → Q (.ref p) H') → qU x y H Q
theorem iU {z : V}{u : Value}(r : bJ z u) : ∀ n, bc (List.replicate n z) (List.replicate n u)
  | 0 => .nil
  | n+1 => .cons r (iU r n)
theorem oR : OpR X (binaryOp .Mult) qU := by
  intro pins s σ H x y v u Q I rx ry h
  obtain ⟨a, k, z, rfl, rfl, hH, h1, h9, q⟩ := h
  cases rx
  obtain ⟨t, rfl⟩ := ry
  obtain ⟨its, r, pl, hz⟩ := I.tuple (SqT.of hH)
  obtain ⟨u0, rfl, r0⟩ := cQ r
  obtain ⟨o, e, c, n, d⟩ := pl
  obtain ⟨oc, od, odt, osl⟩ := o
  have c : oc = .type "tuple" := c
  have d : odt = .seq #[u0] n := d
  subst c d
  refine wpAny_binaryOp_repeat_ref (T := "tuple") (U := "int") (by decide) ⟨_, e, rfl⟩ (fun s' => typeIs_int s' k t) dP F.fills_int_mul F.slot_int_rmul gk F.slot_int_index.lookup
    (xp F.slot_int_rmul (typeIs_int s k t) F.entry_int_rmul (F.args_int_rmul_2 _ _) (eM k t a #[u0] n od osl) ⟨e, rfl, ⟨_, e, rfl⟩, ?_⟩)
  by_cases k1 : k=1
  · subst k1
    refine xp F.slot_tuple_mul ⟨_, e, rfl⟩ F.entry_tuple_mul (F.args_tuple_mul_2 _ _) (gX t a u0 n od osl) ⟨e, ?_⟩
    exact ⟨.ref a, H, I, rfl, q a H (au.refl _) hH⟩
  · refine xp F.slot_tuple_mul ⟨_, e, rfl⟩ F.entry_tuple_mul (F.args_tuple_mul_2 _ _) (fz k t a u0 n od osl (by omega) h9) ⟨e, ?_⟩
    rw [iT]
    have l16 : sizeLine=16777216 := x8
    have I2 : Inv X pins σ (upd H s.heap.objs.size (.tup (List.replicate k.toNat z))) { s with heap := s.heap.push { cls := .type "tuple", data := .seq (List.replicate k.toNat u0).toArray }, toks := s.toks } :=
      I.laid (fun b o e => uC _ e) (uG _) ⟨by rw [xI];omega, List.replicate k.toNat u0, iU r0 _, ⟨_, uN _ rfl, rfl, _, rfl⟩, NoD.new _ _ rfl⟩
    exact ⟨.ref s.heap.objs.size, _, I2, rfl, q _ _ (au.new (I.hok.fresh (uG _))) ab⟩
end
end L2
namespace Wd
def jf (W : List (List L)) : List (Int × Int) := (List.range W.length).flatMap fun i => (List.range (W.getD i []).length).map fun p : Nat => ((i : Int), (p : Int))
def ltS (W : List (List L))(p : Int × Int) : Nat := ((W.getD p.1.toNat []).getD p.2.toNat 0).val % 6
def okS (W : List (List L))(p : Int × Int) : Bool := decide (0≤p.1) && decide (p.1 < W.length) && (decide (0≤p.2) && decide (p.2 < (W.getD p.1.toNat []).length))
theorem gY {W : List (List L)}{p : Int × Int} : p∈jf W ↔ okS W p=true := by
  unfold jf okS
  rw [List.mem_flatMap]
  simp only [u3, vg]
  constructor
  · rintro ⟨i, hi, h⟩
    obtain ⟨q, hq, rfl⟩ := v7.mp h
    rw [xG] at hi hq
    simp only [vh]
    omega
  · rintro ⟨⟨h1, h2⟩, h3, h4⟩
    refine ⟨p.1.toNat, xG.mpr (by omega), v7.mpr ⟨p.2.toNat, xG.mpr (by omega), ?_⟩⟩
    exact Prod.ext (by show ((p.1.toNat : Nat) : Int)=p.1;omega) (by show ((p.2.toNat : Nat) : Int)=p.2;omega)
def ltp (p q : Int × Int) : Prop := p.1 < q.1 ∨ (p.1=q.1 ∧ p.2 < q.2)
theorem mN (i : Nat)(n : Nat) : ((List.range n).map fun p : Nat => ((i : Int), (p : Int))).Pairwise ltp := by
  rw [List.pairwise_map]
  refine yE ?_ yZ
  intro a b h
  exact .inr ⟨rfl, by show ((a : Nat) : Int) < (b : Nat);omega⟩
theorem fA (W : List (List L)) : (jf W).Pairwise ltp := by
  unfold jf
  rw [List.pairwise_flatMap]
  refine ⟨fun i _ => mN i _, ?_⟩
  refine yE ?_ yZ
  intro a b h x hx y hy
  obtain ⟨p, _, rfl⟩ := v7.mp hx
  obtain ⟨q, _, rfl⟩ := v7.mp hy
  exact .inl (by show ((a : Nat) : Int) < (b : Nat);omega)
theorem oS {l : List (Int × Int)}(h : l.Pairwise ltp) : l.Nodup := by
  refine yE ?_ h
  rintro a b h rfl
  unfold ltp at h
  omega
def kA (W : List (List L))(l : Nat) : List (Int × Int) := (jf W).filter fun p => decide (ltS W p=l)
theorem mO (W : List (List L))(l : Nat) : (kA W l).Pairwise ltp := (fA W).filter _
abbrev Sg1 := Option (Int × Int)
def okO (W : List (List L)) : Sg1 → Bool
  | some p => okS W p
  | none => false
def prs (cs : List Sg1) : List (Int × Int) := cs.filterMap id
def kB (W : List (List L))(l : Nat) : Option (List Sg1) → Bool
  | some cs => cs.all (okO W) && (prs cs).isPerm (kA W l)
  | none => false
def nH (W : List (List L)) : Nat → List (Option (List Sg1)) → Bool
  | _, [] => true
  | l, c::r => kB W l c && nH W (l+1) r
def tN (W : List (List L))(n : Nat) : Option (List (Option (List Sg1))) → Bool
  | some ds => decide (ds.length=n) && nH W 0 ds
  | none => false
def okL (W : List (List L))(l : Nat) : Sg1 → Bool
  | some p => okS W p && decide (ltS W p=l)
  | none => false
def gZ (W : List (List L))(l : Nat) : Option (List Sg1) → Bool
  | some cs => cs.all (okL W l)
  | none => false
def g0 (W : List (List L)) : Nat → List (Option (List Sg1)) → Bool
  | _, [] => true
  | l, c::r => gZ W l c && g0 W (l+1) r
def g_ (ds : List (Option (List Sg1))) : List (Int × Int) := ds.flatMap fun c => match c with | some cs => prs cs | none => []
def tO (W : List (List L))(n : Nat) : Option (List (Option (List Sg1))) → Bool
  | some ds => decide (ds.length=n) && (g0 W 0 ds && (g_ ds).isPerm (jf W))
  | none => false
def jg (W : List (List L))(l k : Nat) : List (Int × Int) := (jf W).filter fun p => decide (l≤ltS W p) && decide (ltS W p < l+k)
theorem mP (W : List (List L))(l : Nat) : jg W l 0=[] := by
  unfold jg
  rw [wU]
  intro p _
  simp
theorem mQ (W : List (List L))(l k : Nat) : (jg W l (k+1)).Perm (kA W l++jg W (l+1) k) := by
  have nd := oS (fA W)
  refine sM (nd.filter _) ?_ fun x => ?_
  · refine List.nodup_append.mpr ⟨nd.filter _, nd.filter _, ?_⟩
    intro a ha b hb e
    subst e
    have h1 := (vT.mp ha).2
    have h2 := (vT.mp hb).2
    simp at h1 h2
    omega
  · unfold jg kA
    rw [uW, vT, vT, vT]
    simp only [u3, vg]
    constructor
    · rintro ⟨h1, h2, h3⟩
      by_cases e : ltS W x=l
      · exact .inl ⟨h1, e⟩
      · exact .inr ⟨h1, by omega, by omega⟩
    · rintro (⟨h1, h2⟩ | ⟨h1, h2, h3⟩)
      · exact ⟨h1, by omega, by omega⟩
      · exact ⟨h1, by omega, by omega⟩
theorem hG {cs : List Sg1}{p : Int × Int} : p∈prs cs ↔ some p∈cs := by
  unfold prs
  rw [yn]
  simp
theorem iV (W : List (List L)) : ∀ (ds : List (Option (List Sg1))) (l : Nat), nH W l ds=(g0 W l ds && (g_ ds).isPerm (jg W l ds.length))
  | [], l => by
    show true=(true && ([] : List (Int × Int)).isPerm (jg W l 0))
    rw [mP]
    rfl
  | none::r, l => rfl
  | some cs::r, l => by
    have ih := iV W r (l+1)
    show (kB W l (some cs) && nH W (l+1) r)=((gZ W l (some cs) && g0 W (l+1) r) && (prs cs++g_ r).isPerm (jg W l (r.length+1)))
    rw [ih, wZ]
    show ((cs.all (okO W) && (prs cs).isPerm (kA W l)) && (g0 W (l+1) r && (g_ r).isPerm (jg W (l+1) r.length)))=true ↔ ((cs.all (okL W l) && g0 W (l+1) r) && (prs cs++g_ r).isPerm (jg W l (r.length+1)))=true
    simp only [u3, List.isPerm_iff, vP]
    have fs := mQ W l r.length
    constructor
    · rintro ⟨⟨h1, h2⟩, h3, h4⟩
      refine ⟨⟨fun c hc => ?_, h3⟩, (h2.append h4).trans fs.symm⟩
      have o := h1 c hc
      cases c with
      | none => exact o
      | some p =>
        show (okS W p && decide (ltS W p=l))=true
        have o : okS W p=true := o
        have m := h2.mem_iff.mp (hG.mpr hc)
        have := (vT.mp m).2
        rw [o, wd]
        exact this
    · rintro ⟨⟨h1, h2⟩, h3⟩
      have h4 := h3.trans fs
      -- the oH tell the parts apart
      have e1 : (prs cs).filter (fun p => decide (ltS W p=l))=prs cs := List.filter_eq_self.mpr fun p hp => by
        have := h1 _ (hG.mp hp)
        have this : (okS W p && decide (ltS W p=l))=true := this
        rw [u3] at this
        exact this.2
      have far : ∀ (ds : List (Option (List Sg1))) (m : Nat), l < m → g0 W m ds=true → ∀ p∈g_ ds, ltS W p≠l := by
        intro ds
        induction ds with
        | nil => intro m _ _ p hp;cases hp
        | cons c t iht =>
          intro m hm ha p hp
          have ha : (gZ W m c && g0 W (m+1) t)=true := ha
          rw [u3] at ha
          cases c with
          | none => exact absurd ha.1 (by intro z;cases z)
          | some q =>
            have hp : p∈prs q++g_ t := hp
            rcases uW.mp hp with hp | hp
            · have := (vP.mp ha.1) _ (hG.mp hp)
              have this : (okS W p && decide (ltS W p=m))=true := this
              rw [u3, vg] at this
              omega
            · exact iht (m+1) (by omega) ha.2 p hp
      have e2 : (g_ r).filter (fun p => decide (ltS W p=l))=[] := wU.mpr fun p hp => by
        have := far r (l+1) (by omega) h2 p hp
        simpa using this
      have e3 : (kA W l).filter (fun p => decide (ltS W p=l))=kA W l := by unfold kA;rw [List.filter_filter];simp
      have e4 : (jg W (l+1) r.length).filter (fun p => decide (ltS W p=l))=[] := wU.mpr fun p hp => by
        have := (vT.mp hp).2
        simp at this ⊢
        omega
      have q1 := h4.filter (fun p => decide (ltS W p=l))
      rw [xC, xC, e1, e2, e3, e4, vF, vF] at q1
      refine ⟨⟨fun c hc => ?_, q1⟩, h2, ?_⟩
      · have := h1 c hc
        cases c with
        | none => exact this
        | some p =>
          have this : (okS W p && decide (ltS W p=l))=true := this
          rw [u3] at this
          exact this.1
      · exact (List.perm_append_left_iff _).mp (h4.trans (wR _ q1.symm))
theorem sR {W : List (List L)}{n : Nat}(hW : ∀ w∈W, InM n w)(d : Option (List (Option (List Sg1)))) : tN W n d=tO W n d := by
  cases d with
  | none => rfl
  | some ds =>
    show (decide (ds.length=n) && nH W 0 ds)=(decide (ds.length=n) && (g0 W 0 ds && (g_ ds).isPerm (jf W)))
    by_cases h : ds.length=n
    · rw [iV W ds 0, h]
      have : jg W 0 n=jf W := by
        unfold jg
        refine List.filter_eq_self.mpr fun p hp => ?_
        have o := gY.mp hp
        unfold okS at o
        simp only [u3, vg] at o
        simp only [u3, vg]
        refine ⟨vE _, ?_⟩
        obtain ⟨⟨o1, o2⟩, o3, o4⟩ := o
        have hi : p.1.toNat < W.length := by omega
        have g : W.getD p.1.toNat []=W[p.1.toNat] := by rw [u9, uB hi];rfl
        unfold ltS
        rw [g] at o4 ⊢
        have hj : p.2.toNat < W[p.1.toNat].length := by omega
        rw [u9, uB hj]
        have := hW _ (vc hi) _ (vc hj)
        show W[p.1.toNat][p.2.toNat].val % 6 < 0+n
        omega
      rw [this]
    · rw [uP h]
      rfl
end Wd
namespace L2
open PySem PySem.Spec PyProof.Rows
theorem eN {X : Cx}{K : PySem.W.Frag}(hK : X.K=K) : cP X (.type "tuple") (bM K) := by subst hK; exact cb
end L2
namespace Kx
open PySem PySem.Spec PyProof.Rows L2 Wd
theorem eK {t u : TS}{D : gF}{σ : L2.St}{H : Hp}(h : t D σ H) : e_ t u D σ true H := nu h
theorem iW {t u : TS}{D : gF}{σ : L2.St}{H : Hp}(h : u D σ H) : e_ t u D σ false H := lQ h
theorem jk {u : TT}{σ : L2.St}{Q : Bool → Hp → Prop}{H : Hp}(h : Q true H) : ij u σ Q true H := nu h
theorem gn {u : TT}{σ : L2.St}{Q : Bool → Hp → Prop}{H : Hp}(h : u σ H Q) : ij u σ Q false H := lQ h
theorem qV {u : TT}{σ : L2.St}{Q : Bool → Hp → Prop}{H : Hp}(h : u σ H Q) : gG u σ Q true H := nu h
theorem oT {u : TT}{σ : L2.St}{Q : Bool → Hp → Prop}{H : Hp}(h : Q false H) : gG u σ Q false H := lQ h
theorem nkF {Q : Bool → Hp → Prop}{H : Hp}(h : Q true H) : gH Q false H := h
theorem nkT {Q : Bool → Hp → Prop}{H : Hp}(h : Q false H) : gH Q true H := h
theorem az {n : Nat}(h : n≤16777216) : n≤sizeLine := by rw [br]; exact h
inductive Ds (K : PySem.W.Frag)(H : Hp) : V → Option (List (Option (List (Option (Int × Int))))) → Prop
  | tup {a : Addr} {xs : List V} {cs : List (Option (List (Option (Int × Int))))} (h : H a=some (.tup xs)) (hx : ∀ (i : Nat) (x : V), xs[i]? = some x → ∃ c, cs[i]? = some c ∧ Cs K H x c) (hl : xs.length≤400) (hc : cs.length=xs.length) : Ds K H (.ref a) (some cs)
  | oth {x : V} {n : String} (ty : eI K H x (.type n)) (e : PySem.W.kitOne K (.type n) (.type "tuple")=some false) : Ds K H x none
theorem Ds.same {K : PySem.W.Frag}{H H' : Hp}{x : V}{c : Option (List (Option (List (Option (Int × Int)))))}(s : au H H')(h : Ds K H x c) : Ds K H' x c := by
  cases h with
  | tup h hx hl hc => exact .tup (s _ _ h) (fun i x e => let ⟨c, h1, h2⟩ := hx i x e;⟨c, h1, h2.same s⟩) hl hc
  | oth ty e => exact .oth (ty.same s fun C => by intro z;cases z) e
inductive Pl (d e : Addr)(H : Hp)(b : Nat) : Nat → V → Prop
  | flat {n : Nat} {x : V} (h : n_ x=true) : Pl d e H b n x
  | tup {n : Nat} {a : Addr} {xs : List V} (h : H a=some (.tup xs)) (hl : xs.length≤b) (hx : ∀ y∈xs, Pl d e H b n y) : Pl d e H b (n+1) (.ref a)
  | lst {n : Nat} {a : Addr} {xs : List V} (h : H a=some (.lst xs)) (ne : a≠d) (ne2 : a≠e) (hl : xs.length≤b) (hx : ∀ y∈xs, Pl d e H b n y) : Pl d e H b (n+1) (.ref a)
theorem Pl.to {d e : Addr}{H H' : Hp}{b b' : Nat}(hb : b≤b')(k1 : ∀ a xs, H a=some (.tup xs) → H' a=some (.tup xs))(k2 : ∀ a xs, a≠d → a≠e → H a=some (.lst xs) → H' a=some (.lst xs)) : ∀ {n m : Nat} {x : V}, Pl d e H b n x → n≤m → Pl d e H' b' m x := by
  intro n m x h
  induction h generalizing m with
  | flat h => exact fun _ => .flat h
  | tup h hl hx ih =>
    intro hm
    obtain ⟨m, rfl⟩ : ∃ k, m=k+1 := ⟨m - 1, by omega⟩
    exact .tup (k1 _ _ h) (vi hl hb) fun y hy => ih y hy (by omega)
  | lst h ne ne2 hl hx ih =>
    intro hm
    obtain ⟨m, rfl⟩ : ∃ k, m=k+1 := ⟨m - 1, by omega⟩
    exact .lst (k2 _ _ ne ne2 h) ne ne2 (vi hl hb) fun y hy => ih y hy (by omega)
theorem Pl.same {d e : Addr}{H H' : Hp}{b n : Nat}{x : V}(h : Pl d e H b n x)(s : au H H') : Pl d e H' b n x := h.to (uG _) (fun _ _ q => s _ _ q) (fun _ _ _ _ q => s _ _ q) (uG _)
theorem Tp.nt {H : Hp}{d c a : Addr}{xs : List V}(F : Tp H d c)(h : H a=some (.tup xs)) : a≠d := by
  obtain ⟨i, l, t, ns, h1, _⟩ := F.ex
  exact gE h h1 (by intro z;cases z)
theorem Pl.sb {d c e : Addr}{H H' : Hp}{b n : Nat}{x : V}(h : Pl d e H b n x)(F : Tp H d c)(s : a_ d H H') : Pl d e H' b n x := h.to (uG _) (fun _ _ q => s _ _ (F.nt q) q) (fun _ _ ne _ q => s _ _ ne q) (uG _)
theorem Pl.up {d e : Addr}{H : Hp}{b b' n m : Nat}{x : V}(h : Pl d e H b n x)(hb : b≤b')(hn : n≤m) : Pl d e H b' m x := h.to hb (fun _ _ q => q) (fun _ _ _ _ q => q) hn
theorem Pl.fresh {d e l : Addr}{H : Hp}{o : HO}{b n : Nat}{x : V}(h : Pl d e H b n x)(hl : H l=none) : Pl d l (upd H l o) b n x := by
  have s : au H (upd H l o) := au.new hl
  induction h with
  | flat h => exact .flat h
  | tup h hb hx ih => exact .tup (s _ _ h) hb fun y hy => ih y hy
  | lst h ne _ hb hx ih => exact .lst (s _ _ h) ne (ao h hl) hb fun y hy => ih y hy
theorem oU {H : Hp}{a e : Addr}(h : ∃ o, H e=some o)(hn : H a=none) : a≠e := by
  rintro rfl
  obtain ⟨o, h⟩ := h
  rw [hn] at h
  cases h
theorem rM {H H' : Hp}{d c e : Addr}(h : ∃ o, H e=some o)(F : Tp H' d c)(s : a_ d H H') : ∃ o, H' e=some o := by
  by_cases q : e=d
  · subst q
    obtain ⟨i, l, t, ns, h1, _⟩ := F.ex
    exact ⟨_, h1⟩
  · obtain ⟨o, h⟩ := h
    exact ⟨o, s _ _ q h⟩
theorem eo {K : PySem.W.Frag}{H : Hp}{x : V}(h : n_ x=true) : ∃ n, eI K H x (.type n) ∧ PySem.W.kitOne K (.type n) (.type "tuple")=some false := by
  cases x with
  | non => exact ⟨_, .non, mw⟩
  | bl b => exact ⟨_, .bl b, kh⟩
  | int i => exact ⟨_, .int i, mx⟩
  | str z => exact ⟨_, .str z, my⟩
  | _ => cases h
theorem sS {K : PySem.W.Frag}{d e : Addr}{H : Hp}{b n : Nat}{x : V}(h : Pl d e H b n x) : Wh K H x := by
  cases h with
  | flat h =>
    cases x with
    | non => exact .mk .non qK qL rfl
    | bl b => exact .mk (.bl b) qI qJ rfl
    | int i => exact .mk (.int i) qG qH rfl
    | str z => exact .mk (.str z) qM qN rfl
    | _ => cases h
  | tup h _ _ => exact .mk (.tup h) qQ qR rfl
  | lst h _ _ _ _ => exact .mk (.lst h) qO qP rfl
theorem qW {K : PySem.W.Frag}{d e : Addr}{H : Hp}{b n : Nat}{x : V}(h : Pl d e H b n x)(hb : b≤400) : ∃ c, Cp K H x c := by
  cases h with
  | flat h => obtain ⟨n, h1, h2⟩ := eo (K := K) (H := H) h;exact ⟨_, .oth h1 h2⟩
  | tup h hl hx => exact qS h (fun y hy => sS (hx y hy)) (by omega)
  | lst h _ _ _ _ => exact ⟨_, .oth (.lst h) cE⟩
theorem hJ {α β : Type}{P : α → β → Prop} : ∀ {xs : List α}, (∀ y∈xs, ∃ c, P y c) → ∃ cs : List β, cs.length=xs.length ∧ ∀ (i : Nat) (x : α), xs[i]? = some x → ∃ c, cs[i]? = some c ∧ P x c
  | [], _ => ⟨[], rfl, fun i x h => by simp at h⟩
  | y::r, h => by
    obtain ⟨c, hc⟩ := h y vf
    obtain ⟨cs, h1, h2⟩ := hJ (xs := r) fun z hz => h z (u6 _ hz)
    refine ⟨c::cs, by simp [h1], fun i x e => ?_⟩
    cases i with
    | zero => simp at e;subst e;exact ⟨c, rfl, hc⟩
    | succ i => exact h2 i x (by simpa using e)
theorem sT {K : PySem.W.Frag}{d e : Addr}{H : Hp}{b n : Nat}{x : V}(h : Pl d e H b n x)(hb : b≤400) : ∃ c, Cs K H x c := by
  cases h with
  | flat h => obtain ⟨n, h1, h2⟩ := eo (K := K) (H := H) h;exact ⟨_, .oth h1 h2⟩
  | tup h hl hx =>
    obtain ⟨cs, h1, h2⟩ := hJ (P := Cp K H) fun y hy => qW (hx y hy) hb
    exact ⟨_, .tup h h2 (by omega) h1⟩
  | lst h _ _ _ _ => exact ⟨_, .oth (.lst h) cE⟩
theorem sU {K : PySem.W.Frag}{d e : Addr}{H : Hp}{b n : Nat}{x : V}(h : Pl d e H b n x)(hb : b≤400) : ∃ c, Ds K H x c := by
  cases h with
  | flat h => obtain ⟨n, h1, h2⟩ := eo (K := K) (H := H) h;exact ⟨_, .oth h1 h2⟩
  | tup h hl hx =>
    obtain ⟨cs, h1, h2⟩ := hJ (P := Cs K H) fun y hy => sT (hx y hy) hb
    exact ⟨_, .tup h h2 (by omega) h1⟩
  | lst h _ _ _ _ => exact ⟨_, .oth (.lst h) cE⟩
structure Wy4 (n : Nat) (W : List (List L)) (H : Hp) (a : Addr) : Prop where
  at_ : H a=some (.tup (W.map tx))
  le : W.length≤4
  lo : 1≤W.length
  ws : ∀ w∈W, w≠[] ∧ w.length≤15 ∧ InM n w
theorem Wy4.same {n : Nat}{W : List (List L)}{H H' : Hp}{a : Addr}(h : Wy4 n W H a)(s : au H H') : Wy4 n W H' a := ⟨s _ _ h.at_, h.le, h.lo, h.ws⟩
theorem Wy4.sb {n : Nat}{W : List (List L)}{H H' : Hp}{a d c : Addr}(h : Wy4 n W H a)(F : Tp H d c)(s : a_ d H H') : Wy4 n W H' a := ⟨s _ _ (F.nt h.at_) h.at_, h.le, h.lo, h.ws⟩
def StA (H : Hp)(zs : List (Addr × Int × Int)) : Prop := ∀ z∈zs, H z.1=some (.tup [.int z.2.1, .int z.2.2])
theorem StA.same {H H' : Hp}{zs : List (Addr × Int × Int)}(h : StA H zs)(s : au H H') : StA H' zs := fun z hz => s _ _ (h z hz)
theorem StA.app {H : Hp}{zs ys : List (Addr × Int × Int)}(h : StA H zs)(g : StA H ys) : StA H (zs++ys) := fun z hz => (uW.mp hz).elim (h z) (g z)
inductive jh (vs : List V)(H : Hp)(Q : VK)(u3_ : XK) : Prop
  | mk : ∀ (a : Addr) (n : Nat) (W : List (List L)), (vs=[.ref a]) → (Wy4 n W H a) → (∀ (l : Addr) (zs : List (Addr × Int × Int)) (H' : Hp), H l=none → au H H' → H' l=some (.lst ((zs.map (·.1)).map V.ref)) → StA H' zs → zs.map (·.2)=jf W → Q (.ref l) H') → jh vs H Q u3_
inductive oV (vs : List V)(H : Hp)(Q : VK)(u3_ : XK) : Prop
  | mk : ∀ (a : Addr) (n : Nat) (W : List (List L)) (x : L), (vs=[.ref a, tx [x]]) → (x.val < 6) → (Wy4 n W H a) → (∀ (l : Addr) (zs : List (Addr × Int × Int)) (H' : Hp), H l=none → au H H' → H' l=some (.lst ((zs.map (·.1)).map V.ref)) → StA H' zs → zs.map (·.2)=kA W x.val → Q (.ref l) H') → oV vs H Q u3_
inductive oW (vs : List V)(H : Hp)(Q : VK)(u3_ : XK) : Prop
  | mk : ∀ (a p : Addr) (n : Nat) (W : List (List L)) (i j : Int), (vs=[.ref a, .ref p]) → (Wy4 n W H a) → (H p=some (.tup [.int i, .int j])) → (okS W (i, j)=true) → (Q (tx [(W.getD i.toNat []).getD j.toNat 0]) H) → oW vs H Q u3_
inductive dB (K : PySem.W.Frag)(vs : List V)(H : Hp)(Q : VK)(u3_ : XK) : Prop
  | mk : ∀ (a : Addr) (n : Nat) (W : List (List L)) (x : V) (c : Option (Int × Int)), (vs=[.ref a, x]) → (Wy4 n W H a) → (Cp K H x c) → (∀ (H' : Hp), au H H' → Q (.bl (okO W c)) H') → dB K vs H Q u3_
inductive hU (K : PySem.W.Frag)(vs : List V)(H : Hp)(Q : VK)(u3_ : XK) : Prop
  | mk : ∀ (a : Addr) (n : Nat) (W : List (List L)) (y : L) (x : V) (c : Option (List (Option (Int × Int)))), (vs=[.ref a, tx [y], x]) → (y.val < 6) → (Wy4 n W H a) → (Cs K H x c) → (∀ (H' : Hp), au H H' → Q (.bl (kB W y.val c)) H') → hU K vs H Q u3_
inductive hV (K : PySem.W.Frag)(vs : List V)(H : Hp)(Q : VK)(u3_ : XK) : Prop
  | mk : ∀ (u : List L) (a : Addr) (n : Nat) (W : List (List L)) (x : V) (c : Option (List (Option (List (Option (Int × Int)))))), (vs=[tx u, .ref a, x]) → (SK u n) → (Wy4 n W H a) → (Ds K H x c) → (∀ (H' : Hp), au H H' → Q (.bl (tN W n c)) H') → hV K vs H Q u3_
inductive fB (K : PySem.W.Frag)(vs : List V)(H : Hp)(Q : VK)(u3_ : XK) : Prop
  | mk : ∀ (u : List L) (a : Addr) (n : Nat) (W : List (List L)) (x : V) (c : Option (List (Option (List (Option (Int × Int)))))), (vs=[tx u, .ref a, x]) → (SK u n) → (Wy4 n W H a) → (Ds K H x c) → (∀ (H' : Hp), au H H' → Q (.bl (tO W n c)) H') → fB K vs H Q u3_
inductive fC (vs : List V)(H : Hp)(Q : VK)(u3_ : XK) : Prop
  | mk : ∀ u, (vs=[tx u]) → (u.length≤60) → (∀ (v : List L) (H' : Hp), v.length≤u.length → (∀ x∈v, x∈u) → au H H' → Q (tx v) H') → fC vs H Q u3_
inductive fD (vs : List V)(H : Hp)(Q : VK)(u3_ : XK) : Prop
  | mk : ∀ u, (vs=[tx u]) → (u.length≤60) → (∀ (v : List L), v.length≤u.length → (∀ x∈v, x∈u) → Q (tx v) H) → fD vs H Q u3_
inductive hX (vs : List V)(H : Hp)(Q : VK)(u3_ : XK) : Prop
  | mk : ∀ (d c : Addr) (m : Nat) (n : Int), (vs=[.ref d, .int (m : Int), .int n]) → (Tp H d c) → (1≤m) → (m≤6) → (1≤n) → (n≤15) → (∀ (v : List L) (H' : Hp), v≠[] → v.length≤15 → InM m v → Tp H' d c → a_ d H H' → Q (tx v) H') → hX vs H Q u3_
inductive h_ (vs : List V)(H : Hp)(Q : VK)(u3_ : XK) : Prop
  | mk : ∀ (d c : Addr) (m : Nat) (n : Int), (vs=[.ref d, .int (m : Int), .int 4, .int n]) → (Tp H d c) → (1≤m) → (m≤6) → (1≤n) → (n≤15) → (∀ (a : Addr) (W : List (List L)) (H' : Hp), Tp H' d c → a_ d H H' → Wy4 m W H' a → Q (.ref a) H') → h_ vs H Q u3_
inductive kC (vs : List V)(H : Hp)(Q : VK)(u3_ : XK) : Prop
  | mk : ∀ (d c : Addr) (u : List L) (n : Nat) (a : Addr) (W : List (List L)), (vs=[.ref d, tx u, .ref a]) → (Tp H d c) → (SK u n) → (Wy4 n W H a) → (∀ (r : Addr) (xs : List V) (H' : Hp), Tp H' d c → a_ d H H' → H' r=some (.tup xs) → xs.length=n → (∀ y∈xs, Pl d d H' 60 2 y) → Q (.ref r) H') → kC vs H Q u3_
inductive kD (vs : List V)(H : Hp)(Q : VK)(u3_ : XK) : Prop
  | mk : ∀ (d c a p e : Addr) (n : Nat) (W : List (List L)) (i j : Int), (vs=[.ref d, .ref a, .ref p]) → (Tp H d c) → (∃ o, H e=some o) → (Wy4 n W H a) → (H p=some (.tup [.int i, .int j])) → (okS W (i, j)=true) → (∀ (x : V) (H' : Hp), Tp H' d c → a_ d H H' → Pl d e H' 60 1 x → Q x H') → kD vs H Q u3_
inductive ia (vs : List V)(H : Hp)(Q : VK)(u3_ : XK) : Prop
  | mk : ∀ (d c a r e : Addr) (n b : Nat) (W : List (List L)) (xs : List V), (vs=[.ref d, .ref a, .ref r]) → (Tp H d c) → (∃ o, H e=some o) → (Wy4 n W H a) → (H r=some (.tup xs)) → (60≤b) → (b≤300) → (xs.length≤b) → ((∀ y∈xs, Pl d e H b 1 y)) → (∀ (x : V) (H' : Hp), Tp H' d c → a_ d H H' → Pl d e H' (b+1) 2 x → Q x H') → ia vs H Q u3_
inductive ib (vs : List V)(H : Hp)(Q : VK)(u3_ : XK) : Prop
  | mk : ∀ (d c a r e : Addr) (n b : Nat) (W : List (List L)) (xs : List V), (vs=[.ref d, .ref a, .ref r]) → (Tp H d c) → (∃ o, H e=some o) → (Wy4 n W H a) → (H r=some (.tup xs)) → (60≤b) → (b≤300) → (1≤xs.length) → (xs.length≤b) → ((∀ y∈xs, Pl d e H b 2 y)) → (∀ (x : V) (H' : Hp), Tp H' d c → a_ d H H' → Pl d e H' (b+1) 3 x → Q x H') → ib vs H Q u3_
end Kx
namespace Kx
open PySem PySem.Spec PyProof.Rows L2 Wd
def top (i : Nat) : Stmt := PySem.Challenge.pw_ringwords_k34_what_a_drawing_is.main.body.getD i (.Pass ⟨0, 0, 0, 0⟩)
theorem nI {α : Type}{us : List α}(h : us.length=1) : ∃ a0, us=[a0] := by
  cases us with
  | nil => cases h
  | cons a0 us =>
    cases us with
    | nil => exact ⟨a0, rfl⟩
    | cons b us => cases h
theorem pE {α : Type}{us : List α}(h : us.length=2) : ∃ a0 a1, us=[a0, a1] := by
  cases us with
  | nil => cases h
  | cons a0 us =>
    cases us with
    | nil => cases h
    | cons a1 us =>
      cases us with
      | nil => exact ⟨a0, a1, rfl⟩
      | cons b us => cases h
theorem nJ {α : Type}{us : List α}(h : us.length=3) : ∃ a0 a1 a2, us=[a0, a1, a2] := by
  cases us with
  | nil => cases h
  | cons a0 us =>
    cases us with
    | nil => cases h
    | cons a1 us =>
      cases us with
      | nil => cases h
      | cons a2 us =>
        cases us with
        | nil => exact ⟨a0, a1, a2, rfl⟩
        | cons b us => cases h
theorem ux {α : Type}{us : List α}(h : us.length=4) : ∃ a0 a1 a2 a3, us=[a0, a1, a2, a3] := by
  cases us with
  | nil => cases h
  | cons a0 us =>
    cases us with
    | nil => cases h
    | cons a1 us =>
      cases us with
      | nil => cases h
      | cons a2 us =>
        cases us with
        | nil => cases h
        | cons a3 us =>
          cases us with
          | nil => exact ⟨a0, a1, a2, a3, rfl⟩
          | cons b us => cases h
end Kx
namespace Kx
open PySem PySem.Spec PyProof.Rows L2 Wd
section
variable {P : Program} {w : World} {K : PySem.W.Frag} {mg : Str → Option Value} {base : Heap} {aB : Addr}
abbrev gp : Stmt := top 14
theorem oX : aN ["_law_script"] ["_law_script"] (ai gp) := ⟨rfl, rfl, rfl, by decide +kernel, rfl, by decide +kernel, by decide +kernel⟩
theorem qX (D : Df K mg "_law_tape" gp)(T : Bt0 mg) : Fnc P w K mg base "_law_tape" ["_law_script"] 1 (kl K) := by
  have sc := oX
  refine D.ok sc (fun _ _ _ _ _ _ us hl => by obtain ⟨_, rfl⟩ := nI hl;rfl) (fun vs H Q E h => ?_) (fun f cdv A outer s H vs Q E hr h => ?_)
  · obtain ⟨a, ns, rfl, _⟩ := h
    rfl
  · obtain ⟨a, ns, rfl, hS, hlen, k⟩ := h
    refine ⟨_, (@ak _ _ _ (@aE _ _ _ _ (@bF _ _ _ _ (@aa _ _ _ _ _ (@bA _ _ _ _ _ _ _ _ _ cw (by rfl) T.list jS (@aa _ _ _ _ _ (@aA _ _ _ _ _ _ _ _ _ _ jF (pv 0) aO (@aG _ _ _ ah)) ae (by rfl)) (by decide) (by decide) (by rfl) (by rfl)) (@aa _ _ _ _ _ ah (@aa _ _ _ _ _ ah (@aa _ _ _ _ _ ah ae (by rfl)) (by rfl)) (by rfl)) (by rfl))))), ?_⟩
    refine ⟨_, rfl, _, rfl, a, _, rfl, hS, fun q1 hq1 => ?_⟩
    rw [sF hlen]
    have s2 : au H (upd H q1 (.lst (ns.map V.int))) := au.new hq1
    have l2 : (upd H q1 (.lst (ns.map V.int))) q1=some (.lst (ns.map V.int)) := ab
    generalize upd H q1 (.lst (ns.map V.int))=H2 at s2 l2 ⊢
    refine ⟨q1, _, rfl, .inl (SqL.of l2), fun q2 hq2 => ?_⟩
    have s3 : au H2 (upd H2 q2 (.lst (ns.map V.int))) := au.new hq2
    have l3 : (upd H2 q2 (.lst (ns.map V.int))) q2=some (.lst (ns.map V.int)) := ab
    generalize upd H2 q2 (.lst (ns.map V.int))=H3 at s3 l3 ⊢
    refine ⟨(by show 4≤sizeLine;decide), fun d hd => ?_⟩
    have n1 := none_of s2 hq2
    have n0 := none_of s2 (none_of s3 hd)
    exact k d q2 _ n0 n1 ⟨0, 0, 0, ns, ab, (au.new hd) _ _ l3, ao l3 hd, hlen⟩ ((s2.trans s3).trans (au.new hd))
abbrev gq : Stmt := top 15
theorem oY : aN ["_law_tape_here", "_law_many", "_law_spot", "_law_cell", "_law_mixed", "_law_found"] ["_law_tape_here", "_law_many"] (ai gq) := ⟨rfl, rfl, rfl, by decide +kernel, rfl, by decide +kernel, by decide +kernel⟩
theorem qY (D : Df K mg "_law_draw" gq)(T : Bt0 mg) : Fnc P w K mg base "_law_draw" ["_law_tape_here", "_law_many"] 1 bV := by
  have sc := oY
  refine D.ok sc (fun _ _ _ _ _ _ us hl => by obtain ⟨_, _, rfl⟩ := pE hl;rfl) (fun vs H Q E h => ?_) (fun f cdv A outer s H vs Q E hr h => ?_)
  · obtain ⟨d, c, m, rfl, _⟩ := h
    rfl
  · obtain ⟨d, c, m, rfl, F, m0, m1, k⟩ := h
    have hu := sq hr
    refine ⟨_, (@ag _ _ _ _ _ (@fF _ _ _ _ _ _ (@aD _ _ _ _ _ _ _ _ bp (@aR _ _ _ _ _ _ _ aZ (pv 0) ah (fun _ _ => rfl)) ah) (@iq _ _ _ _ _ _ _ (pv 0) ah dQ (by intro _ ;rfl)) (by rfl) (by rfl) (by rfl)) (@ag _ _ _ _ _ (@bD _ _ _ _ _ _ _ _ (@aF _ _ _ _ _ _ _ _ cq (@aR _ _ _ _ _ _ _ aZ (pv 0) ah (fun _ _ => rfl)) ah (aP _)) (@ag _ _ _ _ _ (@aL _ _ (2) _ _ _ _ sc.nd rfl (Or.inl rfl) (@aR _ _ _ _ _ _ _ aZ (pv 0) ah (fun _ _ => rfl)) (by rfl) (by first | exact .inl rfl | exact .inr rfl | assumption)) (@ag _ _ _ _ _ (@fF _ _ _ _ _ _ (@aD _ _ _ _ _ _ _ _ bp (pv 2) ah) (@iq _ _ _ _ _ _ _ (pv 0) ah dQ (by intro _ ;rfl)) (by rfl) (by rfl) (by rfl)) (@ag _ _ _ _ _ (@aL _ _ (3) _ _ _ _ sc.nd rfl (Or.inl rfl) ah (by rfl) (by first | exact .inl rfl | exact .inr rfl | assumption)) (@ag _ _ _ _ _ (@bD _ _ _ _ _ _ _ _ (@aF _ _ _ _ _ _ _ _ lG (@aj _ _ _ _ _ _ _ _ _ aq (by rfl) T.len uT (@aa _ _ _ _ _ (@aR _ _ _ _ _ _ _ aZ (pv 0) ah (fun _ _ => rfl)) ae (by rfl)) (by decide) (by decide) (by rfl) (by rfl)) ah (aP _)) (@ak _ _ _ (@aL _ _ (3) _ _ _ _ sc.nd rfl (Or.inl rfl) (@aR _ _ _ _ _ _ _ aZ (@aR _ _ _ _ _ _ _ aZ (pv 0) ah (fun _ _ => rfl)) (@aD _ _ _ _ _ _ _ _ dC (pv 2) (@aj _ _ _ _ _ _ _ _ _ aq (by rfl) T.len uT (@aa _ _ _ _ _ (@aR _ _ _ _ _ _ _ aZ (pv 0) ah (fun _ _ => rfl)) ae (by rfl)) (by decide) (by decide) (by rfl) (by rfl))) (fun _ _ => rfl)) (by rfl) (by first | exact .inl rfl | exact .inr rfl | assumption))) aQ) (@ag _ _ _ _ _ (@bD _ _ _ _ _ _ _ _ (@PW.pt _ _ _ (@dN _ _ _ _ _ _ _ (@aF _ _ _ _ _ _ _ _ i4 (pv 3) (@aD _ _ _ _ _ _ _ _ pR ah ah) (aP _)) (@cS _ _ _ _ (@aF _ _ _ _ _ _ _ _ se (pv 2) (@aj _ _ _ _ _ _ _ _ _ aq (by rfl) T.len uT (@aa _ _ _ _ _ (@aR _ _ _ _ _ _ _ aZ (pv 0) ah (fun _ _ => rfl)) ae (by rfl)) (by decide) (by decide) (by rfl) (by rfl)) (aP _))))) (@ag _ _ _ _ _ (@aL _ _ (4) _ _ _ _ sc.nd rfl (Or.inl rfl) (@aD _ _ _ _ _ _ _ _ dC (@aD _ _ _ _ _ _ _ _ fH (@aD _ _ _ _ _ _ _ _ bp (@aD _ _ _ _ _ _ _ _ dC (pv 3) ah) (@aD _ _ _ _ _ _ _ _ fH ah (@aR _ _ _ _ _ _ _ aZ (pv 0) ah (fun _ _ => rfl)))) ah) ah) (by rfl) (by first | exact .inl rfl | exact .inr rfl | assumption)) (@ag _ _ _ _ _ (@aL _ _ (4) _ _ _ _ sc.nd rfl (Or.inl rfl) (@aD _ _ _ _ _ _ _ _ dC (@aD _ _ _ _ _ _ _ _ fH (@aD _ _ _ _ _ _ _ _ bp (@aD _ _ _ _ _ _ _ _ cu (pv 4) ah) (@aD _ _ _ _ _ _ _ _ fH ah (@aR _ _ _ _ _ _ _ aZ (pv 0) ah (fun _ _ => rfl)))) ah) ah) (by rfl) (by first | exact .inl rfl | exact .inr rfl | assumption)) (@ak _ _ _ (@aE _ _ _ _ (@aD _ _ _ _ _ _ _ _ dC (@aD _ _ _ _ _ _ _ _ cu (pv 4) ah) (pv 1)))))) aQ) (@ak _ _ _ (@fF _ _ _ _ _ _ (pv 3) (@iq _ _ _ _ _ _ _ (pv 0) ah dQ (by intro _ ;rfl)) (by rfl) (by rfl) (by rfl)))))))) aQ) (@ag _ _ _ _ _ (@aL _ _ (5) _ _ _ _ sc.nd rfl (Or.inl rfl) (@aD _ _ _ _ _ _ _ _ dC (@aR _ _ _ _ _ _ _ aZ (pv 0) ah (fun _ _ => rfl)) (pv 1)) (by rfl) (by first | exact .inl rfl | exact .inr rfl | assumption)) (@ag _ _ _ _ _ (@fF _ _ _ _ _ _ (@aD _ _ _ _ _ _ _ _ cu (@aR _ _ _ _ _ _ _ aZ (pv 0) ah (fun _ _ => rfl)) (pv 1)) (@iq _ _ _ _ _ _ _ (pv 0) ah dQ (by intro _ ;rfl)) (by rfl) (by rfl) (by rfl)) (@ak _ _ _ (@aE _ _ _ _ (pv 5))))))), ?_⟩
    obtain ⟨i, l, t, ns, hd, hc, dc, h63⟩ := F.ex
    have fin : ∀ (r i' l' t' : Int), 0≤r → r < m → Q (.int r) (upd H d (.lst [.ref c, .int i', .int l', .int t'])) := fun r i' l' t' h0 h1 =>
      k r _ h0 h1 ⟨i', l', t', ns, ab, by rw [aC dc];exact hc, dc, h63⟩ a_.upd
    have c1 : ∀ o, (upd H d o) c=some (.lst (ns.map V.int)) := fun o => by rw [aC dc];exact hc
    refine ⟨_, rfl, d, _, _, _, rfl, rfl, SqL.of hd, rfl, _, _, rfl, rfl, _, rfl, d, _, _, _, rfl, rfl, hd, rfl, ?_⟩
    refine ⟨_, rfl, d, _, _, _, rfl, rfl, SqL.of ab, rfl, rfl, _, rfl, ?_⟩
    refine dR (fun _ => ?_) (fun _ => ?_)
    rotate_left
    · refine ⟨_, rfl, d, _, _, _, rfl, rfl, SqL.of ab, rfl, _, rfl, _, _, rfl, rfl, m0, ?_⟩
      refine ⟨_, rfl, d, _, _, _, rfl, rfl, SqL.of ab, rfl, _, rfl, _, _, rfl, rfl, ⟨m0, by omega⟩, _, rfl, d, _, _, _, rfl, rfl, ab, rfl, ?_⟩
      refine ⟨_, rfl, ?_⟩
      rw [dm]
      exact fin _ _ _ _ (wt _ (by omega)) (vX _ m0)
    refine ⟨_, rfl, d, _, _, _, rfl, rfl, SqL.of ab, rfl, ?_⟩
    refine ⟨_, rfl, _, _, rfl, rfl, _, rfl, d, _, _, _, rfl, rfl, ab, rfl, ?_⟩
    rw [dm]
    refine ⟨_, rfl, d, _, _, _, rfl, rfl, SqL.of ab, rfl, c, _, rfl, .inl (SqL.of (c1 _)), _, _, rfl, rfl, _, rfl, ?_⟩
    refine dR (fun h0 => ?_) (fun h0 => ?_)
    · have hne : ns≠[] := by
        intro e
        subst e
        simp at h0
      have hl0 : (0 : Int) < ((ns.map V.int).length : Int) := by
        rw [uD]
        have := ye.mpr hne
        omega
      obtain ⟨n, hn⟩ := ou hne i
      refine ⟨_, rfl, d, _, _, _, rfl, rfl, SqL.of ab, rfl, _, rfl, _, rfl, d, _, _, _, rfl, rfl, SqL.of ab, rfl, c, _, rfl, .inl (SqL.of (c1 _)), _, _, rfl, rfl, hl0, c, _, _, _, rfl, rfl, SqL.of (c1 _), hn, ?_⟩
      refine ⟨_, rfl, _, _, rfl, rfl, ⟨by decide, by decide, by decide⟩, _, _, rfl, rfl, _, rfl, ?_⟩
      refine dR (fun h1 => ?_) (fun h1 => ?_)
      · refine ⟨_, rfl, _, _, rfl, rfl, (by show (0 : Int) < 1000003;decide), _, rfl, d, _, _, _, rfl, rfl, SqL.of ab, rfl, _, _, rfl, rfl, .inl ⟨by decide, by decide⟩, _, _, rfl, rfl, _, _, rfl, rfl, .inr ⟨by decide, by decide⟩, _, _, rfl, rfl, (by show (0 : Int) < 2147483647;decide), ?_⟩
        refine ⟨_, rfl, _, _, rfl, rfl, ⟨by decide, by decide⟩, _, rfl, d, _, _, _, rfl, rfl, SqL.of ab, rfl, _, _, rfl, rfl, .inl ⟨by decide, by decide⟩, _, _, rfl, rfl, _, _, rfl, rfl, .inr ⟨by decide, by decide⟩, _, _, rfl, rfl, (by show (0 : Int) < 2147483587;decide), ?_⟩
        refine ⟨_, rfl, _, _, rfl, rfl, ⟨by decide, by decide⟩, _, rfl, _, _, rfl, rfl, m0, ?_⟩
        exact fin _ _ _ _ (wt _ (by omega)) (vX _ m0)
      · refine ⟨_, rfl, _, rfl, d, _, _, _, rfl, rfl, SqL.of ab, rfl, c, _, rfl, .inl (SqL.of (c1 _)), _, _, rfl, rfl, _, rfl, ?_⟩
        refine dR (fun h2 => ?_) (fun h2 => ?_)
        · refine ⟨_, rfl, _, _, rfl, rfl, (by show (0 : Int) < 1000003;decide), _, rfl, d, _, _, _, rfl, rfl, SqL.of ab, rfl, _, _, rfl, rfl, .inl ⟨by decide, by decide⟩, _, _, rfl, rfl, _, _, rfl, rfl, .inr ⟨by decide, by decide⟩, _, _, rfl, rfl, (by show (0 : Int) < 2147483647;decide), ?_⟩
          refine ⟨_, rfl, _, _, rfl, rfl, ⟨by decide, by decide⟩, _, rfl, d, _, _, _, rfl, rfl, SqL.of ab, rfl, _, _, rfl, rfl, .inl ⟨by decide, by decide⟩, _, _, rfl, rfl, _, _, rfl, rfl, .inr ⟨by decide, by decide⟩, _, _, rfl, rfl, (by show (0 : Int) < 2147483587;decide), ?_⟩
          refine ⟨_, rfl, _, _, rfl, rfl, ⟨by decide, by decide⟩, _, rfl, _, _, rfl, rfl, m0, ?_⟩
          exact fin _ _ _ _ (wt _ (by omega)) (vX _ m0)
        · refine ⟨_, rfl, _, rfl, d, _, _, _, rfl, rfl, ab, rfl, ?_⟩
          rw [dm]
          refine ⟨_, rfl, d, _, _, _, rfl, rfl, SqL.of ab, rfl, _, rfl, _, _, rfl, rfl, m0, ?_⟩
          refine ⟨_, rfl, d, _, _, _, rfl, rfl, SqL.of ab, rfl, _, rfl, _, _, rfl, rfl, ⟨m0, by omega⟩, _, rfl, d, _, _, _, rfl, rfl, ab, rfl, ?_⟩
          refine ⟨_, rfl, ?_⟩
          rw [dm]
          exact fin _ _ _ _ (wt _ (by omega)) (vX _ m0)
    · refine ⟨_, rfl, _, _, rfl, rfl, ⟨by decide, by decide, by decide⟩, _, _, rfl, rfl, _, rfl, ?_⟩
      refine dR (fun h1 => ?_) (fun h1 => ?_)
      · refine ⟨_, rfl, _, _, rfl, rfl, (by show (0 : Int) < 1000003;decide), _, rfl, d, _, _, _, rfl, rfl, SqL.of ab, rfl, _, _, rfl, rfl, .inl ⟨by decide, by decide⟩, _, _, rfl, rfl, _, _, rfl, rfl, .inr ⟨by decide, by decide⟩, _, _, rfl, rfl, (by show (0 : Int) < 2147483647;decide), ?_⟩
        refine ⟨_, rfl, _, _, rfl, rfl, ⟨by decide, by decide⟩, _, rfl, d, _, _, _, rfl, rfl, SqL.of ab, rfl, _, _, rfl, rfl, .inl ⟨by decide, by decide⟩, _, _, rfl, rfl, _, _, rfl, rfl, .inr ⟨by decide, by decide⟩, _, _, rfl, rfl, (by show (0 : Int) < 2147483587;decide), ?_⟩
        refine ⟨_, rfl, _, _, rfl, rfl, ⟨by decide, by decide⟩, _, rfl, _, _, rfl, rfl, m0, ?_⟩
        exact fin _ _ _ _ (wt _ (by omega)) (vX _ m0)
      · refine ⟨_, rfl, _, rfl, d, _, _, _, rfl, rfl, SqL.of ab, rfl, c, _, rfl, .inl (SqL.of (c1 _)), _, _, rfl, rfl, _, rfl, ?_⟩
        refine dR (fun h2 => ?_) (fun h2 => ?_)
        · refine ⟨_, rfl, _, _, rfl, rfl, (by show (0 : Int) < 1000003;decide), _, rfl, d, _, _, _, rfl, rfl, SqL.of ab, rfl, _, _, rfl, rfl, .inl ⟨by decide, by decide⟩, _, _, rfl, rfl, _, _, rfl, rfl, .inr ⟨by decide, by decide⟩, _, _, rfl, rfl, (by show (0 : Int) < 2147483647;decide), ?_⟩
          refine ⟨_, rfl, _, _, rfl, rfl, ⟨by decide, by decide⟩, _, rfl, d, _, _, _, rfl, rfl, SqL.of ab, rfl, _, _, rfl, rfl, .inl ⟨by decide, by decide⟩, _, _, rfl, rfl, _, _, rfl, rfl, .inr ⟨by decide, by decide⟩, _, _, rfl, rfl, (by show (0 : Int) < 2147483587;decide), ?_⟩
          refine ⟨_, rfl, _, _, rfl, rfl, ⟨by decide, by decide⟩, _, rfl, _, _, rfl, rfl, m0, ?_⟩
          exact fin _ _ _ _ (wt _ (by omega)) (vX _ m0)
        · refine ⟨_, rfl, _, rfl, d, _, _, _, rfl, rfl, ab, rfl, ?_⟩
          rw [dm]
          refine ⟨_, rfl, d, _, _, _, rfl, rfl, SqL.of ab, rfl, _, rfl, _, _, rfl, rfl, m0, ?_⟩
          refine ⟨_, rfl, d, _, _, _, rfl, rfl, SqL.of ab, rfl, _, rfl, _, _, rfl, rfl, ⟨m0, by omega⟩, _, rfl, d, _, _, _, rfl, rfl, ab, rfl, ?_⟩
          refine ⟨_, rfl, ?_⟩
          rw [dm]
          exact fin _ _ _ _ (wt _ (by omega)) (vX _ m0)
end
end Kx
namespace Kx
open PySem PySem.Spec PyProof.Rows L2 Wd
section
variable {P : Program} {w : World} {K : PySem.W.Frag} {mg : Str → Option Value} {base : Heap} {aB : Addr}
abbrev eu : Stmt := top 16
theorem mR : aN ["_law_word"] ["_law_word"] (ai eu) := ⟨rfl, rfl, rfl, by decide +kernel, rfl, by decide +kernel, by decide +kernel⟩
theorem oZ (D : Df K mg "_law_back" eu) : Fnc P w K mg base "_law_back" ["_law_word"] 1 rJ := by
  have sc := mR
  refine D.ok sc (fun _ _ _ _ _ _ us hl => by obtain ⟨_, rfl⟩ := nI hl;rfl) (fun vs H Q E h => ?_) (fun f cdv A outer s H vs Q E hr h => ?_)
  · obtain ⟨u, rfl, _⟩ := h
    rfl
  · obtain ⟨u, rfl, hu, k⟩ := h
    have l16 := br
    refine ⟨_, (@ak _ _ _ (@aE _ _ _ _ (@du _ _ _ _ _ _ _ _ _ _ _ _ vk w5 w6 fk cj (@aa _ _ _ _ _ (@bT _ _ _ _ _ _ _ (["_law_sign"]) (["_law_sign"]) ([]) _ _ _ _ (@cx _ _ _ _ _ _ rfl (by kernel_rfl)) rfl (@nv _ _ _ _ (@oJ _ _ _ _ _ _ _ (pv 0) (@jt _ _ _ _ _ _ fJ ah))) (fun _ _ _ _ => @aK _ _ (0) _ (show (["_law_sign"] : List Str).Nodup from by decide +kernel) rfl (Or.inl rfl) (by first | exact .inl rfl | exact .inr rfl | assumption)) (fun _ _ _ _ => bI) (fun _ _ _ _ => by (exact (@lC _ _ _ _ _ _ _ _ (@aF _ _ _ _ _ _ _ _ jw (pv 0) cj rfl) (@gO _ _ _ _ _ _ _ _ _ (K) rfl vk wV wW dS (pv 0) (by rfl) (by rfl)) (@gO _ _ _ _ _ _ _ _ _ (K) rfl vk PySem.F.slot_str_upper PySem.F.type_str_upper lU (pv 0) (by rfl) (by rfl))))) (by intro _ ;rfl)) ae (by rfl)) (by rfl) (by rfl) (by rfl) (by rfl) (by rfl)))), ?_⟩
    refine ⟨rfl, _, rfl, _, rfl, toS u, rfl, rfl, (by rw [af];omega), ?_⟩
    rw [mB]
    refine ⟨_, rfl, ?_⟩
    refine cA (own := ["_law_sign"]) (cap := []) (J := Its (toS u.reverse)) u.length (fun i ys σ H' => H'=H ∧ ys=bG ((bk u).take i) ∧ ∃ v, σ = [v]) ⟨rfl, rfl, none, rfl⟩ (fun i ys σ H' hi ⟨_, e, _⟩ => ?_) (by omega) (fun i ys σ H' hi _ => ?_) (fun ys σ H' _ => ?_) ?_ ?_
    · rw [e, bq, uR];omega
    · show i < (toS u.reverse).cps.size;rw [cZ, wa];exact hi
    · show _=(toS u.reverse).cps.size;rw [cZ, wa]
    · rintro i ys σ H1 x H2 N hi ⟨rfl, rfl, v, rfl⟩ ⟨rfl, c, hc, rfl⟩ hN
      obtain ⟨y, hy, e⟩ := gL hc
      have hb : (bk u)[i]? = some (inv y) := qj u hi (by rw [w4 hi] at hy;exact hy)
      refine ⟨_, rfl, _, _, rfl, rfl, _, rfl, ?_⟩
      rw [e, qy]
      refine dR (fun h => ?_) (fun h => ?_)
      · have h : ¬ y.val < 6 := by simpa using h
        exact ⟨_, rfl, rfl, _, rfl, rfl, (by rw [af];show 1≤5592405;decide), hN _ _ _ ⟨rfl, by rw [jQ h, d8 hb, ← cB];rfl, _, rfl⟩⟩
      · have h : y.val < 6 := by simpa using h
        exact ⟨_, rfl, rfl, _, rfl, rfl, (by rw [af];show 1≤5592405;decide), hN _ _ _ ⟨rfl, by rw [jP h, d8 hb, ← cB];rfl, _, rfl⟩⟩
    · rintro ys σ H1 l ⟨rfl, rfl, v, rfl⟩ hl
      rw [vj (by rw [cY];exact uG _)]
      refine ⟨_, l, (bk u).map fun x => toS [x], rfl, rfl, SqL.of (by rw [ab, c_]), cD _ (by rw [cY];omega), ?_⟩
      rw [cC]
      exact k _ (au.new hl)
end
end Kx
namespace Kx
open PySem PySem.Spec PyProof.Rows L2 Wd
section
variable {P : Program} {w : World} {K : PySem.W.Frag} {mg : Str → Option Value} {base : Heap} {aB : Addr}
abbrev eA : Stmt := top 2
theorem mS : aN ["thing"] ["thing"] (ai eA) := ⟨rfl, rfl, rfl, by decide +kernel, rfl, by decide +kernel, by decide +kernel⟩
theorem o6 (D : Df K mg "is_whole" eA)(T : Bt0 mg)(Tbool : mg "bool" = none) : Fnc P w K mg base "is_whole" ["thing"] 1 (gU K) := by
  have sc := mS
  refine D.ok sc (fun _ _ _ _ _ _ us hl => by obtain ⟨_, rfl⟩ := nI hl;rfl) (fun vs H Q E h => ?_) (fun f cdv A outer s H vs Q E hr h => ?_)
  · obtain ⟨x, rfl, _⟩ := h
    rfl
  · obtain ⟨x, rfl, ⟨ty, e1, e2, hx⟩, k⟩ := h
    rw [hx] at k
    refine ⟨_, (@ak _ _ _ (@aE _ _ _ _ (@jo _ _ _ _ _ _ _ (@aj _ _ _ _ _ _ _ _ _ (@bx _ (K) rfl) (by rfl) T.isinstance aM (@aa _ _ _ _ _ (pv 0) (@aa _ _ _ _ _ (@bH _ _ (.ty "int") _ _ rfl T.int qi rfl (by decide) (by decide)) ae (by rfl)) (by rfl)) (by decide) (by decide) (by rfl) (by rfl)) (@il _ _ _ _ _ (@pL _ _ _ _ (@aj _ _ _ _ _ _ _ _ _ (@bx _ (K) rfl) (by rfl) T.isinstance aM (@aa _ _ _ _ _ (pv 0) (@aa _ _ _ _ _ (@bH _ _ (.ty "bool") _ _ rfl Tbool iS rfl (by decide) (by decide)) ae (by rfl)) (by rfl)) (by decide) (by decide) (by rfl) (by rfl))))))), ?_⟩
    refine ⟨_, rfl, _, _, _, _, rfl, ty, e1, _, rfl, ?_⟩
    rename_i b1 b2
    cases b1 with
    | false => exact lQ k
    | true => exact nu ⟨_, rfl, _, _, _, _, rfl, ty, e2, _, rfl, k⟩
end
end Kx
namespace Kx
open PySem PySem.Spec PyProof.Rows L2 Wd
@[irreducible] def sml (m : Int) : List L := ([0, 1, 2, 3, 4, 5] : List L).take m.toNat
theorem kE {m : Int}(h : 1≤m) : Txt.slice ("abcdef" : Str) none (some m)=toS (sml m) := by
  rw [← lV, bu, dI _ (by omega)]
  unfold sml
  rfl
theorem o7 {k x : Nat}(hk : k≤6)(hx : x < k) : (sml (k : Int))[x]? = some (lt6 x) := by
  have q : ∀ x : Fin 6, ([0, 1, 2, 3, 4, 5] : List L)[x.val]? = some (lt6 x.val) := by decide
  unfold sml
  rw [vS (by omega)]
  exact q ⟨x, by omega⟩
theorem o8 {k : Nat}(hk : k≤6) : (sml (k : Int)).length=k := by
  unfold sml
  rw [uR]
  show min _ 6=k
  omega
inductive kF (vs : List V)(H : Hp)(Q : VK)(u3_ : XK) : Prop
  | mk : ∀ (d c : Addr) (m : Int), (vs=[.ref d, .int m]) → (Tp H d c) → (1≤m) → (m≤6) → (∀ (u : List L) (k : Nat) (H' : Hp), SK u k → (k : Int)≤m → Tp H' d c → a_ d H H' → Q (tx u) H') → kF vs H Q u3_
theorem o9 : ∀ x : Fin 6, lt6 x.val=⟨x.val, by omega⟩ := by decide
theorem kG {F : List L}{x : L}(h : F.head? = some x) : atI (bG F) 0=some (tx [x]) := by
  cases F with
  | nil => simp at h
  | cons z r =>
    have : z=x := uV h
    subst this
    unfold atI ixN bG
    rw [if_pos (by decide), if_pos (by simp)]
    rfl
inductive kH (vs : List V)(H : Hp)(Q : VK)(u3_ : XK) : Prop
  | mk : ∀ (z : Str) (k : Nat), (vs=[.str z]) → (z.length / 2=k) → (1≤k) → (k≤6) → (Q (tx (sml (k : Int))) H) → kH vs H Q u3_
def ll (W : List (List L))(i : Nat) : List (Int × Int) := (List.range i).flatMap fun i => (List.range (W.getD i []).length).map fun p : Nat => ((i : Int), (p : Int))
theorem gr (W : List (List L))(i : Nat) : ll W (i+1)=ll W i++(List.range (W.getD i []).length).map fun p : Nat => ((i : Int), (p : Int)) := by
  unfold ll
  rw [xB, yi, List.flatMap_cons, List.flatMap_nil, vF]
theorem dg {W : List (List L)}(h : ∀ w∈W, w.length≤15) : ∀ i, (ll W i).length≤15*i
  | 0 => uG _
  | i+1 => by
    rw [gr, uF, uD, wF]
    have := dg h i
    have g : (W.getD i []).length≤15 := by
      rw [u9]
      cases e : W[i]? with
      | none => exact vE _
      | some w => exact h w (uU e)
    omega
theorem o_ {W : List (List L)}{i : Nat}{w : List L}(h : W[i]? = some w) : W.getD i []=w := by rw [u9, h]; rfl
theorem dM {W : List (List L)}{i : Nat}{w : List L}{zs ys : List (Addr × Int × Int)}(hw : W[i]? = some w)(h1 : zs.map (·.2)=ll W i)(h2 : ys.map (·.2)=(List.range w.length).map fun p : Nat => ((i : Int), (p : Int))) : (zs++ys).map (·.2)=ll W (i+1) := by
  rw [uY, h1, h2, gr, o_ hw]
end Kx
namespace Kx
open PySem PySem.Spec PyProof.Rows L2 Wd
section
variable {P : Program} {w : World} {K : PySem.W.Frag} {mg : Str → Option Value} {base : Heap} {aB : Addr}
abbrev kI : Stmt := top 4
theorem qZ : aN ["ways", "found", "number", "way"] ["ways"] (ai kI) := ⟨rfl, rfl, rfl, by decide +kernel, rfl, by decide +kernel, by decide +kernel⟩
theorem sV (D : Df K mg "strands_of" kI)(T : Bt0 mg)(Te : mg "enumerate" = none) : Fnc P w K mg base "strands_of" ["ways"] 1 jh := by
  have sc := qZ
  refine D.ok sc (fun _ _ _ _ _ _ us hl => by obtain ⟨_, rfl⟩ := nI hl;rfl) (fun vs H Q E h => ?_) (fun f cdv A outer s H vs Q E hr h => ?_)
  · obtain ⟨a, n, W, rfl, _⟩ := h
    rfl
  · obtain ⟨a, n, W, rfl, hW, k⟩ := h
    have l16 := br
    have w15 : ∀ w∈W, w.length≤15 := fun w hw => (hW.ws w hw).2.1
    refine ⟨_, (@ag _ _ _ _ _ (@aL _ _ (1) _ _ _ _ sc.nd rfl (Or.inl rfl) (@bF _ _ _ _ ae) (by rfl) (by first | exact .inl rfl | exact .inr rfl | assumption)) (@ag _ _ _ _ _ (@bX _ _ _ _ _ _ _ _ vx rfl (@qz _ _ rfl _ _ _ _ _ _ _ rfl Te qT (@aa _ _ _ _ _ (pv 0) ae (by rfl)) (by rfl)) (@ip _ _ _ _ _ _ rfl (@bS _ _ _ _ _ (@aK _ _ (2) _ sc.nd rfl (Or.inr rfl) (by first | exact .inl rfl | exact .inr rfl | assumption)) (@bS _ _ _ _ _ (@aK _ _ (3) _ sc.nd rfl (Or.inl rfl) (by first | exact .inl rfl | exact .inr rfl | assumption)) fc (by rfl)) (by rfl)) (by rfl) (by rfl)) (@ak _ _ _ (@bZ _ _ _ _ (@du _ _ _ _ _ _ _ _ _ _ _ _ vp yF yG fS (pv 1) (@aa _ _ _ _ _ (@bT _ _ _ _ _ _ _ (["place", "number"]) (["place"]) ([2]) _ _ _ _ (@cx _ _ _ _ _ _ rfl (by kernel_rfl)) rfl (@bt _ _ _ _ _ _ rfl T.range (@aa _ _ _ _ _ (@aj _ _ _ _ _ _ _ _ _ aJ (by rfl) T.len uT (@aa _ _ _ _ _ (pv 3) ae (by rfl)) (by decide) (by decide) (by rfl) (by rfl)) ae (by rfl)) (by rfl)) (fun _ _ _ _ => @aK _ _ (0) _ (show (["place", "number"] : List Str).Nodup from by decide +kernel) rfl (Or.inl rfl) (by first | exact .inl rfl | exact .inr rfl | assumption)) (fun _ _ _ _ => bI) (fun _ _ _ _ => by (exact (@ba _ _ _ _ _ (@aa _ _ _ _ _ (pv 1) (@aa _ _ _ _ _ (pv 0) ae (by rfl)) (by rfl))))) (by intro _ ;rfl)) ae (by rfl)) (by rfl) (by rfl) (by rfl) (by rfl) (by rfl)) (by rfl))) (by intro _ ;rfl)) (@ak _ _ _ (@aE _ _ _ _ (pv 1))))), ?_⟩
    refine ⟨(by show 0≤sizeLine;decide), fun l hl => ?_⟩
    have s1 : au H (upd H l (.lst [])) := au.new hl
    have f1 : (upd H l (.lst [])) l=some (.lst ((([] : List (Addr × Int × Int)).map (·.1)).map V.ref)) := ab
    generalize upd H l (.lst [])=H1 at s1 f1 ⊢
    refine ⟨_, rfl, a, rfl, ⟨_, SqT.of (s1 _ _ hW.at_)⟩, ?_⟩
    refine oK (xs := W.map tx) (fun i σ H' => ∃ (v2 v3 : Option V) (zs : List (Addr × Int × Int)), σ = [some (.ref a), some (.ref l), v2, v3] ∧ H' l=some (.lst ((zs.map (·.1)).map V.ref)) ∧ StA H' zs ∧ zs.map (·.2)=ll W i ∧ au H H') ⟨none, none, [], rfl, f1, (fun z hz => by cases hz), rfl, s1⟩ (fun i σ H' _ ⟨_, _, _, _, _, _, _, q⟩ => SqT.of (q _ _ hW.at_)) ?_ ?_
    · rintro i x σ H2 t hx ⟨v2, v3, zs, rfl, f2, hz, ez, s2⟩ ht
      rw [u_] at hx
      cases hw : W[i]? with
      | none => rw [hw] at hx;cases hx
      | some w' =>
        rw [hw] at hx
        obtain rfl := uV hx
        have hwl := w15 w' (uU hw)
        have hil : i < W.length := (uJ.mp hw).1
        have hle := hW.le
        have zl : zs.length≤60 := by
          have := dg w15 i
          rw [← ez, uD] at this
          omega
        have s3 := s2.then (o := .tup [.int i, tx w']) ht
        have f3 := (au.new (o := .tup [.int i, tx w']) ht) _ _ f2
        have hz3 := hz.same (au.new (o := .tup [.int i, tx w']) ht)
        refine ⟨t, _, rfl, SqT.of ab, rfl, _, _, rfl, _, _, rfl, rfl, ?_⟩
        generalize upd H2 t (.tup [.int i, tx w'])=H3 at s3 f3 hz3 ⊢
        refine ⟨_, rfl, .inl ⟨rfl, _, SqL.of f3⟩, _, rfl, _, rfl, (by rw [af];omega), _, rfl, (by rw [af];omega), (by rw [af];omega), ?_⟩
        rw [af, vh]
        refine cA (own := ["place"]) (cap := [2]) (J := Itr 0 w'.length) w'.length (fun j ys σ H' => ∃ (b : Option V) (ps : List (Addr × Int × Int)), σ = [b, some (.int (i : Int))] ∧ ys=(ps.map (·.1)).map V.ref ∧ StA H' ps ∧ ps.map (·.2)=(List.range j).map (fun p : Nat => ((i : Int), (p : Int))) ∧ au H3 H') ⟨none, [], rfl, rfl, (fun z hz => by cases hz), rfl, au.refl _⟩
          (fun j ys σ H' hj ⟨_, ps, _, e, _, e2, _⟩ => ?_) (by omega) (fun j ys σ H' hj _ => hj) (fun ys σ H' _ => uG _) ?_ ?_
        · have := vz List.length e2
          rw [uD, uD, wF] at this
          rw [e, uD, uD]
          omega
        · rintro j ys σ H4 x H5 N hj ⟨b, ps, rfl, rfl, hp, e2, s4⟩ ⟨rfl, rfl⟩ hN
          refine ⟨_, rfl, _, rfl, (az (n := 2) (by decide)), fun q hq => hN _ _ _ ⟨_, ps++[(q, (i : Int), (j : Int))], rfl, ?_, ?_, ?_, s4.then hq⟩⟩
          · rw [uY, uY];rfl
          · rw [yr]
            exact (hp.same (au.new hq)).app fun z hz => by
              rw [uE] at hz
              subst hz
              exact ab
          · rw [uY, e2, xB, uY];rfl
        · rintro ys σ H4 q ⟨b, ps, rfl, rfl, hp, e2, s4⟩ hq
          have s5 : au H4 (upd H4 q (.lst ((ps.map (·.1)).map V.ref))) := au.new hq
          have g5 : (upd H4 q (.lst ((ps.map (·.1)).map V.ref))) q=some (.lst ((ps.map (·.1)).map V.ref)) := ab
          have f5 := s5 _ _ (s4 _ _ f3)
          have hp5 := hp.same s5
          have hz5 := (hz3.same s4).same s5
          have s6 := (s3.trans s4).trans s5
          generalize upd H4 q (.lst ((ps.map (·.1)).map V.ref))=H5 at g5 f5 hp5 hz5 s6 ⊢
          have pl : ps.length=w'.length := by
            have := vz List.length e2
            rwa [uD, uD, wF] at this
          refine ⟨l, q, _, _, rfl, rfl, f5, g5, by rw [uD, uD, uD, uD];omega, ?_⟩
          have keepT : ∀ b xs, H5 b=some (.tup xs) → (upd H5 l (.lst ((zs.map (·.1)).map V.ref++(ps.map (·.1)).map V.ref))) b=some (.tup xs) := fun b xs e => by
            rw [aC (gE e f5 (by intro z;cases z))];exact e
          refine ⟨_, _, zs++ps, rfl, ?_, fun z hz => keepT _ _ ((hz5.app hp5) z hz), dM hw ez e2, fun b o e => ?_⟩
          · rw [ab, uY, uY]
          · rw [aC (ao e hl)];exact s6 _ _ e
    · rintro σ H2 ⟨v2, v3, zs, rfl, f2, hz, ez, s2⟩
      rw [uD] at ez
      exact ⟨_, rfl, k l zs _ hl s2 f2 hz ez⟩
end
end Kx
namespace Kx
open PySem PySem.Spec PyProof.Rows L2 Wd
section
variable {P : Program} {w : World} {K : PySem.W.Frag} {mg : Str → Option Value} {base : Heap} {aB : Addr}
theorem cR {W : List (List L)}{i : Int}(h0 : 0≤i)(h1 : i < W.length) : atI (W.map tx) i=some (tx (W.getD i.toNat [])) := by
  have hi : i.toNat < W.length := by omega
  have := b_ (xs := W.map tx) (j := i.toNat) (v := tx (W.getD i.toNat [])) (by rw [u_, uB hi, u9, uB hi];rfl)
  rwa [show ((i.toNat : Nat) : Int)=i by omega] at this
theorem kJ {w : List L}{j : Int}(h0 : 0≤j)(h1 : j < w.length) : atI (toS w).cps.toList j=some (cp (w.getD j.toNat 0)) := by
  have hj : j.toNat < w.length := by omega
  refine dy (k := j.toNat) (by omega) ?_
  rw [u9, uB hj]
  rfl
theorem cG {n : Nat}{W : List (List L)}{H : Hp}{a : Addr}(hW : Wy4 n W H a)(i : Nat) : (W.getD i []).length≤15 := by
  rw [u9]
  cases e : W[i]? with
  | none => exact vE _
  | some w => exact (hW.ws w (uU e)).2.1
theorem kK (x : L) : Txt.lower (toS [x])=toS [⟨x.val % 6, by omega⟩] := by
  have : ∀ x : L, Txt.lower (toS [x])=toS [⟨x.val % 6, by omega⟩] := by decide +kernel
  exact this x
abbrev kL : Stmt := top 6
theorem q8 : aN ["ways", "strand"] ["ways", "strand"] (ai kL) := ⟨rfl, rfl, rfl, by decide +kernel, rfl, by decide +kernel, by decide +kernel⟩
theorem sW (D : Df K mg "letter_of" kL)(T : Bt0 mg) : Fnc P w K mg base "letter_of" ["ways", "strand"] 1 oW := by
  have sc := q8
  refine D.ok sc (fun _ _ _ _ _ _ us hl => by obtain ⟨_, _, rfl⟩ := pE hl;rfl) (fun vs H Q E h => ?_) (fun f cdv A outer s H vs Q E hr h => ?_)
  · obtain ⟨a, p, n, W, i, j, rfl, _⟩ := h
    rfl
  · obtain ⟨a, p, n, W, i, j, rfl, hW, hp, ok, k⟩ := h
    have l16 := br
    unfold okS at ok
    simp only [u3, vg] at ok
    obtain ⟨⟨o1, o2⟩, o3, o4⟩ := ok
    have hl := cG hW i.toNat
    refine ⟨_, (@ak _ _ _ (@aE _ _ _ _ (@aR _ _ _ _ _ _ _ dG (@aR _ _ _ _ _ _ _ bo (pv 0) (@aR _ _ _ _ _ _ _ bo (pv 1) ah (fun _ _ => rfl)) (fun _ _ => rfl)) (@aR _ _ _ _ _ _ _ bo (pv 1) ah (fun _ _ => rfl)) (fun _ _ => rfl)))), ?_⟩
    exact ⟨_, rfl, _, rfl, p, _, _, _, rfl, rfl, SqT.of hp, rfl, a, _, _, _, rfl, rfl, SqT.of hW.at_, cR o1 o2, _, rfl, p, _, _, _, rfl, rfl, SqT.of hp, rfl, _, _, _, rfl, rfl, by rw [af];omega, kJ o3 o4, k⟩
abbrev kM : Stmt := top 7
theorem q9 : aN ["ways", "letter"] ["ways", "letter"] (ai kM) := ⟨rfl, rfl, rfl, by decide +kernel, rfl, by decide +kernel, by decide +kernel⟩
theorem sX (D : Df K mg "strands_through" kM)(T : Bt0 mg)(F_str : Fnc P w K mg base "strands_of" ["ways"] 1 jh)(F_lof : Fnc P w K mg base "letter_of" ["ways", "strand"] 1 oW) : Fnc P w K mg base "strands_through" ["ways", "letter"] 2 oV := by
  have sc := q9
  refine D.ok sc (fun _ _ _ _ _ _ us hl => by obtain ⟨_, _, rfl⟩ := pE hl;rfl) (fun vs H Q E h => ?_) (fun f cdv A outer s H vs Q E hr h => ?_)
  · obtain ⟨a, n, W, x, rfl, _⟩ := h
    rfl
  · obtain ⟨a, n, W, x, rfl, hx, hW, k⟩ := h
    have l16 := br
    refine ⟨_, (@ak _ _ _ (@aE _ _ _ _ (@bT _ _ _ _ _ _ _ (["strand", "letter", "ways"]) (["strand"]) ([1, 0]) _ _ _ _ (@cx _ _ _ _ _ _ rfl (by kernel_rfl)) rfl (@fe _ _ _ _ (@aV _ _ _ _ _ _ _ _ _ _ _ F_str hr (by decide) rfl (@aa _ _ _ _ _ (pv 0) ae (by rfl)) (by decide) (by rfl) (by rfl))) (fun _ _ _ _ => @aK _ _ (0) _ (show (["strand", "letter", "ways"] : List Str).Nodup from by decide +kernel) rfl (Or.inl rfl) (by first | exact .inl rfl | exact .inr rfl | assumption)) (fun _ _ _ _ => (@iC _ _ _ (by exact (@aF _ _ _ _ _ _ _ _ cq (@gO _ _ _ _ _ _ _ _ _ (K) rfl vk wV wW dS (@aV _ _ _ _ _ _ _ _ _ _ _ F_lof hr (by decide) rfl (@aa _ _ _ _ _ (pv 2) (@aa _ _ _ _ _ (pv 0) ae (by rfl)) (by rfl)) (by decide) (by rfl) (by rfl)) (by rfl) (by rfl)) (pv 1) (aP _))))) (fun _ _ _ _ => by (exact (pv 0))) (by intro _ ;rfl)))), ?_⟩
    refine ⟨_, rfl, a, n, W, rfl, hW, fun l zs H1 hl s1 f1 hz ez => ⟨l, rfl, ⟨_, SqL.of f1⟩, ?_⟩⟩
    have hW1 := hW.same s1
    have zl : zs.length≤60 := by
      have := dg (fun w hw => (hW.ws w hw).2.1) W.length
      have e : (jf W).length=(ll W W.length).length := rfl
      have hle := hW.le
      rw [← e, ← ez, uD] at this
      omega
    have zok : ∀ z∈zs, okS W z.2=true := fun z hz' => gY.mp (by rw [← ez];exact v7.mpr ⟨z, hz', rfl⟩)
    refine fZ (xs := (zs.map (·.1)).map V.ref) (own := ["strand"]) (cap := [1, 0]) (fun i ys σ H' => ∃ b, σ = [b, some (tx [x]), some (.ref a)] ∧ ys=(((zs.take i).filter fun z => decide (ltS W z.2=x.val)).map (·.1)).map V.ref ∧ H'=H1) ⟨none, rfl, rfl, rfl⟩ (fun i ys σ H' hi ⟨_, _, e, _⟩ => ?_) (by rw [uD, uD];omega) (fun i ys σ H' ⟨_, _, _, q⟩ => SqL.of (by rw [q];exact f1)) ?_ ?_
    · rw [e, uD, uD]
      exact vi (xR _ _) (by rw [uR];omega)
    · rintro i ys σ H2 y N hy ⟨b, rfl, rfl, rfl⟩ hN
      rw [u_, u_] at hy
      cases hz1 : zs[i]? with
      | none => rw [hz1] at hy;cases hy
      | some z =>
        rw [hz1] at hy
        obtain rfl := uV hy
        have hm := uU hz1
        have e0 : (zs.take (i+1)).filter (fun z => decide (ltS W z.2=x.val))=(zs.take i).filter (fun z => decide (ltS W z.2=x.val))++(if ltS W z.2=x.val then [z] else []) := by
          rw [v_, hz1, wY, xC]
          congr 1
          by_cases c : ltS W z.2=x.val
          · rw [if_pos c, wL (by simpa using c)];rfl
          · rw [if_neg c, wo (by simpa using c)];rfl
        refine ⟨_, rfl, _, rfl, a, z.1, n, W, z.2.1, z.2.2, rfl, hW1, hz z hm, zok z hm, ?_⟩
        refine ⟨rfl, _, rfl, rfl, (by rw [af];show 1≤5592405;decide), ?_⟩
        rw [kK]
        refine ⟨_, rfl, rfl, _, rfl, ?_⟩
        show if decide (tx [_]=tx [x])=true then _ else _
        rw [nB]
        have ex : (([⟨((W.getD z.2.1.toNat []).getD z.2.2.toNat 0).val % 6, by omega⟩] : List L)=[x]) ↔ ltS W z.2=x.val := by
          unfold ltS
          constructor
          · intro e;exact vz Fin.val (wK e).1
          · intro e;exact vz (fun q => [q]) (Fin.ext e)
        have ed : decide (([⟨((W.getD z.2.1.toNat []).getD z.2.2.toNat 0).val % 6, by omega⟩] : List L)=[x])=decide (ltS W z.2=x.val) := decide_eq_decide.mpr ex
        rw [ed]
        refine dR (fun c => ?_) (fun c => ?_)
        · have c : ltS W z.2=x.val := by simpa using c
          refine ⟨_, rfl, hN _ _ _ ⟨_, rfl, ?_, rfl⟩⟩
          rw [e0, if_pos c, uY, uY]
          rfl
        · have c : ¬ ltS W z.2=x.val := by simpa using c
          refine hN _ _ _ ⟨_, rfl, ?_, rfl⟩
          rw [e0, if_neg c, vF]
    · rintro ys σ H2 q ⟨b, rfl, rfl, rfl⟩ hq
      rw [uD, uD, vZ]
      refine k q (zs.filter fun z => decide (ltS W z.2=x.val)) _ (none_of s1 hq) (s1.then hq) ab ((fun z hz' => (au.new hq) _ _ (hz z (vT.mp hz').1))) ?_
      unfold kA
      rw [← ez, List.filter_map]
      rfl
end
end Kx
namespace Kx
open PySem PySem.Spec PyProof.Rows L2 Wd
section
variable {P : Program} {w : World} {K : PySem.W.Frag} {mg : Str → Option Value} {base : Heap} {aB : Addr}
abbrev eB : Stmt := top 5
theorem mT : aN ["ways", "thing"] ["ways", "thing"] (ai eB) := ⟨rfl, rfl, rfl, by decide +kernel, rfl, by decide +kernel, by decide +kernel⟩
theorem pb (D : Df K mg "is_strand" eB)(T : Bt0 mg)(F_whole : Fnc P w K mg base "is_whole" ["thing"] 1 (gU K)) : Fnc P w K mg base "is_strand" ["ways", "thing"] 2 (dB K) := by
  have sc := mT
  refine D.ok sc (fun _ _ _ _ _ _ us hl => by obtain ⟨_, _, rfl⟩ := pE hl;rfl) (fun vs H Q E h => ?_) (fun f cdv A outer s H vs Q E hr h => ?_)
  · obtain ⟨a0, n, W, x, c, rfl, _⟩ := h
    rfl
  · obtain ⟨a0, n, W, x, c, rfl, hW, hx, k⟩ := h
    have l16 := br
    refine ⟨_, (@ag _ _ _ _ _ (@bD _ _ _ _ _ _ _ _ (@PW.pt _ _ _ (@dN _ _ _ _ _ _ _ (@ck _ _ _ _ (@bw _ _ _ (@aj _ _ _ _ _ _ _ _ _ (@bx _ (K) rfl) (by rfl) T.isinstance aM (@aa _ _ _ _ _ (pv 1) (@aa _ _ _ _ _ (@bH _ _ (.ty "tuple") _ _ rfl T.tuple bN rfl (by decide) (by decide)) ae (by rfl)) (by rfl)) (by decide) (by decide) (by rfl) (by rfl)) (fun _ => rfl))) (@dN _ _ _ _ _ _ _ (@aF _ _ _ _ _ _ _ _ i3 (@aj _ _ _ _ _ _ _ _ _ aq (by rfl) T.len uT (@aa _ _ _ _ _ (pv 1) ae (by rfl)) (by decide) (by decide) (by rfl) (by rfl)) ah (aP _)) (@cS _ _ _ _ (@ck _ _ _ _ (@bw _ _ _ (@aj _ _ _ _ _ _ _ _ _ (@bU _ rfl) (by rfl) T.all ow (@aa _ _ _ _ _ (@bT _ _ _ _ _ _ _ (["part"]) (["part"]) ([]) _ _ _ _ (@cx _ _ _ _ _ _ rfl (by kernel_rfl)) rfl (@ir _ _ _ _ (pv 1)) (fun _ _ _ _ => @aK _ _ (0) _ (show (["part"] : List Str).Nodup from by decide +kernel) rfl (Or.inl rfl) (by first | exact .inl rfl | exact .inr rfl | assumption)) (fun _ _ _ _ => bI) (fun _ _ _ _ => by (exact (@aV _ _ _ _ _ _ _ _ _ _ _ F_whole hr (by decide) rfl (@aa _ _ _ _ _ (pv 0) ae (by rfl)) (by decide) (by rfl) (by rfl)))) (by intro _ ;rfl)) ae (by rfl)) (by decide) (by decide) (by rfl) (by rfl)) (fun _ => rfl))))))) (@ak _ _ _ (@aE _ _ _ _ eL)) aQ) (@ak _ _ _ (@aE _ _ _ _ (@jo _ _ _ _ _ _ _ (@ix _ _ _ _ _ _ _ _ _ _ _ _ pS i4 ah (@aR _ _ _ _ _ _ _ bo (pv 1) ah (fun _ _ => rfl)) (@aj _ _ _ _ _ _ _ _ _ aq (by rfl) T.len uT (@aa _ _ _ _ _ (pv 0) ae (by rfl)) (by decide) (by decide) (by rfl) (by rfl)) (by with_unfolding_all rfl)) (@il _ _ _ _ _ (@ix _ _ _ _ _ _ _ _ _ _ _ _ pS i4 ah (@aR _ _ _ _ _ _ _ bo (pv 1) ah (fun _ _ => rfl)) (@aj _ _ _ _ _ _ _ _ _ aJ (by rfl) T.len uT (@aa _ _ _ _ _ (@aR _ _ _ _ _ _ _ bo (pv 0) (@aR _ _ _ _ _ _ _ bo (pv 1) ah (fun _ _ => rfl)) (fun _ _ => rfl)) ae (by rfl)) (by decide) (by decide) (by rfl) (by rfl)) (by with_unfolding_all rfl))))))), ?_⟩
    cases hx with
    | oth ty e => exact ⟨_, rfl, _, _, _, _, rfl, ty, e, _, rfl, jk (eK (k _ (au.refl _)))⟩
    | @tup a xs h hx hl ne =>
      refine ⟨_, rfl, _, _, _, _, rfl, .tup h, bE, _, rfl, gn ⟨_, rfl, a, xs, rfl, .inr (SqT.of h), rfl, _, rfl, ?_⟩⟩
      by_cases hn : xs.length=2
      · rw [show (!decide (V.int (xs.length : Int)=V.int 2))=false by rw [hn];rfl]
        refine gn ?_
        refine ⟨_, rfl, a, rfl, ⟨xs, SqT.of h⟩, ?_⟩
        refine df (xs := xs) (own := ["part"]) (cap := []) (fun i ys σ H' => ∃ v : Option V, σ = [v] ∧ ys=(((xs : List V).take i).map whV).map V.bl ∧ au H H') ⟨none, rfl, rfl, au.refl _⟩ (fun i ys σ H' hi ⟨v, _, e, _⟩ => ?_) (by omega) (fun i ys σ H' ⟨_, _, _, s1⟩ => SqT.of (s1 _ _ h)) ?_ ?_
        · rw [e, uD, uD, uR];omega
        · rintro i ys σ H1 y N hyi ⟨v, rfl, rfl, s1⟩ hN
          have hy := (hx y (uU hyi)).same s1
          refine ⟨_, rfl, y, rfl, hy, hN _ _ _ ⟨_, rfl, by rw [fv whV hyi, uY];rfl, s1⟩⟩
        · rintro ys σ H1 l ⟨v, rfl, rfl, s1⟩ hl'
          refine ⟨l, _, rfl, SqL.of ab, ?_⟩
          rw [vj (uG _), xQ]
          have al : xs.all whV=false := by
            cases e : xs.all whV with
            | false => rfl
            | true => exact absurd ⟨hn, e⟩ ne
          have al : xs.all (id ∘ whV)=false := al
          rw [al]
          exact ⟨_, rfl, nkF (eK (k _ (s1.then hl')))⟩
      · rw [show (!decide (V.int (xs.length : Int)=V.int 2))=true by rw [uP fun e => hn (by have := V.int.inj e;omega)];rfl]
        exact jk (eK (k _ (au.refl _)))
    | @cap a i j h =>
      have hx : ∀ y∈[V.int i, V.int j], Wh K H y := fun y hy => by
        rcases u4.mp hy with rfl | hy
        · exact mM (.int i)
        · rw [uE] at hy
          subst hy
          exact mM (.int j)
      refine ⟨_, rfl, _, _, _, _, rfl, .tup h, bE, _, rfl, gn ⟨_, rfl, a, _, rfl, .inr (SqT.of h), rfl, _, rfl, ?_⟩⟩
      · refine gn ?_
        refine ⟨_, rfl, a, rfl, ⟨[V.int i, V.int j], SqT.of h⟩, ?_⟩
        refine df (xs := [V.int i, V.int j]) (own := ["part"]) (cap := []) (fun m ys σ H' => ∃ v : Option V, σ = [v] ∧ ys=((([V.int i, V.int j] : List V).take m).map whV).map V.bl ∧ au H H') ⟨none, rfl, rfl, au.refl _⟩ (fun m ys σ H' hi ⟨v, _, e, _⟩ => ?_) (az (n := 2) (by decide)) (fun m ys σ H' ⟨_, _, _, s1⟩ => SqT.of (s1 _ _ h)) ?_ ?_
        · rw [e, uD, uD, uR];omega
        · rintro m ys σ H1 y N hyi ⟨v, rfl, rfl, s1⟩ hN
          have hy := (hx y (uU hyi)).same s1
          refine ⟨_, rfl, y, rfl, hy, hN _ _ _ ⟨_, rfl, by rw [fv whV hyi, uY];rfl, s1⟩⟩
        · rintro ys σ H1 l ⟨v, rfl, rfl, s1⟩ hl'
          refine ⟨l, _, rfl, SqL.of ab, ?_⟩
          rw [vj (uG _), xQ]
          refine ⟨_, rfl, nkT (iW ?_)⟩
          have s2 : au H (upd H1 l (.lst (([V.int i, V.int j].map whV).map V.bl))) := s1.then hl'
          have h' := s2 _ _ h
          have hW' := hW.same s2
          have k := k _ s2
          generalize upd H1 l (.lst (([V.int i, V.int j].map whV).map V.bl))=H2 at s2 h' hW' k ⊢
          have k : Q (.bl (decide (0≤i) && decide (i < W.length) && (decide (0≤j) && decide (j < (W.getD i.toNat []).length)))) H2 := k
          have hwl := cG hW i.toNat
          refine ⟨_, rfl, a, _, _, _, rfl, rfl, SqT.of h', rfl, _, _, rfl, rfl, _, rfl, ?_⟩
          by_cases c1 : 0≤i
          · rw [va c1, wd] at k
            refine nD (va c1) ⟨_, rfl, a0, _, rfl, .inr (SqT.of hW'.at_), _, _, rfl, rfl, _, rfl, ?_⟩
            rw [uD]
            by_cases c2 : i < W.length
            · rw [va c2, wd] at k
              refine nD (va c2) ?_
              refine ⟨_, rfl, a, _, _, _, rfl, rfl, SqT.of h', rfl, _, _, rfl, rfl, _, rfl, ?_⟩
              by_cases c3 : 0≤j
              · rw [va c3, wd] at k
                refine nD (va c3) ⟨_, rfl, _, rfl, a, _, _, _, rfl, rfl, SqT.of h', rfl, a0, _, _, _, rfl, rfl, SqT.of hW'.at_, cR c1 c2, _, rfl, by rw [af];omega, _, _, rfl, rfl, ?_⟩
                rw [af]
                exact k
              · rw [uP c3, vG] at k
                exact nE (uP c3) k
            · rw [uP c2, vG] at k
              exact nE (uP c2) k
          · rw [uP c1, vG, vG] at k
            exact nE (uP c1) ⟨_, rfl, lQ k⟩
end
end Kx
namespace Kx
open PySem PySem.Spec PyProof.Rows L2 Wd
def dps (r : List (Int × Int)) : List PyData := r.map fun p => .tuple [.int p.1, .int p.2]
theorem kN {H : Hp} : ∀ {zs : List (Addr × Int × Int)}, StA H zs → Dts H ((zs.map (·.1)).map V.ref) (dps (zs.map (·.2)))
  | [], _ => .nil
  | z::r, h => .cons (.tup (h z vf) (.cons (.int _) (.cons (.int _) .nil))) (kN fun y hy => h y (u6 _ hy))
theorem kO : ∀ r : List (Int × Int), PyData.canLayAll0 (dps r)=true
  | [] => rfl
  | p::r => by
    have e : dps (p::r) = .tuple [.int p.1, .int p.2]::dps r := rfl
    rw [e, PyData.canLayAll0, kO r]
    simp [PyData.canLay0, PyData.canLayAll0]
theorem gs : ∀ r : List (Int × Int), PyData.depthAll (dps r)≤1
  | [] => vE _
  | p::r => by
    show max (PyData.depth (.tuple [.int p.1, .int p.2])) (PyData.depthAll (dps r))≤1
    have := gs r
    have e : PyData.depth (.tuple [.int p.1, .int p.2])=1 := rfl
    omega
theorem kP : ∀ r q : List (Int × Int), PyData.eqvAll (dps r) (dps q)=decide (r=q)
  | [], [] => rfl
  | [], _::_ => rfl
  | _::_, [] => rfl
  | p::r, p'::q => by
    show (PyData.eqv (.tuple [.int p.1, .int p.2]) (.tuple [.int p'.1, .int p'.2]) && PyData.eqvAll (dps r) (dps q))=_
    rw [kP r q]
    show (((p.1 == p'.1) && ((p.2 == p'.2) && true)) && decide (r=q))=decide (p::r=p'::q)
    obtain ⟨a, b⟩ := p
    obtain ⟨c, d⟩ := p'
    by_cases e1 : a=c
    · by_cases e2 : b=d
      · simp [e1, e2]
      · simp [e1, e2]
    · simp [e1]
theorem iX {H : Hp}{p q : Addr}{Q : VK}{r t : List (Addr × Int × Int)}(h1 : H p=some (.lst ((r.map (·.1)).map V.ref)))(h2 : H q=some (.lst ((t.map (·.1)).map V.ref)))(a1 : StA H r)(a2 : StA H t)(h : Q (.bl (decide (r.map (·.2)=t.map (·.2)))) H) : sN (.ref p) (.ref q) H Q := by
  have lay : ∀ r : List (Int × Int), (PyData.list (dps r)).canLay0=true := fun r => by unfold PyData.canLay0;exact kO r
  refine ⟨_, _, .lst h1 (kN a1), .lst h2 (kN a2), lay _, lay _, ?_, ?_⟩
  · show PyData.depthAll (dps (r.map (·.2)))+1≤10
    have := gs (r.map (·.2))
    omega
  · show Q (.bl (PyData.eqvAll (dps (r.map (·.2))) (dps (t.map (·.2))))) H
    rw [kP]
    exact h
theorem e9 {K : PySem.W.Frag}{H : Hp}{W : List (List L)} : ∀ {xs : List V} {cs : List (Option (Int × Int))}, (∀ (i : Nat) (x : V), xs[i]? = some x → ∃ c, cs[i]? = some c ∧ Cp K H x c) → cs.length=xs.length → cs.all (okO W)=true →
    ∃ zs : List (Addr × Int × Int), xs=(zs.map (·.1)).map V.ref ∧ prs cs=zs.map (·.2) ∧ StA H zs
  | [], [], _, _, _ => ⟨[], rfl, rfl, fun z hz => by cases hz⟩
  | [], _::_, _, h, _ => by simp at h
  | _::_, [], _, h, _ => by simp at h
  | x::xs, c::cs, hx, hl, al => by
    rw [yN, u3] at al
    obtain ⟨zs, e1, e2, e3⟩ := e9 (xs := xs) (cs := cs) (fun i y e => hx (i+1) y (by simpa using e)) (by simpa using hl) al.2
    obtain ⟨c', h1, h2⟩ := hx 0 x rfl
    have h1 : c=c' := by simpa using h1
    subst h1
    cases h2 with
    | @cap a i j h =>
      refine ⟨(a, i, j)::zs, by rw [e1];rfl, by show (i, j)::prs cs=_;rw [e2];rfl, fun z hz => ?_⟩
      rcases u4.mp hz with rfl | hz
      · exact h
      · exact e3 z hz
    | tup h hx hl ne => exact absurd al.1 (by intro z;cases z)
    | oth ty e => exact absurd al.1 (by intro z;cases z)
theorem gu {a b t : List (Int × Int)}(p : a.Perm b)(h : a.Pairwise Tv.lep)(ht : t.Pairwise ltp) : decide (a=t)=b.isPerm t := by
  rw [wZ, vg, List.isPerm_iff]
  constructor
  · rintro rfl
    exact p.symm
  · intro q
    have q := p.trans q
    have ht' : t.Pairwise Tv.lep := ht.imp fun h => by unfold ltp at h;unfold Tv.lep;omega
    exact List.Perm.eq_of_pairwise (fun x y _ _ h1 h2 => Tv.lep_anti h1 h2) h ht' q
section
variable {P : Program} {w : World} {K : PySem.W.Frag} {mg : Str → Option Value} {base : Heap} {aB : Addr}
abbrev eC : Stmt := top 12
theorem mU : aN ["ways", "letter", "thing"] ["ways", "letter", "thing"] (ai eC) := ⟨rfl, rfl, rfl, by decide +kernel, rfl, by decide +kernel, by decide +kernel⟩
theorem pe (D : Df K mg "is_order" eC)(T : Bt0 mg)(F_isstr : Fnc P w K mg base "is_strand" ["ways", "thing"] 2 (dB K))(F_thr : Fnc P w K mg base "strands_through" ["ways", "letter"] 2 oV) : Fnc P w K mg base "is_order" ["ways", "letter", "thing"] 3 (hU K) := by
  have sc := mU
  refine D.ok sc (fun _ _ _ _ _ _ us hl => by obtain ⟨_, _, _, rfl⟩ := nJ hl;rfl) (fun vs H Q E h => ?_) (fun f cdv A outer s H vs Q E hr h => ?_)
  · obtain ⟨a, n, W, y, x, c, rfl, _⟩ := h
    rfl
  · obtain ⟨a0, n, W, y, x, c, rfl, hy, hW, hx, k⟩ := h
    have l16 := br
    refine ⟨_, (@ag _ _ _ _ _ (@bD _ _ _ _ _ _ _ _ (@PW.pt _ _ _ (@dN _ _ _ _ _ _ _ (@ck _ _ _ _ (@bw _ _ _ (@aj _ _ _ _ _ _ _ _ _ (@bx _ (K) rfl) (by rfl) T.isinstance aM (@aa _ _ _ _ _ (pv 2) (@aa _ _ _ _ _ (@bH _ _ (.ty "tuple") _ _ rfl T.tuple bN rfl (by decide) (by decide)) ae (by rfl)) (by rfl)) (by decide) (by decide) (by rfl) (by rfl)) (fun _ => rfl))) (@cS _ _ _ _ (@ck _ _ _ _ (@bw _ _ _ (@aj _ _ _ _ _ _ _ _ _ (@bU _ rfl) (by rfl) T.all ow (@aa _ _ _ _ _ (@bT _ _ _ _ _ _ _ (["part", "ways"]) (["part"]) ([0]) _ _ _ _ (@cx _ _ _ _ _ _ rfl (by kernel_rfl)) rfl (@ir _ _ _ _ (pv 2)) (fun _ _ _ _ => @aK _ _ (0) _ (show (["part", "ways"] : List Str).Nodup from by decide +kernel) rfl (Or.inl rfl) (by first | exact .inl rfl | exact .inr rfl | assumption)) (fun _ _ _ _ => bI) (fun _ _ _ _ => by (exact (@aV _ _ _ _ _ _ _ _ _ _ _ F_isstr hr (by decide) rfl (@aa _ _ _ _ _ (pv 1) (@aa _ _ _ _ _ (pv 0) ae (by rfl)) (by rfl)) (by decide) (by rfl) (by rfl)))) (by intro _ ;rfl)) ae (by rfl)) (by decide) (by decide) (by rfl) (by rfl)) (fun _ => rfl)))))) (@ak _ _ _ (@aE _ _ _ _ eL)) aQ) (@ak _ _ _ (@aE _ _ _ _ (@ff _ _ _ _ _ _ _ _ (@gf _ (by exact hr.units)) (@aj _ _ _ _ _ _ _ _ _ (@bY _ _ rfl) (by rfl) T.sorted iF (@aa _ _ _ _ _ (pv 2) ae (by rfl)) (by decide) (by decide) (by rfl) (by rfl)) (@aV _ _ _ _ _ _ _ _ _ _ _ F_thr hr (by decide) rfl (@aa _ _ _ _ _ (pv 0) (@aa _ _ _ _ _ (pv 1) ae (by rfl)) (by rfl)) (by decide) (by rfl) (by rfl)) (aP _))))), ?_⟩
    cases hx with
    | oth ty e => exact ⟨_, rfl, _, _, _, _, rfl, ty, e, _, rfl, jk (eK (k _ (au.refl _)))⟩
    | @tup a xs cs h hx hl hc =>
      refine ⟨_, rfl, _, _, _, _, rfl, .tup h, bE, _, rfl, gn ?_⟩
      have k : ∀ H', au H H' → Q (.bl (cs.all (okO W) && (prs cs).isPerm (kA W y.val))) H' := k
      refine ⟨_, rfl, a, rfl, ⟨xs, SqT.of h⟩, ?_⟩
      refine df (xs := xs) (own := ["part"]) (cap := [0]) (fun i ys σ H' => ∃ v : Option V, σ = [v, some (.ref a0)] ∧ ys=((cs.take i).map (okO W)).map V.bl ∧ au H H') ⟨none, rfl, rfl, au.refl _⟩ (fun i ys σ H' hi ⟨v, _, e, _⟩ => ?_) (by omega) (fun i ys σ H' ⟨_, _, _, s1⟩ => SqT.of (s1 _ _ h)) ?_ ?_
      · rw [e, uD, uD, uR];omega
      · rintro i ys σ H2 z N hyi ⟨v, rfl, rfl, s2⟩ hN
        obtain ⟨c, e, hcp⟩ := hx i z hyi
        refine ⟨_, rfl, _, rfl, a0, n, W, z, c, rfl, hW.same s2, hcp.same s2, fun H3 s3 => hN _ _ _ ⟨_, rfl, by rw [fv (okO W) e, uY];rfl, s2.trans s3⟩⟩
      rintro ys σ H2 q ⟨v, rfl, rfl, s2⟩ hq
      rw [← hc, vZ]
      refine ⟨q, _, rfl, SqL.of ab, ?_⟩
      have s3 := s2.then (o := .lst ((cs.map (okO W)).map V.bl)) hq
      generalize upd H2 q (.lst ((cs.map (okO W)).map V.bl))=H3 at s3 ⊢
      rw [xQ]
      cases al : cs.all (okO W) with
      | false =>
        have al' : cs.all (id ∘ okO W)=false := al
        rw [al']
        rw [al] at k
        exact ⟨_, rfl, nkF (eK (k _ s3))⟩
      | true =>
        have al' : cs.all (id ∘ okO W)=true := al
        rw [al']
        rw [al, wd] at k
        refine ⟨_, rfl, nkT (iW ?_)⟩
        have h3 := s3 _ _ h
        obtain ⟨zs0, e1, e2, e3⟩ := e9 (fun i x e => let ⟨c, h1, h2⟩ := hx i x e;⟨c, h1, h2.same s3⟩) hc al
        subst e1
        refine ⟨_, rfl, a, zs0, rfl, .inr (SqT.of h3), e3, fun p zs hp pm so => ?_⟩
        have s4 : au H3 (upd H3 p (.lst ((zs.map (·.1)).map V.ref))) := au.new hp
        have f4 : (upd H3 p (.lst ((zs.map (·.1)).map V.ref))) p=some (.lst ((zs.map (·.1)).map V.ref)) := ab
        have a4 : StA (upd H3 p (.lst ((zs.map (·.1)).map V.ref))) zs := fun z hz => s4 _ _ (e3 z (pm.mem_iff.mp hz))
        generalize upd H3 p (.lst ((zs.map (·.1)).map V.ref))=H4 at s4 f4 a4 ⊢
        have s4 := s3.trans s4
        refine ⟨_, rfl, _, rfl, a0, n, W, y, rfl, hy, hW.same s4, fun l ts H5 hl s5 f5 a5 et => ?_⟩
        refine iX (s5 _ _ f4) f5 (a4.same s5) a5 ?_
        rw [et, gu (pm.map (·.2)) so (mO W y.val), ← e2]
        exact k _ (s4.trans s5)
end
end Kx
namespace Kx
open PySem PySem.Spec PyProof.Rows L2 Wd
section
variable {P : Program} {w : World} {K : PySem.W.Frag} {mg : Str → Option Value} {base : Heap} {aB : Addr}
abbrev kQ : Stmt := top 9
theorem q_ : aN ["surface"] ["surface"] (ai kQ) := ⟨rfl, rfl, rfl, by decide +kernel, rfl, by decide +kernel, by decide +kernel⟩
theorem sY (D : Df K mg "letters_of" kQ)(T : Bt0 mg)(S : ∃ t, mg "SMALL" = some (.str "abcdef" t)) : Fnc P w K mg base "letters_of" ["surface"] 1 kH := by
  have sc := q_
  refine D.ok sc (fun _ _ _ _ _ _ us hl => by obtain ⟨_, rfl⟩ := nI hl;rfl) (fun vs H Q E h => ?_) (fun f cdv A outer s H vs Q E hr h => ?_)
  · obtain ⟨z, k, rfl, _⟩ := h
    rfl
  · obtain ⟨z, k, rfl, hl, h1, h6, q⟩ := h
    obtain ⟨tS, mgS⟩ := S
    have l16 := br
    refine ⟨_, (@ak _ _ _ (@aE _ _ _ _ (@aA _ _ _ _ _ _ _ _ _ _ cM (@nM _ _ (.str "abcdef") _ _ rfl mgS ⟨_, rfl⟩ (by decide)) aO (@aG _ _ _ (@aD _ _ _ _ _ _ _ _ cu (@aj _ _ _ _ _ _ _ _ _ aJ (by rfl) T.len uT (@aa _ _ _ _ _ (pv 0) ae (by rfl)) (by decide) (by decide) (by rfl) (by rfl)) ah))))), ?_⟩
    refine ⟨_, rfl, _, rfl, (by omega), _, _, rfl, rfl, ⟨by decide, by decide⟩, _, rfl, _, rfl, (by rw [fW];omega), ?_⟩
    have e : (z.length : Int) / 2=(k : Int) := by omega
    rw [e, kE (by omega)]
    exact q
end
end Kx
namespace Kx
open PySem PySem.Spec PyProof.Rows L2 Wd
theorem iY (W : List (List L)) : ∀ (ds : List (Option (List Sg1))) (l : Nat), ((List.range ds.length).map fun j => kB W (l+j) (ds.getD j none)).all id=nH W l ds
  | [], _ => rfl
  | c::r, l => by
    rw [vQ, yY, vV, yN, xN]
    have := iY W r (l+1)
    show (kB W l c && _)=(kB W l c && nH W (l+1) r)
    rw [← this]
    congr 2
    refine List.map_congr_left fun j _ => ?_
    show kB W (l+(j+1)) (r.getD j none)=kB W (l+1+j) (r.getD j none)
    rw [Nat.add_right_comm, xA]
theorem mV {ds : List (Option (List Sg1))}{i : Nat}{c : Option (List Sg1)}(h : ds[i]? = some c) : ds.getD i none=c := by rw [u9, h]; rfl
section
variable {P : Program} {w : World} {K : PySem.W.Frag} {mg : Str → Option Value} {base : Heap} {aB : Addr}
abbrev eD : Stmt := top 11
theorem mX : aN ["surface", "ways", "thing", "letters"] ["surface", "ways", "thing"] (ai eD) := ⟨rfl, rfl, rfl, by decide +kernel, rfl, by decide +kernel, by decide +kernel⟩
theorem pf (D : Df K mg "is_drawing" eD)(T : Bt0 mg)(F_let : Fnc P w K mg base "letters_of" ["surface"] 1 kH)(F_isord : Fnc P w K mg base "is_order" ["ways", "letter", "thing"] 3 (hU K)) : Fnc P w K mg base "is_drawing" ["surface", "ways", "thing"] 4 (hV K) := by
  have sc := mX
  refine D.ok sc (fun _ _ _ _ _ _ us hl => by obtain ⟨_, _, _, rfl⟩ := nJ hl;rfl) (fun vs H Q E h => ?_) (fun f cdv A outer s H vs Q E hr h => ?_)
  · obtain ⟨u, a, n, W, x, c, rfl, _⟩ := h
    rfl
  · obtain ⟨u, a0, n, W, x, c, rfl, hu, hW, hx, k⟩ := h
    have l16 := br
    have h6 := hu.hi
    have hls : (sml (n : Int)).length=n := o8 h6
    refine ⟨_, (@ag _ _ _ _ _ (@aL _ _ (3) _ _ _ _ sc.nd rfl (Or.inl rfl) (@aV _ _ _ _ _ _ _ _ _ _ _ F_let hr (by decide) rfl (@aa _ _ _ _ _ (pv 0) ae (by rfl)) (by decide) (by rfl) (by rfl)) (by rfl) (by first | exact .inl rfl | exact .inr rfl | assumption)) (@ag _ _ _ _ _ (@bD _ _ _ _ _ _ _ _ (@PW.pt _ _ _ (@dN _ _ _ _ _ _ _ (@ck _ _ _ _ (@bw _ _ _ (@aj _ _ _ _ _ _ _ _ _ (@bx _ (K) rfl) (by rfl) T.isinstance aM (@aa _ _ _ _ _ (pv 2) (@aa _ _ _ _ _ (@bH _ _ (.ty "tuple") _ _ rfl T.tuple bN rfl (by decide) (by decide)) ae (by rfl)) (by rfl)) (by decide) (by decide) (by rfl) (by rfl)) (fun _ => rfl))) (@cS _ _ _ _ (@aF _ _ _ _ _ _ _ _ i3 (@aj _ _ _ _ _ _ _ _ _ aq (by rfl) T.len uT (@aa _ _ _ _ _ (pv 2) ae (by rfl)) (by decide) (by decide) (by rfl) (by rfl)) (@aj _ _ _ _ _ _ _ _ _ aJ (by rfl) T.len uT (@aa _ _ _ _ _ (pv 3) ae (by rfl)) (by decide) (by decide) (by rfl) (by rfl)) (aP _))))) (@ak _ _ _ (@aE _ _ _ _ eL)) aQ) (@ak _ _ _ (@aE _ _ _ _ (@aj _ _ _ _ _ _ _ _ _ (@bU _ rfl) (by rfl) T.all ow (@aa _ _ _ _ _ (@bT _ _ _ _ _ _ _ (["letter", "part", "ways"]) (["letter", "part"]) ([1]) _ _ _ _ (@cx _ _ _ _ _ _ rfl (by kernel_rfl)) rfl (@mJ _ _ rfl _ _ _ _ _ _ _ _ rfl T.zip sE (@aa _ _ _ _ _ (pv 3) (@aa _ _ _ _ _ (pv 2) ae (by rfl)) (by rfl)) (by rfl) (by rfl)) (fun _ _ _ _ => @oF _ (K) _ _ _ (2) _ rfl rfl (@bS _ _ _ _ _ (@aK _ _ (0) _ (show (["letter", "part", "ways"] : List Str).Nodup from by decide +kernel) rfl (Or.inl rfl) (by first | exact .inl rfl | exact .inr rfl | assumption)) (@bS _ _ _ _ _ (@aK _ _ (1) _ (show (["letter", "part", "ways"] : List Str).Nodup from by decide +kernel) rfl (Or.inl rfl) (by first | exact .inl rfl | exact .inr rfl | assumption)) fc (by rfl)) (by rfl)) (by rfl) (by rfl)) (fun _ _ _ _ => bI) (fun _ _ _ _ => by (exact (@aV _ _ _ _ _ _ _ _ _ _ _ F_isord hr (by decide) rfl (@aa _ _ _ _ _ (pv 2) (@aa _ _ _ _ _ (pv 0) (@aa _ _ _ _ _ (pv 1) ae (by rfl)) (by rfl)) (by rfl)) (by decide) (by rfl) (by rfl)))) (by intro _ ;rfl)) ae (by rfl)) (by decide) (by decide) (by rfl) (by rfl)))))), ?_⟩
    refine ⟨_, rfl, toS u, n, rfl, by rw [af, hu.len];omega, hu.lo, h6, ?_⟩
    cases hx with
    | oth ty e => exact ⟨_, rfl, _, _, _, _, rfl, ty, e, _, rfl, jk (eK (k _ (au.refl _)))⟩
    | @tup a xs ds h hx hl hc =>
      refine ⟨_, rfl, _, _, _, _, rfl, .tup h, bE, _, rfl, gn ⟨_, rfl, a, xs, rfl, .inr (SqT.of h), _, rfl, _, rfl, (by rw [af];omega), rfl, _, rfl, ?_⟩⟩
      have k : ∀ H', au H H' → Q (.bl (decide (ds.length=n) && nH W 0 ds)) H' := k
      rw [af, hls]
      by_cases hn : ds.length=n
      · rw [show (!decide (V.int (xs.length : Int)=V.int (n : Int)))=false by rw [← hc, hn];simp]
        rw [va hn, wd] at k
        refine iW ?_
        refine ⟨_, rfl, _, rfl, toS (sml (n : Int)), a, rfl, asc _, ⟨xs, SqT.of h⟩, ?_⟩
        refine cA (own := ["letter", "part"]) (cap := [1]) (J := rL K (toS (sml (n : Int))) a) n (fun i ys σ H' => ∃ v1 v2 : Option V, σ = [v1, v2, some (.ref a0)] ∧ ys=((List.range i).map fun j => kB W (0+j) (ds.getD j none)).map V.bl ∧ au H H') ⟨none, none, rfl, rfl, au.refl _⟩
          (fun i ys σ H' hi ⟨_, _, _, e, _⟩ => ?_) (by omega) (fun i ys σ H' hi ⟨_, _, _, _, s5⟩ => ?_) (fun ys σ H' ⟨_, _, _, _, s5⟩ => ?_) ?_ ?_
        · rw [e, uD, uD, wF];omega
        · exact ⟨xs, xs[i]'(by omega), SqT.of (s5 _ _ h), by rw [cZ];omega, uB _⟩
        · exact ⟨xs, SqT.of (s5 _ _ h), by rw [cZ];omega⟩
        · rintro i ys σ H5 x H6 N hi ⟨v1, v2, rfl, rfl, s5⟩ ⟨t, cc, y, hnn, rfl, hc1, hy1, rfl⟩ hN
          have hy1 := hy1 _ (SqT.of (s5 _ _ h))
          obtain ⟨b, hb, eb⟩ := gL hc1
          rw [o7 h6 hi] at hb
          obtain rfl := uV hb
          rw [eb]
          obtain ⟨c, hc2, hcs⟩ := hx i y hy1
          have s6 := s5.then (o := .tup [.str (toS [lt6 i]), y]) hnn
          refine ⟨t, _, rfl, SqT.of ab, rfl, _, _, rfl, _, _, rfl, rfl, ?_⟩
          have lv : (lt6 i).val=i := by
            have := o9 ⟨i, by omega⟩
            exact vz Fin.val this
          refine ⟨_, rfl, _, rfl, _, rfl, a0, n, W, lt6 i, y, c, rfl, by rw [lv];omega, hW.same s6, hcs.same s6, fun H7 s7 => hN _ _ _ ⟨_, _, rfl, ?_, s6.trans s7⟩⟩
          rw [xB, uY, uY, lv]
          congr 1
          show [V.bl (kB W i c)]=[V.bl (kB W (0+i) (ds.getD i none))]
          rw [mV hc2, xO]
        · rintro ys σ H5 q ⟨v1, v2, rfl, rfl, s5⟩ hq
          refine ⟨q, _, rfl, SqL.of ab, ?_⟩
          rw [← hn, iY W ds 0]
          exact k _ (s5.then hq)
      · rw [show (!decide (V.int (xs.length : Int)=V.int (n : Int)))=true by rw [uP fun e => hn (by have := V.int.inj e;omega)];rfl]
        rw [uP hn, vG] at k
        exact eK (k _ (au.refl _))
end
end Kx
namespace Kx
open PySem PySem.Spec PyProof.Rows L2 Wd
section
variable {P : Program} {w : World} {K : PySem.W.Frag} {mg : Str → Option Value} {base : Heap} {aB : Addr}
abbrev kR : Stmt := top 17
theorem rd : aN ["_law_tape_here", "_law_most", "_law_row", "_law_k", "_law_sign"] ["_law_tape_here", "_law_most"] (ai kR) := ⟨rfl, rfl, rfl, by decide +kernel, rfl, by decide +kernel, by decide +kernel⟩
theorem sZ (D : Df K mg "_law_any_row" kR)(T : Bt0 mg)(F_draw : Fnc P w K mg base "_law_draw" ["_law_tape_here", "_law_many"] 1 bV) : Fnc P w K mg base "_law_any_row" ["_law_tape_here", "_law_most"] 2 kF := by
  have sc := rd
  refine D.ok sc (fun _ _ _ _ _ _ us hl => by obtain ⟨_, _, rfl⟩ := pE hl;rfl) (fun vs H Q E h => ?_) (fun f cdv A outer s H vs Q E hr h => ?_)
  · obtain ⟨d, c, m, rfl, _⟩ := h
    rfl
  · obtain ⟨d, c, m, rfl, F, m1, m6, k⟩ := h
    have l16 := br
    refine ⟨_, (@ag _ _ _ _ _ (@aL _ _ (2) _ _ _ _ sc.nd rfl (Or.inl rfl) (@bF _ _ _ _ ae) (by rfl) (by first | exact .inl rfl | exact .inr rfl | assumption)) (@ag _ _ _ _ _ (@bX _ _ _ _ _ _ _ _ vx rfl (@bt _ _ _ _ _ _ rfl T.range (@aa _ _ _ _ _ (@aD _ _ _ _ _ _ _ _ bp ah (@aV _ _ _ _ _ _ _ _ _ _ _ F_draw hr (by decide) rfl (@aa _ _ _ _ _ (pv 0) (@aa _ _ _ _ _ (pv 1) ae (by rfl)) (by rfl)) (by decide) (by rfl) (by rfl))) ae (by rfl)) (by rfl)) (@aK _ _ (3) _ sc.nd rfl (Or.inl rfl) (by first | exact .inl rfl | exact .inr rfl | assumption)) (@ak _ _ _ (@bX _ _ _ _ _ _ _ _ vx rfl (@ir _ _ _ _ (@ba _ _ _ _ _ (@aa _ _ _ _ _ (@aR _ _ _ _ _ _ _ dG cj (pv 3) (fun _ _ => rfl)) (@aa _ _ _ _ _ (@aR _ _ _ _ _ _ _ dG cj (pv 3) (fun _ _ => rfl)) ae (by rfl)) (by rfl)))) (@aK _ _ (4) _ sc.nd rfl (Or.inl rfl) (by first | exact .inl rfl | exact .inr rfl | assumption)) (@ak _ _ _ (@bZ _ _ _ _ (@du _ _ _ _ _ _ _ _ _ _ _ _ vp xr yH f_ (pv 2) (@aa _ _ _ _ _ (@aV _ _ _ _ _ _ _ _ _ _ _ F_draw hr (by decide) rfl (@aa _ _ _ _ _ (pv 0) (@aa _ _ _ _ _ (@aD _ _ _ _ _ _ _ _ bp (@aj _ _ _ _ _ _ _ _ _ aq (by rfl) T.len uT (@aa _ _ _ _ _ (pv 2) ae (by rfl)) (by decide) (by decide) (by rfl) (by rfl)) ah) ae (by rfl)) (by rfl)) (by decide) (by rfl) (by rfl)) (@aa _ _ _ _ _ (pv 4) ae (by rfl)) (by rfl)) (by rfl) (by rfl) (by rfl) (by rfl) (by rfl)) (by rfl))) (by intro _ ;rfl))) (by intro _ ;rfl)) (@ak _ _ _ (@aE _ _ _ _ (@du _ _ _ _ _ _ _ _ _ _ _ _ vk w5 w6 fk cj (@aa _ _ _ _ _ (pv 2) ae (by rfl)) (by rfl) (by rfl) (by rfl) (by rfl) (by rfl)))))), ?_⟩
    refine ⟨(by show 0≤sizeLine;decide), fun p hp => ?_⟩
    have hpd := F.ne hp
    have hpc := F.nec hp
    refine ⟨_, rfl, _, rfl, d, c, m, rfl, F.new hp, by omega, by omega, fun r H1 r0 r1 F1 sb1 => ?_⟩
    have f1 := sb1 _ _ hpd ab
    have sb1 := ((au.new (o := .lst []) hp).b (d := d)).trans sb1
    refine ⟨_, _, rfl, rfl, _, rfl, by omega, by omega, ?_⟩
    refine bL (lo := 0) (n := (1+r).toNat) (fun i σ H' => ∃ (a b : Option V) (W : List L), σ = [some (.ref d), some (.int m), some (.ref p), a, b] ∧ H' p=some (.lst (bG W)) ∧ W.Perm (fam i) ∧ Tp H' d c ∧ a_ d H H') ⟨none, none, [], rfl, f1, xH _, F1, sb1⟩ ?_ ?_
    · rintro i σ H2 hi ⟨a, b, W, rfl, hW, pW, F2, sb2⟩
      have hi : i < 6 := by omega
      rw [yr]
      have lW : (bG W).length≤12 := by
        obtain ⟨_, _, c⟩ := iR ⟨i, by omega⟩
        have c : (fam i).length=2*i := c
        have := pW.length_eq
        rw [bq]
        omega
      refine ⟨_, rfl, _, _, _, rfl, rfl, (by rw [fW];omega), sm_at hi, _, rfl, _, _, _, rfl, rfl, (by rw [jV];omega), sL hi, ?_⟩
      refine ⟨(az (n := 2) (by decide)), fun t ht => ?_⟩
      generalize ex : (⟨i, by omega⟩ : L)=x
      generalize ey : (⟨i+6, by omega⟩ : L)=y
      have htp : t≠p := (ao hW ht).symm
      have htd : t≠d := F2.ne ht
      refine ⟨t, rfl, ⟨_, SqT.of ab⟩, js (xs := [tx [x], tx [y]]) (fun j σ H' => ∃ (b : Option V) (W : List L), σ = [some (.ref d), some (.int m), some (.ref p), some (.int (i : Int)), b] ∧ H' p=some (.lst (bG W)) ∧ W.Perm (fam i++[x, y].take j) ∧ Tp H' d c ∧ a_ d H H' ∧ H' t=some (.tup [tx [x], tx [y]])) ⟨b, W, rfl, (au.new ht) _ _ hW, by rw [List.take_zero, vF];exact pW, F2.new ht, sb2.trans (au.new ht).b, ab⟩ (fun j σ H' hj ⟨_, _, _, _, _, _, _, q⟩ => SqT.of q) ?_ ?_⟩
      · rintro j z σ H3 hz ⟨b, W, rfl, hW, pW, F3, sb3, h3⟩
        have hj : j < 2 := by
          have := (uJ.mp hz).1
          exact this
        have lW : (bG W).length≤14 := by
          obtain ⟨_, _, c⟩ := iR ⟨i, by omega⟩
          have c : (fam i).length=2*i := c
          have := pW.length_eq
          rw [uF, uR, c] at this
          rw [bq, this]
          simp only [vQ, yf]
          omega
        obtain ⟨z', ez, hz'⟩ : ∃ z', z=tx [z'] ∧ [x, y][j]? = some z' := by
          have : j=0 ∨ j=1 := by omega
          rcases this with rfl | rfl
          · exact ⟨x, (uV hz).symm, rfl⟩
          · exact ⟨y, (uV hz).symm, rfl⟩
        subst ez
        refine ⟨_, rfl, .inl ⟨rfl, _, SqL.of hW⟩, _, rfl, _, rfl, p, _, rfl, .inl (SqL.of hW), _, _, rfl, rfl, d, c, _, rfl, F3, by omega, by omega, fun q H4 q0 q1 F4 sb4 => ?_⟩
        have h4 := sb4 _ _ hpd hW
        refine ⟨_, rfl, p, _, q, _, rfl, rfl, h4, q0, by omega, by omega, ?_⟩
        rw [mF]
        have s5 : a_ p H4 (upd H4 p (.lst (bG (W.take q.toNat++z'::W.drop q.toNat)))) := a_.upd
        refine ⟨_, _, rfl, ab, ?_, F4.but hpd hpc s5, fun b o n e => s5 _ _ (ao e hp) (sb4 _ _ n (sb3 _ _ n e)), s5 _ _ htp (sb4 _ _ htd h3)⟩
        have e : [x, y].take (j+1)=[x, y].take j++[z'] := d8 hz'
        rw [e, ← uO]
        exact mE z' q.toNat pW
      · rintro σ H3 ⟨b, W, rfl, hW, pW, F3, sb3, h3⟩
        refine ⟨_, _, W, rfl, hW, ?_, F3, sb3⟩
        rw [mD hi, ex, ey]
        exact pW
    · rintro σ H2 ⟨a, b, W, rfl, hW, pW, F2, sb2⟩
      have hl := pW.length_eq
      obtain ⟨_, _, c⟩ := iR ⟨(1+r).toNat, by omega⟩
      have c : (fam (1+r).toNat).length=2*(1+r).toNat := c
      refine ⟨rfl, _, rfl, _, p, W.map fun x => toS [x], rfl, rfl, SqL.of (by rw [hW, c_]), cD _ (by omega), ?_⟩
      rw [cC]
      exact k _ _ _ ⟨pW, by omega, by omega⟩ (by omega) F2 sb2
end
end Kx
namespace Kx
open PySem PySem.Spec PyProof.Rows L2 Wd
theorem rf (V0 : List L)(y : L) : (bG (V0++[y]))[(bG (V0++[y])).length - 1]? = some (tx [y]) := by
  unfold bG
  simp
theorem mY (V0 : List L)(y : L) : some (HO.lst (bG (V0++[y])).dropLast)=some (HO.lst (bG V0)) := by
  unfold bG
  simp
theorem mZ (x y : L)(mid : List L) : dF (bG (x::(mid++[y]))) (some 1) (some (-1))=bG mid := by
  unfold dF
  have hl : (bG (x::(mid++[y]))).length=mid.length+2 := by rw [bq];simp
  have e1 : HT.sIx (bG (x::(mid++[y]))).length 0 (some 1)=1 := by
    have q := HT.cv (bG (x::(mid++[y]))).length 0 1
    rw [show ((1 : Nat) : Int)=1 from rfl] at q
    rw [q, hl]
    omega
  have e2 : HT.sIx (bG (x::(mid++[y]))).length (bG (x::(mid++[y]))).length (some (-1))=mid.length+1 := by
    show (if (-1 : Int) < 0 then ((-1 : Int)+((bG (x::(mid++[y]))).length : Int)).toNat else min (-1 : Int).toNat (bG (x::(mid++[y]))).length)=_
    rw [if_pos (by decide), hl]
    omega
  rw [e1, e2]
  unfold bG
  simp
section
variable {P : Program} {w : World} {K : PySem.W.Frag} {mg : Str → Option Value} {base : Heap} {aB : Addr}
abbrev cF : Stmt := top 19
theorem ji : aN ["_law_word", "_law_size"] ["_law_word"] (ai cF) := ⟨rfl, rfl, rfl, by decide +kernel, rfl, by decide +kernel, by decide +kernel⟩
theorem kT (D : Df K mg "_law_rooted" cF)(T : Bt0 mg) : Fnc P w K mg base "_law_rooted" ["_law_word"] 1 fD := by
  have sc := ji
  refine D.ok sc (fun _ _ _ _ _ _ us hl => by obtain ⟨_, rfl⟩ := nI hl;rfl) (fun vs H Q E h => ?_) (fun f cdv A outer s H vs Q E hr h => ?_)
  · obtain ⟨u, rfl, _⟩ := h
    rfl
  · obtain ⟨u, rfl, hu, k⟩ := h
    have l16 := br
    have hll : (toS u).length≤sizeLine := by rw [af];omega
    refine ⟨_, (@ag _ _ _ _ _ (@bX _ _ _ _ _ _ _ _ vx rfl (@jq _ _ _ _ _ _ _ rfl T.range (@aa _ _ _ _ _ ah (@aa _ _ _ _ _ (@aj _ _ _ _ _ _ _ _ _ aJ (by rfl) T.len uT (@aa _ _ _ _ _ (pv 0) ae (by rfl)) (by decide) (by decide) (by rfl) (by rfl)) ae (by rfl)) (by rfl)) (by rfl) (by rfl)) (@aK _ _ (1) _ sc.nd rfl (Or.inl rfl) (by first | exact .inl rfl | exact .inr rfl | assumption)) (@ak _ _ _ (@bD _ _ _ _ _ _ _ _ (@aF _ _ _ _ _ _ _ _ cq (@aD _ _ _ _ _ _ _ _ eW (@aA _ _ _ _ _ _ _ _ _ _ cM (pv 0) aO (@aG _ _ _ (pv 1))) (@aD _ _ _ _ _ _ _ _ cu (@aj _ _ _ _ _ _ _ _ _ aJ (by rfl) T.len uT (@aa _ _ _ _ _ (pv 0) ae (by rfl)) (by decide) (by decide) (by rfl) (by rfl)) (pv 1))) (pv 0) (aP _)) (@ak _ _ _ (@aE _ _ _ _ (@aA _ _ _ _ _ _ _ _ _ _ cM (pv 0) aO (@aG _ _ _ (pv 1))))) aQ)) (by intro _ ;rfl)) (@ak _ _ _ (@aE _ _ _ _ (pv 0)))), ?_⟩
    refine ⟨_, rfl, _, rfl, hll, _, _, rfl, (by first | omega | (rw [af];omega)), ?_⟩
    rw [af]
    refine bL (lo := 1) (n := ((u.length : Int) - 1).toNat) (fun i σ H' => ∃ v : Option V, σ = [some (tx u), v] ∧ H'=H) ⟨none, rfl, rfl⟩ ?_ ?_
    · rintro i σ H1 hi ⟨v, rfl, rfl⟩
      have hi : i+1 < u.length := by omega
      have e1 : (1 : Int)+(i : Int)=((i+1 : Nat) : Int) := by omega
      rw [e1]
      have c1 : Txt.slice (toS u) none (some ((i+1 : Nat) : Int))=toS (u.take (i+1)) := by rw [bu, dI _ (by omega)];rfl
      have dv : ((toS u).length : Int) / ((i+1 : Nat) : Int)=((u.length / (i+1) : Nat) : Int) := by rw [af];rfl
      have db : u.length / (i+1)≤u.length := Nat.div_le_self _ _
      refine ⟨_, rfl, _, rfl, _, rfl, _, rfl, hll, ?_⟩
      rw [c1]
      refine ⟨_, rfl, _, rfl, hll, _, rfl, _, _, rfl, rfl, ⟨by omega, by omega⟩, ?_⟩
      refine ⟨_, ((u.length / (i+1) : Nat) : Int), rfl, vz V.int dv, fV _ (Int.le_trans (by decide) (Int.natCast_nonneg _)) (Int.ofNat_le.mpr (show u.length / (i+1)≤1000 by omega)) (by rw [uR];omega), ?_⟩
      refine ⟨_, rfl, rfl, _, rfl, dR (fun _ => ?_) (fun _ => ⟨_, rfl, rfl⟩)⟩
      refine ⟨_, rfl, _, rfl, _, rfl, _, rfl, hll, ?_⟩
      rw [c1]
      exact k _ (by rw [uR];omega) fun x hx => vt hx
    · rintro σ H1 ⟨v, rfl, rfl⟩
      exact ⟨_, rfl, k u (uG _) fun x hx => hx⟩
abbrev eE : Stmt := top 18
theorem m3 : aN ["_law_word", "_law_left", "_law_sign"] ["_law_word"] (ai eE) := ⟨rfl, rfl, rfl, by decide +kernel, rfl, by decide +kernel, by decide +kernel⟩
theorem ph (D : Df K mg "_law_inner" eE)(T : Bt0 mg)(F_lback : Fnc P w K mg base "_law_back" ["_law_word"] 1 rJ) : Fnc P w K mg base "_law_inner" ["_law_word"] 2 fC := by
  have sc := m3
  refine D.ok sc (fun _ _ _ _ _ _ us hl => by obtain ⟨_, rfl⟩ := nI hl;rfl) (fun vs H Q E h => ?_) (fun f cdv A outer s H vs Q E hr h => ?_)
  · obtain ⟨u, rfl, _⟩ := h
    rfl
  · obtain ⟨u, rfl, hu, k⟩ := h
    have l16 := br
    refine ⟨_, (@ag _ _ _ _ _ (@aL _ _ (1) _ _ _ _ sc.nd rfl (Or.inl rfl) (@bF _ _ _ _ ae) (by rfl) (by first | exact .inl rfl | exact .inr rfl | assumption)) (@ag _ _ _ _ _ (@bX _ _ _ _ _ _ _ _ vx rfl (@nv _ _ _ _ (pv 0)) (@aK _ _ (2) _ sc.nd rfl (Or.inl rfl) (by first | exact .inl rfl | exact .inr rfl | assumption)) (@ak _ _ _ (@bD _ _ _ _ _ _ _ _ (@PW.pt _ _ _ (@ik _ _ _ _ _ _ _ (@aF _ _ _ _ _ _ _ _ lG (@aj _ _ _ _ _ _ _ _ _ aq (by rfl) T.len uT (@aa _ _ _ _ _ (pv 1) ae (by rfl)) (by decide) (by decide) (by rfl) (by rfl)) ah (aP _)) (@gI _ _ _ _ (@aF _ _ _ _ _ _ _ _ cq (@aR _ _ _ _ _ _ _ aZ (pv 1) (@jt _ _ _ _ _ _ fJ ah) (fun _ _ => rfl)) (@aV _ _ _ _ _ _ _ _ _ _ _ F_lback hr (by decide) rfl (@aa _ _ _ _ _ (pv 2) ae (by rfl)) (by decide) (by rfl) (by rfl)) (aP _))))) (@ak _ _ _ (@bZ _ _ _ _ (@iA _ _ _ _ _ _ _ _ _ vp PySem.F.slot_list_pop PySem.F.type_list_pop qd (pv 1) (by rfl) (by rfl)) (by rfl))) (@ak _ _ _ (@bZ _ _ _ _ (@du _ _ _ _ _ _ _ _ _ _ _ _ vp vR wG cU (pv 1) (@aa _ _ _ _ _ (pv 2) ae (by rfl)) (by rfl) (by rfl) (by rfl) (by rfl) (by rfl)) (by rfl))))) (by intro _ ;rfl)) (@ag _ _ _ _ _ (@lE _ _ _ _ _ _ vx (@PW.pt _ _ _ (@ik _ _ _ _ _ _ _ (@aF _ _ _ _ _ _ _ _ lG (@aj _ _ _ _ _ _ _ _ _ aq (by rfl) T.len uT (@aa _ _ _ _ _ (pv 1) ae (by rfl)) (by decide) (by decide) (by rfl) (by rfl)) ah (aP _)) (@gI _ _ _ _ (@aF _ _ _ _ _ _ _ _ cq (@aR _ _ _ _ _ _ _ aZ (pv 1) ah (fun _ _ => rfl)) (@aV _ _ _ _ _ _ _ _ _ _ _ F_lback hr (by decide) rfl (@aa _ _ _ _ _ (@aR _ _ _ _ _ _ _ aZ (pv 1) (@jt _ _ _ _ _ _ fJ ah) (fun _ _ => rfl)) ae (by rfl)) (by decide) (by rfl) (by rfl)) (aP _))))) (@ak _ _ _ (@aL _ _ (1) _ _ _ _ sc.nd rfl (Or.inl rfl) (@aA _ _ _ _ _ _ _ _ _ _ jF (pv 1) (@aG _ _ _ ah) (@aG _ _ _ (@jt _ _ _ _ _ _ fJ ah))) (by rfl) (by first | exact .inl rfl | exact .inr rfl | assumption)))) (@ak _ _ _ (@aE _ _ _ _ (@du _ _ _ _ _ _ _ _ _ _ _ _ vk w5 w6 fk cj (@aa _ _ _ _ _ (pv 1) ae (by rfl)) (by rfl) (by rfl) (by rfl) (by rfl) (by rfl))))))), ?_⟩
    refine ⟨(by show 0≤sizeLine;decide), fun l hl => ?_⟩
    refine ⟨_, rfl, _, rfl, og (z := toS u) (fun i σ H' => ∃ (v : Option V) (W : List L), σ = [some (tx u), some (.ref l), v] ∧ H' l=some (.lst (bG W)) ∧ W.length≤i ∧ (∀ x∈W, x∈u) ∧ au H H') ⟨none, [], rfl, ab, uG _, (fun x hx => by cases hx), au.new hl⟩ ?_ ?_⟩
    · rintro i cc σ H1 hc ⟨v, W, rfl, h1, hW, mW, s1⟩
      obtain ⟨x, hx, ex⟩ := gL hc
      rw [ex]
      have hi : i < u.length := (uJ.mp hx).1
      have push : ∀ H2, au H1 H2 → ∃ (v : Option V) (W' : List L), [some (tx u), some (V.ref l), some (V.str (toS [x]))]=[some (tx u), some (V.ref l), v] ∧ (upd H2 l (.lst (bG W++[V.str (toS [x])]))) l=some (.lst (bG W')) ∧ W'.length≤i+1 ∧ (∀ x∈W', x∈u) ∧ au H (upd H2 l (.lst (bG W++[V.str (toS [x])]))) := fun H2 s2 => by
        refine ⟨_, W++[x], rfl, ?_, by rw [uF];simp;omega, fun y hy => ?_, fun b o e => ?_⟩
        · rw [ab, ← cB]
          rfl
        · rcases uW.mp hy with hy | hy
          · exact mW y hy
          · rw [uE.mp hy]
            exact uU hx
        · rw [aC (ao e hl)]
          exact s2 _ _ (s1 _ _ e)
      refine ⟨_, rfl, l, _, rfl, .inl (SqL.of h1), _, _, rfl, rfl, _, rfl, ?_⟩
      by_cases h0 : W=[]
      · subst h0
        refine nE (uP (by simp [bG])) (lQ ?_)
        refine ⟨_, rfl, .inl ⟨rfl, _, SqL.of h1⟩, _, rfl, l, _, _, rfl, rfl, h1, (by rw [bq];simp;omega), ?_⟩
        exact push H1 (au.refl _)
      · obtain ⟨V0, y, rfl⟩ : ∃ V0 y, W=V0++[y] := ⟨W.dropLast, W.getLast h0, (xX h0).symm⟩
        have hl1 : (bG (V0++[y])).length=V0.length+1 := by rw [bq];simp
        have al : atI (bG (V0++[y])) (-1)=some (tx [y]) := by
          unfold bG
          rw [uY]
          exact iz _ _
        refine nD (va (by rw [hl1];omega)) ?_
        refine ⟨_, rfl, _, rfl, l, _, _, _, rfl, rfl, SqL.of h1, al, _, rfl, [x], rfl, (by show 1≤5000;decide), fun H2 s2 => ?_⟩
        refine ⟨rfl, _, rfl, ?_⟩
        rw [nA]
        by_cases hyx : y=inv x
        · refine nD (by rw [hyx];exact va rfl) ?_
          have h2 := s2 _ _ h1
          refine ⟨_, rfl, .inl ⟨rfl, _, SqL.of h2⟩, l, _, _, rfl, rfl, h2, rf _ _, _, V0, rfl, ?_, by simp at hW;omega, fun z hz => mW z (u7 _ hz), fun b o e => ?_⟩
          · rw [ab, mY]
          · rw [aC (ao e hl)]
            exact s2 _ _ (s1 _ _ e)
        · refine nE (uP fun e => hyx (wK (jM e)).1) ?_
          refine ⟨_, rfl, .inl ⟨rfl, _, SqL.of (s2 _ _ h1)⟩, _, rfl, l, _, _, rfl, rfl, s2 _ _ h1, (by rw [hl1];simp at hW;omega), ?_⟩
          exact push H2 s2
    · rintro σ H1 ⟨v, W, rfl, h1, hW, mW, s1⟩
      rw [cZ] at hW
      refine ⟨fun m σ H' => ∃ (v : Option V) (W : List L) (l2 : Addr), σ = [some (tx u), some (.ref l2), v] ∧ H' l2=some (.lst (bG W)) ∧ W.length≤u.length ∧ (∀ x∈W, x∈u) ∧ au H H' ∧ m=W.length, ⟨_, v, W, l, rfl, h1, hW, mW, s1, rfl⟩, ?_⟩
      rintro m σ H2 ⟨v, W, l2, rfl, h2, hW2, mW2, s2, rfl⟩
      have fin : ∀ H3, au H2 H3 → Q (tx W) H3 := fun H3 s3 => k W H3 hW2 mW2 (s2.trans s3)
      refine ⟨_, rfl, l2, _, rfl, .inl (SqL.of h2), _, _, rfl, rfl, _, rfl, ?_⟩
      rw [bq]
      by_cases g1 : 1 < W.length
      · refine nD (va (by omega)) ?_
        obtain ⟨x, mid, y, rfl⟩ : ∃ x mid y, W=x::(mid++[y]) := by
          cases W with
          | nil => simp at g1
          | cons x r =>
            have hr : r≠[] := by
              intro e
              subst e
              simp at g1
            exact ⟨x, r.dropLast, r.getLast hr, by rw [xX]⟩
        have a0 : atI (bG (x::(mid++[y]))) 0=some (tx [x]) := kG rfl
        have al : atI (bG (x::(mid++[y]))) (-1)=some (tx [y]) := by
          have e : bG (x::(mid++[y]))=bG (x::mid)++[tx [y]] := by rw [cB];rfl
          rw [e]
          exact iz _ _
        refine ⟨_, rfl, l2, _, _, _, rfl, rfl, SqL.of h2, a0, _, rfl, _, rfl, l2, _, _, _, rfl, rfl, SqL.of h2, al, [y], rfl, (by show 1≤5000;decide), fun H3 s3 => ?_⟩
        refine ⟨rfl, _, rfl, ?_⟩
        rw [nA]
        by_cases hxy : x=inv y
        · refine nD (by rw [hxy];exact va rfl) ⟨_, fun σ' H' q => q, ?_⟩
          refine ⟨_, rfl, _, rfl, _, rfl, _, rfl, l2, _, rfl, SqL.of (s3 _ _ h2), fun l3 hl3 => ?_⟩
          rw [mZ]
          refine ⟨mid.length, by simp;omega, v, mid, l3, rfl, ab, by simp at hW2;omega, fun z hz => mW2 z (u6 _ (u7 _ hz)), (s2.trans s3).then hl3, rfl⟩
        · refine nE (uP fun e => hxy (wK (jM e)).1) ?_
          exact ⟨rfl, _, rfl, _, l2, (_ : List L).map fun x => toS [x], rfl, rfl, SqL.of (by rw [s3 _ _ h2, c_]), cD _ (by omega), by rw [cC];exact fin H3 s3⟩
      · refine nE (uP (by omega)) (lQ ?_)
        exact ⟨rfl, _, rfl, _, l2, (_ : List L).map fun x => toS [x], rfl, rfl, SqL.of (by rw [(au.refl _) _ _ h2, c_]), cD _ (by omega), by rw [cC];exact fin H2 (au.refl _)⟩
end
end Kx
namespace Kx
open PySem PySem.Spec PyProof.Rows L2 Wd
theorem rg {m : Nat}(h : m≤6){x : L}(hx : x∈sg (m : Int)) : x.val % 6 < m := by
  have q : ∀ (m : Fin 7) (x : L), x∈([0, 1, 2, 3, 4, 5] : List L).take m.val++([6, 7, 8, 9, 10, 11] : List L).take m.val → x.val % 6 < m.val := by decide
  exact q ⟨m, by omega⟩ x hx
theorem kU {u : List L}{x : L} : ∀ {n : Nat}, x∈rep n u → x∈u
  | 0, h => by cases h
  | n+1, h => by
    have h : x∈rep n u++u := h
    rcases uW.mp h with h | h
    · exact kU h
    · exact h
section
variable {P : Program} {w : World} {K : PySem.W.Frag} {mg : Str → Option Value} {base : Heap} {aB : Addr}
abbrev rh : Stmt := top 20
theorem s_ : aN ["_law_tape_here", "_law_many", "_law_long", "_law_signs", "_law_word", "_law_at"] ["_law_tape_here", "_law_many", "_law_long"] (ai rh) := ⟨rfl, rfl, rfl, by decide +kernel, rfl, by decide +kernel, by decide +kernel⟩
theorem uy (D : Df K mg "_law_any_way" rh)(T : Bt0 mg)(F_draw : Fnc P w K mg base "_law_draw" ["_law_tape_here", "_law_many"] 1 bV)(F_inner : Fnc P w K mg base "_law_inner" ["_law_word"] 2 fC)(F_lrooted : Fnc P w K mg base "_law_rooted" ["_law_word"] 1 fD) : Fnc P w K mg base "_law_any_way" ["_law_tape_here", "_law_many", "_law_long"] 3 hX := by
  have sc := s_
  refine D.ok sc (fun _ _ _ _ _ _ us hl => by obtain ⟨_, _, _, rfl⟩ := nJ hl;rfl) (fun vs H Q E h => ?_) (fun f cdv A outer s H vs Q E hr h => ?_)
  · obtain ⟨d, c, m, n, rfl, _⟩ := h
    rfl
  · obtain ⟨d, c, m0, n, rfl, F, m1, m2, n1, n2, k⟩ := h
    have m1 : (1 : Int)≤(m0 : Int) := by omega
    have m2 : (m0 : Int)≤6 := by omega
    have k : ∀ (v : List L) (H2 : Hp), v≠[] → v.length≤15 → (∀ x∈v, x∈sg (m0 : Int)) → Tp H2 d c → a_ d H H2 → Q (tx v) H2 := fun v H2 a1 a2 a3 => k v H2 a1 a2 fun x hx => rg (by omega) (a3 x hx)
    generalize (m0 : Int)=m at m1 m2 k ⊢
    have l16 := br
    refine ⟨_, (@ag _ _ _ _ _ (@aL _ _ (3) _ _ _ _ sc.nd rfl (Or.inr rfl) (@aD _ _ _ _ _ _ _ _ dq (@aA _ _ _ _ _ _ _ _ _ _ cM cj aO (@aG _ _ _ (pv 1))) (@aA _ _ _ _ _ _ _ _ _ _ cM cj aO (@aG _ _ _ (pv 1)))) (by rfl) (by first | exact .inl rfl | exact .inr rfl | assumption)) (@ag _ _ _ _ _ (@aL _ _ (4) _ _ _ _ sc.nd rfl (Or.inl rfl) (@du _ _ _ _ _ _ _ _ _ _ _ _ vk w5 w6 fk cj (@aa _ _ _ _ _ (@bT _ _ _ _ _ _ _ (["_law_k", "_law_signs", "_law_tape_here", "_law_many"]) (["_law_k"]) ([3, 0, 1]) _ _ _ _ (@cx _ _ _ _ _ _ rfl (by kernel_rfl)) rfl (@bt _ _ _ _ _ _ rfl T.range (@aa _ _ _ _ _ (@aD _ _ _ _ _ _ _ _ bp ah (@aV _ _ _ _ _ _ _ _ _ _ _ F_draw hr (by decide) rfl (@aa _ _ _ _ _ (pv 0) (@aa _ _ _ _ _ (pv 2) ae (by rfl)) (by rfl)) (by decide) (by rfl) (by rfl))) ae (by rfl)) (by rfl)) (fun _ _ _ _ => @aK _ _ (0) _ (show (["_law_k", "_law_signs", "_law_tape_here", "_law_many"] : List Str).Nodup from by decide +kernel) rfl (Or.inl rfl) (by first | exact .inl rfl | exact .inr rfl | assumption)) (fun _ _ _ _ => bI) (fun _ _ _ _ => by (exact (@aR _ _ _ _ _ _ _ dG (pv 1) (@aV _ _ _ _ _ _ _ _ _ _ _ F_draw hr (by decide) rfl (@aa _ _ _ _ _ (pv 2) (@aa _ _ _ _ _ (@aD _ _ _ _ _ _ _ _ fH ah (pv 3)) ae (by rfl)) (by rfl)) (by decide) (by rfl) (by rfl)) (fun _ _ => rfl)))) (by intro _ ;rfl)) ae (by rfl)) (by rfl) (by rfl) (by rfl) (by rfl) (by rfl)) (by rfl) (by first | exact .inl rfl | exact .inr rfl | assumption)) (@ag _ _ _ _ _ (@bD _ _ _ _ _ _ _ _ (@aF _ _ _ _ _ _ _ _ cq (@aV _ _ _ _ _ _ _ _ _ _ _ F_draw hr (by decide) rfl (@aa _ _ _ _ _ (pv 0) (@aa _ _ _ _ _ ah ae (by rfl)) (by rfl)) (by decide) (by rfl) (by rfl)) ah (aP _)) (@ag _ _ _ _ _ (@aL _ _ (5) _ _ _ _ sc.nd rfl (Or.inl rfl) (@aD _ _ _ _ _ _ _ _ bp ah (@aV _ _ _ _ _ _ _ _ _ _ _ F_draw hr (by decide) rfl (@aa _ _ _ _ _ (pv 0) (@aa _ _ _ _ _ ah ae (by rfl)) (by rfl)) (by decide) (by rfl) (by rfl))) (by rfl) (by first | exact .inl rfl | exact .inr rfl | assumption)) (@ak _ _ _ (@aL _ _ (4) _ _ _ _ sc.nd rfl (Or.inl rfl) (@aD _ _ _ _ _ _ _ _ dq (@aD _ _ _ _ _ _ _ _ eW (@aA _ _ _ _ _ _ _ _ _ _ cM (pv 4) aO (@aG _ _ _ (pv 5))) (@aD _ _ _ _ _ _ _ _ bp ah (@aV _ _ _ _ _ _ _ _ _ _ _ F_draw hr (by decide) rfl (@aa _ _ _ _ _ (pv 0) (@aa _ _ _ _ _ ah ae (by rfl)) (by rfl)) (by decide) (by rfl) (by rfl)))) (@aA _ _ _ _ _ _ _ _ _ _ cM (pv 4) (@aG _ _ _ (pv 5)) aO)) (by rfl) (by first | exact .inl rfl | exact .inr rfl | assumption)))) aQ) (@ak _ _ _ (@aE _ _ _ _ (@qD _ _ _ _ _ _ _ (@aV _ _ _ _ _ _ _ _ _ _ _ F_lrooted hr (by decide) rfl (@aa _ _ _ _ _ (@aV _ _ _ _ _ _ _ _ _ _ _ F_inner hr (by decide) rfl (@aa _ _ _ _ _ (@aA _ _ _ _ _ _ _ _ _ _ cM (pv 4) aO (@aG _ _ _ (pv 2))) ae (by rfl)) (by decide) (by rfl) (by rfl)) ae (by rfl)) (by decide) (by rfl) (by rfl)) (@il _ _ _ _ _ (@aR _ _ _ _ _ _ _ dG (pv 3) ah (fun _ _ => rfl))))))))), ?_⟩
    refine ⟨_, rfl, _, rfl, _, rfl, (by rw [fW];omega), _, rfl, _, rfl, _, rfl, (by rw [jV];omega), _, _, rfl, rfl, ?_, ?_⟩
    · have h1 := xM ("abcdef" : Str) none (some m)
      have h2 := xM ("ABCDEF" : Str) none (some m)
      rw [fW] at h1
      rw [jV] at h2
      omega
    rw [lZ m1]
    have hsg := jU m1 m2
    refine ⟨rfl, _, rfl, _, rfl, d, c, _, rfl, F, by omega, by omega, fun r H1 r0 r1 F1 sb1 => ?_⟩
    refine ⟨_, _, rfl, rfl, _, rfl, by omega, by omega, ?_⟩
    refine cA (own := ["_law_k"]) (cap := [3, 0, 1]) (J := Itr 0 (1+r).toNat) (1+r).toNat (fun i ys σ H' => ∃ (v : Option V) (W : List L), σ = [v, some (tx (sg m)), some (.ref d), some (.int m)] ∧ ys=bG W ∧ W.length=i ∧ (∀ x∈W, x∈sg m) ∧ Tp H' d c ∧ a_ d H H')
      ⟨none, [], rfl, rfl, rfl, (fun x hx => by cases hx), F1, sb1⟩ (fun i ys σ H' hi ⟨v, W, _, e, e2, _⟩ => by rw [e, bq, e2];exact uG _) (by omega) (fun i ys σ H' hi _ => hi) (fun ys σ H' _ => uG _) ?_ ?_
    · rintro i ys σ H2 x H3 N hi ⟨v, W, rfl, rfl, hW, mW, F2, sb2⟩ ⟨rfl, rfl⟩ hN
      refine ⟨_, rfl, _, rfl, _, rfl, _, _, rfl, rfl, .inl ⟨by decide, by decide⟩, d, c, _, rfl, F2, by omega, by omega, fun q H4 q0 q1 F4 sb4 => ?_⟩
      have hq : q.toNat < (sg m).length := by omega
      refine ⟨_, _, cp (sg m)[q.toNat], rfl, rfl, (by rw [af];omega), dy (k := q.toNat) (by omega) (uB hq), hN _ _ _ ⟨_, W++[(sg m)[q.toNat]], rfl, (cB _ _), by rw [uF, hW];rfl, fun x hx => (uW.mp hx).elim (mW x) (fun hx => by rw [uE.mp hx];exact vc hq), F4, sb2.trans sb4⟩⟩
    rintro ys σ H2 l ⟨v, W, rfl, rfl, hW, mW, F2, sb2⟩ hl
    refine ⟨_, l, W.map fun x => toS [x], rfl, rfl, SqL.of (by rw [ab, c_]), cD _ (by omega), ?_⟩
    rw [cC]
    have F3 := F2.new (o := .lst (bG W)) hl
    have sb3 := sb2.trans (au.new (o := .lst (bG W)) hl).b
    generalize upd H2 l (.lst (bG W))=H3 at F3 sb3 ⊢
    have hW15 : W.length≤15 := by omega
    -- what comes behind
    have hs0 : ∃ x, (sg m)[0]? = some x := ⟨(sg m)[0]'(by omega), uB (by omega)⟩
    obtain ⟨x0, hx0⟩ := hs0
    refine ⟨_, rfl, d, c, _, rfl, F3, by decide, by decide, fun q H4 q0 q1 F4 sb4 => ?_⟩
    refine ⟨rfl, _, rfl, ?_⟩
    have end_ : ∀ (Z : List L) (H5 : Hp), Z.length≤60 → Tp H5 d c → a_ d H H5 → (∀ (v : List L) (H6 : Hp), v≠[] → v.length≤15 → (∀ x∈v, x∈sg m) → au H5 H6 → Q (tx v) H6) := fun Z H5 _ F5 sb5 v H6 ne hv mv s6 => k v H6 ne hv mv (F5.same s6) (sb5.trans s6.b)
    refine dR (fun _ => ?_) (fun _ => ?_)
    · refine ⟨_, rfl, d, c, _, rfl, F4, by decide, by decide, fun a H5 a0 a1 F5 sb5 => ⟨_, _, rfl, rfl, ?_⟩⟩
      have c1 : Txt.slice (toS W) none (some (1+a))=toS (W.take (1+a).toNat) := by rw [bu, dI _ (by omega)]
      have c2 : Txt.slice (toS W) (some (1+a)) none=toS (W.drop (1+a).toNat) := by rw [bu, iE _ (by omega)]
      refine ⟨_, rfl, _, rfl, _, rfl, _, rfl, (by rw [af];omega), ?_⟩
      rw [c1]
      refine ⟨_, rfl, d, c, _, rfl, F5, by decide, by decide, fun b H6 b0 b1 F6 sb6 => ⟨_, _, rfl, rfl, ?_⟩⟩
      refine ⟨_, _, rfl, rfl, fV _ (by omega) (by omega) (by rw [uR];omega), ?_⟩
      rw [oq]
      have hrl : (rep (2+b).toNat (W.take (1+a).toNat)).length≤12 := by
        rw [eX, uR]
        exact vi (Nat.mul_le_mul (show (2+b).toNat≤4 by omega) (show min (1+a).toNat W.length≤3 by omega)) (by decide)
      have hrm : ∀ x∈rep (2+b).toNat (W.take (1+a).toNat), x∈sg m := fun x hx => mW x (vt (kU hx))
      generalize rep (2+b).toNat (W.take (1+a).toNat)=R1 at hrl hrm ⊢
      refine ⟨_, rfl, _, rfl, _, rfl, _, rfl, (by rw [af];omega), ?_⟩
      rw [c2]
      refine ⟨_, _, rfl, rfl, (by rw [af, af, vv];omega), ?_⟩
      rw [jT]
      have hZ : (R1++W.drop (1+a).toNat).length≤60 := by rw [uF, vv];omega
      have hZm : ∀ x∈R1++W.drop (1+a).toNat, x∈sg m := fun x hx => (uW.mp hx).elim (hrm x) fun hx => mW x (vI hx)
      have sb06 := sb3.trans (sb4.trans (sb5.trans sb6))
      generalize R1++W.drop (1+a).toNat=Z at hZ hZm ⊢
      have cz : Txt.slice (toS Z) none (some n)=toS (Z.take n.toNat) := by rw [bu, dI _ (by omega)]
      refine ⟨_, rfl, _, rfl, _, rfl, _, rfl, (by rw [af];omega), ?_⟩
      rw [cz]
      have hzl : (Z.take n.toNat).length≤15 := by rw [uR];omega
      refine ⟨Z.take n.toNat, rfl, by omega, fun v1 H7 hv1 mv1 s7 => ⟨v1, rfl, by omega, fun v2 hv2 mv2 => ?_⟩⟩
      refine ⟨_, rfl, (by rw [af];omega), dR (fun e2 => end_ Z _ hZ F6 sb06 v2 H7 (by rintro rfl;exact absurd e2 (by decide)) (by omega) (fun x hx => hZm x (vt (mv1 x (mv2 x hx)))) s7) (fun _ => ?_)⟩
      refine ⟨_, rfl, _, _, cp x0, rfl, rfl, (by rw [af];omega), dy (k := 0) rfl hx0, ?_⟩
      exact end_ Z _ hZ F6 sb06 [x0] H7 (by intro z;cases z) (by show 1≤15;decide) (fun x hx => by rw [uE.mp hx];exact uU hx0) s7
    · have hZ : W.length≤60 := by omega
      have sb06 := sb3.trans sb4
      have hZm := mW
      generalize W=Z at hZ hZm ⊢
      have cz : Txt.slice (toS Z) none (some n)=toS (Z.take n.toNat) := by rw [bu, dI _ (by omega)]
      refine ⟨_, rfl, _, rfl, _, rfl, _, rfl, (by rw [af];omega), ?_⟩
      rw [cz]
      have hzl : (Z.take n.toNat).length≤15 := by rw [uR];omega
      refine ⟨Z.take n.toNat, rfl, by omega, fun v1 H7 hv1 mv1 s7 => ⟨v1, rfl, by omega, fun v2 hv2 mv2 => ?_⟩⟩
      refine ⟨_, rfl, (by rw [af];omega), dR (fun e2 => end_ Z _ hZ F4 sb06 v2 H7 (by rintro rfl;exact absurd e2 (by decide)) (by omega) (fun x hx => hZm x (vt (mv1 x (mv2 x hx)))) s7) (fun _ => ?_)⟩
      refine ⟨_, rfl, _, _, cp x0, rfl, rfl, (by rw [af];omega), dy (k := 0) rfl hx0, ?_⟩
      exact end_ Z _ hZ F4 sb06 [x0] H7 (by intro z;cases z) (by show 1≤15;decide) (fun x hx => by rw [uE.mp hx];exact uU hx0) s7
end
end Kx
namespace Kx
open PySem PySem.Spec PyProof.Rows L2 Wd
def GW (n : Nat)(w : List L) : Prop := w≠[] ∧ w.length≤15 ∧ InM n w
theorem GW.bk {n : Nat}{w : List L}(h : GW n w) : GW n (bk w) := ⟨fun e => h.1 (wH.mp (by rw [← cY, e]; rfl)), by rw [cY]; exact h.2.1, InM.bk h.2.2⟩
theorem GW.turn {n : Nat}{w : List L}(h : GW n w)(a : Nat) : GW n (w.drop a++w.take a) := by
  have hl : (w.drop a++w.take a).length=w.length := by rw [uF, vv, uR];omega
  refine ⟨fun e => h.1 (wH.mp (by rw [← hl, e];rfl)), by rw [hl];exact h.2.1, fun x hx => ?_⟩
  rcases uW.mp hx with hx | hx
  · exact h.2.2 x (vI hx)
  · exact h.2.2 x (vt hx)
theorem kW {α : Type}{xs : List α}{j : Int}(h0 : 0≤j)(h1 : j < xs.length) : ∃ v, v∈xs ∧ atI xs j=some v := by
  have hj : j.toNat < xs.length := by omega
  refine ⟨xs[j.toNat], vc hj, ?_⟩
  unfold atI ixN
  rw [if_pos h0, if_pos (by omega)]
  exact uB hj
section
variable {P : Program} {w : World} {K : PySem.W.Frag} {mg : Str → Option Value} {base : Heap} {aB : Addr}
abbrev eF : Stmt := top 21
theorem m4 : aN ["_law_tape_here", "_law_many", "_law_most", "_law_long", "_law_ways", "_law_k", "_law_word", "_law_at"] ["_law_tape_here", "_law_many", "_law_most", "_law_long"] (ai eF) := ⟨rfl, rfl, rfl, by decide +kernel, rfl, by decide +kernel, by decide +kernel⟩
theorem pj (D : Df K mg "_law_some_ways" eF)(T : Bt0 mg)(F_draw : Fnc P w K mg base "_law_draw" ["_law_tape_here", "_law_many"] 1 bV)(F_lback : Fnc P w K mg base "_law_back" ["_law_word"] 1 rJ)(F_aw : Fnc P w K mg base "_law_any_way" ["_law_tape_here", "_law_many", "_law_long"] 3 hX) : Fnc P w K mg base "_law_some_ways" ["_law_tape_here", "_law_many", "_law_most", "_law_long"] 4 h_ := by
  have sc := m4
  refine D.ok sc (fun _ _ _ _ _ _ us hl => by obtain ⟨_, _, _, _, rfl⟩ := ux hl;rfl) (fun vs H Q E h => ?_) (fun f cdv A outer s H vs Q E hr h => ?_)
  · obtain ⟨d, c, m, n, rfl, _⟩ := h
    rfl
  · obtain ⟨d, c, m, n, rfl, F, m1, m2, n1, n2, k⟩ := h
    have l16 := br
    refine ⟨_, (@ag _ _ _ _ _ (@aL _ _ (4) _ _ _ _ sc.nd rfl (Or.inl rfl) (@bF _ _ _ _ (@aa _ _ _ _ _ (@aV _ _ _ _ _ _ _ _ _ _ _ F_aw hr (by decide) rfl (@aa _ _ _ _ _ (pv 0) (@aa _ _ _ _ _ (pv 1) (@aa _ _ _ _ _ (pv 3) ae (by rfl)) (by rfl)) (by rfl)) (by decide) (by rfl) (by rfl)) ae (by rfl))) (by rfl) (by first | exact .inl rfl | exact .inr rfl | assumption)) (@ag _ _ _ _ _ (@bX _ _ _ _ _ _ _ _ vx rfl (@bt _ _ _ _ _ _ rfl T.range (@aa _ _ _ _ _ (@aV _ _ _ _ _ _ _ _ _ _ _ F_draw hr (by decide) rfl (@aa _ _ _ _ _ (pv 0) (@aa _ _ _ _ _ (pv 2) ae (by rfl)) (by rfl)) (by decide) (by rfl) (by rfl)) ae (by rfl)) (by rfl)) (@aK _ _ (5) _ sc.nd rfl (Or.inl rfl) (by first | exact .inl rfl | exact .inr rfl | assumption)) (@ag _ _ _ _ _ (@aL _ _ (6) _ _ _ _ sc.nd rfl (Or.inl rfl) (@aV _ _ _ _ _ _ _ _ _ _ _ F_aw hr (by decide) rfl (@aa _ _ _ _ _ (pv 0) (@aa _ _ _ _ _ (pv 1) (@aa _ _ _ _ _ (pv 3) ae (by rfl)) (by rfl)) (by rfl)) (by decide) (by rfl) (by rfl)) (by rfl) (by first | exact .inl rfl | exact .inr rfl | assumption)) (@ag _ _ _ _ _ (@bD _ _ _ _ _ _ _ _ (@aF _ _ _ _ _ _ _ _ cq (@aV _ _ _ _ _ _ _ _ _ _ _ F_draw hr (by decide) rfl (@aa _ _ _ _ _ (pv 0) (@aa _ _ _ _ _ ah ae (by rfl)) (by rfl)) (by decide) (by rfl) (by rfl)) ah (aP _)) (@ag _ _ _ _ _ (@aL _ _ (6) _ _ _ _ sc.nd rfl (Or.inl rfl) (@aR _ _ _ _ _ _ _ aZ (pv 4) (@aV _ _ _ _ _ _ _ _ _ _ _ F_draw hr (by decide) rfl (@aa _ _ _ _ _ (pv 0) (@aa _ _ _ _ _ (@aj _ _ _ _ _ _ _ _ _ aq (by rfl) T.len uT (@aa _ _ _ _ _ (pv 4) ae (by rfl)) (by decide) (by decide) (by rfl) (by rfl)) ae (by rfl)) (by rfl)) (by decide) (by rfl) (by rfl)) (fun _ _ => rfl)) (by rfl) (by first | exact .inl rfl | exact .inr rfl | assumption)) (@ag _ _ _ _ _ (@aL _ _ (7) _ _ _ _ sc.nd rfl (Or.inl rfl) (@aV _ _ _ _ _ _ _ _ _ _ _ F_draw hr (by decide) rfl (@aa _ _ _ _ _ (pv 0) (@aa _ _ _ _ _ (@aj _ _ _ _ _ _ _ _ _ aJ (by rfl) T.len uT (@aa _ _ _ _ _ (pv 6) ae (by rfl)) (by decide) (by decide) (by rfl) (by rfl)) ae (by rfl)) (by rfl)) (by decide) (by rfl) (by rfl)) (by rfl) (by first | exact .inl rfl | exact .inr rfl | assumption)) (@ag _ _ _ _ _ (@aL _ _ (6) _ _ _ _ sc.nd rfl (Or.inl rfl) (@aR _ _ _ _ _ _ _ aZ (@bF _ _ _ _ (@aa _ _ _ _ _ (pv 6) (@aa _ _ _ _ _ (@aV _ _ _ _ _ _ _ _ _ _ _ F_lback hr (by decide) rfl (@aa _ _ _ _ _ (pv 6) ae (by rfl)) (by decide) (by rfl) (by rfl)) ae (by rfl)) (by rfl))) (@aV _ _ _ _ _ _ _ _ _ _ _ F_draw hr (by decide) rfl (@aa _ _ _ _ _ (pv 0) (@aa _ _ _ _ _ ah ae (by rfl)) (by rfl)) (by decide) (by rfl) (by rfl)) (fun _ _ => rfl)) (by rfl) (by first | exact .inl rfl | exact .inr rfl | assumption)) (@ak _ _ _ (@aL _ _ (6) _ _ _ _ sc.nd rfl (Or.inl rfl) (@aD _ _ _ _ _ _ _ _ dq (@aA _ _ _ _ _ _ _ _ _ _ cM (pv 6) (@aG _ _ _ (pv 7)) aO) (@aA _ _ _ _ _ _ _ _ _ _ cM (pv 6) aO (@aG _ _ _ (pv 7)))) (by rfl) (by first | exact .inl rfl | exact .inr rfl | assumption)))))) aQ) (@ak _ _ _ (@bZ _ _ _ _ (@du _ _ _ _ _ _ _ _ _ _ _ _ vp vR wG cU (pv 4) (@aa _ _ _ _ _ (pv 6) ae (by rfl)) (by rfl) (by rfl) (by rfl) (by rfl) (by rfl)) (by rfl))))) (by intro _ ;rfl)) (@ak _ _ _ (@aE _ _ _ _ (@bA _ _ _ _ _ _ _ _ _ cb (by rfl) T.tuple bN (@aa _ _ _ _ _ (pv 4) ae (by rfl)) (by decide) (by decide) (by rfl) (by rfl)))))), ?_⟩
    refine ⟨_, rfl, _, rfl, _, rfl, d, c, m, n, rfl, F, m1, m2, n1, n2, fun v0 H1 ne0 hv0 iv0 F1 sb1 => ⟨(az (n := 1) (by decide)), fun l hl => ?_⟩⟩
    have hld := F1.ne hl
    have hlc := F1.nec hl
    have hlH : H l=none := by
      cases e : H l with
      | none => rfl
      | some o =>
        have := sb1 _ _ hld e
        rw [hl] at this
        cases this
    refine ⟨_, rfl, _, rfl, d, c, 4, rfl, F1.new hl, by decide, by decide, fun r H2 r0 r1 F2 sb2 => ?_⟩
    have f2 := sb2 _ _ hld (ab (o := .lst [tx v0]))
    have sb2 := (sb1.trans ((au.new (o := .lst [tx v0]) hl).b (d := d))).trans sb2
    refine ⟨_, rfl, by omega, by omega, ?_⟩
    refine bL (lo := 0) (n := r.toNat) (fun i σ H' => ∃ (a5 a6 a7 : Option V) (W : List (List L)), σ = [some (.ref d), some (.int (m : Int)), some (.int 4), some (.int n), some (.ref l), a5, a6, a7] ∧ H' l=some (.lst (W.map tx)) ∧ W.length=i+1 ∧ (∀ w∈W, GW m w) ∧ Tp H' d c ∧ a_ d H H') ⟨none, none, none, [v0], rfl, f2, rfl, (fun w hw => by rw [uE.mp hw];exact ⟨ne0, hv0, iv0⟩), F2, sb2⟩ ?_ ?_
    · rintro i σ H3 hi ⟨a5, a6, a7, W, rfl, f3, hW, gW, F3, sb3⟩
      refine ⟨_, rfl, _, rfl, _, rfl, d, c, m, n, rfl, F3, m1, m2, n1, n2, fun v H4 ne hv iv F4 sb4 => ?_⟩
      have f4 := sb4 _ _ hld f3
      have sb4 := sb3.trans sb4
      have fin : ∀ (w : List L) (a7 : Option V) (H' : Hp), GW m w → H' l=some (.lst (W.map tx)) → Tp H' d c → a_ d H H' → ∃ (a5 a6 a7' : Option V) (W' : List (List L)), [some (V.ref d), some (.int (m : Int)), some (.int 4), some (.int n), some (.ref l), some (.int (0+(i : Int))), some (tx w), a7]=[some (V.ref d), some (.int (m : Int)), some (.int 4), some (.int n), some (.ref l), a5, a6, a7'] ∧ (upd H' l (.lst (W.map tx++[tx w]))) l=some (.lst (W'.map tx)) ∧ W'.length=i+1+1 ∧ (∀ w∈W', GW m w) ∧ Tp (upd H' l (.lst (W.map tx++[tx w]))) d c ∧ a_ d H (upd H' l (.lst (W.map tx++[tx w]))) := by
        intro w a7 H' hw f' F' sb'
        refine ⟨_, _, _, W++[w], rfl, by rw [ab, uY];rfl, by rw [uF, hW];rfl, fun x hx => ?_, F'.but hld hlc a_.upd, fun b o nb e => ?_⟩
        · rcases uW.mp hx with hx | hx
          · exact gW x hx
          · rw [uE.mp hx];exact hw
        · rw [aC (ao e hlH)];exact sb' _ _ nb e
      refine ⟨_, rfl, d, c, _, rfl, F4, by decide, by decide, fun q H5 q0 q1 F5 sb5 => ⟨rfl, _, rfl, ?_⟩⟩
      have f5 := sb5 _ _ hld f4
      have sb5 := sb4.trans sb5
      refine dR (fun _ => ?_) (fun _ => ?_)
      · refine ⟨_, rfl, _, rfl, _, rfl, l, _, rfl, .inl (SqL.of f5), d, c, _, rfl, F5, by rw [uD];omega, by rw [uD];omega, fun j H6 j0 j1 F6 sb6 => ?_⟩
        have f6 := sb6 _ _ hld f5
        have sb6 := sb5.trans sb6
        obtain ⟨x, hx, ax⟩ := kW j0 j1
        obtain ⟨w0, hw0, rfl⟩ := v7.mp hx
        have gw := gW w0 hw0
        have wl := gw.2.1
        have wp : 0 < w0.length := ye.mpr gw.1
        refine ⟨l, _, _, _, rfl, rfl, SqL.of f6, ax, ?_⟩
        refine ⟨_, rfl, _, rfl, _, rfl, (by rw [af];omega), d, c, _, rfl, F6, by rw [af];omega, by rw [af];omega, fun a H7 a0 a1 F7 sb7 => ?_⟩
        have f7 := sb7 _ _ hld f6
        have sb7 := sb6.trans sb7
        refine ⟨_, rfl, _, rfl, w0, rfl, by omega, fun H8 s8 => ⟨(az (n := 2) (by decide)), fun p hp => ?_⟩⟩
        have s9 := s8.then (o := .lst [tx w0, tx (bk w0)]) hp
        have f9 := s9 _ _ f7
        have F9 := F7.same s9
        have sb9 := sb7.trans s9.b
        have hpd := (F7.same s8).ne hp
        refine ⟨_, rfl, d, c, _, rfl, F9, by decide, by decide, fun b H10 b0 b1 F10 sb10 => ?_⟩
        have f10 := sb10 _ _ hld f9
        have g10 := sb10 _ _ hpd (ab (o := .lst [tx w0, tx (bk w0)]))
        have sb10 := sb9.trans sb10
        obtain ⟨x, hx, ax⟩ := kW (xs := [tx w0, tx (bk w0)]) b0 b1
        obtain ⟨w1, g1, rfl⟩ : ∃ w1, GW m w1 ∧ x=tx w1 := by
          rcases u4.mp hx with rfl | hx
          · exact ⟨w0, gw, rfl⟩
          · rw [uE.mp hx]
            exact ⟨_, gw.bk, rfl⟩
        have w1l := g1.2.1
        refine ⟨p, _, _, _, rfl, rfl, SqL.of g10, ax, ?_⟩
        have c1 : Txt.slice (toS w1) none (some a)=toS (w1.take a.toNat) := by rw [bu, dI _ (by omega)]
        have c2 : Txt.slice (toS w1) (some a) none=toS (w1.drop a.toNat) := by rw [bu, iE _ (by omega)]
        refine ⟨_, rfl, _, rfl, _, rfl, _, rfl, (by rw [af];omega), ?_⟩
        rw [c2]
        refine ⟨_, rfl, _, rfl, _, rfl, _, rfl, (by rw [af];omega), ?_⟩
        rw [c1]
        refine ⟨_, _, rfl, rfl, (by rw [af, af, vv, uR];omega), ?_⟩
        rw [jT]
        refine ⟨_, rfl, .inl ⟨rfl, _, SqL.of f10⟩, _, rfl, l, _, _, rfl, rfl, f10, by rw [uD];omega, ?_⟩
        exact fin _ _ _ (g1.turn _) f10 F10 sb10
      · refine ⟨_, rfl, .inl ⟨rfl, _, SqL.of f5⟩, _, rfl, l, _, _, rfl, rfl, f5, by rw [uD];omega, ?_⟩
        exact fin _ _ _ ⟨ne, hv, iv⟩ f5 F5 sb5
    · rintro σ H3 ⟨a5, a6, a7, W, rfl, f3, hW, gW, F3, sb3⟩
      refine ⟨_, rfl, l, _, rfl, .inl ⟨SqL.of f3, fun p hp => ?_⟩⟩
      exact k p W _ (F3.new hp) (sb3.trans (au.new hp).b) ⟨ab, by omega, by omega, gW⟩
end
end Kx
namespace Kx
open PySem PySem.Spec PyProof.Rows L2 Wd
section
variable {P : Program} {w : World} {K : PySem.W.Frag} {mg : Str → Option Value} {base : Heap} {aB : Addr}
abbrev gv : Stmt := top 22
theorem pk : aN ["_law_ways", "_law_found", "_law_i"] ["_law_ways"] (ai gv) := ⟨rfl, rfl, rfl, by decide +kernel, rfl, by decide +kernel, by decide +kernel⟩
theorem rj (D : Df K mg "_law_all_strands" gv)(T : Bt0 mg) : Fnc P w K mg base "_law_all_strands" ["_law_ways"] 1 jh := by
  have sc := pk
  refine D.ok sc (fun _ _ _ _ _ _ us hl => by obtain ⟨_, rfl⟩ := nI hl;rfl) (fun vs H Q E h => ?_) (fun f cdv A outer s H vs Q E hr h => ?_)
  · obtain ⟨a, n, W, rfl, _⟩ := h
    rfl
  · obtain ⟨a, n, W, rfl, hW, k⟩ := h
    have l16 := br
    have w15 : ∀ w∈W, w.length≤15 := fun w hw => (hW.ws w hw).2.1
    have hle := hW.le
    refine ⟨_, (@ag _ _ _ _ _ (@aL _ _ (1) _ _ _ _ sc.nd rfl (Or.inl rfl) (@bF _ _ _ _ ae) (by rfl) (by first | exact .inl rfl | exact .inr rfl | assumption)) (@ag _ _ _ _ _ (@bX _ _ _ _ _ _ _ _ vx rfl (@bt _ _ _ _ _ _ rfl T.range (@aa _ _ _ _ _ (@aj _ _ _ _ _ _ _ _ _ aq (by rfl) T.len uT (@aa _ _ _ _ _ (pv 0) ae (by rfl)) (by decide) (by decide) (by rfl) (by rfl)) ae (by rfl)) (by rfl)) (@aK _ _ (2) _ sc.nd rfl (Or.inr rfl) (by first | exact .inl rfl | exact .inr rfl | assumption)) (@ak _ _ _ (@bZ _ _ _ _ (@du _ _ _ _ _ _ _ _ _ _ _ _ vp yF yG fS (pv 1) (@aa _ _ _ _ _ (@bT _ _ _ _ _ _ _ (["_law_p", "_law_i"]) (["_law_p"]) ([2]) _ _ _ _ (@cx _ _ _ _ _ _ rfl (by kernel_rfl)) rfl (@bt _ _ _ _ _ _ rfl T.range (@aa _ _ _ _ _ (@aj _ _ _ _ _ _ _ _ _ aJ (by rfl) T.len uT (@aa _ _ _ _ _ (@aR _ _ _ _ _ _ _ bo (pv 0) (pv 2) (fun _ _ => rfl)) ae (by rfl)) (by decide) (by decide) (by rfl) (by rfl)) ae (by rfl)) (by rfl)) (fun _ _ _ _ => @aK _ _ (0) _ (show (["_law_p", "_law_i"] : List Str).Nodup from by decide +kernel) rfl (Or.inl rfl) (by first | exact .inl rfl | exact .inr rfl | assumption)) (fun _ _ _ _ => bI) (fun _ _ _ _ => by (exact (@ba _ _ _ _ _ (@aa _ _ _ _ _ (pv 1) (@aa _ _ _ _ _ (pv 0) ae (by rfl)) (by rfl))))) (by intro _ ;rfl)) ae (by rfl)) (by rfl) (by rfl) (by rfl) (by rfl) (by rfl)) (by rfl))) (by intro _ ;rfl)) (@ak _ _ _ (@aE _ _ _ _ (pv 1))))), ?_⟩
    refine ⟨(by show 0≤sizeLine;decide), fun l hl => ?_⟩
    have s1 : au H (upd H l (.lst [])) := au.new hl
    have f1 : (upd H l (.lst [])) l=some (.lst ((([] : List (Addr × Int × Int)).map (·.1)).map V.ref)) := ab
    generalize upd H l (.lst [])=H1 at s1 f1 ⊢
    refine ⟨_, rfl, a, _, rfl, .inr (SqT.of (s1 _ _ hW.at_)), _, rfl, by rw [uD];omega, by rw [uD];omega, ?_⟩
    rw [uD, vh]
    refine bL (lo := 0) (n := W.length) (fun i σ H' => ∃ (v2 : Option V) (zs : List (Addr × Int × Int)), σ = [some (.ref a), some (.ref l), v2] ∧ H' l=some (.lst ((zs.map (·.1)).map V.ref)) ∧ StA H' zs ∧ zs.map (·.2)=ll W i ∧ au H H') ⟨none, [], rfl, f1, (fun z hz => by cases hz), rfl, s1⟩ ?_ ?_
    · rintro i σ H3 hil ⟨v2, zs, rfl, f3, hz3, ez, s3⟩
      rw [yr]
      have hw : W[i]? = some (W.getD i []) := by rw [u9, uB hil];rfl
      have aw := cR (W := W) (i := (i : Int)) (by omega) (by omega)
      rw [vh] at aw
      generalize W.getD i []=w' at hw aw
      have hwl := w15 w' (uU hw)
      have zl : zs.length≤60 := by
        have := dg w15 i
        rw [← ez, uD] at this
        omega
      refine ⟨_, rfl, .inl ⟨rfl, _, SqL.of f3⟩, _, rfl, _, rfl, a, _, _, _, rfl, rfl, SqT.of (s3 _ _ hW.at_), aw, _, rfl, (by rw [af];omega), _, rfl, (by rw [af];omega), (by rw [af];omega), ?_⟩
      rw [af, vh]
      refine cA (own := ["_law_p"]) (cap := [2]) (J := Itr 0 w'.length) w'.length (fun j ys σ H' => ∃ (b : Option V) (ps : List (Addr × Int × Int)), σ = [b, some (.int (i : Int))] ∧ ys=(ps.map (·.1)).map V.ref ∧ StA H' ps ∧ ps.map (·.2)=(List.range j).map (fun p : Nat => ((i : Int), (p : Int))) ∧ au H3 H') ⟨none, [], rfl, rfl, (fun z hz => by cases hz), rfl, au.refl _⟩
        (fun j ys σ H' hj ⟨_, ps, _, e, _, e2, _⟩ => ?_) (by omega) (fun j ys σ H' hj _ => hj) (fun ys σ H' _ => uG _) ?_ ?_
      · have := vz List.length e2
        rw [uD, uD, wF] at this
        rw [e, uD, uD]
        omega
      · rintro j ys σ H4 x H5 N hj ⟨b, ps, rfl, rfl, hp, e2, s4⟩ ⟨rfl, rfl⟩ hN
        refine ⟨_, rfl, _, rfl, (az (n := 2) (by decide)), fun q hq => hN _ _ _ ⟨_, ps++[(q, (i : Int), (j : Int))], rfl, ?_, ?_, ?_, s4.then hq⟩⟩
        · rw [uY, uY];rfl
        · rw [yr]
          exact (hp.same (au.new hq)).app fun z hz => by
            rw [uE] at hz
            subst hz
            exact ab
        · rw [uY, e2, xB, uY];rfl
      · rintro ys σ H4 q ⟨b, ps, rfl, rfl, hp, e2, s4⟩ hq
        have s5 : au H4 (upd H4 q (.lst ((ps.map (·.1)).map V.ref))) := au.new hq
        have g5 : (upd H4 q (.lst ((ps.map (·.1)).map V.ref))) q=some (.lst ((ps.map (·.1)).map V.ref)) := ab
        have f5 := s5 _ _ (s4 _ _ f3)
        have hp5 := hp.same s5
        have hz5 := (hz3.same s4).same s5
        have s6 := (s3.trans s4).trans s5
        generalize upd H4 q (.lst ((ps.map (·.1)).map V.ref))=H5 at g5 f5 hp5 hz5 s6 ⊢
        have pl : ps.length=w'.length := by
          have := vz List.length e2
          rwa [uD, uD, wF] at this
        refine ⟨l, q, _, _, rfl, rfl, f5, g5, by rw [uD, uD, uD, uD];omega, ?_⟩
        have keepT : ∀ b xs, H5 b=some (.tup xs) → (upd H5 l (.lst ((zs.map (·.1)).map V.ref++(ps.map (·.1)).map V.ref))) b=some (.tup xs) := fun b xs e => by
          rw [aC (gE e f5 (by intro z;cases z))];exact e
        refine ⟨_, zs++ps, rfl, ?_, fun z hz => keepT _ _ ((hz5.app hp5) z hz), dM hw ez e2, fun b o e => ?_⟩
        · rw [ab, uY, uY]
        · rw [aC (ao e hl)];exact s6 _ _ e
    · rintro σ H2 ⟨v2, zs, rfl, f2, hz, ez, s2⟩
      exact ⟨_, rfl, k l zs _ hl s2 f2 hz ez⟩
def dX : V → Bool
  | .int i => decide (i < 0)
  | _ => true
theorem kX {x : V}(h : whV x=false) : dX x=true := by
  cases x with
  | int i => cases h
  | _ => rfl
theorem dh {xs : List V}{i : Nat}{y : V}(h : xs[i]? = some y) : (xs.take (i+1)).filter dX=(xs.take i).filter dX++(if dX y=true then [y] else []) := by
  rw [v_, h, wY, xC]
  congr 1
  by_cases c : dX y=true
  · rw [if_pos c, wL c];rfl
  · rw [if_neg c, wo c];rfl
abbrev dj : Stmt := top 24
theorem kY : aN ["_law_ways", "_law_thing"] ["_law_ways", "_law_thing"] (ai dj) := ⟨rfl, rfl, rfl, by decide +kernel, rfl, by decide +kernel, by decide +kernel⟩
theorem m5 (D : Df K mg "_law_is_strand" dj)(T : Bt0 mg)(Tbool : mg "bool" = none) : Fnc P w K mg base "_law_is_strand" ["_law_ways", "_law_thing"] 1 (dB K) := by
  have sc := kY
  refine D.ok sc (fun _ _ _ _ _ _ us hl => by obtain ⟨_, _, rfl⟩ := pE hl;rfl) (fun vs H Q E h => ?_) (fun f cdv A outer s H vs Q E hr h => ?_)
  · obtain ⟨a0, n, W, x, c, rfl, _⟩ := h
    rfl
  · obtain ⟨a0, n, W, x, c, rfl, hW, hx, k⟩ := h
    have l16 := br
    refine ⟨_, (@ag _ _ _ _ _ (@bD _ _ _ _ _ _ _ _ (@PW.pt _ _ _ (@dN _ _ _ _ _ _ _ (@ck _ _ _ _ (@bw _ _ _ (@aj _ _ _ _ _ _ _ _ _ (@bx _ (K) rfl) (by rfl) T.isinstance aM (@aa _ _ _ _ _ (pv 1) (@aa _ _ _ _ _ (@bH _ _ (.ty "tuple") _ _ rfl T.tuple bN rfl (by decide) (by decide)) ae (by rfl)) (by rfl)) (by decide) (by decide) (by rfl) (by rfl)) (fun _ => rfl))) (@cS _ _ _ _ (@aF _ _ _ _ _ _ _ _ i3 (@aj _ _ _ _ _ _ _ _ _ aq (by rfl) T.len uT (@aa _ _ _ _ _ (pv 1) ae (by rfl)) (by decide) (by decide) (by rfl) (by rfl)) ah (aP _))))) (@ak _ _ _ (@aE _ _ _ _ eL)) aQ) (@ag _ _ _ _ _ (@bD _ _ _ _ _ _ _ _ (@aF _ _ _ _ _ _ _ _ (@kg _ (by exact hr.units)) (@bT _ _ _ _ _ _ _ (["_law_one"]) (["_law_one"]) ([]) _ _ _ _ (@cx _ _ _ _ _ _ rfl (by kernel_rfl)) rfl (@ir _ _ _ _ (pv 1)) (fun _ _ _ _ => @aK _ _ (0) _ (show (["_law_one"] : List Str).Nodup from by decide +kernel) rfl (Or.inl rfl) (by first | exact .inl rfl | exact .inr rfl | assumption)) (fun _ _ _ _ => (@iC _ _ _ (by exact (@PW.pt _ _ _ (@dN _ _ _ _ _ _ _ (@qv _ _ _ (@aj _ _ _ _ _ _ _ _ _ (@bx _ (K) rfl) (by rfl) T.isinstance aM (@aa _ _ _ _ _ (pv 0) (@aa _ _ _ _ _ (@bH _ _ (.ty "bool") _ _ rfl Tbool iS rfl (by decide) (by decide)) ae (by rfl)) (by rfl)) (by decide) (by decide) (by rfl) (by rfl)) (fun _ => rfl)) (@dN _ _ _ _ _ _ _ (@ck _ _ _ _ (@qv _ _ _ (@aj _ _ _ _ _ _ _ _ _ (@bx _ (K) rfl) (by rfl) T.isinstance aM (@aa _ _ _ _ _ (pv 0) (@aa _ _ _ _ _ (@bH _ _ (.ty "int") _ _ rfl T.int qi rfl (by decide) (by decide)) ae (by rfl)) (by rfl)) (by decide) (by decide) (by rfl) (by rfl)) (fun _ => rfl))) (@cS _ _ _ _ (@aF _ _ _ _ _ _ _ _ i4 (pv 0) ah (aP _))))))))) (fun _ _ _ _ => by (exact (pv 0))) (by intro _ ;rfl)) (@bF _ _ _ _ ae) (aP _)) (@ak _ _ _ (@aE _ _ _ _ eL)) aQ) (@ak _ _ _ (@aE _ _ _ _ (@jo _ _ _ _ _ _ _ (@ff _ _ _ _ _ _ _ _ i4 (@aR _ _ _ _ _ _ _ bo (pv 1) ah (fun _ _ => rfl)) (@aj _ _ _ _ _ _ _ _ _ aq (by rfl) T.len uT (@aa _ _ _ _ _ (pv 0) ae (by rfl)) (by decide) (by decide) (by rfl) (by rfl)) (aP _)) (@il _ _ _ _ _ (@ff _ _ _ _ _ _ _ _ i4 (@aR _ _ _ _ _ _ _ bo (pv 1) ah (fun _ _ => rfl)) (@aj _ _ _ _ _ _ _ _ _ aJ (by rfl) T.len uT (@aa _ _ _ _ _ (@aR _ _ _ _ _ _ _ bo (pv 0) (@aR _ _ _ _ _ _ _ bo (pv 1) ah (fun _ _ => rfl)) (fun _ _ => rfl)) ae (by rfl)) (by decide) (by decide) (by rfl) (by rfl)) (aP _)))))))), ?_⟩
    have step : ∀ {y : V} {H1 : Hp} {N : List V → L2.St → Hp → Prop} {ys : List V}, Wh K H1 y → (dX y=true → N (ys++[y]) [some y] H1) → (dX y=false → N ys [some y] H1) →
        ∃ (n : String) (b1 b2 : Bool), eI K H1 y (.type n) ∧ PySem.W.kitOne K (.type n) (.type "int")=some b1 ∧ PySem.W.kitOne K (.type n) (.type "bool")=some b2 ∧ ((b2=true ∧ N (ys++[y]) [some y] H1) ∨ (b2=false ∧ b1=false ∧ N (ys++[y]) [some y] H1) ∨ (b2=false ∧ b1=true ∧ ∃ i, y = .int i ∧ (i < 0 → N (ys++[y]) [some y] H1) ∧ (¬ i < 0 → N ys [some y] H1))) := by
      intro y H1 N ys ⟨ty, e1, e2, hy⟩ g1 g2
      rename_i n b1 b2
      refine ⟨n, b1, b2, ty, e1, e2, ?_⟩
      cases b2 with
      | true => exact .inl ⟨rfl, g1 (kX (by rw [hy];simp))⟩
      | false =>
        cases b1 with
        | false => exact .inr (.inl ⟨rfl, rfl, g1 (kX (by rw [hy];rfl))⟩)
        | true =>
          cases y with
          | int i => exact .inr (.inr ⟨rfl, rfl, i, rfl, fun h => g1 (va h), fun h => g2 (uP h)⟩)
          | _ => cases hy
    cases hx with
    | oth ty e => exact ⟨_, rfl, _, _, _, _, rfl, ty, e, _, rfl, jk (eK (k _ (au.refl _)))⟩
    | @tup a xs h hx hl ne =>
      refine ⟨_, rfl, _, _, _, _, rfl, .tup h, bE, _, rfl, gn ⟨_, rfl, a, xs, rfl, .inr (SqT.of h), rfl, _, rfl, ?_⟩⟩
      by_cases hn : xs.length=2
      · rw [show (!decide (V.int (xs.length : Int)=V.int 2))=false by rw [hn];rfl]
        refine iW ?_
        refine ⟨_, rfl, a, rfl, ⟨xs, SqT.of h⟩, ?_⟩
        refine df (xs := xs) (own := ["_law_one"]) (cap := []) (fun i ys σ H' => ∃ v : Option V, σ = [v] ∧ ys=(xs.take i).filter dX ∧ au H H') ⟨none, rfl, rfl, au.refl _⟩ (fun i ys σ H' hi ⟨v, _, e, _⟩ => ?_) (by omega) (fun i ys σ H' ⟨_, _, _, s1⟩ => SqT.of (s1 _ _ h)) ?_ ?_
        · rw [e];exact vi (xR _ _) (by rw [uR];omega)
        · rintro i ys σ H1 y N hyi ⟨v, rfl, rfl, s1⟩ hN
          have hy := (hx y (uU hyi)).same s1
          obtain ⟨n1, b1, b2, ty, e1, e2, hc⟩ := step (N := N) (ys := (xs.take i).filter dX) hy (fun c => hN _ _ _ ⟨_, rfl, by rw [dh hyi, if_pos c], s1⟩) (fun c => hN _ _ _ ⟨_, rfl, by rw [dh hyi, if_neg (by rw [c];decide), vF], s1⟩)
          refine ⟨_, rfl, _, _, _, _, rfl, ty, e2, _, rfl, ?_⟩
          rcases hc with ⟨rfl, hc⟩ | ⟨rfl, rfl, hc⟩ | ⟨rfl, rfl, z, rfl, h1, h2⟩
          · exact jk (nu ⟨_, rfl, hc⟩)
          · exact gn ⟨_, rfl, _, _, _, _, rfl, ty, e1, _, rfl, nkF (jk (nu ⟨_, rfl, hc⟩))⟩
          · refine gn ⟨_, rfl, _, _, _, _, rfl, ty, e1, _, rfl, nkT (gn ⟨_, rfl, _, _, rfl, rfl, _, rfl, ?_⟩)⟩
            exact dR (fun c => ⟨_, rfl, h1 (yB c)⟩) (fun c => h2 (fun q => c (va q)))
        · rintro ys σ H1 l ⟨v, rfl, rfl, s1⟩ hl'
          have s2 := s1.then (o := .lst ((xs.take xs.length).filter dX)) hl'
          have g2 : (upd H1 l (.lst ((xs.take xs.length).filter dX))) l=_ := ab
          generalize upd H1 l (.lst ((xs.take xs.length).filter dX))=H2 at s2 g2 ⊢
          refine ⟨(by show 0≤sizeLine;decide), fun q hq => ?_⟩
          refine ⟨l, q, _, rfl, rfl, (au.new hq) _ _ g2, ab, _, rfl, ?_⟩
          have hne : (!((xs.take xs.length).filter dX).isEmpty)=true := by
            rw [vZ]
            cases e : xs.filter dX with
            | cons => rfl
            | nil =>
              rw [wU] at e
              refine absurd ⟨hn, vP.mpr fun y hy => ?_⟩ ne
              have := e y hy
              cases hv : whV y with
              | true => rfl
              | false => exact absurd (kX hv) this
          rw [hne]
          exact eK (k _ (s2.then hq))
      · rw [show (!decide (V.int (xs.length : Int)=V.int 2))=true by rw [uP fun e => hn (by have := V.int.inj e;omega)];rfl]
        exact eK (k _ (au.refl _))
    | @cap a i j h =>
      have hx : ∀ y∈[V.int i, V.int j], Wh K H y := fun y hy => by
        rcases u4.mp hy with rfl | hy
        · exact mM (.int i)
        · rw [uE] at hy
          subst hy
          exact mM (.int j)
      refine ⟨_, rfl, _, _, _, _, rfl, .tup h, bE, _, rfl, gn ⟨_, rfl, a, _, rfl, .inr (SqT.of h), rfl, _, rfl, ?_⟩⟩
      refine iW ?_
      refine ⟨_, rfl, a, rfl, ⟨[V.int i, V.int j], SqT.of h⟩, ?_⟩
      refine df (xs := [V.int i, V.int j]) (own := ["_law_one"]) (cap := []) (fun m ys σ H' => ∃ v : Option V, σ = [v] ∧ ys=([V.int i, V.int j].take m).filter dX ∧ au H H') ⟨none, rfl, rfl, au.refl _⟩ (fun m ys σ H' hi ⟨v, _, e, _⟩ => ?_) (az (n := 2) (by decide)) (fun m ys σ H' ⟨_, _, _, s1⟩ => SqT.of (s1 _ _ h)) ?_ ?_
      · rw [e];exact vi (xR _ _) (by rw [uR];omega)
      · rintro m ys σ H1 y N hyi ⟨v, rfl, rfl, s1⟩ hN
        have hy := (hx y (uU hyi)).same s1
        obtain ⟨n1, b1, b2, ty, e1, e2, hc⟩ := step (N := N) (ys := ([V.int i, V.int j].take m).filter dX) hy (fun c => hN _ _ _ ⟨_, rfl, by rw [dh hyi, if_pos c], s1⟩) (fun c => hN _ _ _ ⟨_, rfl, by rw [dh hyi, if_neg (by rw [c];decide), vF], s1⟩)
        refine ⟨_, rfl, _, _, _, _, rfl, ty, e2, _, rfl, ?_⟩
        rcases hc with ⟨rfl, hc⟩ | ⟨rfl, rfl, hc⟩ | ⟨rfl, rfl, z, rfl, h1, h2⟩
        · exact jk (nu ⟨_, rfl, hc⟩)
        · exact gn ⟨_, rfl, _, _, _, _, rfl, ty, e1, _, rfl, nkF (jk (nu ⟨_, rfl, hc⟩))⟩
        · refine gn ⟨_, rfl, _, _, _, _, rfl, ty, e1, _, rfl, nkT (gn ⟨_, rfl, _, _, rfl, rfl, _, rfl, ?_⟩)⟩
          exact dR (fun c => ⟨_, rfl, h1 (yB c)⟩) (fun c => h2 (fun q => c (va q)))
      · rintro ys σ H1 l ⟨v, rfl, rfl, s1⟩ hl'
        have el : ([V.int i, V.int j].take [V.int i, V.int j].length).filter dX=[V.int i, V.int j].filter dX := rfl
        rw [el]
        have s2 := s1.then (o := .lst ([V.int i, V.int j].filter dX)) hl'
        have g2 : (upd H1 l (.lst ([V.int i, V.int j].filter dX))) l=_ := ab
        generalize upd H1 l (.lst ([V.int i, V.int j].filter dX))=H2 at s2 g2 ⊢
        refine ⟨(by show 0≤sizeLine;decide), fun q hq => ?_⟩
        refine ⟨l, q, _, rfl, rfl, (au.new hq) _ _ g2, ab, _, rfl, ?_⟩
        have s3 := s2.then (o := .lst []) hq
        have h' := s3 _ _ h
        have hW' := hW.same s3
        have k := k _ s3
        generalize upd H2 q (.lst [])=H3 at s3 h' hW' k ⊢
        have k : Q (.bl (decide (0≤i) && decide (i < W.length) && (decide (0≤j) && decide (j < (W.getD i.toNat []).length)))) H3 := k
        have hwl := cG hW i.toNat
        by_cases c1 : 0≤i
        · by_cases c3 : 0≤j
          · have ef : [V.int i, V.int j].filter dX=[] := by
              rw [wo (by show ¬ decide (i < 0)=true;simpa using c1), wo (by show ¬ decide (j < 0)=true;simpa using c3)]
              rfl
            rw [ef]
            rw [va c1, wd, va c3, wd] at k
            refine iW ?_
            refine ⟨_, rfl, a, _, _, _, rfl, rfl, SqT.of h', rfl, _, rfl, a0, _, rfl, .inr (SqT.of hW'.at_), _, _, rfl, rfl, _, rfl, ?_⟩
            rw [uD]
            by_cases c2 : i < W.length
            · rw [va c2, wd] at k
              refine nD (va (by omega)) ?_
              refine ⟨_, rfl, a, _, _, _, rfl, rfl, SqT.of h', rfl, _, rfl, _, rfl, a, _, _, _, rfl, rfl, SqT.of h', rfl, a0, _, _, _, rfl, rfl, SqT.of hW'.at_, cR c1 c2, _, rfl, by rw [af];omega, _, _, rfl, rfl, ?_⟩
              rw [af]
              exact k
            · rw [uP c2, vG] at k
              exact nE (uP (by omega)) k
          · rw [uP c3, vG, zd] at k
            have ef : (!([V.int i, V.int j].filter dX).isEmpty)=true := by
              rw [wo (by show ¬ decide (i < 0)=true;simpa using c1), wL (by show decide (j < 0)=true;simpa using c3)]
              rfl
            rw [ef]
            exact eK k
        · rw [uP c1, vG, vG] at k
          have ef : (!([V.int i, V.int j].filter dX).isEmpty)=true := by
            rw [wL (by show decide (i < 0)=true;simpa using c1)]
            rfl
          rw [ef]
          exact eK k
end
end Kx
namespace Kx
open PySem PySem.Spec PyProof.Rows L2 Wd
theorem fE {W : List (List L)} : ∀ {ds : List (Option (List Sg1))} {l : Nat}, g0 W l ds=true ↔ ∀ (i : Nat) (c : Option (List Sg1)), ds[i]? = some c → gZ W (l+i) c=true
  | [], l => ⟨fun _ i c h => by simp at h, fun _ => rfl⟩
  | d::r, l => by
    show (gZ W l d && g0 W (l+1) r)=true ↔ _
    rw [u3, fE (ds := r) (l := l+1)]
    constructor
    · rintro ⟨h1, h2⟩ i c e
      cases i with
      | zero =>
        have e : d=c := by simpa using e
        subst e
        exact h1
      | succ i =>
        have := h2 i c (by simpa using e)
        rwa [xA, Nat.add_comm 1 i] at this
    · intro h
      refine ⟨h 0 d rfl, fun i c e => ?_⟩
      have := h (i+1) c (by simpa using e)
      rwa [Nat.add_comm i 1, ← xA] at this
theorem m7 {ds : List (Option (List Sg1))}{i : Nat}{cs : List Sg1}(h : ds[i]? = some (some cs)) : g_ (ds.take (i+1))=g_ (ds.take i)++prs cs := by
  unfold g_
  rw [v_, h, wY, yi, List.flatMap_cons, List.flatMap_nil, vF]
theorem m8 {cs : List Sg1}{j : Nat}{p : Int × Int}(h : cs[j]? = some (some p)) : prs (cs.take (j+1))=prs (cs.take j)++[p] := by
  unfold prs
  rw [v_, h, wY, List.filterMap_append]
  rfl
section
variable {P : Program} {w : World} {K : PySem.W.Frag} {mg : Str → Option Value} {base : Heap} {aB : Addr}
abbrev dk : Stmt := top 25
theorem kZ : aN ["_law_surface", "_law_ways", "_law_thing", "_law_met", "_law_number", "_law_one"] ["_law_surface", "_law_ways", "_law_thing"] (ai dk) := ⟨rfl, rfl, rfl, by decide +kernel, rfl, by decide +kernel, by decide +kernel⟩
theorem m9 (D : Df K mg "_law_is_drawing" dk)(T : Bt0 mg)(F_lisstr : Fnc P w K mg base "_law_is_strand" ["_law_ways", "_law_thing"] 1 (dB K))(F_alls : Fnc P w K mg base "_law_all_strands" ["_law_ways"] 1 jh) : Fnc P w K mg base "_law_is_drawing" ["_law_surface", "_law_ways", "_law_thing"] 2 (fB K) := by
  have sc := kZ
  refine D.ok sc (fun _ _ _ _ _ _ us hl => by obtain ⟨_, _, _, rfl⟩ := nJ hl;rfl) (fun vs H Q E h => ?_) (fun f cdv A outer s H vs Q E hr h => ?_)
  · obtain ⟨u, a, n, W, x, c, rfl, _⟩ := h
    rfl
  · obtain ⟨u, a0, n, W, x, c, rfl, hu, hW, hx, k⟩ := h
    have l16 := br
    have h6 := hu.hi
    have hul : (toS u).length=2*n := by rw [af, hu.len]
    refine ⟨_, (@ag _ _ _ _ _ (@bD _ _ _ _ _ _ _ _ (@PW.pt _ _ _ (@dN _ _ _ _ _ _ _ (@ck _ _ _ _ (@bw _ _ _ (@aj _ _ _ _ _ _ _ _ _ (@bx _ (K) rfl) (by rfl) T.isinstance aM (@aa _ _ _ _ _ (pv 2) (@aa _ _ _ _ _ (@bH _ _ (.ty "tuple") _ _ rfl T.tuple bN rfl (by decide) (by decide)) ae (by rfl)) (by rfl)) (by decide) (by decide) (by rfl) (by rfl)) (fun _ => rfl))) (@cS _ _ _ _ (@aF _ _ _ _ _ _ _ _ i3 (@aj _ _ _ _ _ _ _ _ _ aq (by rfl) T.len uT (@aa _ _ _ _ _ (pv 2) ae (by rfl)) (by decide) (by decide) (by rfl) (by rfl)) (@aD _ _ _ _ _ _ _ _ cu (@aj _ _ _ _ _ _ _ _ _ aJ (by rfl) T.len uT (@aa _ _ _ _ _ (pv 0) ae (by rfl)) (by decide) (by decide) (by rfl) (by rfl)) ah) (aP _))))) (@ak _ _ _ (@aE _ _ _ _ eL)) aQ) (@ag _ _ _ _ _ (@aL _ _ (3) _ _ _ _ sc.nd rfl (Or.inl rfl) (@bF _ _ _ _ ae) (by rfl) (by first | exact .inl rfl | exact .inr rfl | assumption)) (@ag _ _ _ _ _ (@bX _ _ _ _ _ _ _ _ vx rfl (@bt _ _ _ _ _ _ rfl T.range (@aa _ _ _ _ _ (@aj _ _ _ _ _ _ _ _ _ aq (by rfl) T.len uT (@aa _ _ _ _ _ (pv 2) ae (by rfl)) (by decide) (by decide) (by rfl) (by rfl)) ae (by rfl)) (by rfl)) (@aK _ _ (4) _ sc.nd rfl (Or.inl rfl) (by first | exact .inl rfl | exact .inr rfl | assumption)) (@ag _ _ _ _ _ (@bD _ _ _ _ _ _ _ _ (@ck _ _ _ _ (@bw _ _ _ (@aj _ _ _ _ _ _ _ _ _ (@bx _ (K) rfl) (by rfl) T.isinstance aM (@aa _ _ _ _ _ (@aR _ _ _ _ _ _ _ bo (pv 2) (pv 4) (fun _ _ => rfl)) (@aa _ _ _ _ _ (@bH _ _ (.ty "tuple") _ _ rfl T.tuple bN rfl (by decide) (by decide)) ae (by rfl)) (by rfl)) (by decide) (by decide) (by rfl) (by rfl)) (fun _ => rfl))) (@ak _ _ _ (@aE _ _ _ _ eL)) aQ) (@ak _ _ _ (@bX _ _ _ _ _ _ _ _ vx rfl (@sO _ _ _ _ (@aR _ _ _ _ _ _ _ bo (pv 2) (pv 4) (fun _ _ => rfl))) (@aK _ _ (5) _ sc.nd rfl (Or.inl rfl) (by first | exact .inl rfl | exact .inr rfl | assumption)) (@ag _ _ _ _ _ (@bD _ _ _ _ _ _ _ _ (@PW.pt _ _ _ (@dN _ _ _ _ _ _ _ (@ck _ _ _ _ (@bw _ _ _ (@aV _ _ _ _ _ _ _ _ _ _ _ F_lisstr hr (by decide) rfl (@aa _ _ _ _ _ (pv 1) (@aa _ _ _ _ _ (pv 5) ae (by rfl)) (by rfl)) (by decide) (by rfl) (by rfl)) (fun _ => rfl))) (@cS _ _ _ _ (@aF _ _ _ _ _ _ _ _ i3 (@iA _ _ _ _ _ _ _ _ _ vk wV wW dS (@aR _ _ _ _ _ _ _ dG (@aR _ _ _ _ _ _ _ bo (pv 1) (@aR _ _ _ _ _ _ _ bo (pv 5) ah (fun _ _ => rfl)) (fun _ _ => rfl)) (@aR _ _ _ _ _ _ _ bo (pv 5) ah (fun _ _ => rfl)) (fun _ _ => rfl)) (by rfl) (by rfl)) (@aR _ _ _ _ _ _ _ dG cj (pv 4) (fun _ _ => rfl)) (aP _))))) (@ak _ _ _ (@aE _ _ _ _ eL)) aQ) (@ak _ _ _ (@bZ _ _ _ _ (@du _ _ _ _ _ _ _ _ _ _ _ _ vp vR wG cU (pv 3) (@aa _ _ _ _ _ (pv 5) ae (by rfl)) (by rfl) (by rfl) (by rfl) (by rfl) (by rfl)) (by rfl)))) (by intro _ ;rfl)))) (by intro _ ;rfl)) (@ak _ _ _ (@aE _ _ _ _ (@ff _ _ _ _ _ _ _ _ (@gf _ (by exact hr.units)) (@aj _ _ _ _ _ _ _ _ _ (@bY _ _ rfl) (by rfl) T.sorted iF (@aa _ _ _ _ _ (pv 3) ae (by rfl)) (by decide) (by decide) (by rfl) (by rfl)) (@aV _ _ _ _ _ _ _ _ _ _ _ F_alls hr (by decide) rfl (@aa _ _ _ _ _ (pv 1) ae (by rfl)) (by decide) (by rfl) (by rfl)) (aP _))))))), ?_⟩
    cases hx with
    | oth ty e => exact ⟨_, rfl, _, _, _, _, rfl, ty, e, _, rfl, jk (eK (k _ (au.refl _)))⟩
    | @tup a xs ds h hx hl hc =>
      refine ⟨_, rfl, _, _, _, _, rfl, .tup h, bE, _, rfl, gn ⟨_, rfl, a, xs, rfl, .inr (SqT.of h), _, rfl, _, rfl, (by omega), _, _, rfl, rfl, ⟨by decide, by decide⟩, rfl, _, rfl, ?_⟩⟩
      have k : ∀ H', au H H' → Q (.bl (decide (ds.length=n) && (g0 W 0 ds && (g_ ds).isPerm (jf W)))) H' := k
      have e2 : ((toS u).length : Int) / 2=(n : Int) := by omega
      rw [e2]
      by_cases hn : ds.length=n
      · rw [show (!decide (V.int (xs.length : Int)=V.int (n : Int)))=false by rw [← hc, hn];simp]
        rw [va hn, wd] at k
        have bad : ∀ (i : Nat) (c : Option (List Sg1)) (H' : Hp), ds[i]? = some c → gZ W i c=false → au H H' → Q (.bl false) H' := fun i c H' e1 e2 s' => by
          have : g0 W 0 ds=false := by
            cases e : g0 W 0 ds with
            | false => rfl
            | true =>
              have := fE.mp e i c e1
              rw [xO, e2] at this
              cases this
          rw [this, vG] at k
          exact k H' s'
        refine iW ?_
        refine ⟨(by show 0≤sizeLine;decide), fun l hl0 => ?_⟩
        have s1 : au H (upd H l (.lst [])) := au.new hl0
        have f1 : (upd H l (.lst [])) l=some (.lst ((([] : List (Addr × Int × Int)).map (·.1)).map V.ref)) := ab
        generalize upd H l (.lst [])=H1 at s1 f1 ⊢
        refine ⟨_, rfl, a, _, rfl, .inr (SqT.of (s1 _ _ h)), _, rfl, by omega, by omega, ?_⟩
        rw [vh]
        refine bL (lo := 0) (n := xs.length) (fun i σ H' => ∃ (v4 v5 : Option V) (zs : List (Addr × Int × Int)), σ = [some (tx u), some (.ref a0), some (.ref a), some (.ref l), v4, v5] ∧ H' l=some (.lst ((zs.map (·.1)).map V.ref)) ∧ StA H' zs ∧ zs.length≤400*i ∧ zs.map (·.2)=g_ (ds.take i) ∧ (∀ j c, j < i → ds[j]? = some c → gZ W j c=true) ∧ au H H') ⟨none, none, [], rfl, f1, (fun z hz => by cases hz), vE _, rfl, (fun j c h => by omega), s1⟩ ?_ ?_
        · rintro i σ H2 hi ⟨v4, v5, zs, rfl, f2, hz, zl, ez, ok, s2⟩
          rw [yr]
          have hi6 : i < 6 := by omega
          obtain ⟨x, hxi⟩ : ∃ x, xs[i]? = some x := ⟨_, uB hi⟩
          obtain ⟨c, hci, hcs⟩ := hx i x hxi
          refine ⟨_, rfl, _, rfl, a, _, _, _, rfl, rfl, SqT.of (s2 _ _ h), b_ hxi, ?_⟩
          cases hcs with
          | oth ty e => exact ⟨_, _, _, _, rfl, ty.same s2 (fun C => by intro z;cases z), e, _, rfl, nkF (eK (bad i _ _ hci rfl s2))⟩
          | @tup b ys cs hb hy hyl hyc =>
            refine ⟨_, _, _, _, rfl, .tup (s2 _ _ hb), bE, _, rfl, nkT (iW ?_)⟩
            refine ⟨_, rfl, _, rfl, a, _, _, _, rfl, rfl, SqT.of (s2 _ _ h), b_ hxi, b, _, rfl, .inr ⟨SqT.of (s2 _ _ hb), ?_⟩⟩
            refine js (xs := ys) (fun j σ H' => ∃ (v5 : Option V) (zs : List (Addr × Int × Int)), σ = [some (tx u), some (.ref a0), some (.ref a), some (.ref l), some (.int (i : Int)), v5] ∧ H' l=some (.lst ((zs.map (·.1)).map V.ref)) ∧ StA H' zs ∧ zs.length≤400*i+j ∧ zs.map (·.2)=g_ (ds.take i)++prs (cs.take j) ∧ (cs.take j).all (okL W i)=true ∧ au H H') ⟨v5, zs, rfl, f2, hz, by omega, by rw [ez];exact (vF _).symm, rfl, s2⟩ (fun j σ H' _ ⟨_, _, _, _, _, _, _, _, q⟩ => SqT.of (q _ _ hb)) ?_ ?_
            · rintro j y σ H3 hyj ⟨v5, zs, rfl, f3, hz3, zl3, ez3, ok3, s3⟩
              obtain ⟨c1, hc1, hcp⟩ := hy j y hyj
              have hcp3 := hcp.same s3
              have hj : j < ys.length := (uJ.mp hyj).1
              have bad1 : ∀ H', okL W i c1=false → au H H' → Q (.bl false) H' := fun H' e s' => bad i _ H' hci (by
                show cs.all (okL W i)=false
                cases e2 : cs.all (okL W i) with
                | false => rfl
                | true =>
                  have := vP.mp e2 c1 (uU hc1)
                  rw [e] at this
                  cases this) s'
              refine ⟨_, rfl, _, rfl, a0, n, W, y, c1, rfl, hW.same s3, hcp3, fun H4 s4 => ⟨_, rfl, ?_⟩⟩
              have s04 := s3.trans s4
              cases o : okO W c1 with
              | false =>
                refine nkF (jk (eK (bad1 _ ?_ s04)))
                cases c1 with
                | none => rfl
                | some p =>
                  have o : okS W p=false := o
                  show (okS W p && _)=false
                  rw [o];rfl
              | true =>
                cases hcp3 with
                | tup _ _ _ _ => cases o
                | oth _ _ => cases o
                | @cap z p1 p2 hz1 =>
                  have hz4 := s4 _ _ hz1
                  have hW4 := hW.same s04
                  have ok1 : okS W (p1, p2)=true := o
                  have ok2 := ok1
                  unfold okS at ok2
                  simp only [u3, vg] at ok2
                  obtain ⟨⟨o1, o2⟩, o3, o4⟩ := ok2
                  have hwl := cG hW p1.toNat
                  have f4 := s4 _ _ f3
                  refine nkT (gn ?_)
                  refine ⟨_, rfl, _, rfl, z, _, _, _, rfl, rfl, SqT.of hz4, rfl, a0, _, _, _, rfl, rfl, SqT.of hW4.at_, cR o1 o2, _, rfl, z, _, _, _, rfl, rfl, SqT.of hz4, rfl, _, _, _, rfl, rfl, (by rw [af];omega), kJ o3 o4, ?_⟩
                  have lt : ltS W (p1, p2)=((W.getD p1.toNat []).getD p2.toNat 0).val % 6 := rfl
                  generalize (W.getD p1.toNat []).getD p2.toNat 0=x1 at lt ⊢
                  refine ⟨rfl, _, rfl, rfl, (by show 1≤5592405;decide), ?_⟩
                  rw [show (⟨#[cp x1]⟩ : Str)=toS [x1] from rfl, kK]
                  refine ⟨_, rfl, _, _, _, rfl, rfl, (by rw [fW];omega), sm_at hi6, rfl, _, rfl, ?_⟩
                  have ed : (!decide (tx [(⟨x1.val % 6, by omega⟩ : L)]=tx [(⟨i, by omega⟩ : L)]))=!decide (ltS W (p1, p2)=i) := by
                    rw [nB, lt]
                    congr 1
                    refine decide_eq_decide.mpr ⟨fun e => vz Fin.val (wK e).1, fun e => vz (fun q => [q]) (Fin.ext e)⟩
                  refine (vz (fun b => e_ _ _ _ _ b _) ed).mpr ?_
                  by_cases c : ltS W (p1, p2)=i
                  · rw [va c]
                    refine iW ?_
                    have keepT : ∀ b xs, H4 b=some (.tup xs) → (upd H4 l (.lst ((zs.map (·.1)).map V.ref++[.ref z]))) b=some (.tup xs) := fun b xs e => by
                      rw [aC (gE e f4 (by intro z;cases z))];exact e
                    refine ⟨_, rfl, .inl ⟨rfl, _, SqL.of f4⟩, _, rfl, l, _, _, rfl, rfl, f4, by rw [uD, uD];omega, ?_⟩
                    refine ⟨_, zs++[(z, p1, p2)], rfl, by rw [ab, uY, uY];rfl, fun z' hz' => keepT _ _ ?_, by rw [uF];show zs.length+1≤_;omega, ?_, ?_, fun b o e => ?_⟩
                    · rcases uW.mp hz' with hz' | hz'
                      · exact s4 _ _ (hz3 z' hz')
                      · rw [uE.mp hz'];exact hz4
                    · rw [uY, ez3, m8 hc1, uO];rfl
                    · rw [v_, hc1, wY, List.all_append, ok3]
                      show (true && ((okS W (p1, p2) && decide (ltS W (p1, p2)=i)) && true))=true
                      rw [ok1, va c];rfl
                    · rw [aC (ao e hl0)];exact s04 _ _ e
                  · rw [uP c]
                    refine eK (bad1 _ ?_ s04)
                    show (okS W (p1, p2) && decide (ltS W (p1, p2)=i))=false
                    rw [uP c, zd]
            · rintro σ H3 ⟨v5, zs, rfl, f3, hz3, zl3, ez3, ok3, s3⟩
              rw [← hyc, vZ] at ez3 ok3
              refine ⟨_, _, zs, rfl, f3, hz3, by omega, by rw [m7 hci, ez3], fun j c hj e => ?_, s3⟩
              by_cases hji : j=i
              · subst hji
                rw [hci] at e
                obtain rfl := uV e
                exact ok3
              · exact ok j c (by omega) e
        · rintro σ H2 ⟨v4, v5, zs, rfl, f2, hz, zl, ez, ok, s2⟩
          rw [← hc, vZ] at ez
          have al : g0 W 0 ds=true := fE.mpr fun i c e => by rw [xO];exact ok i c (by rw [← hc];exact (uJ.mp e).1) e
          rw [al, wd] at k
          refine ⟨_, rfl, l, zs, rfl, .inl (SqL.of f2), hz, fun p zs' hp pm so => ?_⟩
          have s4 : au H2 (upd H2 p (.lst ((zs'.map (·.1)).map V.ref))) := au.new hp
          have f4 : (upd H2 p (.lst ((zs'.map (·.1)).map V.ref))) p=some (.lst ((zs'.map (·.1)).map V.ref)) := ab
          have a4 : StA (upd H2 p (.lst ((zs'.map (·.1)).map V.ref))) zs' := fun z hz' => s4 _ _ (hz z (pm.mem_iff.mp hz'))
          generalize upd H2 p (.lst ((zs'.map (·.1)).map V.ref))=H4 at s4 f4 a4 ⊢
          have s4 := s2.trans s4
          refine ⟨_, rfl, a0, n, W, rfl, hW.same s4, fun q ts H5 hq s5 f5 a5 et => ?_⟩
          refine iX (s5 _ _ f4) f5 (a4.same s5) a5 ?_
          rw [et, gu (pm.map (·.2)) so (fA W), ez]
          exact k _ (s4.trans s5)
      · rw [show (!decide (V.int (xs.length : Int)=V.int (n : Int)))=true by rw [uP fun e => hn (by have := V.int.inj e;omega)];rfl]
        rw [uP hn, vG] at k
        exact eK (k _ (au.refl _))
end
end Kx
namespace Kx
open PySem PySem.Spec PyProof.Rows L2 Wd
theorem rk {x : L}(h : x.val < 6) : ∃ rest, Builtin.Str.occurrences ("abcdef" : Str) (toS [x]) 0 ("abcdef" : Str).length 1=x.val::rest := by
  have q : ∀ x : L, x.val < 6 → x∈([0, 1, 2, 3, 4, 5] : List L) ∧ ([0, 1, 2, 3, 4, 5] : List L).idxOf x=x.val := by decide
  obtain ⟨h1, h2⟩ := q x h
  obtain ⟨r, e⟩ := qx h1
  rw [lV, h2] at e
  exact ⟨r, e⟩
def rN (H : Hp)(n : Nat)(q : Addr) : Prop := ∃ ys : List V, H q=some (.lst ys) ∧ ys.length≤n ∧ ∀ y∈ys, ∃ (t : Addr) (i p : Int), y = .ref t ∧ H t=some (.tup [.int i, .int p])
theorem rN.to {H H' : Hp}{n m : Nat}{q : Addr}(h : rN H n q)(hn : n≤m)(k1 : ∀ xs, H q=some (.lst xs) → H' q=some (.lst xs))(k2 : ∀ a xs, H a=some (.tup xs) → H' a=some (.tup xs)) : rN H' m q := by
  obtain ⟨ys, h1, h2, h3⟩ := h
  exact ⟨ys, k1 _ h1, by omega, fun y hy => let ⟨t, i, p, e1, e2⟩ := h3 y hy;⟨t, i, p, e1, k2 _ _ e2⟩⟩
theorem rl {n : Nat}{W : List (List L)}(hW : ∀ w∈W, InM n w){p : Int × Int}(o : okS W p=true) : ltS W p < n := by
  unfold okS at o
  simp only [u3, vg] at o
  obtain ⟨⟨o1, o2⟩, o3, o4⟩ := o
  have hi : p.1.toNat < W.length := by omega
  have g : W.getD p.1.toNat []=W[p.1.toNat] := by rw [u9, uB hi];rfl
  unfold ltS
  rw [g] at o4 ⊢
  have hj : p.2.toNat < W[p.1.toNat].length := by omega
  rw [u9, uB hj]
  exact hW _ (vc hi) _ (vc hj)
section
variable {P : Program} {w : World} {K : PySem.W.Frag} {mg : Str → Option Value} {base : Heap} {aB : Addr}
abbrev gx : Stmt := top 23
theorem pq : aN ["_law_tape_here", "_law_surface", "_law_ways", "_law_rows", "_law_i", "_law_p", "_law_row"] ["_law_tape_here", "_law_surface", "_law_ways"] (ai gx) := ⟨rfl, rfl, rfl, by decide +kernel, rfl, by decide +kernel, by decide +kernel⟩
theorem rm (D : Df K mg "_law_any_drawing" gx)(T : Bt0 mg)(F_draw : Fnc P w K mg base "_law_draw" ["_law_tape_here", "_law_many"] 1 bV)(F_alls : Fnc P w K mg base "_law_all_strands" ["_law_ways"] 1 jh) : Fnc P w K mg base "_law_any_drawing" ["_law_tape_here", "_law_surface", "_law_ways"] 2 kC := by
  have sc := pq
  refine D.ok sc (fun _ _ _ _ _ _ us hl => by obtain ⟨_, _, _, rfl⟩ := nJ hl;rfl) (fun vs H Q E h => ?_) (fun f cdv A outer s H vs Q E hr h => ?_)
  · obtain ⟨d, c, u, n, a, W, rfl, _⟩ := h
    rfl
  · obtain ⟨d, c, u, n, a, W, rfl, F, hu, hW, k⟩ := h
    have l16 := br
    have h6 := hu.hi
    have hul : (toS u).length=2*n := by rw [af, hu.len]
    have e2 : ((toS u).length : Int) / 2=(n : Int) := by omega
    refine ⟨_, (@ag _ _ _ _ _ (@oI _ (3) _ _ _ _ _ _ _ _ _ (["_law_k"]) (["_law_k"]) ([]) _ _ _ _ sc.nd rfl (Or.inl rfl) (@cx _ _ _ _ _ _ rfl (by kernel_rfl)) rfl (@bt _ _ _ _ _ _ rfl T.range (@aa _ _ _ _ _ (@aD _ _ _ _ _ _ _ _ cu (@aj _ _ _ _ _ _ _ _ _ aJ (by rfl) T.len uT (@aa _ _ _ _ _ (pv 1) ae (by rfl)) (by decide) (by decide) (by rfl) (by rfl)) ah) ae (by rfl)) (by rfl)) (fun _ _ _ _ => @aK _ _ (0) _ (show (["_law_k"] : List Str).Nodup from by decide +kernel) rfl (Or.inl rfl) (by first | exact .inl rfl | exact .inr rfl | assumption)) (fun _ _ _ _ => bI) (fun _ _ _ _ => by (exact (@bF _ _ _ _ ae))) (by intro _ ;rfl) (by rfl) (by first | exact .inl rfl | exact .inr rfl | assumption)) (@ag _ _ _ _ _ (@bX _ _ _ _ _ _ _ _ vx rfl (@fe _ _ _ _ (@aV _ _ _ _ _ _ _ _ _ _ _ F_alls hr (by decide) rfl (@aa _ _ _ _ _ (pv 2) ae (by rfl)) (by decide) (by rfl) (by rfl))) (@ip _ _ _ _ _ _ rfl (@bS _ _ _ _ _ (@aK _ _ (4) _ sc.nd rfl (Or.inl rfl) (by first | exact .inl rfl | exact .inr rfl | assumption)) (@bS _ _ _ _ _ (@aK _ _ (5) _ sc.nd rfl (Or.inl rfl) (by first | exact .inl rfl | exact .inr rfl | assumption)) fc (by rfl)) (by rfl)) (by rfl) (by rfl)) (@ag _ _ _ _ _ (@aL _ _ (6) _ _ _ _ sc.nd rfl (Or.inl rfl) (@aR _ _ _ _ _ _ _ aZ (pv 3) (@du _ _ _ _ _ _ _ _ _ _ _ _ vk PySem.F.slot_str_index PySem.F.type_str_index mq cj (@aa _ _ _ _ _ (@iA _ _ _ _ _ _ _ _ _ vk wV wW dS (@aR _ _ _ _ _ _ _ dG (@aR _ _ _ _ _ _ _ bo (pv 2) (pv 4) (fun _ _ => rfl)) (pv 5) (fun _ _ => rfl)) (by rfl) (by rfl)) ae (by rfl)) (by rfl) (by rfl) (by rfl) (by rfl) (by rfl)) (fun _ _ => rfl)) (by rfl) (by first | exact .inl rfl | exact .inr rfl | assumption)) (@ak _ _ _ (@bZ _ _ _ _ (@du _ _ _ _ _ _ _ _ _ _ _ _ vp xr yH f_ (pv 6) (@aa _ _ _ _ _ (@aV _ _ _ _ _ _ _ _ _ _ _ F_draw hr (by decide) rfl (@aa _ _ _ _ _ (pv 0) (@aa _ _ _ _ _ (@aD _ _ _ _ _ _ _ _ bp (@aj _ _ _ _ _ _ _ _ _ aq (by rfl) T.len uT (@aa _ _ _ _ _ (pv 6) ae (by rfl)) (by decide) (by decide) (by rfl) (by rfl)) ah) ae (by rfl)) (by rfl)) (by decide) (by rfl) (by rfl)) (@aa _ _ _ _ _ (@ba _ _ _ _ _ (@aa _ _ _ _ _ (pv 4) (@aa _ _ _ _ _ (pv 5) ae (by rfl)) (by rfl))) ae (by rfl)) (by rfl)) (by rfl) (by rfl) (by rfl) (by rfl) (by rfl)) (by rfl)))) (by intro _ ;rfl)) (@ak _ _ _ (@aE _ _ _ _ (@bA _ _ _ _ _ _ _ _ _ cb (by rfl) T.tuple bN (@aa _ _ _ _ _ (@bT _ _ _ _ _ _ _ (["_law_row"]) (["_law_row"]) ([]) _ _ _ _ (@cx _ _ _ _ _ _ rfl (by kernel_rfl)) rfl (@fe _ _ _ _ (pv 3)) (fun _ _ _ _ => @aK _ _ (0) _ (show (["_law_row"] : List Str).Nodup from by decide +kernel) rfl (Or.inl rfl) (by first | exact .inl rfl | exact .inr rfl | assumption)) (fun _ _ _ _ => bI) (fun _ _ _ _ => by (exact (@bA _ _ _ _ _ _ _ _ _ (@eN _ (K) rfl) (by rfl) T.tuple bN (@aa _ _ _ _ _ (pv 0) ae (by rfl)) (by decide) (by decide) (by rfl) (by rfl)))) (by intro _ ;rfl)) ae (by rfl)) (by decide) (by decide) (by rfl) (by rfl)))))), ?_⟩
    refine ⟨_, rfl, _, rfl, (by omega), _, _, rfl, rfl, ⟨by decide, by decide⟩, _, rfl, by omega, by omega, ?_⟩
    rw [e2, vh]
    refine cA (own := ["_law_k"]) (cap := []) (J := Itr 0 n) n (fun i ys σ H' => ∃ (v : Option V) (ls : List Addr), σ = [v] ∧ ys=ls.map V.ref ∧ ls.length=i ∧ ls.Nodup ∧ (∀ q∈ls, H q=none ∧ H' q=some (.lst [])) ∧ au H H') ⟨none, [], rfl, rfl, rfl, List.nodup_nil, (fun q hq => by cases hq), au.refl _⟩ (fun i ys σ H' hi ⟨_, ls, _, e, e3, _⟩ => by rw [e, uD];omega) (by omega) (fun i ys σ H' hi _ => hi) (fun ys σ H' _ => uG _) ?_ ?_
    · rintro i ys σ H1 x H2 N hi ⟨v, ls, rfl, rfl, hl, nd, hq, s1⟩ ⟨rfl, rfl⟩ hN
      refine ⟨(by show 0≤sizeLine;decide), fun q hqn => hN _ _ _ ⟨_, ls++[q], rfl, by rw [uY];rfl, by rw [uF, hl];rfl, ?_, ?_, s1.then hqn⟩⟩
      · refine List.nodup_append.mpr ⟨nd, xt.mpr ⟨vn, List.nodup_nil⟩, fun x hx y hy e => ?_⟩
        rw [uE.mp hy] at e
        subst e
        have := (hq x hx).2
        rw [hqn] at this
        cases this
      · intro x hx
        rcases uW.mp hx with hx | hx
        · exact ⟨(hq x hx).1, (au.new hqn) _ _ (hq x hx).2⟩
        · rw [uE.mp hx]
          exact ⟨none_of s1 hqn, ab⟩
    rintro ys σ H1 R ⟨v, ls, rfl, rfl, hl, nd, hq, s1⟩ hR
    have s2 := s1.then (o := .lst (ls.map V.ref)) hR
    have fR : (upd H1 R (.lst (ls.map V.ref))) R=some (.lst (ls.map V.ref)) := ab
    have q2 : ∀ q∈ls, (upd H1 R (.lst (ls.map V.ref))) q=some (.lst []) := fun q hm => (au.new hR) _ _ (hq q hm).2
    have nR : ∀ q∈ls, q≠R := fun q hm => ao (hq q hm).2 hR
    have hRH : H R=none := none_of s1 hR
    generalize upd H1 R (.lst (ls.map V.ref))=H2 at s2 fR q2 ⊢
    have hW2 := hW.same s2
    refine ⟨_, rfl, a, n, W, rfl, hW2, fun l zs H3 hl3 s3 f3 hz ez => ⟨l, rfl, ⟨_, SqL.of f3⟩, ?_⟩⟩
    have s03 := s2.trans s3
    have hlH : H l=none := none_of s2 hl3
    have zl : zs.length≤60 := by
      have := dg (fun w hw => (hW.ws w hw).2.1) W.length
      have e : (jf W).length=(ll W W.length).length := rfl
      have hle := hW.le
      rw [← e, ← ez, uD] at this
      omega
    have zok : ∀ z∈zs, okS W z.2=true := fun z hz' => gY.mp (by rw [← ez];exact v7.mpr ⟨z, hz', rfl⟩)
    have nl : ∀ q∈ls, q≠l := fun q hm => ao (q2 q hm) hl3
    have nRl : R≠l := ao fR hl3
    have nd_ : ∀ q∈ls, q≠d ∧ q≠c := fun q hm => ⟨F.ne (hq q hm).1, F.nec (hq q hm).1⟩
    have hRd := F.ne hRH
    have hld := F.ne hlH
    refine iw (xs := (zs.map (·.1)).map V.ref) (fun j σ H' => ∃ v4 v5 v6 : Option V, σ = [some (.ref d), some (tx u), some (.ref a), some (.ref R), v4, v5, v6] ∧ H' R=some (.lst (ls.map V.ref)) ∧ H' l=some (.lst ((zs.map (·.1)).map V.ref)) ∧ StA H' zs ∧ Wy4 n W H' a ∧ (∀ q∈ls, rN H' j q) ∧ Tp H' d c ∧ a_ d H H') ⟨none, none, none, rfl, s3 _ _ fR, f3, hz, hW2.same s3, (fun q hm => ⟨[], s3 _ _ (q2 q hm), uG _, fun y hy => by cases hy⟩), F.same s03, s03.b⟩ (fun j σ H' _ ⟨_, _, _, _, _, q, _⟩ => SqL.of q) ?_ ?_
    · rintro j x σ H4 hx ⟨v4, v5, v6, rfl, gR, gl, hz4, hW4, rw4, F4, sb4⟩
      rw [u_, u_] at hx
      cases hz1 : zs[j]? with
      | none => rw [hz1] at hx;cases hx
      | some z =>
        rw [hz1] at hx
        obtain rfl := uV hx
        have hm := uU hz1
        have hj : j < zs.length := (uJ.mp hz1).1
        have ok1 := zok z hm
        have lt := rl (fun w hw => (hW.ws w hw).2.2) ok1
        have hz5 := hz4 z hm
        obtain ⟨z0, p1, p2⟩ := z
        have hz5 : H4 z0=some (.tup [.int p1, .int p2]) := hz5
        have ok1 : okS W (p1, p2)=true := ok1
        have lt : ltS W (p1, p2) < n := lt
        unfold okS at ok1
        simp only [u3, vg] at ok1
        obtain ⟨⟨o1, o2⟩, o3, o4⟩ := ok1
        have hwl := cG hW p1.toNat
        refine ⟨z0, _, rfl, SqT.of hz5, rfl, _, _, rfl, _, _, rfl, rfl, ?_⟩
        refine ⟨_, rfl, rfl, _, rfl, _, rfl, a, _, _, _, rfl, rfl, SqT.of hW4.at_, cR o1 o2, _, rfl, _, _, _, rfl, rfl, (by rw [af];omega), kJ o3 o4, ?_⟩
        have lt' : ltS W (p1, p2)=((W.getD p1.toNat []).getD p2.toNat 0).val % 6 := rfl
        generalize (W.getD p1.toNat []).getD p2.toNat 0=x1 at lt' ⊢
        refine ⟨rfl, _, rfl, rfl, (by show 1≤5592405;decide), ?_⟩
        rw [show (⟨#[cp x1]⟩ : Str)=toS [x1] from rfl, kK]
        have kx : x1.val % 6 < n := by omega
        obtain ⟨rest, ho⟩ := rk (x := ⟨x1.val % 6, by omega⟩) (by show x1.val % 6 < 6;omega)
        have hk : x1.val % 6 < ls.length := by omega
        obtain ⟨q, hqk⟩ : ∃ q, ls[x1.val % 6]? = some q := ⟨_, uB hk⟩
        have qm := uU hqk
        obtain ⟨ys, g1, g2, g3⟩ := rw4 q qm
        obtain ⟨nqd, nqc⟩ := nd_ q qm
        refine ⟨_, _, _, rest, rfl, rfl, ho, R, _, _, _, rfl, rfl, SqL.of gR, b_ (v := .ref q) (by rw [u_, hqk];rfl), ?_⟩
        refine ⟨_, rfl, .inl ⟨rfl, _, SqL.of g1⟩, _, rfl, _, rfl, q, _, rfl, .inl (SqL.of g1), _, _, rfl, rfl, d, c, _, rfl, F4, by omega, by omega, fun b H5 b0 b1 F5 sb5 => ?_⟩
        have g5 := sb5 _ _ nqd g1
        refine ⟨_, rfl, _, rfl, (az (n := 2) (by decide)), fun t ht => ?_⟩
        have s6 : au H5 (upd H5 t (.tup [.int p1, .int p2])) := au.new ht
        have g6 := s6 _ _ g5
        have F6 := F5.same s6
        have t6 : (upd H5 t (.tup [.int p1, .int p2])) t=some (.tup [.int p1, .int p2]) := ab
        generalize upd H5 t (.tup [.int p1, .int p2])=H6 at s6 g6 F6 t6 ⊢
        refine ⟨q, _, b, _, rfl, rfl, g6, b0, by omega, by omega, ?_⟩
        have keep : ∀ (zz : List V) b o, b≠d → b≠q → H4 b=some o → (upd H6 q (.lst zz)) b=some o := fun zz b o n1 n2 e => by rw [aC n2];exact s6 _ _ (sb5 _ _ n1 e)
        have keepT : ∀ (zz : List V) b xs, H4 b=some (.tup xs) → (upd H6 q (.lst zz)) b=some (.tup xs) := fun zz b xs e => keep zz b _ (F4.nt e) (gE e g1 (by intro z;cases z)) e
        refine ⟨_, _, _, rfl, keep _ _ _ hRd (nR q qm).symm gR, keep _ _ _ hld (nl q qm).symm gl, fun z hz' => keepT _ _ _ (hz4 z hz'), ⟨keepT _ _ _ hW4.at_, hW4.le, hW4.lo, hW4.ws⟩, fun q' hq' => ?_, F6.but nqd nqc a_.upd, fun b o nb e => ?_⟩
        · by_cases eq : q'=q
          · subst eq
            refine ⟨_, ab, ?_, fun y hy => ?_⟩
            · rw [uF, vQ, uR, vv];omega
            · have hy : y = .ref t ∨ y∈ys := by
                rcases uW.mp hy with hy | hy
                · exact .inr (vt hy)
                · rcases u4.mp hy with hy | hy
                  · exact .inl hy
                  · exact .inr (vI hy)
              rcases hy with rfl | hy
              · exact ⟨t, p1, p2, rfl, by rw [aC (gE t6 g6 (by intro z;cases z))];exact t6⟩
              · obtain ⟨t1, i1, j1, e1, e3⟩ := g3 y hy
                exact ⟨t1, i1, j1, e1, keepT _ _ _ e3⟩
          · exact (rw4 q' hq').to (by omega) (fun xs e => keep _ _ _ (nd_ q' hq').1 eq e) (keepT _)
        · rw [aC (ao e (hq q qm).1)];exact s6 _ _ (sb5 _ _ nb (sb4 _ _ nb e))
    · rintro σ H4 ⟨v4, v5, v6, rfl, gR, gl, hz4, hW4, rw4, F4, sb4⟩
      rw [uD, uD] at rw4
      refine ⟨_, rfl, R, rfl, ⟨_, SqL.of gR⟩, ?_⟩
      refine fZ (xs := ls.map V.ref) (own := ["_law_row"]) (cap := []) (fun i ys σ H' => ∃ (v : Option V), σ = [v] ∧ ys.length=i ∧ (∀ y∈ys, Pl d d H' 60 2 y) ∧ au H4 H') ⟨none, rfl, rfl, (fun y hy => by cases hy), au.refl _⟩ (fun i ys σ H' hi ⟨_, _, e, _⟩ => by omega) (by rw [uD];omega) (fun i ys σ H' ⟨_, _, _, _, q⟩ => SqL.of (q _ _ gR)) ?_ ?_
      · rintro i ys σ H5 y N hy ⟨v, rfl, hyl, py, s5⟩ hN
        rw [u_] at hy
        cases hqi : ls[i]? with
        | none => rw [hqi] at hy;cases hy
        | some q =>
          rw [hqi] at hy
          obtain rfl := uV hy
          obtain ⟨ws, g1, g2, g3⟩ := rw4 q (uU hqi)
          refine ⟨_, rfl, q, _, rfl, .inl ⟨SqL.of (s5 _ _ g1), fun t ht => hN _ _ _ ⟨_, rfl, by rw [uF, hyl];rfl, fun y hy => ?_, s5.then ht⟩⟩⟩
          rcases uW.mp hy with hy | hy
          · exact (py y hy).same (au.new ht)
          · rw [uE.mp hy]
            refine .tup ab (by omega) fun x hx => ?_
            obtain ⟨t1, i1, j1, rfl, e3⟩ := g3 x hx
            exact .tup ((s5.then ht) _ _ e3) (by show 2≤60;decide) fun y hy => by
              rcases u4.mp hy with rfl | hy
              · exact .flat rfl
              · rw [uE.mp hy];exact .flat rfl
      · rintro ys σ H5 L5 ⟨v, rfl, hyl, py, s5⟩ hL
        rw [uD] at hyl
        have s6 := s5.then (o := .lst ys) hL
        have g6 : (upd H5 L5 (.lst ys)) L5=some (.lst ys) := ab
        have py6 := fun y hy => (py y hy).same (au.new (o := .lst ys) hL)
        generalize upd H5 L5 (.lst ys)=H6 at s6 g6 py6 ⊢
        refine ⟨L5, _, rfl, .inl ⟨SqL.of g6, fun r hr => ?_⟩⟩
        exact k r ys _ ((F4.same s6).new hr) (sb4.trans (s6.then hr).b) ab (by omega) fun y hy => (py6 y hy).same (au.new hr)
end
end Kx
namespace Kx
open PySem PySem.Spec PyProof.Rows L2 Wd
section
variable {P : Program} {w : World} {K : PySem.W.Frag} {mg : Str → Option Value} {base : Heap} {aB : Addr}
theorem iZ {α : Type}{xs : List α}{j : Int}(h0 : 0≤j)(h1 : j < xs.length) : ∃ v, v∈xs ∧ atI xs j=some v := by
  have hj : j.toNat < xs.length := by omega
  refine ⟨xs[j.toNat], vc hj, ?_⟩
  unfold atI ixN
  rw [if_pos h0, if_pos (by omega)]
  exact uB hj
theorem bz {d e : Addr}{H : Hp}{b n : Nat}{xs : List V}(h : xs.all n_=true) : ∀ y∈xs, Pl d e H b n y := fun y hy => .flat (vP.mp h y hy)
theorem bQ {d e : Addr}{H H' : Hp}{b n : Nat}{xs : List V}{y : V}(A : ∀ x∈xs, Pl d e H b n x)(s : au H H')(p : Pl d e H' b n y) : ∀ x∈xs++[y], Pl d e H' b n x := fun x hx => by
  rcases uW.mp hx with hx | hx
  · exact (A x hx).same s
  · rw [uE.mp hx];exact p
abbrev k_ : Stmt := top 26
theorem rn : aN ["_law_tape_here", "_law_ways", "_law_one", "_law_i", "_law_p", "_law_long", "_law_some"] ["_law_tape_here", "_law_ways", "_law_one"] (ai k_) := ⟨rfl, rfl, rfl, by decide +kernel, rfl, by decide +kernel, by decide +kernel⟩
theorem tf (D : Df K mg "_law_odd" k_)(T : Bt0 mg)(Tbool : mg "bool" = none)(F_draw : Fnc P w K mg base "_law_draw" ["_law_tape_here", "_law_many"] 1 bV) : Fnc P w K mg base "_law_odd" ["_law_tape_here", "_law_ways", "_law_one"] 2 kD := by
  have sc := rn
  refine D.ok sc (fun _ _ _ _ _ _ us hl => by obtain ⟨_, _, _, rfl⟩ := nJ hl;rfl) (fun vs H Q E h => ?_) (fun f cdv A outer s H vs Q E hr h => ?_)
  · obtain ⟨d, c, a, p, e, n, W, i, j, rfl, _⟩ := h
    rfl
  · obtain ⟨d, c, a, p, e, n, W, i, j, rfl, F, he, hW, hp, ok1, k⟩ := h
    have l16 := br
    have wlo := hW.lo
    have wle := hW.le
    unfold okS at ok1
    simp only [u3, vg] at ok1
    obtain ⟨⟨o1, o2⟩, o3, o4⟩ := ok1
    have hwl := cG hW i.toNat
    have hlog : i.natAbs.log2 < 1920 := by
      by_cases h0 : i.natAbs=0
      · rw [h0];decide
      · exact (Nat.log2_lt h0).mpr (uX (show i.natAbs < 2 ^ 3 by omega) (by decide +kernel))
    refine ⟨_, (@ag _ _ _ _ _ (@fF _ _ _ _ _ _ (pv 2) (@ip _ _ _ _ _ _ rfl (@bS _ _ _ _ _ (@aK _ _ (3) _ sc.nd rfl (Or.inl rfl) (by first | exact .inl rfl | exact .inr rfl | assumption)) (@bS _ _ _ _ _ (@aK _ _ (4) _ sc.nd rfl (Or.inl rfl) (by first | exact .inl rfl | exact .inr rfl | assumption)) fc (by rfl)) (by rfl)) (by rfl) (by rfl)) (by rfl) (by rfl) (by rfl)) (@ag _ _ _ _ _ (@aL _ _ (5) _ _ _ _ sc.nd rfl (Or.inl rfl) (@aj _ _ _ _ _ _ _ _ _ aJ (by rfl) T.len uT (@aa _ _ _ _ _ (@aR _ _ _ _ _ _ _ bo (pv 1) (pv 3) (fun _ _ => rfl)) ae (by rfl)) (by decide) (by decide) (by rfl) (by rfl)) (by rfl) (by first | exact .inl rfl | exact .inr rfl | assumption)) (@ag _ _ _ _ _ (@aL _ _ (6) _ _ _ _ sc.nd rfl (Or.inl rfl) (@bF _ _ _ _ (@eJ _ _ _ _ _ (@ba _ _ _ _ _ (@aa _ _ _ _ _ (pv 3) (@aa _ _ _ _ _ (@aD _ _ _ _ _ _ _ _ bp (pv 4) (pv 5)) ae (by rfl)) (by rfl))) (@eJ _ _ _ _ _ (@ba _ _ _ _ _ (@aa _ _ _ _ _ (@aD _ _ _ _ _ _ _ _ bp (pv 3) (@aj _ _ _ _ _ _ _ _ _ aq (by rfl) T.len uT (@aa _ _ _ _ _ (pv 1) ae (by rfl)) (by decide) (by decide) (by rfl) (by rfl))) (@aa _ _ _ _ _ (pv 4) ae (by rfl)) (by rfl))) (@eJ _ _ _ _ _ (@ba _ _ _ _ _ (@aa _ _ _ _ _ (pv 3) (@aa _ _ _ _ _ (@aD _ _ _ _ _ _ _ _ nh (pv 4) (pv 5)) ae (by rfl)) (by rfl))) (@eJ _ _ _ _ _ (@ba _ _ _ _ _ (@aa _ _ _ _ _ (@aD _ _ _ _ _ _ _ _ nh (pv 3) (@aj _ _ _ _ _ _ _ _ _ aq (by rfl) T.len uT (@aa _ _ _ _ _ (pv 1) ae (by rfl)) (by decide) (by decide) (by rfl) (by rfl))) (@aa _ _ _ _ _ (pv 4) ae (by rfl)) (by rfl))) (@eJ _ _ _ _ _ (@bF _ _ _ _ (@aa _ _ _ _ _ (pv 3) (@aa _ _ _ _ _ (pv 4) ae (by rfl)) (by rfl))) (@eJ _ _ _ _ _ (@ba _ _ _ _ _ (@aa _ _ _ _ _ (pv 3) ae (by rfl))) (@eJ _ _ _ _ _ (@ba _ _ _ _ _ (@aa _ _ _ _ _ (pv 3) (@aa _ _ _ _ _ (pv 4) (@aa _ _ _ _ _ ah ae (by rfl)) (by rfl)) (by rfl))) (@eJ _ _ _ _ _ ng ae (by rfl)) (by rfl)) (by rfl)) (by rfl)) (by rfl)) (by rfl)) (by rfl)) (by rfl))) (by rfl) (by first | exact .inl rfl | exact .inr rfl | assumption)) (@ag _ _ _ _ _ (@aL _ _ (6) _ _ _ _ sc.nd rfl (Or.inl rfl) (@aD _ _ _ _ _ _ _ _ nk (pv 6) (@bF _ _ _ _ (@eJ _ _ _ _ _ (@ba _ _ _ _ _ (@aa _ _ _ _ _ (@bA _ _ _ _ _ _ _ _ _ eR (by rfl) Tbool iS (@aa _ _ _ _ _ (pv 3) ae (by rfl)) (by decide) (by decide) (by rfl) (by rfl)) (@aa _ _ _ _ _ (pv 4) ae (by rfl)) (by rfl))) (@eJ _ _ _ _ _ (@ba _ _ _ _ _ (@aa _ _ _ _ _ (pv 3) (@aa _ _ _ _ _ (@bA _ _ _ _ _ _ _ _ _ eR (by rfl) Tbool iS (@aa _ _ _ _ _ (pv 4) ae (by rfl)) (by decide) (by decide) (by rfl) (by rfl)) ae (by rfl)) (by rfl))) (@eJ _ _ _ _ _ (@ba _ _ _ _ _ (@aa _ _ _ _ _ (pv 3) (@aa _ _ _ _ _ (@aD _ _ _ _ _ _ _ _ dC (@aD _ _ _ _ _ _ _ _ bp (pv 4) ah) (pv 5)) ae (by rfl)) (by rfl))) (@eJ _ _ _ _ _ (@ba _ _ _ _ _ (@aa _ _ _ _ _ (@aD _ _ _ _ _ _ _ _ dC (@aD _ _ _ _ _ _ _ _ bp (pv 3) ah) (@aj _ _ _ _ _ _ _ _ _ aq (by rfl) T.len uT (@aa _ _ _ _ _ (pv 1) ae (by rfl)) (by decide) (by decide) (by rfl) (by rfl))) (@aa _ _ _ _ _ ah ae (by rfl)) (by rfl))) (@eJ _ _ _ _ _ (@ba _ _ _ _ _ (@aa _ _ _ _ _ (@bA _ _ _ _ _ _ _ _ _ ku (by rfl) T.str sD (@aa _ _ _ _ _ (pv 3) ae (by rfl)) (by decide) (by decide) (by rfl) (by rfl)) (@aa _ _ _ _ _ (pv 4) ae (by rfl)) (by rfl))) ae (by rfl)) (by rfl)) (by rfl)) (by rfl)) (by rfl)))) (by rfl) (by first | exact .inl rfl | exact .inr rfl | assumption)) (@ak _ _ _ (@aE _ _ _ _ (@aR _ _ _ _ _ _ _ aZ (@aD _ _ _ _ _ _ _ _ nk (pv 6) (@bF _ _ _ _ (@aa _ _ _ _ _ (pv 4) (@aa _ _ _ _ _ (@ba _ _ _ _ _ (@aa _ _ _ _ _ (pv 4) (@aa _ _ _ _ _ (pv 3) ae (by rfl)) (by rfl))) ae (by rfl)) (by rfl)))) (@aV _ _ _ _ _ _ _ _ _ _ _ F_draw hr (by decide) rfl (@aa _ _ _ _ _ (pv 0) (@aa _ _ _ _ _ ah ae (by rfl)) (by rfl)) (by decide) (by rfl) (by rfl)) (fun _ _ => rfl)))))))), ?_⟩
    refine ⟨_, rfl, p, _, rfl, SqT.of hp, rfl, _, _, rfl, _, _, rfl, rfl, ?_⟩
    refine ⟨_, rfl, _, rfl, a, _, _, _, rfl, rfl, SqT.of hW.at_, cR o1 o2, _, rfl, (by rw [af];omega), ?_⟩
    rw [af]
    generalize (W.getD i.toNat []).length=wl at o4 hwl ⊢
    have A0 : ∀ x∈([] : List V), Pl d e H 60 1 x := fun x hx => by cases hx
    have s00 := au.refl H
    refine ⟨_, rfl, _, rfl, _, rfl, _, _, rfl, rfl, (az (n := 2) (by decide)), fun t1 h1 => ?_⟩
    have s1 : au H (upd H t1 (.tup [.int i, .int (j+(wl : Int))])) := au.new h1
    have A1 := bQ A0 s1 (y := .ref t1) (.tup ab (by show 2≤60;decide) (bz rfl))
    have hW1 := hW.same s1
    have F1 := F.same s1
    have s01 := s00.trans s1
    generalize (upd H t1 (.tup [.int i, .int (j+(wl : Int))]))=H1 at s1 A1 hW1 F1 s01 ⊢
    refine ⟨_, rfl, _, rfl, a, _, rfl, .inr (SqT.of hW1.at_), _, _, rfl, rfl, _, rfl, (az (n := 2) (by decide)), fun t2 h2 => ?_⟩
    have s2 : au H1 (upd H1 t2 (.tup [.int (i+((W.map tx).length : Int)), .int j])) := au.new h2
    have A2 := bQ A1 s2 (y := .ref t2) (.tup ab (by show 2≤60;decide) (bz rfl))
    have hW2 := hW1.same s2
    have F2 := F1.same s2
    have s02 := s01.trans s2
    generalize (upd H1 t2 (.tup [.int (i+((W.map tx).length : Int)), .int j]))=H2 at s2 A2 hW2 F2 s02 ⊢
    refine ⟨_, rfl, _, rfl, _, rfl, _, _, rfl, rfl, (az (n := 2) (by decide)), fun t3 h3 => ?_⟩
    have s3 : au H2 (upd H2 t3 (.tup [.int i, .int (j - (wl : Int))])) := au.new h3
    have A3 := bQ A2 s3 (y := .ref t3) (.tup ab (by show 2≤60;decide) (bz rfl))
    have hW3 := hW2.same s3
    have F3 := F2.same s3
    have s03 := s02.trans s3
    generalize (upd H2 t3 (.tup [.int i, .int (j - (wl : Int))]))=H3 at s3 A3 hW3 F3 s03 ⊢
    refine ⟨_, rfl, _, rfl, a, _, rfl, .inr (SqT.of hW3.at_), _, _, rfl, rfl, _, rfl, (az (n := 2) (by decide)), fun t4 h4 => ?_⟩
    have s4 : au H3 (upd H3 t4 (.tup [.int (i - ((W.map tx).length : Int)), .int j])) := au.new h4
    have A4 := bQ A3 s4 (y := .ref t4) (.tup ab (by show 2≤60;decide) (bz rfl))
    have hW4 := hW3.same s4
    have F4 := F3.same s4
    have s04 := s03.trans s4
    generalize (upd H3 t4 (.tup [.int (i - ((W.map tx).length : Int)), .int j]))=H4 at s4 A4 hW4 F4 s04 ⊢
    refine ⟨_, rfl, _, rfl, (az (n := 2) (by decide)), fun t5 h5 => ?_⟩
    have s5 : au H4 (upd H4 t5 (.lst [.int i, .int j])) := au.new h5
    have A5 := bQ A4 s5 (y := .ref t5) (.lst ab (F4.ne h5) (oU (he.imp fun _ q => s04 _ _ q) h5) (by show 2≤60;decide) (bz rfl))
    have hW5 := hW4.same s5
    have F5 := F4.same s5
    have s05 := s04.trans s5
    generalize (upd H4 t5 (.lst [.int i, .int j]))=H5 at s5 A5 hW5 F5 s05 ⊢
    refine ⟨_, rfl, (az (n := 1) (by decide)), fun t6 h6 => ?_⟩
    have s6 : au H5 (upd H5 t6 (.tup [.int i])) := au.new h6
    have A6 := bQ A5 s6 (y := .ref t6) (.tup ab (by show 1≤60;decide) (bz rfl))
    have hW6 := hW5.same s6
    have F6 := F5.same s6
    have s06 := s05.trans s6
    generalize (upd H5 t6 (.tup [.int i]))=H6 at s6 A6 hW6 F6 s06 ⊢
    refine ⟨_, rfl, _, rfl, (az (n := 3) (by decide)), fun t7 h7 => ?_⟩
    have s7 : au H6 (upd H6 t7 (.tup [.int i, .int j, .int 0])) := au.new h7
    have A7 := bQ A6 s7 (y := .ref t7) (.tup ab (by show 3≤60;decide) (bz rfl))
    have hW7 := hW6.same s7
    have F7 := F6.same s7
    have s07 := s06.trans s7
    generalize (upd H6 t7 (.tup [.int i, .int j, .int 0]))=H7 at s7 A7 hW7 F7 s07 ⊢
    refine ⟨(az (n := 8) (by decide)), fun l1 hl1 => ?_⟩
    have sL1 : au H7 (upd H7 l1 (.lst [.ref t1, .ref t2, .ref t3, .ref t4, .ref t5, .ref t6, .ref t7, .non])) := au.new hl1
    have f1 : (upd H7 l1 (.lst [.ref t1, .ref t2, .ref t3, .ref t4, .ref t5, .ref t6, .ref t7, .non])) l1=_ := ab
    have B0 : ∀ x∈([.ref t1, .ref t2, .ref t3, .ref t4, .ref t5, .ref t6, .ref t7, .non] : List V), Pl d e (upd H7 l1 (.lst [.ref t1, .ref t2, .ref t3, .ref t4, .ref t5, .ref t6, .ref t7, .non])) 60 1 x := bQ A7 sL1 (.flat rfl)
    have hWa := hW7.same sL1
    have Fa := F7.same sL1
    have s0a := s07.trans sL1
    generalize upd H7 l1 (.lst [.ref t1, .ref t2, .ref t3, .ref t4, .ref t5, .ref t6, .ref t7, .non])=Ha at f1 B0 hWa Fa s0a ⊢
    refine ⟨_, rfl, _, rfl, .inl ⟨_, rfl, _, rfl, (az (n := 2) (by decide)), fun t8 h8 => ?_⟩⟩
    have s8 : au Ha (upd Ha t8 (.tup [.bl (i != 0), .int j])) := au.new h8
    have A8 := bQ B0 s8 (y := .ref t8) (.tup ab (by show 2≤60;decide) (bz rfl))
    have f1 := s8 _ _ f1
    have hW8 := hWa.same s8
    have F8 := Fa.same s8
    have s08 := s0a.trans s8
    generalize (upd Ha t8 (.tup [.bl (i != 0), .int j]))=H8 at s8 A8 f1 hW8 F8 s08 ⊢
    refine ⟨_, rfl, _, rfl, .inl ⟨_, rfl, (az (n := 2) (by decide)), fun t9 h9 => ?_⟩⟩
    have s9 : au H8 (upd H8 t9 (.tup [.int i, .bl (j != 0)])) := au.new h9
    have A9 := bQ A8 s9 (y := .ref t9) (.tup ab (by show 2≤60;decide) (bz rfl))
    have f1 := s9 _ _ f1
    have hW9 := hW8.same s9
    have F9 := F8.same s9
    have s09 := s08.trans s9
    generalize (upd H8 t9 (.tup [.int i, .bl (j != 0)]))=H9 at s9 A9 f1 hW9 F9 s09 ⊢
    refine ⟨_, rfl, _, rfl, _, _, rfl, rfl, _, rfl, _, _, rfl, rfl, (by omega), (az (n := 2) (by decide)), fun t10 h10 => ?_⟩
    have s10 : au H9 (upd H9 t10 (.tup [.int i, .int ((j+1) % (wl : Int))])) := au.new h10
    have A10 := bQ A9 s10 (y := .ref t10) (.tup ab (by show 2≤60;decide) (bz rfl))
    have f1 := s10 _ _ f1
    have hW10 := hW9.same s10
    have F10 := F9.same s10
    have s010 := s09.trans s10
    generalize (upd H9 t10 (.tup [.int i, .int ((j+1) % (wl : Int))]))=H10 at s10 A10 f1 hW10 F10 s010 ⊢
    refine ⟨_, rfl, _, _, rfl, rfl, _, rfl, a, _, rfl, .inr (SqT.of hW10.at_), _, _, rfl, rfl, (by rw [uD];omega), (az (n := 2) (by decide)), fun t11 h11 => ?_⟩
    have s11 : au H10 (upd H10 t11 (.tup [.int ((i+1) % ((W.map tx).length : Int)), .int 0])) := au.new h11
    have A11 := bQ A10 s11 (y := .ref t11) (.tup ab (by show 2≤60;decide) (bz rfl))
    have f1 := s11 _ _ f1
    have hW11 := hW10.same s11
    have F11 := F10.same s11
    have s011 := s010.trans s11
    generalize (upd H10 t11 (.tup [.int ((i+1) % ((W.map tx).length : Int)), .int 0]))=H11 at s11 A11 f1 hW11 F11 s011 ⊢
    refine ⟨_, rfl, .inl ⟨_, rfl, hlog, _, rfl, (az (n := 2) (by decide)), fun t12 h12 => ?_⟩⟩
    have s12 : au H11 (upd H11 t12 (.tup [.str (toString i), .int j])) := au.new h12
    have A12 := bQ A11 s12 (y := .ref t12) (.tup ab (by show 2≤60;decide) (bz rfl))
    have f1 := s12 _ _ f1
    have hW12 := hW11.same s12
    have F12 := F11.same s12
    have s012 := s011.trans s12
    generalize (upd H11 t12 (.tup [.str (toString i), .int j]))=H12 at s12 A12 f1 hW12 F12 s012 ⊢
    refine ⟨(az (n := 5) (by decide)), fun l2 hl2 => ?_⟩
    have sL2 : au H12 (upd H12 l2 (.lst [.ref t8, .ref t9, .ref t10, .ref t11, .ref t12])) := au.new hl2
    refine ⟨l1, l2, _, _, rfl, rfl, sL2 _ _ f1, ab, (az (n := 13) (by decide)), fun l3 hl3 => ?_⟩
    have sL3 := sL2.then (o := .lst ([V.ref t1, V.ref t2, V.ref t3, V.ref t4, V.ref t5, V.ref t6, V.ref t7, .non]++[.ref t8, .ref t9, .ref t10, .ref t11, .ref t12])) hl3
    have f3 : (upd (upd H12 l2 (.lst [.ref t8, .ref t9, .ref t10, .ref t11, .ref t12])) l3 (.lst ([V.ref t1, V.ref t2, V.ref t3, V.ref t4, V.ref t5, V.ref t6, V.ref t7, .non]++[.ref t8, .ref t9, .ref t10, .ref t11, .ref t12]))) l3=_ := ab
    have C0 : ∀ x∈(([V.ref t1, V.ref t2, V.ref t3, V.ref t4, V.ref t5, V.ref t6, V.ref t7, .non]++[.ref t8, .ref t9, .ref t10, .ref t11, .ref t12])++[V.int j] : List V), Pl d e (upd (upd H12 l2 (.lst [.ref t8, .ref t9, .ref t10, .ref t11, .ref t12])) l3 (.lst ([V.ref t1, V.ref t2, V.ref t3, V.ref t4, V.ref t5, V.ref t6, V.ref t7, .non]++[.ref t8, .ref t9, .ref t10, .ref t11, .ref t12]))) 60 1 x := bQ A12 sL3 (.flat rfl)
    have hWb := hW12.same sL3
    have Fb := F12.same sL3
    have s0b := s012.trans sL3
    generalize (upd (upd H12 l2 (.lst [.ref t8, .ref t9, .ref t10, .ref t11, .ref t12])) l3 (.lst ([V.ref t1, V.ref t2, V.ref t3, V.ref t4, V.ref t5, V.ref t6, V.ref t7, .non]++[.ref t8, .ref t9, .ref t10, .ref t11, .ref t12])))=Hb at f3 C0 hWb Fb s0b ⊢
    refine ⟨_, rfl, _, rfl, _, rfl, _, rfl, (az (n := 2) (by decide)), fun t13 h13 => ?_⟩
    have s13 : au Hb (upd Hb t13 (.tup [.int j, .int i])) := au.new h13
    have A13 := bQ C0 s13 (y := .ref t13) (.tup ab (by show 2≤60;decide) (bz rfl))
    have f3 := s13 _ _ f3
    have hW13 := hWb.same s13
    have F13 := Fb.same s13
    have s013 := s0b.trans s13
    generalize (upd Hb t13 (.tup [.int j, .int i]))=H13 at s13 A13 f3 hW13 F13 s013 ⊢
    refine ⟨(az (n := 2) (by decide)), fun l4 hl4 => ?_⟩
    have sL4 : au H13 (upd H13 l4 (.lst [.int j, .ref t13])) := au.new hl4
    refine ⟨l3, l4, _, _, rfl, rfl, sL4 _ _ f3, ab, (az (n := 15) (by decide)), fun l5 hl5 => ?_⟩
    have sL5 := sL4.then (o := .lst (([V.ref t1, V.ref t2, V.ref t3, V.ref t4, V.ref t5, V.ref t6, V.ref t7, .non]++[.ref t8, .ref t9, .ref t10, .ref t11, .ref t12])++[.int j, .ref t13])) hl5
    have f5 : (upd (upd H13 l4 (.lst [.int j, .ref t13])) l5 (.lst (([V.ref t1, V.ref t2, V.ref t3, V.ref t4, V.ref t5, V.ref t6, V.ref t7, .non]++[.ref t8, .ref t9, .ref t10, .ref t11, .ref t12])++[.int j, .ref t13]))) l5=_ := ab
    have A14 := fun x hx => (A13 x hx).same sL5
    have F14 := F13.same sL5
    have s014 := s013.trans sL5
    have n5 : l5≠d := (F13.same sL4).ne hl5
    generalize (upd (upd H13 l4 (.lst [.int j, .ref t13])) l5 (.lst (([V.ref t1, V.ref t2, V.ref t3, V.ref t4, V.ref t5, V.ref t6, V.ref t7, .non]++[.ref t8, .ref t9, .ref t10, .ref t11, .ref t12])++[.int j, .ref t13])))=Hc at f5 A14 F14 s014 ⊢
    refine ⟨_, rfl, d, c, _, rfl, F14, by decide, by decide, fun q H15 q0 q1 F15 sb15 => ?_⟩
    obtain ⟨x, hx, ax⟩ := iZ (xs := (([V.ref t1, V.ref t2, V.ref t3, V.ref t4, V.ref t5, V.ref t6, V.ref t7, .non]++[.ref t8, .ref t9, .ref t10, .ref t11, .ref t12])++[.int j, .ref t13])) q0 (by simp only [uF, vQ, yf];omega)
    exact ⟨l5, _, _, _, rfl, rfl, SqL.of (sb15 _ _ n5 f5), ax, k x _ F15 (s014.b.trans sb15) ((A14 x hx).sb F14 sb15)⟩
end
end Kx
namespace Kx
open PySem PySem.Spec PyProof.Rows L2 Wd
theorem tP {u : TT}{σ : L2.St}{Q : Bool → Hp → Prop}{H : Hp}{b : Bool}(h1 : b=true → Q true H)(h2 : b=false → u σ H Q) : ij u σ Q b H := by
  cases b with
  | true => exact jk (h1 rfl)
  | false => exact gn (h2 rfl)
theorem aX (xs : List V)(k : Nat) : (dF xs none (some (k : Int))).length=min k xs.length := by
  unfold dF
  rw [HT.cT, HT.cv, uR, vv]
  omega
theorem aU (xs : List V)(k : Nat) : (dF xs (some (k : Int)) none).length=xs.length - k := by
  unfold dF
  rw [HT.cT, HT.cv, uR, vv]
  omega
theorem cH (xs : List V)(k m : Nat) : (dF xs (some (k : Int)) (some (m : Int))).length=min m xs.length - k := by
  unfold dF
  rw [HT.cv, HT.cv, uR, vv]
  omega
theorem aY {d e : Addr}{H H' : Hp}{b n : Nat}{xs : List V}(h : ∀ y∈xs, Pl d e H b n y)(s : au H H') : ∀ y∈xs, Pl d e H' b n y := fun y hy => (h y hy).same s
theorem gy {d c e : Addr}{H H' : Hp}{b n : Nat}{xs : List V}(h : ∀ y∈xs, Pl d e H b n y)(F : Tp H d c)(s : a_ d H H') : ∀ y∈xs, Pl d e H' b n y := fun y hy => (h y hy).sb F s
theorem bj {d e : Addr}{H : Hp}{b n : Nat}{xs : List V}{lo hi : Option Int}(h : ∀ y∈xs, Pl d e H b n y) : ∀ y∈dF xs lo hi, Pl d e H b n y := fun y hy => h y (mz hy)
theorem bC {d e : Addr}{H : Hp}{b n : Nat}{xs ys : List V}(h : ∀ y∈xs, Pl d e H b n y)(g : ∀ y∈ys, Pl d e H b n y) : ∀ y∈xs++ys, Pl d e H b n y := fun y hy => (uW.mp hy).elim (h y) (g y)
theorem eG {d e : Addr}{H : Hp}{b n : Nat}{x : V}(h : Pl d e H b n x) : ∀ y∈[x], Pl d e H b n y := fun y hy => by rw [uE.mp hy]; exact h
theorem rq {K : PySem.W.Frag}{H : Hp}{W : List (List L)}{x : V}{c : Option (Int × Int)}(h : Cp K H x c)(o : okO W c=true) : ∃ (p : Addr) (i j : Int), x = .ref p ∧ H p=some (.tup [.int i, .int j]) ∧ okS W (i, j)=true := by
  cases h with
  | @cap a i j h => exact ⟨a, i, j, rfl, h, o⟩
  | tup _ _ _ _ => cases o
  | oth _ _ => cases o
section
variable {P : Program} {w : World} {K : PySem.W.Frag} {mg : Str → Option Value} {base : Heap} {aB : Addr}
abbrev eH : Stmt := top 27
theorem m_ : aN ["_law_tape_here", "_law_ways", "_law_row", "_law_at", "_law_way"] ["_law_tape_here", "_law_ways", "_law_row"] (ai eH) := ⟨rfl, rfl, rfl, by decide +kernel, rfl, by decide +kernel, by decide +kernel⟩
theorem pz (D : Df K mg "_law_row_bent" eH)(T : Bt0 mg)(F_draw : Fnc P w K mg base "_law_draw" ["_law_tape_here", "_law_many"] 1 bV)(F_lisstr : Fnc P w K mg base "_law_is_strand" ["_law_ways", "_law_thing"] 1 (dB K))(F_odd : Fnc P w K mg base "_law_odd" ["_law_tape_here", "_law_ways", "_law_one"] 2 kD) : Fnc P w K mg base "_law_row_bent" ["_law_tape_here", "_law_ways", "_law_row"] 3 ia := by
  have sc := m_
  refine D.ok sc (fun _ _ _ _ _ _ us hl => by obtain ⟨_, _, _, rfl⟩ := nJ hl;rfl) (fun vs H Q E h => ?_) (fun f cdv A outer s H vs Q E hr h => ?_)
  · obtain ⟨d, c, a, r, e, n, b, W, xs, rfl, _⟩ := h
    rfl
  · obtain ⟨d, c, a, r, e, n, b, W, xs, rfl, F, he, hW, hr0, b1, b2, hl, hx, k⟩ := h
    have l16 := br
    refine ⟨_, (@ag _ _ _ _ _ (@aL _ _ (3) _ _ _ _ sc.nd rfl (Or.inl rfl) (@aV _ _ _ _ _ _ _ _ _ _ _ F_draw hr (by decide) rfl (@aa _ _ _ _ _ (pv 0) (@aa _ _ _ _ _ (@aD _ _ _ _ _ _ _ _ bp (@aj _ _ _ _ _ _ _ _ _ aq (by rfl) T.len uT (@aa _ _ _ _ _ (pv 2) ae (by rfl)) (by decide) (by decide) (by rfl) (by rfl)) ah) ae (by rfl)) (by rfl)) (by decide) (by rfl) (by rfl)) (by rfl) (by first | exact .inl rfl | exact .inr rfl | assumption)) (@ag _ _ _ _ _ (@aL _ _ (4) _ _ _ _ sc.nd rfl (Or.inl rfl) (@aV _ _ _ _ _ _ _ _ _ _ _ F_draw hr (by decide) rfl (@aa _ _ _ _ _ (pv 0) (@aa _ _ _ _ _ ah ae (by rfl)) (by rfl)) (by decide) (by rfl) (by rfl)) (by rfl) (by first | exact .inl rfl | exact .inr rfl | assumption)) (@ag _ _ _ _ _ (@bD _ _ _ _ _ _ _ _ (@aF _ _ _ _ _ _ _ _ cq (pv 4) ah (aP _)) (@ak _ _ _ (@aE _ _ _ _ (@aD _ _ _ _ _ _ _ _ bB (@aA _ _ _ _ _ _ _ _ _ _ bh (pv 2) aO (@aG _ _ _ (pv 3))) (@aA _ _ _ _ _ _ _ _ _ _ bh (pv 2) (@aG _ _ _ (@aD _ _ _ _ _ _ _ _ bp (pv 3) ah)) aO)))) aQ) (@ag _ _ _ _ _ (@bD _ _ _ _ _ _ _ _ (@aF _ _ _ _ _ _ _ _ cq (pv 4) ah (aP _)) (@ak _ _ _ (@aE _ _ _ _ (@aD _ _ _ _ _ _ _ _ bB (@aD _ _ _ _ _ _ _ _ bB (@aA _ _ _ _ _ _ _ _ _ _ bh (pv 2) aO (@aG _ _ _ (pv 3))) (@aA _ _ _ _ _ _ _ _ _ _ bh (pv 2) (@aG _ _ _ (pv 3)) (@aG _ _ _ (@aD _ _ _ _ _ _ _ _ bp (pv 3) ah)))) (@aA _ _ _ _ _ _ _ _ _ _ bh (pv 2) (@aG _ _ _ (pv 3)) aO)))) aQ) (@ag _ _ _ _ _ (@bD _ _ _ _ _ _ _ _ (@aF _ _ _ _ _ _ _ _ cq (pv 4) ah (aP _)) (@ak _ _ _ (@aE _ _ _ _ (@aD _ _ _ _ _ _ _ _ bB (@aD _ _ _ _ _ _ _ _ bB (@aA _ _ _ _ _ _ _ _ _ _ bh (pv 2) aO (@aG _ _ _ (pv 3))) (@oQ _ _ _ _ _ _ _ (@aA _ _ _ _ _ _ _ _ _ _ bh (pv 2) (@aG _ _ _ (pv 3)) (@aG _ _ _ (@aD _ _ _ _ _ _ _ _ bp (pv 3) ah))) (@jt _ _ _ _ _ _ fJ ah))) (@aA _ _ _ _ _ _ _ _ _ _ bh (pv 2) (@aG _ _ _ (@aD _ _ _ _ _ _ _ _ bp (pv 3) ah)) aO)))) aQ) (@ag _ _ _ _ _ (@bD _ _ _ _ _ _ _ _ (@aF _ _ _ _ _ _ _ _ cq (pv 4) ah (aP _)) (@ak _ _ _ (@aE _ _ _ _ (@aD _ _ _ _ _ _ _ _ bB (@aD _ _ _ _ _ _ _ _ bB (@aA _ _ _ _ _ _ _ _ _ _ bh (pv 2) aO (@aG _ _ _ (pv 3))) (@ba _ _ _ _ _ (@aa _ _ _ _ _ (@ba _ _ _ _ _ (@aa _ _ _ _ _ ah (@aa _ _ _ _ _ ah ae (by rfl)) (by rfl))) ae (by rfl)))) (@aA _ _ _ _ _ _ _ _ _ _ bh (pv 2) (@aG _ _ _ (@aD _ _ _ _ _ _ _ _ bp (pv 3) ah)) aO)))) aQ) (@ag _ _ _ _ _ (@bD _ _ _ _ _ _ _ _ (@PW.pt _ _ _ (@dN _ _ _ _ _ _ _ (@aF _ _ _ _ _ _ _ _ cq (pv 4) ah (aP _)) (@dN _ _ _ _ _ _ _ (@aF _ _ _ _ _ _ _ _ cq (pv 3) (@aj _ _ _ _ _ _ _ _ _ aq (by rfl) T.len uT (@aa _ _ _ _ _ (pv 2) ae (by rfl)) (by decide) (by decide) (by rfl) (by rfl)) (aP _)) (@cS _ _ _ _ (@ck _ _ _ _ (@bw _ _ _ (@aV _ _ _ _ _ _ _ _ _ _ _ F_lisstr hr (by decide) rfl (@aa _ _ _ _ _ (pv 1) (@aa _ _ _ _ _ (@aR _ _ _ _ _ _ _ bo (pv 2) (pv 3) (fun _ _ => rfl)) ae (by rfl)) (by rfl)) (by decide) (by rfl) (by rfl)) (fun _ => rfl))))))) (@ak _ _ _ (@aE _ _ _ _ (@bA _ _ _ _ _ _ _ _ _ cw (by rfl) T.list jS (@aa _ _ _ _ _ (pv 2) ae (by rfl)) (by decide) (by decide) (by rfl) (by rfl)))) aQ) (@ak _ _ _ (@aE _ _ _ _ (@aD _ _ _ _ _ _ _ _ bB (@aD _ _ _ _ _ _ _ _ bB (@aA _ _ _ _ _ _ _ _ _ _ bh (pv 2) aO (@aG _ _ _ (pv 3))) (@ba _ _ _ _ _ (@aa _ _ _ _ _ (@aV _ _ _ _ _ _ _ _ _ _ _ F_odd hr (by decide) rfl (@aa _ _ _ _ _ (pv 0) (@aa _ _ _ _ _ (pv 1) (@aa _ _ _ _ _ (@aR _ _ _ _ _ _ _ bo (pv 2) (pv 3) (fun _ _ => rfl)) ae (by rfl)) (by rfl)) (by rfl)) (by decide) (by rfl) (by rfl)) ae (by rfl)))) (@aA _ _ _ _ _ _ _ _ _ _ bh (pv 2) (@aG _ _ _ (@aD _ _ _ _ _ _ _ _ bp (pv 3) ah)) aO))))))))))), ?_⟩
    refine ⟨_, rfl, _, rfl, r, _, rfl, .inr (SqT.of hr0), _, _, rfl, rfl, d, c, _, rfl, F, by omega, by omega, fun p0 H1 a0 a1 F1 sb1 => ?_⟩
    obtain ⟨p, rfl⟩ := vW a0
    refine ⟨_, rfl, d, c, _, rfl, F1, by decide, by decide, fun w H2 w0 w1 F2 sb2 => ?_⟩
    have sb2 := sb1.trans sb2
    have h2 := sb2 _ _ (F.nt hr0) hr0
    have x2 := gy hx F sb2
    have hW2 := hW.sb F sb2
    have ep : (p : Int)+1=((p+1 : Nat) : Int) := by omega
    have ep2 : (p : Int)+2=((p+2 : Nat) : Int) := by omega
    have fin : ∀ (q : Addr) (zs : List V) (H' : Hp), Tp H' d c → a_ d H H' → H' q=some (.tup zs) → zs.length≤b+1 → (∀ y∈zs, Pl d e H' b 1 y) → Q (.ref q) H' := fun q zs H' F' sb' g' l' x' => k _ _ F' sb' (.tup g' l' fun y hy => (x' y hy).up (by omega) (uG _))
    have lst : ∀ (H' : Hp) (l : Addr), Tp H' d c → a_ d H H' → H' l=none → (∀ y∈xs, Pl d e H' b 1 y) → Q (.ref l) (upd H' l (.lst xs)) := fun H' l F' sb' h' x' => k _ _ (F'.new h') (sb'.trans (au.new h').b) (.lst ab (F'.ne h') (oU (rM he F' sb') h') (by omega) fun y hy => ((x' y hy).same (au.new h')).up (by omega) (uG _))
    refine ⟨_, rfl, rfl, _, rfl, dR (fun _ => ?_) (fun _ => ?_)⟩
    · refine ⟨_, rfl, _, rfl, _, rfl, r, xs, rfl, h2, fun p1 H3 s3 g3 => ?_⟩
      refine ⟨_, rfl, _, rfl, _, _, rfl, rfl, _, rfl, r, xs, rfl, s3 _ _ h2, fun p2 H4 s4 g4 => ?_⟩
      have s24 := s3.trans s4
      refine ⟨p1, p2, _, _, rfl, rfl, s4 _ _ g3, g4, (by rw [ep, aX, aU];omega), fun q H5 s5 g5 => ?_⟩
      have s25 := s24.trans s5
      refine fin q _ _ (F2.same s25) (sb2.trans s25.b) g5 (by rw [uF, ep, aX, aU];omega) (aY (bC (bj x2) (bj x2)) s25)
    refine ⟨_, rfl, rfl, _, rfl, dR (fun _ => ?_) (fun _ => ?_)⟩
    · refine ⟨_, rfl, _, rfl, _, rfl, r, xs, rfl, h2, fun p1 H3 s3 g3 => ?_⟩
      refine ⟨_, rfl, _, rfl, _, rfl, _, rfl, _, _, rfl, rfl, _, rfl, r, xs, rfl, s3 _ _ h2, fun p2 H4 s4 g4 => ?_⟩
      have s24 := s3.trans s4
      refine ⟨p1, p2, _, _, rfl, rfl, s4 _ _ g3, g4, (by rw [ep, aX, cH];omega), fun q H5 s5 g5 => ?_⟩
      have s25 := s24.trans s5
      refine ⟨_, rfl, _, rfl, _, rfl, r, xs, rfl, s25 _ _ h2, fun p3 H6 s6 g6 => ?_⟩
      refine ⟨q, p3, _, _, rfl, rfl, s6 _ _ g5, g6, (by rw [uF, ep, aX, cH, aU];omega), fun q2 H7 s7 g7 => ?_⟩
      have s27 := s25.trans (s6.trans s7)
      refine fin q2 _ _ (F2.same s27) (sb2.trans s27.b) g7 (by rw [uF, uF, ep, aX, cH, aU];omega) (aY (bC (bC (bj x2) (bj x2)) (bj x2)) s27)
    refine ⟨_, rfl, rfl, _, rfl, dR (fun _ => ?_) (fun _ => ?_)⟩
    · refine ⟨_, rfl, _, rfl, _, rfl, r, xs, rfl, h2, fun p1 H3 s3 g3 => ?_⟩
      refine ⟨_, rfl, _, rfl, _, rfl, _, rfl, _, _, rfl, rfl, _, rfl, r, xs, rfl, s3 _ _ h2, fun p2 H4 s4 g4 => ?_⟩
      have s24 := s3.trans s4
      refine ⟨_, rfl, p2, _, rfl, rfl, g4, fun p3 h3 => ?_⟩
      have s5 : au H4 (upd H4 p3 (.tup (dF xs (some (p : Int)) (some ((p : Int)+2))).reverse)) := au.new h3
      have g5 : (upd H4 p3 (.tup (dF xs (some (p : Int)) (some ((p : Int)+2))).reverse)) p3=_ := ab
      generalize upd H4 p3 (.tup (dF xs (some (p : Int)) (some ((p : Int)+2))).reverse)=H5 at s5 g5 ⊢
      have s25 := s24.trans s5
      refine ⟨p1, p3, _, _, rfl, rfl, s5 _ _ (s4 _ _ g3), g5, (by rw [wa, ep2, aX, cH];omega), fun q H6 s6 g6 => ?_⟩
      refine ⟨_, rfl, _, rfl, _, _, rfl, rfl, _, rfl, r, xs, rfl, (s25.trans s6) _ _ h2, fun p4 H7 s7 g7 => ?_⟩
      refine ⟨q, p4, _, _, rfl, rfl, s7 _ _ g6, g7, (by rw [uF, wa, ep2, aX, cH, aU];omega), fun q2 H8 s8 g8 => ?_⟩
      have s28 := s25.trans (s6.trans (s7.trans s8))
      refine fin q2 _ _ (F2.same s28) (sb2.trans s28.b) g8 (by rw [uF, uF, wa, ep2, aX, cH, aU];omega) (aY (bC (bC (bj x2) (fun y hy => bj x2 y (List.mem_reverse.mp hy))) (bj x2)) s28)
    refine ⟨_, rfl, rfl, _, rfl, dR (fun _ => ?_) (fun _ => ?_)⟩
    · refine ⟨_, rfl, _, rfl, _, rfl, r, xs, rfl, h2, fun p1 H3 s3 g3 => ?_⟩
      refine ⟨(az (n := 2) (by decide)), fun t1 ht1 => ⟨(az (n := 1) (by decide)), fun t2 ht2 => ?_⟩⟩
      have s4 : au H3 (upd H3 t1 (.tup [.int 0, .int 0])) := au.new ht1
      have g4 : (upd H3 t1 (.tup [.int 0, .int 0])) t1=_ := ab
      generalize upd H3 t1 (.tup [.int 0, .int 0])=H4 at s4 g4 ht2 ⊢
      have s5 : au H4 (upd H4 t2 (.tup [.ref t1])) := au.new ht2
      have g5 : (upd H4 t2 (.tup [.ref t1])) t2=_ := ab
      generalize upd H4 t2 (.tup [.ref t1])=H5 at s5 g5 ⊢
      have s25 := s3.trans (s4.trans s5)
      have p5 : Pl d e H5 b 1 (.ref t1) := .tup (s5 _ _ g4) (by show 2≤b;omega) (bz rfl)
      refine ⟨p1, t2, _, _, rfl, rfl, s5 _ _ (s4 _ _ g3), g5, (by rw [aX];show _+1≤sizeLine;omega), fun q H6 s6 g6 => ?_⟩
      refine ⟨_, rfl, _, rfl, _, _, rfl, rfl, _, rfl, r, xs, rfl, (s25.trans s6) _ _ h2, fun p4 H7 s7 g7 => ?_⟩
      refine ⟨q, p4, _, _, rfl, rfl, s7 _ _ g6, g7, (by rw [uF, ep, aX, aU];show _+1+_≤sizeLine;omega), fun q2 H8 s8 g8 => ?_⟩
      have s68 := s6.trans (s7.trans s8)
      have s28 := s25.trans s68
      refine fin q2 _ _ (F2.same s28) (sb2.trans s28.b) g8 (by rw [uF, uF, ep, aX, aU];show _+1+_≤_;omega) (aY (bC (bC (bj (aY x2 s25)) (eG p5)) (bj (aY x2 s25))) s68)
    have lst2 : ∀ (H' : Hp), au H2 H' → ∃ (p : Addr) (ys : List V), [V.ref r]=[.ref p] ∧ (SqL K H' p ys ∨ SqT K H' p ys) ∧ ∀ l, H' l=none → Q (.ref l) (upd H' l (.lst ys)) := fun H' s' => ⟨r, xs, rfl, .inr (SqT.of (s' _ _ h2)), fun l hl' => lst H' l (F2.same s') (sb2.trans s'.b) hl' (aY x2 s')⟩
    refine ⟨_, rfl, rfl, _, rfl, tP (fun _ => eK ?_) (fun _ => ?_)⟩
    · obtain ⟨p, ys, e1, e2, e3⟩ := lst2 H2 (au.refl _)
      exact ⟨_, rfl, p, ys, e1, e2, e3⟩
    refine ⟨_, rfl, _, rfl, r, _, rfl, .inr (SqT.of h2), rfl, _, rfl, tP (fun _ => eK ?_) (fun hb => ?_)⟩
    · obtain ⟨p, ys, e1, e2, e3⟩ := lst2 H2 (au.refl _)
      exact ⟨_, rfl, p, ys, e1, e2, e3⟩
    have hpl : p < xs.length := by
      have hb : decide (V.int (p : Int)=V.int (xs.length : Int))=false := hb
      have : ¬ p=xs.length := fun e => by rw [e] at hb;simp at hb
      omega
    have ax : xs[p]? = some xs[p] := uB hpl
    have xm : xs[p]∈xs := vc hpl
    generalize xs[p]=x at ax xm
    obtain ⟨c1, hcp⟩ := qW (K := K) (x2 x xm) (by omega)
    refine ⟨_, rfl, _, rfl, _, rfl, r, _, _, _, rfl, rfl, SqT.of h2, b_ ax, a, n, W, x, c1, rfl, hW2, hcp, fun H3 s3 => ⟨_, rfl, ?_⟩⟩
    cases o : okO W c1 with
    | false =>
      refine nkF (eK ?_)
      obtain ⟨p, ys, e1, e2, e3⟩ := lst2 H3 s3
      exact ⟨_, rfl, p, ys, e1, e2, e3⟩
    | true =>
      refine nkT (iW ?_)
      obtain ⟨q0, i, j, rfl, hq0, ok0⟩ := rq (hcp.same s3) o
      have h3 := s3 _ _ h2
      refine ⟨_, rfl, _, rfl, _, rfl, r, xs, rfl, h3, fun p1 H4 s4 g4 => ?_⟩
      have s24 := s3.trans s4
      have F4 := F2.same s24
      refine ⟨_, rfl, _, rfl, _, rfl, _, rfl, r, _, _, _, rfl, rfl, SqT.of (s4 _ _ h3), b_ ax, d, c, a, q0, e, n, W, i, j, rfl, F4, rM he F4 (sb2.trans s24.b), hW2.same s24, s4 _ _ hq0, ok0, fun x5 H5 F5 sb5 px => ⟨(az (n := 1) (by decide)), fun t ht => ?_⟩⟩
      have s6 : au H5 (upd H5 t (.tup [x5])) := au.new ht
      have g6 : (upd H5 t (.tup [x5])) t=_ := ab
      generalize upd H5 t (.tup [x5])=H6 at s6 g6 ⊢
      have sb26 := (s24.b (d := d)).trans (sb5.trans s6.b)
      have h6 := sb26 _ _ (F2.nt h2) h2
      have g46 := s6 _ _ (sb5 _ _ (F4.nt g4) g4)
      have x6 := gy x2 F2 sb26
      have F6 := F5.same s6
      refine ⟨p1, t, _, _, rfl, rfl, g46, g6, (by rw [aX];show _+1≤sizeLine;omega), fun q H7 s7 g7 => ?_⟩
      refine ⟨_, rfl, _, rfl, _, _, rfl, rfl, _, rfl, r, xs, rfl, s7 _ _ h6, fun p4 H8 s8 g8 => ?_⟩
      refine ⟨q, p4, _, _, rfl, rfl, s8 _ _ g7, g8, (by rw [uF, ep, aX, aU];show _+1+_≤sizeLine;omega), fun q2 H9 s9 g9 => ?_⟩
      have s69 := s7.trans (s8.trans s9)
      refine fin q2 _ _ (F6.same s69) (sb2.trans (sb26.trans s69.b)) g9 (by rw [uF, uF, ep, aX, aU];show _+1+_≤_;omega) (aY (bC (bC (bj x6) (eG ((px.same s6).up (by omega) (uG _)))) (bj x6)) s69)
end
end Kx
namespace Kx
open PySem PySem.Spec PyProof.Rows L2 Wd
section
variable {P : Program} {w : World} {K : PySem.W.Frag} {mg : Str → Option Value} {base : Heap} {aB : Addr}
abbrev gz : Stmt := top 28
theorem pA : aN ["_law_tape_here", "_law_ways", "_law_drawing", "_law_at", "_law_way"] ["_law_tape_here", "_law_ways", "_law_drawing"] (ai gz) := ⟨rfl, rfl, rfl, by decide +kernel, rfl, by decide +kernel, by decide +kernel⟩
theorem rz (D : Df K mg "_law_bent" gz)(T : Bt0 mg)(F_draw : Fnc P w K mg base "_law_draw" ["_law_tape_here", "_law_many"] 1 bV)(F_rbent : Fnc P w K mg base "_law_row_bent" ["_law_tape_here", "_law_ways", "_law_row"] 3 ia) : Fnc P w K mg base "_law_bent" ["_law_tape_here", "_law_ways", "_law_drawing"] 4 ib := by
  have sc := pA
  refine D.ok sc (fun _ _ _ _ _ _ us hl => by obtain ⟨_, _, _, rfl⟩ := nJ hl;rfl) (fun vs H Q E h => ?_) (fun f cdv A outer s H vs Q E hr h => ?_)
  · obtain ⟨d, c, a, r, e, n, b, W, xs, rfl, _⟩ := h
    rfl
  · obtain ⟨d, c, a, r, e, n, b, W, xs, rfl, F, he, hW, hr0, b1, b2, hl0, hl, hx, k⟩ := h
    have l16 := br
    refine ⟨_, (@ag _ _ _ _ _ (@aL _ _ (3) _ _ _ _ sc.nd rfl (Or.inl rfl) (@aV _ _ _ _ _ _ _ _ _ _ _ F_draw hr (by decide) rfl (@aa _ _ _ _ _ (pv 0) (@aa _ _ _ _ _ (@aj _ _ _ _ _ _ _ _ _ aq (by rfl) T.len uT (@aa _ _ _ _ _ (pv 2) ae (by rfl)) (by decide) (by decide) (by rfl) (by rfl)) ae (by rfl)) (by rfl)) (by decide) (by rfl) (by rfl)) (by rfl) (by first | exact .inl rfl | exact .inr rfl | assumption)) (@ag _ _ _ _ _ (@aL _ _ (4) _ _ _ _ sc.nd rfl (Or.inl rfl) (@aV _ _ _ _ _ _ _ _ _ _ _ F_draw hr (by decide) rfl (@aa _ _ _ _ _ (pv 0) (@aa _ _ _ _ _ ah ae (by rfl)) (by rfl)) (by decide) (by rfl) (by rfl)) (by rfl) (by first | exact .inl rfl | exact .inr rfl | assumption)) (@ag _ _ _ _ _ (@bD _ _ _ _ _ _ _ _ (@aF _ _ _ _ _ _ _ _ cq (pv 4) ah (aP _)) (@ak _ _ _ (@aE _ _ _ _ (@aD _ _ _ _ _ _ _ _ bB (@aA _ _ _ _ _ _ _ _ _ _ bh (pv 2) aO (@aG _ _ _ (pv 3))) (@aA _ _ _ _ _ _ _ _ _ _ bh (pv 2) (@aG _ _ _ (@aD _ _ _ _ _ _ _ _ bp (pv 3) ah)) aO)))) aQ) (@ag _ _ _ _ _ (@bD _ _ _ _ _ _ _ _ (@aF _ _ _ _ _ _ _ _ cq (pv 4) ah (aP _)) (@ak _ _ _ (@aE _ _ _ _ (@aD _ _ _ _ _ _ _ _ bB (pv 2) (@ba _ _ _ _ _ (@aa _ _ _ _ _ (@ba _ _ _ _ _ ae) ae (by rfl)))))) aQ) (@ag _ _ _ _ _ (@bD _ _ _ _ _ _ _ _ (@aF _ _ _ _ _ _ _ _ cq (pv 4) ah (aP _)) (@ak _ _ _ (@aE _ _ _ _ (@bA _ _ _ _ _ _ _ _ _ cw (by rfl) T.list jS (@aa _ _ _ _ _ (pv 2) ae (by rfl)) (by decide) (by decide) (by rfl) (by rfl)))) aQ) (@ag _ _ _ _ _ (@bD _ _ _ _ _ _ _ _ (@aF _ _ _ _ _ _ _ _ cq (pv 4) ah (aP _)) (@ak _ _ _ (@aE _ _ _ _ (@aD _ _ _ _ _ _ _ _ bB (@aA _ _ _ _ _ _ _ _ _ _ bh (pv 2) (@aG _ _ _ (pv 3)) aO) (@aA _ _ _ _ _ _ _ _ _ _ bh (pv 2) aO (@aG _ _ _ (pv 3)))))) aQ) (@ag _ _ _ _ _ (@bD _ _ _ _ _ _ _ _ (@ck _ _ _ _ (@bw _ _ _ (@aj _ _ _ _ _ _ _ _ _ (@bx _ (K) rfl) (by rfl) T.isinstance aM (@aa _ _ _ _ _ (@aR _ _ _ _ _ _ _ bo (pv 2) (pv 3) (fun _ _ => rfl)) (@aa _ _ _ _ _ (@bH _ _ (.ty "tuple") _ _ rfl T.tuple bN rfl (by decide) (by decide)) ae (by rfl)) (by rfl)) (by decide) (by decide) (by rfl) (by rfl)) (fun _ => rfl))) (@ak _ _ _ (@aE _ _ _ _ (pv 2))) aQ) (@ak _ _ _ (@aE _ _ _ _ (@aD _ _ _ _ _ _ _ _ bB (@aD _ _ _ _ _ _ _ _ bB (@aA _ _ _ _ _ _ _ _ _ _ bh (pv 2) aO (@aG _ _ _ (pv 3))) (@ba _ _ _ _ _ (@aa _ _ _ _ _ (@aV _ _ _ _ _ _ _ _ _ _ _ F_rbent hr (by decide) rfl (@aa _ _ _ _ _ (pv 0) (@aa _ _ _ _ _ (pv 1) (@aa _ _ _ _ _ (@aR _ _ _ _ _ _ _ bo (pv 2) (pv 3) (fun _ _ => rfl)) ae (by rfl)) (by rfl)) (by rfl)) (by decide) (by rfl) (by rfl)) ae (by rfl)))) (@aA _ _ _ _ _ _ _ _ _ _ bh (pv 2) (@aG _ _ _ (@aD _ _ _ _ _ _ _ _ bp (pv 3) ah)) aO))))))))))), ?_⟩
    refine ⟨_, rfl, _, rfl, r, _, rfl, .inr (SqT.of hr0), d, c, _, rfl, F, by omega, by omega, fun p0 H1 a0 a1 F1 sb1 => ?_⟩
    obtain ⟨p, rfl⟩ := vW a0
    refine ⟨_, rfl, d, c, _, rfl, F1, by decide, by decide, fun w H2 w0 w1 F2 sb2 => ?_⟩
    have sb2 := sb1.trans sb2
    have h2 := sb2 _ _ (F.nt hr0) hr0
    have x2 := gy hx F sb2
    have hW2 := hW.sb F sb2
    have ep : (p : Int)+1=((p+1 : Nat) : Int) := by omega
    have fin : ∀ (q : Addr) (zs : List V) (H' : Hp), Tp H' d c → a_ d H H' → H' q=some (.tup zs) → zs.length≤b+1 → (∀ y∈zs, Pl d e H' (b+1) 2 y) → Q (.ref q) H' := fun q zs H' F' sb' g' l' x' => k _ _ F' sb' (.tup g' l' x')
    have up : ∀ {H' : Hp} {zs : List V}, (∀ y∈zs, Pl d e H' b 2 y) → ∀ y∈zs, Pl d e H' (b+1) 2 y := fun h y hy => (h y hy).up (by omega) (uG _)
    refine ⟨_, rfl, rfl, _, rfl, dR (fun _ => ?_) (fun _ => ?_)⟩
    · refine ⟨_, rfl, _, rfl, _, rfl, r, xs, rfl, h2, fun p1 H3 s3 g3 => ?_⟩
      refine ⟨_, rfl, _, rfl, _, _, rfl, rfl, _, rfl, r, xs, rfl, s3 _ _ h2, fun p2 H4 s4 g4 => ?_⟩
      have s24 := s3.trans s4
      refine ⟨p1, p2, _, _, rfl, rfl, s4 _ _ g3, g4, (by rw [ep, aX, aU];omega), fun q H5 s5 g5 => ?_⟩
      have s25 := s24.trans s5
      refine fin q _ _ (F2.same s25) (sb2.trans s25.b) g5 (by rw [uF, ep, aX, aU];omega) (up (aY (bC (bj x2) (bj x2)) s25))
    refine ⟨_, rfl, rfl, _, rfl, dR (fun _ => ?_) (fun _ => ?_)⟩
    · refine ⟨_, rfl, (az (n := 0) (by decide)), fun t1 ht1 => ⟨(az (n := 1) (by decide)), fun t2 ht2 => ?_⟩⟩
      have s4 : au H2 (upd H2 t1 (.tup [])) := au.new ht1
      have g4 : (upd H2 t1 (.tup [])) t1=_ := ab
      generalize upd H2 t1 (.tup [])=H4 at s4 g4 ht2 ⊢
      have s5 : au H4 (upd H4 t2 (.tup [.ref t1])) := au.new ht2
      have g5 : (upd H4 t2 (.tup [.ref t1])) t2=_ := ab
      generalize upd H4 t2 (.tup [.ref t1])=H5 at s5 g5 ⊢
      have s25 := s4.trans s5
      have p5 : Pl d e H5 b 2 (.ref t1) := .tup (s5 _ _ g4) (by show 0≤b;omega) (bz rfl)
      refine ⟨r, t2, _, _, rfl, rfl, s25 _ _ h2, g5, (by show _+1≤sizeLine;omega), fun q H6 s6 g6 => ?_⟩
      have s26 := s25.trans s6
      exact fin q _ _ (F2.same s26) (sb2.trans s26.b) g6 (by rw [uF];show _+1≤_;omega) (up (aY (bC (aY x2 s25) (eG p5)) s6))
    refine ⟨_, rfl, rfl, _, rfl, dR (fun _ => ?_) (fun _ => ?_)⟩
    · exact ⟨_, rfl, r, xs, rfl, .inr (SqT.of h2), fun l hl' => k _ _ (F2.new hl') (sb2.trans (au.new hl').b) (.lst ab (F2.ne hl') (oU (rM he F2 sb2) hl') (by omega) (up (aY x2 (au.new hl'))))⟩
    refine ⟨_, rfl, rfl, _, rfl, dR (fun _ => ?_) (fun _ => ?_)⟩
    · refine ⟨_, rfl, _, rfl, _, rfl, r, xs, rfl, h2, fun p1 H3 s3 g3 => ?_⟩
      refine ⟨_, rfl, _, rfl, _, rfl, r, xs, rfl, s3 _ _ h2, fun p2 H4 s4 g4 => ?_⟩
      have s24 := s3.trans s4
      refine ⟨p1, p2, _, _, rfl, rfl, s4 _ _ g3, g4, (by rw [aX, aU];omega), fun q H5 s5 g5 => ?_⟩
      have s25 := s24.trans s5
      refine fin q _ _ (F2.same s25) (sb2.trans s25.b) g5 (by rw [uF, aX, aU];omega) (up (aY (bC (bj x2) (bj x2)) s25))
    have hpl : p < xs.length := by omega
    have ax : xs[p]? = some xs[p] := uB hpl
    have xm : xs[p]∈xs := vc hpl
    generalize xs[p]=x at ax xm
    have px := x2 x xm
    have same : Q (.ref r) H2 := fin r xs _ F2 sb2 h2 (by omega) (up x2)
    refine ⟨_, rfl, _, rfl, r, _, _, _, rfl, rfl, SqT.of h2, b_ ax, ?_⟩
    cases px with
    | flat h =>
      obtain ⟨nm, ty, e0⟩ := eo (K := K) (H := H2) h
      exact ⟨_, _, _, _, rfl, ty, e0, _, rfl, nkF (eK ⟨_, rfl, same⟩)⟩
    | lst h _ _ _ _ => exact ⟨_, _, _, _, rfl, .lst h, cE, _, rfl, nkF (eK ⟨_, rfl, same⟩)⟩
    | @tup _ q0 ys hq hql hqx =>
      refine ⟨_, _, _, _, rfl, .tup hq, bE, _, rfl, nkT (iW ?_)⟩
      refine ⟨_, rfl, _, rfl, _, rfl, r, xs, rfl, h2, fun p1 H4 s4 g4 => ?_⟩
      have F4 := F2.same s4
      refine ⟨_, rfl, _, rfl, _, rfl, _, rfl, r, _, _, _, rfl, rfl, SqT.of (s4 _ _ h2), b_ ax, d, c, a, q0, e, n, b, W, ys, rfl, F4, rM he F4 (sb2.trans s4.b), hW2.same s4, s4 _ _ hq, b1, b2, hql, aY hqx s4, fun x5 H5 F5 sb5 px => ⟨(az (n := 1) (by decide)), fun t ht => ?_⟩⟩
      have s6 : au H5 (upd H5 t (.tup [x5])) := au.new ht
      have g6 : (upd H5 t (.tup [x5])) t=_ := ab
      generalize upd H5 t (.tup [x5])=H6 at s6 g6 ⊢
      have sb26 := (s4.b (d := d)).trans (sb5.trans s6.b)
      have h6 := sb26 _ _ (F2.nt h2) h2
      have g46 := s6 _ _ (sb5 _ _ (F4.nt g4) g4)
      have x6 := up (gy x2 F2 sb26)
      have F6 := F5.same s6
      refine ⟨p1, t, _, _, rfl, rfl, g46, g6, (by rw [aX];show _+1≤sizeLine;omega), fun q H7 s7 g7 => ?_⟩
      refine ⟨_, rfl, _, rfl, _, _, rfl, rfl, _, rfl, r, xs, rfl, s7 _ _ h6, fun p4 H8 s8 g8 => ?_⟩
      refine ⟨q, p4, _, _, rfl, rfl, s8 _ _ g7, g8, (by rw [uF, ep, aX, aU];show _+1+_≤sizeLine;omega), fun q2 H9 s9 g9 => ?_⟩
      have s69 := s7.trans (s8.trans s9)
      refine fin q2 _ _ (F6.same s69) (sb2.trans (sb26.trans s69.b)) g9 (by rw [uF, uF, ep, aX, aU];show _+1+_≤_;omega) (aY (bC (bC (bj x6) (eG (px.same s6))) (bj x6)) s69)
end
end Kx
namespace Kx
open PySem PySem.Spec PyProof.Rows L2 Wd
inductive lh (K : PySem.W.Frag)(vs : List V)(H : Hp)(Q : VK)(u3_ : XK) : Prop
  | mk : ∀ (a : Addr) (ns : List Int), (vs=[.ref a]) → (SqL K H a (ns.map V.int)) → (ns.length≤63) → (∀ H', Q (.bl true) H') → lh K vs H Q u3_
section
variable {P : Program} {w : World} {K : PySem.W.Frag} {mg : Str → Option Value} {base : Heap} {aB : Addr}
abbrev gC : Stmt := top 29
theorem rA : aN ["_law_script", "_law_tape_here", "_law_k", "_law_surface", "_law_long", "_law_ways", "_law_drawing", "_law_things", "_law_j", "_law_bent_here", "_law_thing"] ["_law_script"] (ai gC) := ⟨rfl, rfl, rfl, by decide +kernel, rfl, by decide +kernel, by decide +kernel⟩
theorem tj {f : Addr}{fd : FuncData}(D : Fun K "law" "law" gC f fd)(T : Bt0 mg)(F_tape : Fnc P w K mg base "_law_tape" ["_law_script"] 1 (kl K))(F_draw : Fnc P w K mg base "_law_draw" ["_law_tape_here", "_law_many"] 1 bV)(F_row : Fnc P w K mg base "_law_any_row" ["_law_tape_here", "_law_most"] 2 kF)(F_sways : Fnc P w K mg base "_law_some_ways" ["_law_tape_here", "_law_many", "_law_most", "_law_long"] 4 h_)
    (F_adrw : Fnc P w K mg base "_law_any_drawing" ["_law_tape_here", "_law_surface", "_law_ways"] 2 kC) (F_bent : Fnc P w K mg base "_law_bent" ["_law_tape_here", "_law_ways", "_law_drawing"] 4 ib) (F_isdrw : Fnc P w K mg base "is_drawing" ["surface", "ways", "thing"] 4 (hV K)) (F_lisdrw : Fnc P w K mg base "_law_is_drawing" ["_law_surface", "_law_ways", "_law_thing"] 2 (fB K)) : lj P w K mg base CX0 6 f fd ["_law_script"] (lh K) := by
  have sc := rA
  refine D.ok sc (fun vs H Q E h => ?_) (fun cdv A outer s H vs Q E hr h => ?_)
  · obtain ⟨a, ns, rfl, _⟩ := h
    rfl
  · obtain ⟨a, ns, rfl, hS, hlen, q⟩ := h
    have l16 := br
    refine ⟨_, (@ag _ _ _ _ _ (@aL _ _ (1) _ _ _ _ sc.nd rfl (Or.inl rfl) (@aV _ _ _ _ _ _ _ _ _ _ _ F_tape hr (by decide) rfl (@aa _ _ _ _ _ (pv 0) ae (by rfl)) (by decide) (by rfl) (by rfl)) (by rfl) (by first | exact .inl rfl | exact .inr rfl | assumption)) (@ag _ _ _ _ _ (@bX _ _ _ _ _ _ _ _ vx rfl (@bt _ _ _ _ _ _ rfl T.range (@aa _ _ _ _ _ ah ae (by rfl)) (by rfl)) (@aK _ _ (2) _ sc.nd rfl (Or.inl rfl) (by first | exact .inl rfl | exact .inr rfl | assumption)) (@ag _ _ _ _ _ (@aL _ _ (3) _ _ _ _ sc.nd rfl (Or.inl rfl) (@aV _ _ _ _ _ _ _ _ _ _ _ F_row hr (by decide) rfl (@aa _ _ _ _ _ (pv 1) (@aa _ _ _ _ _ ah ae (by rfl)) (by rfl)) (by decide) (by rfl) (by rfl)) (by rfl) (by first | exact .inl rfl | exact .inr rfl | assumption)) (@ag _ _ _ _ _ (@aL _ _ (4) _ _ _ _ sc.nd rfl (Or.inl rfl) (@aR _ _ _ _ _ _ _ aZ (@bF _ _ _ _ (@aa _ _ _ _ _ ah (@aa _ _ _ _ _ ah (@aa _ _ _ _ _ ah ae (by rfl)) (by rfl)) (by rfl))) (@aV _ _ _ _ _ _ _ _ _ _ _ F_draw hr (by decide) rfl (@aa _ _ _ _ _ (pv 1) (@aa _ _ _ _ _ ah ae (by rfl)) (by rfl)) (by decide) (by rfl) (by rfl)) (fun _ _ => rfl)) (by rfl) (by first | exact .inl rfl | exact .inr rfl | assumption)) (@ag _ _ _ _ _ (@aL _ _ (5) _ _ _ _ sc.nd rfl (Or.inl rfl) (@aV _ _ _ _ _ _ _ _ _ _ _ F_sways hr (by decide) rfl (@aa _ _ _ _ _ (pv 1) (@aa _ _ _ _ _ (@aD _ _ _ _ _ _ _ _ cu (@aj _ _ _ _ _ _ _ _ _ aJ (by rfl) T.len uT (@aa _ _ _ _ _ (pv 3) ae (by rfl)) (by decide) (by decide) (by rfl) (by rfl)) ah) (@aa _ _ _ _ _ ah (@aa _ _ _ _ _ (pv 4) ae (by rfl)) (by rfl)) (by rfl)) (by rfl)) (by decide) (by rfl) (by rfl)) (by rfl) (by first | exact .inl rfl | exact .inr rfl | assumption)) (@ag _ _ _ _ _ (@aL _ _ (6) _ _ _ _ sc.nd rfl (Or.inl rfl) (@aV _ _ _ _ _ _ _ _ _ _ _ F_adrw hr (by decide) rfl (@aa _ _ _ _ _ (pv 1) (@aa _ _ _ _ _ (pv 3) (@aa _ _ _ _ _ (pv 5) ae (by rfl)) (by rfl)) (by rfl)) (by decide) (by rfl) (by rfl)) (by rfl) (by first | exact .inl rfl | exact .inr rfl | assumption)) (@ag _ _ _ _ _ (@aL _ _ (7) _ _ _ _ sc.nd rfl (Or.inl rfl) (@bF _ _ _ _ (@eJ _ _ _ _ _ (pv 6) (@eJ _ _ _ _ _ ng (@eJ _ _ _ _ _ (@ba _ _ _ _ _ ae) (@eJ _ _ _ _ _ (@bF _ _ _ _ ae) (@eJ _ _ _ _ _ cj (@eJ _ _ _ _ _ (@aD _ _ _ _ _ _ _ _ oR (@ba _ _ _ _ _ (@aa _ _ _ _ _ (@ba _ _ _ _ _ ae) ae (by rfl))) (@aj _ _ _ _ _ _ _ _ _ aq (by rfl) T.len uT (@aa _ _ _ _ _ (pv 6) ae (by rfl)) (by decide) (by decide) (by rfl) (by rfl))) (@eJ _ _ _ _ _ (@aR _ _ _ _ _ _ _ bo (pv 6) ah (fun _ _ => rfl)) (@eJ _ _ _ _ _ (@ba _ _ _ _ _ (@aa _ _ _ _ _ (pv 6) ae (by rfl))) (@eJ _ _ _ _ _ ah ae (by rfl)) (by rfl)) (by rfl)) (by rfl)) (by rfl)) (by rfl)) (by rfl)) (by rfl)) (by rfl))) (by rfl) (by first | exact .inl rfl | exact .inr rfl | assumption)) (@ag _ _ _ _ _ (@bX _ _ _ _ _ _ _ _ vx rfl (@bt _ _ _ _ _ _ rfl T.range (@aa _ _ _ _ _ ah ae (by rfl)) (by rfl)) (@aK _ _ (8) _ sc.nd rfl (Or.inl rfl) (by first | exact .inl rfl | exact .inr rfl | assumption)) (@ag _ _ _ _ _ (@aL _ _ (9) _ _ _ _ sc.nd rfl (Or.inl rfl) (@aV _ _ _ _ _ _ _ _ _ _ _ F_bent hr (by decide) rfl (@aa _ _ _ _ _ (pv 1) (@aa _ _ _ _ _ (pv 5) (@aa _ _ _ _ _ (pv 6) ae (by rfl)) (by rfl)) (by rfl)) (by decide) (by rfl) (by rfl)) (by rfl) (by first | exact .inl rfl | exact .inr rfl | assumption)) (@ag _ _ _ _ _ (@bD _ _ _ _ _ _ _ _ (@PW.pt _ _ _ (@ik _ _ _ _ _ _ _ (@bw _ _ _ (@aj _ _ _ _ _ _ _ _ _ (@bx _ (K) rfl) (by rfl) T.isinstance aM (@aa _ _ _ _ _ (pv 9) (@aa _ _ _ _ _ (@bH _ _ (.ty "tuple") _ _ rfl T.tuple bN rfl (by decide) (by decide)) ae (by rfl)) (by rfl)) (by decide) (by decide) (by rfl) (by rfl)) (fun _ => rfl)) (@ik _ _ _ _ _ _ _ (@aF _ _ _ _ _ _ _ _ lG (@aj _ _ _ _ _ _ _ _ _ aq (by rfl) T.len uT (@aa _ _ _ _ _ (pv 9) ae (by rfl)) (by decide) (by decide) (by rfl) (by rfl)) ah (aP _)) (@gI _ _ _ _ (@aF _ _ _ _ _ _ _ _ cq (@aV _ _ _ _ _ _ _ _ _ _ _ F_draw hr (by decide) rfl (@aa _ _ _ _ _ (pv 1) (@aa _ _ _ _ _ ah ae (by rfl)) (by rfl)) (by decide) (by rfl) (by rfl)) ah (aP _)))))) (@ak _ _ _ (@aL _ _ (9) _ _ _ _ sc.nd rfl (Or.inl rfl) (@aV _ _ _ _ _ _ _ _ _ _ _ F_bent hr (by decide) rfl (@aa _ _ _ _ _ (pv 1) (@aa _ _ _ _ _ (pv 5) (@aa _ _ _ _ _ (pv 9) ae (by rfl)) (by rfl)) (by rfl)) (by decide) (by rfl) (by rfl)) (by rfl) (by first | exact .inl rfl | exact .inr rfl | assumption))) aQ) (@ak _ _ _ (@bZ _ _ _ _ (@du _ _ _ _ _ _ _ _ _ _ _ _ vp vR wG cU (pv 7) (@aa _ _ _ _ _ (pv 9) ae (by rfl)) (by rfl) (by rfl) (by rfl) (by rfl) (by rfl)) (by rfl))))) (by intro _ ;rfl)) (@ak _ _ _ (@bX _ _ _ _ _ _ _ _ vx rfl (@fe _ _ _ _ (pv 7)) (@aK _ _ (10) _ sc.nd rfl (Or.inl rfl) (by first | exact .inl rfl | exact .inr rfl | assumption)) (@ak _ _ _ (@bD _ _ _ _ _ _ _ _ (@aF _ _ _ _ _ _ _ _ i3 (@aj _ _ _ _ _ _ _ _ _ cN (by rfl) T.repr nC (@aa _ _ _ _ _ (@aV _ _ _ _ _ _ _ _ _ _ _ F_isdrw hr (by decide) rfl (@aa _ _ _ _ _ (pv 3) (@aa _ _ _ _ _ (pv 5) (@aa _ _ _ _ _ (pv 10) ae (by rfl)) (by rfl)) (by rfl)) (by decide) (by rfl) (by rfl)) ae (by rfl)) (by decide) (by decide) (by rfl) (by rfl)) (@aj _ _ _ _ _ _ _ _ _ cN (by rfl) T.repr nC (@aa _ _ _ _ _ (@aV _ _ _ _ _ _ _ _ _ _ _ F_lisdrw hr (by decide) rfl (@aa _ _ _ _ _ (pv 3) (@aa _ _ _ _ _ (pv 5) (@aa _ _ _ _ _ (pv 10) ae (by rfl)) (by rfl)) (by rfl)) (by decide) (by rfl) (by rfl)) ae (by rfl)) (by decide) (by decide) (by rfl) (by rfl)) (aP _)) (@ak _ _ _ (@aE _ _ _ _ eL)) aQ)) (by intro _ ;rfl))))))))) (by intro _ ;rfl)) (@ak _ _ _ (@aE _ _ _ _ eL)))), ?_⟩
    refine ⟨_, rfl, a, ns, rfl, hS, hlen, fun d c H1 _ _ F1 _ => ?_⟩
    refine ⟨_, rfl, by decide, by decide, bL (lo := 0) (n := 5) (fun i σ H' => ∃ (b2 b3 b4 b5 b6 b7 b8 b9 b10 : Option V), σ = [some (.ref a), some (.ref d), b2, b3, b4, b5, b6, b7, b8, b9, b10] ∧ Tp H' d c) ⟨none, none, none, none, none, none, none, none, none, rfl, F1⟩ ?_ ?_⟩
    · rintro i σ H1 hi ⟨b2, b3, b4, b5, b6, b7, b8, b9, b10, rfl, F1⟩
      refine ⟨_, rfl, d, c, _, rfl, F1, by decide, by decide, fun u n H2 U hn F2 _ => ?_⟩
      have hul := U.len
      have h1 := U.lo
      have h6 := U.hi
      have hll : (toS u).length≤sizeLine := by rw [af];omega
      have e2 : ((toS u).length : Int) / 2=(n : Int) := by rw [af];omega
      refine ⟨(az (n := 3) (by decide)), fun l0 hl0 => ⟨_, rfl, d, c, _, rfl, F2.new hl0, by decide, by decide, fun y H3 y0 y1 F3 sb3 => ?_⟩⟩
      have f3 := sb3 _ _ (F2.ne hl0) (ab (o := .lst [.int 4, .int 7, .int 12]))
      obtain ⟨x, hx, ax⟩ := iZ (xs := [V.int 4, .int 7, .int 12]) y0 y1
      obtain ⟨lng, rfl, lo, hi2⟩ : ∃ z : Int, x = .int z ∧ 1≤z ∧ z≤15 := by
        simp only [u4, vn, xi] at hx
        rcases hx with rfl | rfl | rfl
        · exact ⟨4, rfl, by decide, by decide⟩
        · exact ⟨7, rfl, by decide, by decide⟩
        · exact ⟨12, rfl, by decide, by decide⟩
      refine ⟨l0, _, _, _, rfl, rfl, SqL.of f3, ax, ?_⟩
      refine ⟨_, rfl, _, rfl, _, rfl, hll, _, _, rfl, rfl, ⟨by decide, by decide⟩, _, rfl, d, c, n, lng, vz (fun z => [V.ref d, .int z, .int 4, .int lng]) e2, F3, h1, h6, lo, hi2, fun aw W H4 F4 sb4 hW => ?_⟩
      refine ⟨_, rfl, _, rfl, _, rfl, d, c, u, n, aw, W, rfl, F4, U, hW, fun r xs H5 F5 sb5 hr5 hxl px => ?_⟩
      have hW5 := hW.sb F4 sb5
      -- the things
      refine ⟨_, rfl, (az (n := 0) (by decide)), fun t1 ht1 => ?_⟩
      have s1 : au H5 (upd H5 t1 (.tup [])) := au.new ht1
      have g1 : (upd H5 t1 (.tup [])) t1=_ := ab
      generalize upd H5 t1 (.tup [])=H6 at s1 g1 ⊢
      have F6 := F5.same s1
      refine ⟨(az (n := 0) (by decide)), fun t2 ht2 => ?_⟩
      have s2 : au H6 (upd H6 t2 (.lst [])) := au.new ht2
      have g2 : (upd H6 t2 (.lst [])) t2=_ := ab
      have n2 := F6.ne ht2
      generalize upd H6 t2 (.lst [])=H7 at s2 g2 ⊢
      refine ⟨(az (n := 0) (by decide)), fun t3 ht3 => ?_⟩
      have s3 : au H7 (upd H7 t3 (.tup [])) := au.new ht3
      have g3 : (upd H7 t3 (.tup [])) t3=_ := ab
      generalize upd H7 t3 (.tup [])=H8 at s3 g3 ⊢
      refine ⟨(az (n := 1) (by decide)), fun t4 ht4 => ?_⟩
      have s4 : au H8 (upd H8 t4 (.tup [.ref t3])) := au.new ht4
      have g4 : (upd H8 t4 (.tup [.ref t3])) t4=_ := ab
      generalize upd H8 t4 (.tup [.ref t3])=H9 at s4 g4 ⊢
      have s59 := s1.trans (s2.trans (s3.trans s4))
      refine ⟨_, rfl, r, _, rfl, .inr (SqT.of (s59 _ _ hr5)), t4, _, .ref t3, rfl, rfl, g4, by omega, by omega, fun t5 H10 s10 g5 => ?_⟩
      have s510 := s59.trans s10
      have hx0 : xs[0]? = some (xs[0]'(by omega)) := uB _
      have hx0m : xs[0]'(by omega)∈xs := vc _
      generalize xs[0]'(by omega)=x0 at hx0 hx0m
      refine ⟨_, rfl, r, _, _, _, rfl, rfl, SqT.of (s510 _ _ hr5), b_ (j := 0) hx0, ?_⟩
      refine ⟨_, rfl, (az (n := 1) (by decide)), fun t6 ht6 => ?_⟩
      have s11 : au H10 (upd H10 t6 (.tup [.ref r])) := au.new ht6
      have g6 : (upd H10 t6 (.tup [.ref r])) t6=_ := ab
      generalize upd H10 t6 (.tup [.ref r])=H11 at s11 g6 ⊢
      have s511 := s510.trans s11
      have F11 := F5.same s511
      have px11 : ∀ y∈xs, Pl d d H11 60 2 y := aY px s511
      have pr11 : Pl d d H11 62 3 (.ref r) := .tup (s511 _ _ hr5) (by omega) fun y hy => (px11 y hy).up (by omega) (uG _)
      have all : ∀ y∈[V.ref r, .non, .ref t1, .ref t2, .str "", .ref t5, x0, .ref t6, .int 0], Pl d d H11 62 4 y := by
        have e3 : Pl d d H11 62 1 (.ref t3) := .tup ((s4.trans (s10.trans s11)) _ _ g3) (by show 0≤62;decide) (fun y hy => by cases hy)
        intro y hy
        simp only [u4, vn, xi] at hy
        rcases hy with rfl | rfl | rfl | rfl | rfl | rfl | rfl | rfl | rfl
        · exact pr11.up (by omega) (by omega)
        · exact .flat rfl
        · exact .tup ((s2.trans (s3.trans (s4.trans (s10.trans s11)))) _ _ g1) (by show 0≤62;decide) (fun y hy => by cases hy)
        · exact .lst ((s3.trans (s4.trans (s10.trans s11))) _ _ g2) n2 n2 (by show 0≤62;decide) (fun y hy => by cases hy)
        · exact .flat rfl
        · refine .tup (s11 _ _ g5) (by rw [xI];omega) (fun y hy => ?_)
          rw [List.eq_of_mem_replicate hy]
          exact e3.up (by omega) (by omega)
        · exact (px11 _ hx0m).up (by omega) (by omega)
        · exact .tup g6 (by show 1≤62;decide) (eG pr11)
        · exact .flat rfl
      refine ⟨(az (n := 9) (by decide)), fun l hl => ?_⟩
      have s12 : au H11 (upd H11 l (.lst [V.ref r, .non, .ref t1, .ref t2, .str "", .ref t5, x0, .ref t6, .int 0])) := au.new hl
      have fl : (upd H11 l (.lst [V.ref r, .non, .ref t1, .ref t2, .str "", .ref t5, x0, .ref t6, .int 0])) l=_ := ab
      have al := fun y hy => (all y hy).fresh (o := .lst [V.ref r, .non, .ref t1, .ref t2, .str "", .ref t5, x0, .ref t6, .int 0]) hl
      have pl12 := fun y hy => (px11 y hy).fresh (o := .lst [V.ref r, .non, .ref t1, .ref t2, .str "", .ref t5, x0, .ref t6, .int 0]) hl
      have nld := F11.ne hl
      have nlc := F11.nec hl
      generalize upd H11 l (.lst [V.ref r, .non, .ref t1, .ref t2, .str "", .ref t5, x0, .ref t6, .int 0])=H12 at s12 fl al pl12 ⊢
      have s512 := s511.trans s12
      have hW12 := hW5.same s512
      have hr12 := s512 _ _ hr5
      have F12 := F11.same s12
      refine ⟨_, rfl, by decide, by decide, bL (lo := 0) (n := 6) (fun j σ H' => ∃ (b8 b9 b10 : Option V) (ts : List V), σ = [some (.ref a), some (.ref d), _, some (tx u), some (.int lng), some (.ref aw), some (.ref r), some (.ref l), b8, b9, b10] ∧ H' l=some (.lst ts) ∧ ts.length≤9+j ∧ (∀ y∈ts, Pl d l H' 62 4 y) ∧ Wy4 n W H' aw ∧ H' r=some (.tup xs) ∧ (∀ y∈xs, Pl d l H' 60 2 y) ∧ Tp H' d c) ⟨_, _, _, _, rfl, fl, uG _, al, hW12, hr12, pl12, F12⟩ ?_ ?_⟩
      · rintro j σ H13 hj ⟨b8, b9, b10, ts, rfl, f13, tl, pt, hW13, hr13, px13, F13⟩
        have fin : ∀ (x : V) (b10 : Option V) (H' : Hp), Pl d l H' 62 3 x → Tp H' d c → a_ d H13 H' → ∃ (b8' b9' b10' : Option V) (ts' : List V), [some (V.ref a), some (.ref d), some (.int (0+(i : Int))), some (tx u), some (.int lng), some (.ref aw), some (.ref r), some (.ref l), some (.int (0+(j : Int))), some x, b10]=[some (V.ref a), some (.ref d), some (.int (0+(i : Int))), some (tx u), some (.int lng), some (.ref aw), some (.ref r), some (.ref l), b8', b9', b10'] ∧ (upd H' l (.lst (ts++[x]))) l=some (.lst ts') ∧ ts'.length≤9+(j+1) ∧ (∀ y∈ts', Pl d l (upd H' l (.lst (ts++[x]))) 62 4 y) ∧ Wy4 n W (upd H' l (.lst (ts++[x]))) aw ∧ (upd H' l (.lst (ts++[x]))) r=some (.tup xs) ∧ (∀ y∈xs, Pl d l (upd H' l (.lst (ts++[x]))) 60 2 y) ∧ Tp (upd H' l (.lst (ts++[x]))) d c := by
          intro x b10 H' hx F' sb'
          have f' := sb' _ _ nld f13
          have keepT : ∀ a xs, H' a=some (.tup xs) → (upd H' l (.lst (ts++[x]))) a=some (.tup xs) := fun b xs e => by rw [aC (gE e f' (by intro z;cases z))];exact e
          have to_ : ∀ {y : V} {b n : Nat}, Pl d l H' b n y → Pl d l (upd H' l (.lst (ts++[x]))) b n y := fun h => h.to (uG _) keepT (fun b xs _ n2 e => by rw [aC n2];exact e) (uG _)
          refine ⟨_, _, _, ts++[x], rfl, ab, by rw [uF];show _+1≤_;omega, fun y hy => ?_, ?_, keepT _ _ (sb' _ _ (F13.nt hr13) hr13), fun y hy => to_ ((px13 y hy).sb F13 sb'), F'.but nld nlc a_.upd⟩
          · rcases uW.mp hy with hy | hy
            · exact to_ ((pt y hy).sb F13 sb')
            · rw [uE.mp hy]
              exact to_ (hx.up (uG _) (by omega))
          · have hW' := hW13.sb F13 sb'
            exact ⟨keepT _ _ hW'.at_, hW'.le, hW'.lo, hW'.ws⟩
        refine ⟨_, rfl, _, rfl, _, rfl, d, c, aw, r, l, n, 60, W, xs, rfl, F13, ⟨_, f13⟩, hW13, hr13, by decide, by decide, by omega, by omega, px13, fun x H14 F14 sb14 hx14 => ?_⟩
        have app : ∀ (x : V) (H' : Hp), Pl d l H' 62 3 x → Tp H' d c → a_ d H13 H' → H' l=some (.lst ts) := fun x H' _ _ sb' => sb' _ _ nld f13
        have f14 := sb14 _ _ nld f13
        have no : Pl d l H14 62 3 x := hx14.up (by omega) (uG _)
        cases hx14 with
        | flat h =>
          obtain ⟨nm, ty, e0⟩ := eo (K := K) (H := H14) h
          refine ⟨_, rfl, _, _, _, _, rfl, ty, e0, _, rfl, oT (iW ?_)⟩
          exact ⟨_, rfl, .inl ⟨rfl, _, SqL.of f14⟩, _, rfl, l, _, _, rfl, rfl, f14, by omega, fin x _ _ no F14 sb14⟩
        | lst h _ _ _ _ =>
          refine ⟨_, rfl, _, _, _, _, rfl, .lst h, cE, _, rfl, oT (iW ?_)⟩
          exact ⟨_, rfl, .inl ⟨rfl, _, SqL.of f14⟩, _, rfl, l, _, _, rfl, rfl, f14, by omega, fin _ _ _ no F14 sb14⟩
        | @tup _ t7 ys h7 hl7 hx7 =>
          refine ⟨_, rfl, _, _, _, _, rfl, .tup h7, bE, _, rfl, qV ?_⟩
          refine ⟨_, rfl, t7, _, rfl, .inr (SqT.of h7), _, _, rfl, rfl, _, rfl, ?_⟩
          by_cases c0 : 0 < ys.length
          · rw [va (show (0 : Int) < (ys.length : Int) by omega)]
            refine qV ?_
            refine ⟨_, rfl, d, c, _, rfl, F14, by decide, by decide, fun z H15 z0 z1 F15 sb15 => ⟨rfl, _, rfl, ?_⟩⟩
            have sb15' := sb14.trans sb15
            have f15 := sb15 _ _ nld f14
            refine dR (fun _ => ?_) (fun _ => ?_)
            · have h15 := sb15 _ _ (F14.nt h7) h7
              refine ⟨_, rfl, _, rfl, _, rfl, d, c, aw, t7, l, n, 61, W, ys, rfl, F15, ⟨_, f15⟩, hW13.sb F13 sb15', h15, by decide, by decide, by omega, by omega, gy hx7 F14 sb15, fun x H16 F16 sb16 hx16 => ?_⟩
              have f16 := sb16 _ _ nld f15
              exact ⟨_, rfl, .inl ⟨rfl, _, SqL.of f16⟩, _, rfl, l, _, _, rfl, rfl, f16, by omega, fin x _ _ hx16 F16 (sb15'.trans sb16)⟩
            · exact ⟨_, rfl, .inl ⟨rfl, _, SqL.of f15⟩, _, rfl, l, _, _, rfl, rfl, f15, by omega, fin _ _ _ (no.sb F14 sb15) F15 sb15'⟩
          · rw [uP (show ¬ (0 : Int) < (ys.length : Int) by omega)]
            refine oT (iW ?_)
            exact ⟨_, rfl, .inl ⟨rfl, _, SqL.of f14⟩, _, rfl, l, _, _, rfl, rfl, f14, by omega, fin _ _ _ no F14 sb14⟩
      · rintro σ H13 ⟨b8, b9, b10, ts, rfl, f13, tl, pt, hW13, hr13, px13, F13⟩
        refine ⟨_, rfl, l, rfl, ⟨_, SqL.of f13⟩, iw (xs := ts) (fun j σ H' => ∃ b10 : Option V, σ = [some (.ref a), some (.ref d), some (.int (0+(i : Int))), some (tx u), some (.int lng), some (.ref aw), some (.ref r), some (.ref l), b8, b9, b10] ∧ au H13 H') ⟨b10, rfl, au.refl _⟩ (fun j σ H' _ ⟨_, _, s'⟩ => SqL.of (s' _ _ f13)) ?_ ?_⟩
        · rintro j x σ H14 hxj ⟨b10, rfl, s14⟩
          obtain ⟨ds, hds⟩ := sU (K := K) ((pt x (uU hxj)).same s14) (by omega)
          have hW14 := hW13.same s14
          refine ⟨_, rfl, _, rfl, _, rfl, u, aw, n, W, x, ds, rfl, U, hW14, hds, fun H15 s15 => ⟨_, rfl, ?_⟩⟩
          refine ⟨_, rfl, _, rfl, _, rfl, u, aw, n, W, x, ds, rfl, U, hW14.same s15, hds.same s15, fun H16 s16 => ⟨_, rfl, rfl, _, rfl, ?_⟩⟩
          rw [sR (fun w hw => (hW.ws w hw).2.2) ds]
          refine su rfl ?_
          exact ⟨_, rfl, s14.trans (s15.trans s16)⟩
        · rintro σ H14 ⟨b10, rfl, s14⟩
          exact ⟨_, _, _, _, _, _, _, _, _, rfl, F13.same s14⟩
    · rintro σ H1 ⟨b2, b3, b4, b5, b6, b7, b8, b9, b10, rfl, F1⟩
      exact q H1
end
end Kx
namespace Kx
open PySem PySem.Spec PyProof.Rows L2 Wd
theorem bR {K : PySem.W.Frag}{h : Heap}{mg : Str → Option Value}{x : Str}{st : Stmt}{f : Addr}{oc : Value}{od an : Option Addr}{osl : Array (Option Value)}{kV doc pm cdv ct : Value}(X : K.In h)(G : h.Ns mainGlobals mg)(a : PySem.W.nsIn K mainGlobals x=some (some (.ref f)))
    (l : K.lookup f=some ⟨oc, od, .func (PySem.W.fnOf x x (aI st) (aH st) (ai st) .none kV doc pm an cdv ct), osl⟩) (c : PySem.W.codeIn K cdv x=true) (k : PySem.W.keepIn K (.ref f)=true) : Df K mg x st := ⟨f, _, yJ X G a, nq l c k⟩
theorem rB {l : PySem.W.OpenLaw}{w : World}{K : PySem.W.Frag}{h : Heap}{mg : Str → Option Value}{fa : Addr}(X : K.In h)(G : h.Ns mainGlobals mg)(hfa : mg "law" = some (.ref fa))
    {f0 : Addr} {od0 an0 : Option Addr} {sl0 : Array (Option Value)} {oc0 kV0 dc0 pm0 cd0 ct0 : Value} {f1 : Addr} {od1 an1 : Option Addr} {sl1 : Array (Option Value)} {oc1 kV1 dc1 pm1 cd1 ct1 : Value} {f2 : Addr} {od2 an2 : Option Addr} {sl2 : Array (Option Value)} {oc2 kV2 dc2 pm2 cd2 ct2 : Value} {f3 : Addr} {od3 an3 : Option Addr} {sl3 : Array (Option Value)} {oc3 kV3 dc3 pm3 cd3 ct3 : Value} {f4 : Addr} {od4 an4 : Option Addr} {sl4 : Array (Option Value)} {oc4 kV4 dc4 pm4 cd4 ct4 : Value} {f5 : Addr} {od5 an5 : Option Addr} {sl5 : Array (Option Value)} {oc5 kV5 dc5 pm5 cd5 ct5 : Value} {f6 : Addr} {od6 an6 : Option Addr} {sl6 : Array (Option Value)} {oc6 kV6 dc6 pm6 cd6 ct6 : Value} {f7 : Addr} {od7 an7 : Option Addr} {sl7 : Array (Option Value)} {oc7 kV7 dc7 pm7 cd7 ct7 : Value} {f8 : Addr} {od8 an8 : Option Addr} {sl8 : Array (Option Value)} {oc8 kV8 dc8 pm8 cd8 ct8 : Value} {f9 : Addr} {od9 an9 : Option Addr} {sl9 : Array (Option Value)} {oc9 kV9 dc9 pm9 cd9 ct9 : Value} {f10 : Addr} {od10 an10 : Option Addr} {sl10 : Array (Option Value)} {oc10 kV10 dc10 pm10 cd10 ct10 : Value} {f11 : Addr} {od11 an11 : Option Addr} {sl11 : Array (Option Value)} {oc11 kV11 dc11 pm11 cd11 ct11 : Value} {f12 : Addr} {od12 an12 : Option Addr} {sl12 : Array (Option Value)} {oc12 kV12 dc12 pm12 cd12 ct12 : Value} {f13 : Addr} {od13 an13 : Option Addr} {sl13 : Array (Option Value)} {oc13 kV13 dc13 pm13 cd13 ct13 : Value} {f14 : Addr} {od14 an14 : Option Addr} {sl14 : Array (Option Value)} {oc14 kV14 dc14 pm14 cd14 ct14 : Value} {f15 : Addr} {od15 an15 : Option Addr} {sl15 : Array (Option Value)} {oc15 kV15 dc15 pm15 cd15 ct15 : Value} {f16 : Addr} {od16 an16 : Option Addr} {sl16 : Array (Option Value)} {oc16 kV16 dc16 pm16 cd16 ct16 : Value} {f17 : Addr} {od17 an17 : Option Addr} {sl17 : Array (Option Value)} {oc17 kV17 dc17 pm17 cd17 ct17 : Value} {f18 : Addr} {od18 an18 : Option Addr} {sl18 : Array (Option Value)} {oc18 kV18 dc18 pm18 cd18 ct18 : Value} {f19 : Addr} {od19 an19 : Option Addr} {sl19 : Array (Option Value)} {oc19 kV19 dc19 pm19 cd19 ct19 : Value} {f20 : Addr} {od20 an20 : Option Addr} {sl20 : Array (Option Value)} {oc20 kV20 dc20 pm20 cd20 ct20 : Value} {f21 : Addr} {od21 an21 : Option Addr} {sl21 : Array (Option Value)} {oc21 kV21 dc21 pm21 cd21 ct21 : Value} {f22 : Addr} {od22 an22 : Option Addr} {sl22 : Array (Option Value)} {oc22 kV22 dc22 pm22 cd22 ct22 : Value} {f23 : Addr} {od23 an23 : Option Addr} {sl23 : Array (Option Value)} {oc23 kV23 dc23 pm23 cd23 ct23 : Value} {tS : Tok}  
    (a0 : PySem.W.nsIn K mainGlobals "is_whole" = some (some (.ref f0)))
    (l0 : K.lookup f0=some ⟨oc0, od0, .func (PySem.W.fnOf "is_whole" "is_whole" (aI eA) (aH eA) (ai eA) .none kV0 dc0 pm0 an0 cd0 ct0), sl0⟩)
    (c0 : PySem.W.codeIn K cd0 "is_whole" = true)
    (k0 : PySem.W.keepIn K (.ref f0)=true)
    (a1 : PySem.W.nsIn K mainGlobals "strands_of" = some (some (.ref f1)))
    (l1 : K.lookup f1=some ⟨oc1, od1, .func (PySem.W.fnOf "strands_of" "strands_of" (aI kI) (aH kI) (ai kI) .none kV1 dc1 pm1 an1 cd1 ct1), sl1⟩)
    (c1 : PySem.W.codeIn K cd1 "strands_of" = true)
    (k1 : PySem.W.keepIn K (.ref f1)=true)
    (a2 : PySem.W.nsIn K mainGlobals "is_strand" = some (some (.ref f2)))
    (l2 : K.lookup f2=some ⟨oc2, od2, .func (PySem.W.fnOf "is_strand" "is_strand" (aI eB) (aH eB) (ai eB) .none kV2 dc2 pm2 an2 cd2 ct2), sl2⟩)
    (c2 : PySem.W.codeIn K cd2 "is_strand" = true)
    (k2 : PySem.W.keepIn K (.ref f2)=true)
    (a3 : PySem.W.nsIn K mainGlobals "letter_of" = some (some (.ref f3)))
    (l3 : K.lookup f3=some ⟨oc3, od3, .func (PySem.W.fnOf "letter_of" "letter_of" (aI kL) (aH kL) (ai kL) .none kV3 dc3 pm3 an3 cd3 ct3), sl3⟩)
    (c3 : PySem.W.codeIn K cd3 "letter_of" = true)
    (k3 : PySem.W.keepIn K (.ref f3)=true)
    (a4 : PySem.W.nsIn K mainGlobals "strands_through" = some (some (.ref f4)))
    (l4 : K.lookup f4=some ⟨oc4, od4, .func (PySem.W.fnOf "strands_through" "strands_through" (aI kM) (aH kM) (ai kM) .none kV4 dc4 pm4 an4 cd4 ct4), sl4⟩)
    (c4 : PySem.W.codeIn K cd4 "strands_through" = true)
    (k4 : PySem.W.keepIn K (.ref f4)=true)
    (a5 : PySem.W.nsIn K mainGlobals "letters_of" = some (some (.ref f5)))
    (l5 : K.lookup f5=some ⟨oc5, od5, .func (PySem.W.fnOf "letters_of" "letters_of" (aI kQ) (aH kQ) (ai kQ) .none kV5 dc5 pm5 an5 cd5 ct5), sl5⟩)
    (c5 : PySem.W.codeIn K cd5 "letters_of" = true)
    (k5 : PySem.W.keepIn K (.ref f5)=true)
    (a6 : PySem.W.nsIn K mainGlobals "is_drawing" = some (some (.ref f6)))
    (l6 : K.lookup f6=some ⟨oc6, od6, .func (PySem.W.fnOf "is_drawing" "is_drawing" (aI eD) (aH eD) (ai eD) .none kV6 dc6 pm6 an6 cd6 ct6), sl6⟩)
    (c6 : PySem.W.codeIn K cd6 "is_drawing" = true)
    (k6 : PySem.W.keepIn K (.ref f6)=true)
    (a7 : PySem.W.nsIn K mainGlobals "is_order" = some (some (.ref f7)))
    (l7 : K.lookup f7=some ⟨oc7, od7, .func (PySem.W.fnOf "is_order" "is_order" (aI eC) (aH eC) (ai eC) .none kV7 dc7 pm7 an7 cd7 ct7), sl7⟩)
    (c7 : PySem.W.codeIn K cd7 "is_order" = true)
    (k7 : PySem.W.keepIn K (.ref f7)=true)
    (a8 : PySem.W.nsIn K mainGlobals "_law_tape" = some (some (.ref f8)))
    (l8 : K.lookup f8=some ⟨oc8, od8, .func (PySem.W.fnOf "_law_tape" "_law_tape" (aI gp) (aH gp) (ai gp) .none kV8 dc8 pm8 an8 cd8 ct8), sl8⟩)
    (c8 : PySem.W.codeIn K cd8 "_law_tape" = true)
    (k8 : PySem.W.keepIn K (.ref f8)=true)
    (a9 : PySem.W.nsIn K mainGlobals "_law_draw" = some (some (.ref f9)))
    (l9 : K.lookup f9=some ⟨oc9, od9, .func (PySem.W.fnOf "_law_draw" "_law_draw" (aI gq) (aH gq) (ai gq) .none kV9 dc9 pm9 an9 cd9 ct9), sl9⟩)
    (c9 : PySem.W.codeIn K cd9 "_law_draw" = true)
    (k9 : PySem.W.keepIn K (.ref f9)=true)
    (a10 : PySem.W.nsIn K mainGlobals "_law_back" = some (some (.ref f10)))
    (l10 : K.lookup f10=some ⟨oc10, od10, .func (PySem.W.fnOf "_law_back" "_law_back" (aI eu) (aH eu) (ai eu) .none kV10 dc10 pm10 an10 cd10 ct10), sl10⟩)
    (c10 : PySem.W.codeIn K cd10 "_law_back" = true)
    (k10 : PySem.W.keepIn K (.ref f10)=true)
    (a11 : PySem.W.nsIn K mainGlobals "_law_any_row" = some (some (.ref f11)))
    (l11 : K.lookup f11=some ⟨oc11, od11, .func (PySem.W.fnOf "_law_any_row" "_law_any_row" (aI kR) (aH kR) (ai kR) .none kV11 dc11 pm11 an11 cd11 ct11), sl11⟩)
    (c11 : PySem.W.codeIn K cd11 "_law_any_row" = true)
    (k11 : PySem.W.keepIn K (.ref f11)=true)
    (a12 : PySem.W.nsIn K mainGlobals "_law_inner" = some (some (.ref f12)))
    (l12 : K.lookup f12=some ⟨oc12, od12, .func (PySem.W.fnOf "_law_inner" "_law_inner" (aI eE) (aH eE) (ai eE) .none kV12 dc12 pm12 an12 cd12 ct12), sl12⟩)
    (c12 : PySem.W.codeIn K cd12 "_law_inner" = true)
    (k12 : PySem.W.keepIn K (.ref f12)=true)
    (a13 : PySem.W.nsIn K mainGlobals "_law_rooted" = some (some (.ref f13)))
    (l13 : K.lookup f13=some ⟨oc13, od13, .func (PySem.W.fnOf "_law_rooted" "_law_rooted" (aI cF) (aH cF) (ai cF) .none kV13 dc13 pm13 an13 cd13 ct13), sl13⟩)
    (c13 : PySem.W.codeIn K cd13 "_law_rooted" = true)
    (k13 : PySem.W.keepIn K (.ref f13)=true)
    (a14 : PySem.W.nsIn K mainGlobals "_law_any_way" = some (some (.ref f14)))
    (l14 : K.lookup f14=some ⟨oc14, od14, .func (PySem.W.fnOf "_law_any_way" "_law_any_way" (aI rh) (aH rh) (ai rh) .none kV14 dc14 pm14 an14 cd14 ct14), sl14⟩)
    (c14 : PySem.W.codeIn K cd14 "_law_any_way" = true)
    (k14 : PySem.W.keepIn K (.ref f14)=true)
    (a15 : PySem.W.nsIn K mainGlobals "_law_some_ways" = some (some (.ref f15)))
    (l15 : K.lookup f15=some ⟨oc15, od15, .func (PySem.W.fnOf "_law_some_ways" "_law_some_ways" (aI eF) (aH eF) (ai eF) .none kV15 dc15 pm15 an15 cd15 ct15), sl15⟩)
    (c15 : PySem.W.codeIn K cd15 "_law_some_ways" = true)
    (k15 : PySem.W.keepIn K (.ref f15)=true)
    (a16 : PySem.W.nsIn K mainGlobals "_law_all_strands" = some (some (.ref f16)))
    (l16 : K.lookup f16=some ⟨oc16, od16, .func (PySem.W.fnOf "_law_all_strands" "_law_all_strands" (aI gv) (aH gv) (ai gv) .none kV16 dc16 pm16 an16 cd16 ct16), sl16⟩)
    (c16 : PySem.W.codeIn K cd16 "_law_all_strands" = true)
    (k16 : PySem.W.keepIn K (.ref f16)=true)
    (a17 : PySem.W.nsIn K mainGlobals "_law_any_drawing" = some (some (.ref f17)))
    (l17 : K.lookup f17=some ⟨oc17, od17, .func (PySem.W.fnOf "_law_any_drawing" "_law_any_drawing" (aI gx) (aH gx) (ai gx) .none kV17 dc17 pm17 an17 cd17 ct17), sl17⟩)
    (c17 : PySem.W.codeIn K cd17 "_law_any_drawing" = true)
    (k17 : PySem.W.keepIn K (.ref f17)=true)
    (a18 : PySem.W.nsIn K mainGlobals "_law_is_strand" = some (some (.ref f18)))
    (l18 : K.lookup f18=some ⟨oc18, od18, .func (PySem.W.fnOf "_law_is_strand" "_law_is_strand" (aI dj) (aH dj) (ai dj) .none kV18 dc18 pm18 an18 cd18 ct18), sl18⟩)
    (c18 : PySem.W.codeIn K cd18 "_law_is_strand" = true)
    (k18 : PySem.W.keepIn K (.ref f18)=true)
    (a19 : PySem.W.nsIn K mainGlobals "_law_is_drawing" = some (some (.ref f19)))
    (l19 : K.lookup f19=some ⟨oc19, od19, .func (PySem.W.fnOf "_law_is_drawing" "_law_is_drawing" (aI dk) (aH dk) (ai dk) .none kV19 dc19 pm19 an19 cd19 ct19), sl19⟩)
    (c19 : PySem.W.codeIn K cd19 "_law_is_drawing" = true)
    (k19 : PySem.W.keepIn K (.ref f19)=true)
    (a20 : PySem.W.nsIn K mainGlobals "_law_odd" = some (some (.ref f20)))
    (l20 : K.lookup f20=some ⟨oc20, od20, .func (PySem.W.fnOf "_law_odd" "_law_odd" (aI k_) (aH k_) (ai k_) .none kV20 dc20 pm20 an20 cd20 ct20), sl20⟩)
    (c20 : PySem.W.codeIn K cd20 "_law_odd" = true)
    (k20 : PySem.W.keepIn K (.ref f20)=true)
    (a21 : PySem.W.nsIn K mainGlobals "_law_row_bent" = some (some (.ref f21)))
    (l21 : K.lookup f21=some ⟨oc21, od21, .func (PySem.W.fnOf "_law_row_bent" "_law_row_bent" (aI eH) (aH eH) (ai eH) .none kV21 dc21 pm21 an21 cd21 ct21), sl21⟩)
    (c21 : PySem.W.codeIn K cd21 "_law_row_bent" = true)
    (k21 : PySem.W.keepIn K (.ref f21)=true)
    (a22 : PySem.W.nsIn K mainGlobals "_law_bent" = some (some (.ref f22)))
    (l22 : K.lookup f22=some ⟨oc22, od22, .func (PySem.W.fnOf "_law_bent" "_law_bent" (aI gz) (aH gz) (ai gz) .none kV22 dc22 pm22 an22 cd22 ct22), sl22⟩)
    (c22 : PySem.W.codeIn K cd22 "_law_bent" = true)
    (k22 : PySem.W.keepIn K (.ref f22)=true)
    (a23 : PySem.W.nsIn K mainGlobals "law" = some (some (.ref f23)))
    (l23 : K.lookup f23=some ⟨oc23, od23, .func (PySem.W.fnOf "law" "law" (aI gC) (aH gC) (ai gC) .none kV23 dc23 pm23 an23 cd23 ct23), sl23⟩)
    (c23 : PySem.W.codeIn K cd23 "law" = true)
    (k23 : PySem.W.keepIn K (.ref f23)=true)
    (z_len : PySem.W.nsIn K mainGlobals "len" = some none)
    (z_repr : PySem.W.nsIn K mainGlobals "repr" = some none)
    (z_abs : PySem.W.nsIn K mainGlobals "abs" = some none)
    (z_max : PySem.W.nsIn K mainGlobals "max" = some none)
    (z_int : PySem.W.nsIn K mainGlobals "int" = some none)
    (z_list : PySem.W.nsIn K mainGlobals "list" = some none)
    (z_range : PySem.W.nsIn K mainGlobals "range" = some none)
    (z_reversed : PySem.W.nsIn K mainGlobals "reversed" = some none)
    (z_min : PySem.W.nsIn K mainGlobals "min" = some none)
    (z_sorted : PySem.W.nsIn K mainGlobals "sorted" = some none)
    (z_tuple : PySem.W.nsIn K mainGlobals "tuple" = some none)
    (z_isinstance : PySem.W.nsIn K mainGlobals "isinstance" = some none)
    (z_all : PySem.W.nsIn K mainGlobals "all" = some none)
    (z_str : PySem.W.nsIn K mainGlobals "str" = some none)
    (z_zip : PySem.W.nsIn K mainGlobals "zip" = some none)
    (aS : PySem.W.nsIn K mainGlobals "SMALL" = some (some (.str "abcdef" tS)))
    (z_bool : PySem.W.nsIn K mainGlobals "bool" = some none)
    (zE : PySem.W.nsIn K mainGlobals "enumerate" = some none) :
    ∃ fd : FuncData, (∀ (s : Shared) (v : Value), BindsTo s fd ⟨[v], []⟩ [("_law_script", v)]) ∧ ∀ base : Heap, K.In base → base.Ns mainGlobals mg → lj l.prog w K mg base CX0 6 fa fd ["_law_script"] (lh K) := by
  have e := hfa.symm.trans (yJ X G a23)
  cases e
  have T : Bt0 mg := ⟨vd X G z_len, vd X G z_repr, vd X G z_abs, vd X G z_max, vd X G z_int, vd X G z_list, vd X G z_range, vd X G z_reversed, vd X G z_min, vd X G z_sorted, vd X G z_tuple, vd X G z_isinstance, vd X G z_all, vd X G z_str, vd X G z_zip⟩
  have S : ∃ t, mg "SMALL" = some (.str "abcdef" t) := ⟨_, yJ X G aS⟩
  have Tbool : mg "bool" = none := vd X G z_bool
  have Te : mg "enumerate" = none := vd X G zE
  refine ⟨PySem.W.fnOf "law" "law" (aI gC) (aH gC) (ai gC) .none kV23 dc23 pm23 an23 cd23 ct23, fun s v => .of_eq rfl, fun base _ _ => ?_⟩
  have F_tape := qX (P := l.prog) (w := w) (base := base) (bR X G a8 l8 c8 k8) T
  have F_draw := qY (P := l.prog) (w := w) (base := base) (bR X G a9 l9 c9 k9) T
  have F_lback := oZ (P := l.prog) (w := w) (base := base) (bR X G a10 l10 c10 k10) 
  have F_whole := o6 (P := l.prog) (w := w) (base := base) (bR X G a0 l0 c0 k0) T Tbool
  have F_str := sV (P := l.prog) (w := w) (base := base) (bR X G a1 l1 c1 k1) T Te
  have F_lof := sW (P := l.prog) (w := w) (base := base) (bR X G a3 l3 c3 k3) T
  have F_thr := sX (P := l.prog) (w := w) (base := base) (bR X G a4 l4 c4 k4) T F_str F_lof
  have F_isstr := pb (P := l.prog) (w := w) (base := base) (bR X G a2 l2 c2 k2) T F_whole
  have F_isord := pe (P := l.prog) (w := w) (base := base) (bR X G a7 l7 c7 k7) T F_isstr F_thr
  have F_let := sY (P := l.prog) (w := w) (base := base) (bR X G a5 l5 c5 k5) T S
  have F_isdrw := pf (P := l.prog) (w := w) (base := base) (bR X G a6 l6 c6 k6) T F_let F_isord
  have F_row := sZ (P := l.prog) (w := w) (base := base) (bR X G a11 l11 c11 k11) T F_draw
  have F_lrooted := kT (P := l.prog) (w := w) (base := base) (bR X G a13 l13 c13 k13) T
  have F_inner := ph (P := l.prog) (w := w) (base := base) (bR X G a12 l12 c12 k12) T F_lback
  have F_aw := uy (P := l.prog) (w := w) (base := base) (bR X G a14 l14 c14 k14) T F_draw F_inner F_lrooted
  have F_sways := pj (P := l.prog) (w := w) (base := base) (bR X G a15 l15 c15 k15) T F_draw F_lback F_aw
  have F_alls := rj (P := l.prog) (w := w) (base := base) (bR X G a16 l16 c16 k16) T
  have F_lisstr := m5 (P := l.prog) (w := w) (base := base) (bR X G a18 l18 c18 k18) T Tbool
  have F_lisdrw := m9 (P := l.prog) (w := w) (base := base) (bR X G a19 l19 c19 k19) T F_lisstr F_alls
  have F_adrw := rm (P := l.prog) (w := w) (base := base) (bR X G a17 l17 c17 k17) T F_draw F_alls
  have F_odd := tf (P := l.prog) (w := w) (base := base) (bR X G a20 l20 c20 k20) T Tbool F_draw
  have F_rbent := pz (P := l.prog) (w := w) (base := base) (bR X G a21 l21 c21 k21) T F_draw F_lisstr F_odd
  have F_bent := rz (P := l.prog) (w := w) (base := base) (bR X G a22 l22 c22 k22) T F_draw F_rbent
  exact tj (nq l23 c23 k23) T F_tape F_draw F_row F_sways F_adrw F_bent F_isdrw F_lisdrw
theorem uz {l : PySem.W.OpenLaw}{q : Program}{loose : List Str}{XP : (Str → Option Value) → Heap → Prop}{YP : World → Heap → Prop}{d : DefRec}{K : Params → PySem.W.Frag}(hn : l.most=some 63)(hdf : d.params.defaults=[])
    (hY : ∀ (w : World) (h : Heap), YP w h → (K w.params).In h)
    (F : ∀ (w : World) (mg : Str → Option Value) (fa : Addr) (h : Heap), (K w.params).In h → h.Ns mainGlobals mg → mg d.name=some (.ref fa) →
      ∃ fd : FuncData, (∀ (s : Shared) (u : Value), BindsTo s fd ⟨[u], []⟩ [("_law_script", u)]) ∧ ∀ base : Heap, (K w.params).In base → base.Ns mainGlobals mg → lj l.prog w (K w.params) mg base CX0 6 fa fd ["_law_script"] (lh (K w.params))) :
    PySem.W.WalkO q loose XP YP l.row.toRowW d [] (fun f vs => PySem.call f vs) :=
  L2.jK (n := 63) (k := 6) (x := "_law_script") (CX := fun _ => CX0) (sp := fun w => lh (K w.params)) hn (by decide) hdf ⟨rfl, by decide, by decide, rfl⟩ hY F (fun _ _ a ns hl _ hS => ⟨a, ns, rfl, hS, hl, fun _ => rfl⟩) fun _ _ _ _ _ z => z
end Kx
namespace Kx
open PySem
def rD (s : String) : Str := ⟨⟨PySem.W.R.mapR Char.toNat (PySem.W.S.toListS s)⟩⟩
theorem nc : Str.ofString=rD := by
  funext s
  rw [Str.ofString_eq_toList, PySem.W.S.toListS_eq]
  show _=(⟨⟨PySem.W.R.mapR Char.toNat (PySem.W.S.toListS s)⟩⟩ : Str)
  rw [← PySem.W.R.mapR_eq]
def apG (G : (String → Str) → Program)(x : String → Str) : Program := G x
def Gs : { G : (String → Str) → Program // apG G Str.ofString=PySem.Challenge.pw_ringwords_k34_what_a_drawing_is } := by
  refine ⟨?G, ?h⟩
  case h =>
    delta PySem.Challenge.pw_ringwords_k34_what_a_drawing_is
    generalize Str.ofString=x
    exact rfl
end Kx
def PySem.W.Fast.tw16548685198397685852 : PySem.Program := Kx.Gs.1 Kx.rD
theorem PySem.W.Fast.te16548685198397685852 : PySem.Challenge.pw_ringwords_k34_what_a_drawing_is=PySem.W.Fast.tw16548685198397685852 := Kx.Gs.2.symm.trans (vz (Kx.apG Kx.Gs.1) Kx.nc)
theorem PySem.W.Fast.te11314057131570222935 : True := trivial
theorem PySem.W.Fast.tw17806222949658181842 : True := trivial
theorem PySem.W.Fast.tw944086655577602700 : True := trivial
theorem PySem.W.Fast.tw1349490052260407432 : True := trivial
theorem PySem.W.Fast.tw5364666220009895775 : True := trivial
theorem PySem.W.Fast.tw14564562139675369786 : True := trivial
theorem PySem.W.Fast.tw9233754271769333302 : True := trivial
theorem PySem.W.Fast.tw12051758860120338293 : True := trivial
theorem PySem.W.Fast.tw5729661208952411414 : True := trivial
theorem PySem.W.Fast.tw13084985560441820916 : True := trivial
open PySem PySem.W PyProof.Rows
set_option maxRecDepth 100000 in
set_option maxHeartbeats 0 in
theorem PySem.Challenge.cw_ringwords_k34_what_a_drawing_is_holds : PySem.Challenge.rw_ringwords_k34_what_a_drawing_is.Holds := by
  w_on; o_law; k_head; (case hw => w_witness2)
  k_fill
  refine Kx.uz (l := PySem.Challenge.rw_ringwords_k34_what_a_drawing_is) rfl rfl (fun w h Y => PySem.W.kIn_of Y) ?F
  case F =>
    intro w mg fa h KX G hmg
    refine' Kx.rB KX G hmg ?a0 ?l0 ?c0 ?k0 ?a1 ?l1 ?c1 ?k1 ?a2 ?l2 ?c2 ?k2 ?a3 ?l3 ?c3 ?k3 ?a4 ?l4 ?c4 ?k4 ?a5 ?l5 ?c5 ?k5 ?a6 ?l6 ?c6 ?k6 ?a7 ?l7 ?c7 ?k7 ?a8 ?l8 ?c8 ?k8 ?a9 ?l9 ?c9 ?k9 ?a10 ?l10 ?c10 ?k10 ?a11 ?l11 ?c11 ?k11 ?a12 ?l12 ?c12 ?k12 ?a13 ?l13 ?c13 ?k13 ?a14 ?l14 ?c14 ?k14 ?a15 ?l15 ?c15 ?k15 ?a16 ?l16 ?c16 ?k16 ?a17 ?l17 ?c17 ?k17 ?a18 ?l18 ?c18 ?k18 ?a19 ?l19 ?c19 ?k19 ?a20 ?l20 ?c20 ?k20 ?a21 ?l21 ?c21 ?k21 ?a22 ?l22 ?c22 ?k22 ?a23 ?l23 ?c23 ?k23 ?z_len ?z_repr ?z_abs ?z_max ?z_int ?z_list ?z_range ?z_reversed ?z_min ?z_sorted ?z_tuple ?z_isinstance ?z_all ?z_str ?z_zip ?aS ?z_bool ?zE
    (case a0 => k_is)
    (case l0 => k_is)
    (case c0 => k_is)
    (case k0 => k_is)
    (case a1 => k_is)
    (case l1 => k_is)
    (case c1 => k_is)
    (case k1 => k_is)
    (case a2 => k_is)
    (case l2 => k_is)
    (case c2 => k_is)
    (case k2 => k_is)
    (case a3 => k_is)
    (case l3 => k_is)
    (case c3 => k_is)
    (case k3 => k_is)
    (case a4 => k_is)
    (case l4 => k_is)
    (case c4 => k_is)
    (case k4 => k_is)
    (case a5 => k_is)
    (case l5 => k_is)
    (case c5 => k_is)
    (case k5 => k_is)
    (case a6 => k_is)
    (case l6 => k_is)
    (case c6 => k_is)
    (case k6 => k_is)
    (case a7 => k_is)
    (case l7 => k_is)
    (case c7 => k_is)
    (case k7 => k_is)
    (case a8 => k_is)
    (case l8 => k_is)
    (case c8 => k_is)
    (case k8 => k_is)
    (case a9 => k_is)
    (case l9 => k_is)
    (case c9 => k_is)
    (case k9 => k_is)
    (case a10 => k_is)
    (case l10 => k_is)
    (case c10 => k_is)
    (case k10 => k_is)
    (case a11 => k_is)
    (case l11 => k_is)
    (case c11 => k_is)
    (case k11 => k_is)
    (case a12 => k_is)
    (case l12 => k_is)
    (case c12 => k_is)
    (case k12 => k_is)
    (case a13 => k_is)
    (case l13 => k_is)
    (case c13 => k_is)
    (case k13 => k_is)
    (case a14 => k_is)
    (case l14 => k_is)
    (case c14 => k_is)
    (case k14 => k_is)
    (case a15 => k_is)
    (case l15 => k_is)
    (case c15 => k_is)
    (case k15 => k_is)
    (case a16 => k_is)
    (case l16 => k_is)
    (case c16 => k_is)
    (case k16 => k_is)
    (case a17 => k_is)
    (case l17 => k_is)
    (case c17 => k_is)
    (case k17 => k_is)
    (case a18 => k_is)
    (case l18 => k_is)
    (case c18 => k_is)
    (case k18 => k_is)
    (case a19 => k_is)
    (case l19 => k_is)
    (case c19 => k_is)
    (case k19 => k_is)
    (case a20 => k_is)
    (case l20 => k_is)
    (case c20 => k_is)
    (case k20 => k_is)
    (case a21 => k_is)
    (case l21 => k_is)
    (case c21 => k_is)
    (case k21 => k_is)
    (case a22 => k_is)
    (case l22 => k_is)
    (case c22 => k_is)
    (case k22 => k_is)
    (case a23 => k_is)
    (case l23 => k_is)
    (case c23 => k_is)
    (case k23 => k_is)
    (case z_len => k_is)
    (case z_repr => k_is)
    (case z_abs => k_is)
    (case z_max => k_is)
    (case z_int => k_is)
    (case z_list => k_is)
    (case z_range => k_is)
    (case z_reversed => k_is)
    (case z_min => k_is)
    (case z_sorted => k_is)
    (case z_tuple => k_is)
    (case z_isinstance => k_is)
    (case z_all => k_is)
    (case z_str => k_is)
    (case z_zip => k_is)
    (case aS => k_is)
    (case z_bool => k_is)
    (case zE => k_is)
end
