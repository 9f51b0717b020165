import PyProof.Rows.All
import Wide.All
import OpenK.AllK
import Wide.FinOn
import Lean
import PyProof.EqAt
import PyProof.EqKinds
import PyProof.TupleCall
import KE.KRevIter
import PyProof.Rows.SortShellK
import PyProof.FString5
import PyProof.NeData
import PyProof.TupleOfStr
import PyProof.IsRules
import PyProof.ListRange
import PyProof.FactsAll.tuple_3
import PyProof.ExcInit
import PyProof.InstStoreFacts
import PyProof.NsDelKeeps
import PyProof.DictWalks
import PyProof.Rows.DictUnroll
import PyProof.Rows.SumAny
import PyProof.AttrMiss
import KE.KDictOf
import PyProof.WalkInts
import PySem.Challenge.RW_ringwords_k75_recurrences
set_option Elab.async false
set_option linter.all false
set_option maxRecDepth 100000
set_option maxHeartbeats 0
noncomputable section
def fu:=@List.length_map
def u_:=@PySem.Heap.get?_push_of_some
def va:=@PySem.wpAny_bind
def vb:=@List.length_append
def vc:=@List.getElem?_eq_some_iff
def vd:=@Nat.le_refl
def ve:=@PySem.Heap.lt_size
def vf:=@List.mem_singleton
def vg:=@List.mem_append_right
def vh:=@List.getElem?_eq_getElem
def vi:=@PySem.Heap.get?_push_size
def vj:=@List.size_toArray
def vk:=@Nat.lt_of_lt_of_le
def vm:=@Bool.false_ne_true
def vn:=@List.map_cons
def vo:=@List.getElem?_map
def vp:=@Option.some.inj
def vq:=@List.mem_cons_of_mem
def vt:=@List.mem_cons
def vv:=@List.length_singleton
def vw:=@List.map_append
def vz:=@List.mem_cons_self
def vA:=@List.not_mem_nil
def vB:=@List.getD_eq_getElem?_getD
def vC:=@List.length_take
def vD:=@List.mem_of_getElem?
def vE:=@PySem.wpAny_pure
def vF:=@PySem.W.mg_none_of
def vG:=@Nat.ne_of_lt
def vH:=@List.mem_map
def vI:=@Nat.le_trans
def vJ:=@Int.toNat_natCast
def vK:=@List.mem_append
def vL:=@Option.map_eq_some_iff
def vM:=@List.mem_append_left
def vN:=@List.length_cons
def vO:=@Nat.lt_irrefl
def vP:=@List.take_add_one
def vQ:=@PySem.Heap.get?_update_other
def vR:=@Nat.zero_le
def vS:=@decide_eq_false
def vT:=@List.flatMap_cons
def vU:=@PySem.PassesOwn.never
def vV:=@PySem.boot_len
def vW:=@List.getElem?_append_right
def vX:=@List.isSuffixOf_iff_suffix
def vY:=@List.take_length
def vZ:=@List.nodup_cons
def v3:=@Bool.and_eq_true
def v5:=@congrArg
def v7:=@List.append_assoc
def v8:=@List.getElem?_of_mem
def v9:=@PyProof.Rows.callWith_type1
def v_:=@Bool.eq_iff_iff
def wb:=@PySem.mem_of_lookup
def wc:=@List.replicate_succ
def wd:=@PySem.wpAny_field
def we:=@List.getElem?_eq_none
def wg:=@decide_eq_true
def wj:=@PySem.wpAny_callSpecial?_slot
def wk:=@PySem.F.plainAttrs_list
def wm:=@Nat.lt_of_le_of_lt
def wo:=@PySem.W.kia_one
def wq:=@List.getElem?_append_left
def wu:=@PySem.Heap.get?_update_self
def wx:=@List.map_map
def wy:=@decide_eq_true_iff
def wz:=@List.length_drop
def wA:=@List.any_eq_true
def wB:=@List.mem_flatMap
def wC:=@List.take_of_length_le
def wD:=@PySem.F.plainAttrs_str
def wF:=@PySem.Heap.size_push
def wG:=@PySem.wpAny_call_entry
def wH:=@Int.eq_ofNat_of_zero_le
def wI:=@PySem.wpAny_seqItems
def wJ:=@PySem.wpAny_truthy_bool
def wK:=@Array.length_toList
def wL:=@List.map_congr_left
def wM:=@Array.getElem?_eq_some_iff
def wN:=@PySem.F.slot_tuple_iterator_next
def wO:=@List.isPrefixOf_iff_prefix
def wQ:=@PySem.wpAny_mono
def wR:=@List.lookup_cons
def wU:=@List.all_eq_true
def wV:=@PySem.Paired.length
def wW:=@PySem.Txt.slice_le
def wX:=@PySem.Obj.data_mapFields
def wY:=@PySem.wpAny_setField_rec
def wZ:=@List.filter_append
def w4:=@PySem.F.slot_list_append
def w5:=@PySem.wpAny_passesOwn
def w6:=@List.flatten_cons
def w9:=@PySem.wpAny_getItem_str_slice
def w_:=@List.eq_nil_of_length_eq_zero
def xa:=@List.nodup_nil
def xf:=@List.mem_filter
def xg:=@List.length_replicate
def xh:=@List.find?_cons
def xi:=@PySem.builtinLookup_eq_fast
def xj:=@List.Perm.append_left
def xk:=@List.length_filter_le
def xl:=@List.range_succ
def xn:=@PySem.wpAny_pyIter_list
def xo:=@List.any_cons
def xp:=@List.sum_cons
def xq:=@List.length_range
def xr:=@Nat.mul_le_mul_right
def xt:=@Array.getElem?_eq_getElem
def xu:=@beq_self_eq_true
def xv:=@Nat.lt_succ_self
def xw:=@or_false
def xx:=@Sum.inr.inj
def xy:=@List.length_pos_iff
def xA:=@List.mem_map_of_mem
def xB:=@PySem.call_meets
def xC:=@Int.zero_add
def xD:=@PySem.wpAny_pyIter_tuple
def xE:=@PySem.tupleKind_room_in1
def xF:=@PySem.wpAny_attempt
def xG:=@Int.emod_lt_of_pos
def xH:=@List.filter_cons_of_pos
def xI:=@List.filter_cons_of_neg
def xJ:=@Option.toList_some
def xK:=@PySem.Calls.callWith_builtin
def xM:=@List.Perm.append_right
def xN:=@of_decide_eq_true
def xO:=@List.nodup_append
def xP:=@List.mem_range
def xQ:=@PySem.isSubtype_type
def xR:=@PySem.wpAny_setField
def xS:=@PySem.F.slot_dict_get
def xT:=@PySem.Obj.isFreed_of_fields
def xU:=@PySem.wpAny_isInstance
def xV:=@List.getElem_mem
def xW:=@PySem.F.args_list_append_2
def xX:=@PySem.wpAny_updateSeq_pair
def xY:=@PySem.W.mg_of
def xZ:=@PySem.F.args_tuple_iterator_next_1
def x6:=@List.filterMap_cons
def x8:=@PySem.wpAny_execs_nil
def x9:=@PySem.sizeLine_eq
def x_:=@List.foldl_cons
def ya:=@PySem.F.entry_list_append
def yb:=@Option.map_some
def yc:=@List.length_nil
def yd:=@PySem.wpAny_specialOf
def ye:=@PySem.post_val_or_str
def yf:=@PySem.typeLookup_type
def yg:=@PySem.wpAny_of_eq
def yh:=@PySem.Heap.SameBut.update
def yi:=@Int.emod_nonneg
def yj:=@PySem.F.entry_tuple_iterator_next
def yk:=@PySem.F.slot_zip_next
def ym:=@PySem.Calls.Name_function_global
def yn:=@List.IsSuffix.eq_of_length
def yo:=@Nat.ne_of_gt
def yp:=@PySem.Calls.spliced_cons
def yq:=@PySem.wpAny_Call_Name_kw
def yr:=@List.map_nil
def yt:=@Bool.false_eq_true
def yu:=@Nat.lt_or_ge
def yw:=@if_true
def yy:=@List.pairwise_iff_getElem
def yz:=@List.drop_eq_getElem_cons
def yA:=@PySem.F.slot_str_endswith
def yB:=@PySem.F.type_str_endswith
def yC:=@List.any_eq_false
def yD:=@Option.isSome_iff_exists
def yE:=@PySem.typeIs_str
def yF:=@PySem.list_append
def yG:=@PySem.wpAny_comprehension_free
def yH:=@PySem.EqBoolInt.of_rcne
def yI:=@decide_eq_true_eq
def yJ:=@PySem.F.slot_list_insert
def yK:=@PySem.wpAny_pyIter_dict
def yL:=@List.ext_getElem?
def yM:=@PySem.F.slot_list_extend
def yN:=@PySem.F.type_list_extend
def yO:=@PySem.F.type_list_append
def yP:=@List.getElem?_replicate
def yQ:=@PySem.F.args_dict_get_3
def yR:=@PySem.wpAny_onRaise
def yS:=@List.suffix_iff_eq_drop
def yT:=@List.prefix_iff_eq_take
def yU:=@Int.mul_add
def yV:=@Int.mul_assoc
def yW:=@Int.one_mul
def yX:=@PySem.IsL.update
def yY:=@List.cons_append
def yZ:=@List.getElem?_set_self
def y0:=@PySem.W.cellsFrom_some
def y2:=@PySem.F.entry_dict_get
def y3:=@List.find?_cons_of_pos
def y4:=@List.find?_cons_of_neg
def y6:=@List.length_pos_of_mem
def y7:=@Nat.le_of_lt
def y8:=@List.of_mem_zip
def y9:=@List.forIn_cons
def y_:=@PySem.wpAny_ite_split
def za:=@PySem.wpAny_updateSeq
def zb:=@PySem.wpAny_rule
def zc:=@Bool.false_and
def zd:=@PySem.isSubtype_stop
def ze:=@List.drop_zero
def zf:=@List.forIn_nil
def zg:=@PySem.wpAny_letGo
def zh:=@Bool.or_false
def zi:=@if_false
def zj:=@List.map_take
def zk:=@beq_iff_eq
def zl:=@PySem.Draws.list
def zm:=@Nat.succ_mul
def zo:=@Nat.zero_add
def zp:=@Int.zero_mul
def zq:=@Int.mul_zero
namespace L2
open PySem PySem.Spec PyProof.Rows
abbrev Key := Sum Int Str
def iS : Key → Value → Bool
  | .inl k, v => Value.isInt k v
  | .inr x, v => Value.isStrOf x v
def uB (w : World) : Key → Int
  | .inl k => hashInt k
  | .inr x => hashStr w x
theorem aG : ∀ {k : Key} {v : Value}, iS k v=true → (∃ i t, k=Sum.inl i ∧ v=Value.int i t) ∨ (∃ x t, k=Sum.inr x ∧ v=Value.str x t)
  | .inl i, v, h => by
    obtain ⟨t, e⟩ := Value.isInt_shape (k := i) (v := v) h
    exact .inl ⟨i, t, rfl, e⟩
  | .inr x, v, h => by
    obtain ⟨t, e⟩ := Value.isStrOf_shape (x := x) (v := v) h
    exact .inr ⟨x, t, rfl, e⟩
theorem je (i : Int)(t : Tok) : iS (.inl i) (.int i t)=true := by simp [iS, Value.isInt]
theorem jf (x : Str)(t : Tok) : iS (.inr x) (.str x t)=true := by simp [iS, Value.isStrOf]
theorem pZ (a b : Int) : decide ((Sum.inl a : Key)=Sum.inl b)=(a == b) := by
  by_cases e : a=b
  · subst e;simp
  · have h : ¬ (Sum.inl a : Key)=Sum.inl b := fun q => e (Sum.inl.inj q)
    rw [vS h]
    exact (beq_eq_false_iff_ne.mpr e).symm
theorem p0 (a b : Str) : decide ((Sum.inr a : Key)=Sum.inr b)=decide (a=b) := by
  by_cases e : a=b
  · subst e;simp
  · have h : ¬ (Sum.inr a : Key)=Sum.inr b := fun q => e (xx q)
    rw [vS h, vS e]
theorem p5 (a : Int)(b : Str) : decide ((Sum.inl a : Key)=Sum.inr b)=false := vS (fun q => nomatch q)
theorem p7 (a : Str)(b : Int) : decide ((Sum.inr a : Key)=Sum.inl b)=false := vS (fun q => nomatch q)
def aH (prog : Program)(w : World) : PySem.KeyKind prog w Key where
  is := iS
  hash := uB w
  inj := fun v a b ha hb => by
    rcases aG ha with ⟨i, t, rfl, rfl⟩ | ⟨x, t, rfl, rfl⟩
    · rcases aG hb with ⟨j, u, rfl, e⟩ | ⟨y, u, rfl, e⟩
      · injection e with e1 _;rw [e1]
      · exact nomatch e
    · rcases aG hb with ⟨j, u, rfl, e⟩ | ⟨y, u, rfl, e⟩
      · exact nomatch e
      · injection e with e1 _;rw [e1]
  byValue := fun k v h => by
    rcases aG h with ⟨i, t, rfl, rfl⟩ | ⟨x, t, rfl, rfl⟩ <;> rfl
  pyHash := fun hv h => by
    rcases aG hv with ⟨i, t, rfl, rfl⟩ | ⟨x, t, rfl, rfl⟩
    · exact wpAny_pyHash_int h
    · exact wpAny_pyHash_str h
  eqBool := fun hu hv h => by
    rcases aG hu with ⟨i, t, rfl, rfl⟩ | ⟨x, t, rfl, rfl⟩
    · rcases aG hv with ⟨j, u, rfl, rfl⟩ | ⟨y, u, rfl, rfl⟩
      · rw [pZ] at h;exact wpAny_eqBool_int h
      · rw [p5] at h;exact SeqAt.EqAt.int_str i t y u _ _ _ _ h
    · rcases aG hv with ⟨j, u, rfl, rfl⟩ | ⟨y, u, rfl, rfl⟩
      · rw [p7] at h;exact SeqAt.EqAt.str_int x t j u _ _ _ _ h
      · rw [p0] at h;exact wpAny_eqBool_str h
  «strs» := fun k x t v h => by
    rcases aG h with ⟨i, u, rfl, e⟩ | ⟨y, u, rfl, e⟩
    · exact nomatch e
    · injection e with e1 _
      subst e1
      cases v <;> rfl
theorem gC (prog : Program)(w : World)(i : Int)(t : Tok) : (aH prog w).is (.inl i) (.int i t)=true := je i t
theorem gD (prog : Program)(w : World)(x : Str)(t : Tok) : (aH prog w).is (.inr x) (.str x t)=true := jf x t
inductive V where
  | non | bl (b : Bool) | int (i : Int) | str (x : Str) | byt (b : Array UInt8) | flt (b : UInt64) | ref (a : Addr) | ty (n : String)
  deriving DecidableEq
def aM : V → Value → Prop
  | .non, u => u=Value.none
  | .bl b, u => u=Value.bool b
  | .int i, u => ∃ t, u=Value.int i t
  | .str x, u => ∃ t, u=Value.str x t
  | .byt b, u => ∃ t, u=Value.bytes b t
  | .flt b, u => ∃ t, u=Value.float b t
  | .ref a, u => u=Value.ref a
  | .ty n, u => u=Value.type n
abbrev aI : List V → List Value → Prop := Paired aM
theorem aI.length {xs : List V}{us : List Value}(r : aI xs us) : xs.length=us.length := wV r
theorem aI.get : ∀ {xs : List V} {us : List Value} {i : Nat} {x : V}, aI xs us → xs[i]? = some x → ∃ u, us[i]? = some u ∧ aM x u
  | _, _, _, _, .nil, e => by simp at e
  | _, _, 0, _, .cons r _, e => by simp at e;subst e;exact ⟨_, rfl, r⟩
  | _, _, i+1, x, .cons _ t, e => by
    obtain ⟨u, h1, h2⟩ := aI.get (i := i) (x := x) t (by simpa using e)
    exact ⟨u, by simpa using h1, h2⟩
theorem aI.set {x : V}{u : Value}(r : aM x u) : ∀ {xs : List V} {us : List Value} (i : Nat), aI xs us → aI (xs.set i x) (us.set i u)
  | _, _, _, .nil => .nil
  | _, _, 0, .cons _ t => .cons r t
  | _, _, i+1, .cons q t => .cons q (aI.set r i t)
theorem aI.append : ∀ {xs ys : List V} {us ws : List Value}, aI xs us → aI ys ws → aI (xs++ys) (us++ws)
  | _, _, _, _, .nil, s => s
  | _, _, _, _, .cons r t, s => .cons r (aI.append t s)
theorem aI.take : ∀ {xs : List V} {us : List Value} (n : Nat), aI xs us → aI (xs.take n) (us.take n)
  | _, _, 0, _ => .nil
  | _, _, _+1, .nil => .nil
  | _, _, n+1, .cons r t => .cons r (aI.take n t)
theorem aI.drop : ∀ {xs : List V} {us : List Value} (n : Nat), aI xs us → aI (xs.drop n) (us.drop n)
  | _, _, 0, r => r
  | _, _, _+1, .nil => .nil
  | _, _, n+1, .cons _ t => aI.drop n t
def ie : Option V → Option Value → Prop
  | some v, some u => aM v u
  | none, none => True
  | _, _ => False
def KV {κ : Type} : List (κ × V) → List (κ × Value) → Prop := Paired fun (p : κ × V) (q : κ × Value) => p.1=q.1 ∧ aM p.2 q.2
def kV : Key → V
  | .inl i => .int i
  | .inr x => .str x
inductive HO where
  | lst (xs : List V)
  | tup (xs : List V)
  | dK (kvs : List (Key × V)) | dT (kvs : List (List Key × V))
  | set (S : Int → Bool) (n : Nat)
  | ins (C dx : Addr) (fs : List (Str × V))
  | own (x : Addr)
  | xd (fs : List (Str × V))
  | met (f x : Addr)
  | rng (lo hi : Int)
  | frz (o : Obj) (u : HO)
  | tbl (ps : Array Value)
  | ext (φ : Heap → Prop)
abbrev Hp := Addr → Option HO
def upd (H : Hp)(a : Addr)(o : HO) : Hp := fun b => if b=a then some o else H b
theorem ab {H : Hp}{a : Addr}{o : HO} : upd H a o a=some o := by unfold upd; rw [if_pos rfl]
theorem aj {H : Hp}{a b : Addr}{o : HO}(h : b≠a) : upd H a o b=H b := by unfold upd; rw [if_neg h]
theorem ej {H : Hp}{a : Addr}{o u : HO} : upd (upd H a o) a u=upd H a u := by
  funext b;unfold upd;split <;> rfl
theorem oj {H : Hp}{a b : Addr}{o u : HO}(h : H a=some o)(h' : H b=some u)(d : o≠u) : a≠b := by
  intro e;subst e;rw [h] at h';exact d (vp h')
theorem ae {H : Hp}{a b : Addr}{o : HO}(h : H a=some o)(h' : H b=none) : a≠b := by
  intro e;subst e;rw [h] at h';cases h'
section
variable (P : Program) (w : World)
def NoD (h : Heap)(a : Addr) : Prop := ∃ o, h.get? a=some o ∧ o.dict=none
theorem NoD.new (h : Heap)(o : Obj)(e : o.dict=none)(hf : o.isFreed=false := by rfl) : NoD (h.push o) h.objs.size := ⟨o, vi _ hf, e⟩
def aW (H : Hp)(h : Heap)(a : Addr) : HO → Prop
  | .lst xs => xs.length≤sizeLine ∧ ∃ (its : List Value) (n : Nat), aI xs its ∧ h.get? a=some { cls := .type "list", data := .seq its.toArray n }
  | .tup xs => xs.length≤sizeLine ∧ ∃ its : List Value, aI xs its ∧ IsTup h a its.toArray ∧ NoD h a
  | .dK kvs => kvs.length≤sizeLine ∧ (a == sysModules)=false ∧ ∃ vs, KV kvs vs ∧ h.DictOf (aH P w) a vs
  | .dT kvs => kvs.length≤sizeLine ∧ (a == sysModules)=false ∧ ∃ xs : List (List Key × Addr × Value),
      Paired (fun (p : List Key × V) (q : List Key × Addr × Value) => p.1=q.1 ∧ H q.2.1=some (.tup (p.1.map kV)) ∧ aM p.2 q.2.2) kvs xs ∧
      ∃ o es ep, h.get? a=some o ∧ o.ExactDict ∧ o.data = .dict es ep ∧ es.toList=xs.map (entryOfKey (tupleKind (aH P w))) ∧ (xs.map (·.1)).Nodup
  | .set S n => h.SetOf (intKind P w) a S n
  | .ins C dx fs => H dx=some (.own a) ∧ fs.length≤1000 ∧ dx≠a ∧ h.get? a=some (PySem.W.instObj C dx) ∧
      ∃ mA, h.Ns1 dx mA ∧ (∀ f, ie (fs.lookup f) (mA f)) ∧ PySem.Within mA (fs.map (·.1))
  | .own _ => ∃ o, h.get? a=some o
  | .xd fs => ∃ mA, h.Ns1 a mA ∧ ∀ f, ie (fs.lookup f) (mA f)
  | .rng lo hi => ∃ t u v, h.get? a=some { cls := .type "range", data := .fields #[.int lo t, .int hi u, .int 1 v] }
  | .frz o u => h.get? a=some o ∧ aW H h a u
  | .tbl ps => h.get? a=some { cls := .none, data := .fields ps }
  | .met f x => h.get? a=some (PySem.W.methodObj (.ref f) (.ref x))
  | .ext φ => φ h ∧ (∃ o, h.get? a=some o) ∧ ∀ h1 h2 : Heap, φ h1 → (∀ o, h1.get? a=some o → h2.get? a=some o) → φ h2
def HOk (H : Hp)(h : Heap) : Prop := ∀ a o, H a=some o → aW P w H h a o
end
section
variable {P : Program} {w : World} {H H' : Hp} {h h' : Heap} {a : Addr} {o : HO}
theorem aW.lt (x : aW P w H h a o) : a < h.objs.size := by
  cases o with
  | lst xs => obtain ⟨_, _, _, _, e⟩ := x;exact ve e
  | tup xs => obtain ⟨_, _, _, p, _⟩ := x;exact p.lt
  | dK kvs => obtain ⟨_, _, _, _, o, _, _, e, _⟩ := x;exact ve e
  | dT kvs => obtain ⟨_, _, _, _, o, _, _, e, _⟩ := x;exact ve e
  | set S n => obtain ⟨o, _, _, _, e, _⟩ := x;exact ve e
  | ins C dx fs => obtain ⟨_, _, _, e, _⟩ := x;exact ve e
  | own y => obtain ⟨_, e⟩ := x;exact ve e
  | xd fs => obtain ⟨_, ⟨_, _, _, e, _⟩, _⟩ := x;exact ve e
  | rng lo hi => obtain ⟨_, _, _, e⟩ := x;exact ve e
  | frz ob u => obtain ⟨e, _⟩ := x;exact ve e
  | tbl ps => exact ve (show h.get? a=some _ from x)
  | met f y => exact ve (show h.get? a=some _ from x)
  | ext φ => obtain ⟨_, ⟨_, e⟩, _⟩ := x;exact ve e
theorem Paired.mapP {α β : Type}{F G : α → β → Prop} : ∀ {l₁ : List α} {l₂ : List β}, Paired F l₁ l₂ → (∀ a b, F a b → G a b) → Paired G l₁ l₂
  | _, _, .nil, _ => .nil
  | _, _, .cons r t, f => .cons (f _ _ r) (Paired.mapP t f)
theorem aW.stay (x : aW P w H h a o)(k : ∀ b u, (b=a ∨ H b=some (.own a)) → h.get? b=some u → h'.get? b=some u)
    (ho : ∀ b, H b=some (.own a) → H' b=some (.own a)) (ht : ∀ b xs, H b=some (.tup xs) → H' b=some (.tup xs)) : aW P w H' h' a o := by
  induction o with
  | lst xs => obtain ⟨z, its, n, r, e⟩ := x;exact ⟨z, its, n, r, k _ _ (.inl rfl) e⟩
  | tup xs => obtain ⟨z, its, r, ⟨ob, e, c⟩, o2, e2, c2⟩ := x;exact ⟨z, its, r, ⟨ob, k _ _ (.inl rfl) e, c⟩, o2, k _ _ (.inl rfl) e2, c2⟩
  | dK kvs => obtain ⟨z, y, vs, r, ob, es, ep, e, c⟩ := x;exact ⟨z, y, vs, r, ob, es, ep, k _ _ (.inl rfl) e, c⟩
  | dT kvs =>
    obtain ⟨z, y, xs, r, ob, es, ep, e, c⟩ := x
    exact ⟨z, y, xs, Paired.mapP r fun p q z => ⟨z.1, ht _ _ z.2.1, z.2.2⟩, ob, es, ep, k _ _ (.inl rfl) e, c⟩
  | set S n => obtain ⟨ob, es, ep, t, e, c⟩ := x;exact ⟨ob, es, ep, t, k _ _ (.inl rfl) e, c⟩
  | ins C dx fs =>
    obtain ⟨d, z, ne, e, mA, ⟨od, es, ep, e2, c⟩, r⟩ := x
    exact ⟨ho _ d, z, ne, k _ _ (.inl rfl) e, mA, ⟨od, es, ep, k _ _ (.inr d) e2, c⟩, r⟩
  | own y => obtain ⟨ob, e⟩ := x;exact ⟨ob, k _ _ (.inl rfl) e⟩
  | xd fs => obtain ⟨mA, ⟨od, es, ep, e, c⟩, r⟩ := x;exact ⟨mA, ⟨od, es, ep, k _ _ (.inl rfl) e, c⟩, r⟩
  | rng lo hi => obtain ⟨t, u, v, e⟩ := x;exact ⟨t, u, v, k _ _ (.inl rfl) e⟩
  | frz ob u ih => obtain ⟨e, q⟩ := x;exact ⟨k _ _ (.inl rfl) e, ih q⟩
  | tbl ps =>
    have e : h.get? a=some { cls := .none, data := .fields ps } := x
    show h'.get? a=some { cls := .none, data := .fields ps }
    exact k a _ (.inl rfl) e
  | met f y =>
    have e : h.get? a=some (PySem.W.methodObj (.ref f) (.ref y)) := x
    show h'.get? a=some (PySem.W.methodObj (.ref f) (.ref y))
    exact k a _ (.inl rfl) e
  | ext φ => obtain ⟨p, ⟨o, e⟩, st⟩ := x;exact ⟨st _ _ p fun o q => k _ _ (.inl rfl) q, ⟨o, k _ _ (.inl rfl) e⟩, st⟩
theorem HOk.lt (x : HOk P w H h)(e : H a=some o) : a < h.objs.size := (x a o e).lt
theorem HOk.fresh (x : HOk P w H h)(e : h.objs.size≤a) : H a=none := by
  cases q : H a with
  | none => rfl
  | some u => exact absurd (vk (x.lt q) e) (vO _)
theorem HOk.kept (x : HOk P w H h)(k : ∀ b u, h.get? b=some u → h'.get? b=some u) : HOk P w H h' := fun a o e =>
  (x a o e).stay (fun b u _ q => k b u q) (fun _ q => q) fun _ _ q => q
theorem HOk.laid (x : HOk P w H h)(k : ∀ b u, h.get? b=some u → h'.get? b=some u)(hp : h.objs.size≤a)(new : aW P w (upd H a o) h' a o) : HOk P w (upd H a o) h' := fun b u e => by
  have hn := x.fresh hp
  by_cases hb : b=a
  · subst hb;rw [ab] at e;cases e;exact new
  · rw [aj hb] at e
    exact (x b u e).stay (fun c v _ q => k c v q) (fun c q => by rw [aj (ae q hn)];exact q) fun c xs q => by rw [aj (ae q hn)];exact q
end
def Rd (H : Hp)(a : Addr)(u : HO) : Prop := H a=some u ∨ ∃ o, H a=some (.frz o u)
theorem Rd.ok {P : Program}{w : World}{H : Hp}{h : Heap}{a : Addr}{u : HO}(r : Rd H a u)(x : HOk P w H h) : aW P w H h a u := by
  rcases r with r | ⟨o, r⟩
  · exact x a u r
  · obtain ⟨_, q⟩ := x a _ r
    exact q
def Mut : Option HO → Prop
  | some (.lst _) => True
  | some (.dK _) => True
  | some (.dT _) => True
  | some (.set _ _) => True
  | some (.ins _ _ _) => True
  | some (.ext _) => True
  | _ => False
section
variable {P : Program} {w : World} {H : Hp} {h h' : Heap} {x e : Addr} {o' : HO}
theorem HOk.write (ok : HOk P w H h)(mu : Mut (H x))(he : e=x ∨ H e=some (.own x))(k : ∀ b u, b≠e → h.get? b=some u → h'.get? b=some u)(heo : ∃ u, h'.get? e=some u)
    (new : aW P w (upd H x o') h' x o') : HOk P w (upd H x o') h' := fun b u q => by
  have nown : ∀ c y, H c=some (.own y) → c≠x := fun c y r z => by subst z;rw [r] at mu;exact mu
  have ntup : ∀ c xs, H c=some (.tup xs) → c≠x := fun c xs r z => by subst z;rw [r] at mu;exact mu
  by_cases hb : b=x
  · subst hb;rw [ab] at q;cases q;exact new
  · rw [aj hb] at q
    by_cases hbe : b=e
    · have q' : H b=some (.own x) := by
        rcases he with z | z
        · exact absurd (hbe.trans z) hb
        · rw [hbe];exact z
      rw [q] at q';cases q'
      obtain ⟨v, hv⟩ := heo
      exact ⟨v, by rw [hbe];exact hv⟩
    · refine (ok b u q).stay (fun c v hc r => k c v ?_ r) (fun c r => by rw [aj (nown c b r)];exact r) fun c xs r => by rw [aj (ntup c xs r)];exact r
      rcases hc with rfl | hc
      · exact hbe
      · rintro rfl
        rcases he with z | z
        · exact nown c b hc z
        · rw [hc] at z;cases z;exact hb rfl
end
structure Un (fs ex : List Addr) (H H' : Hp) (h h' : Heap) : Prop where
  keep : ∀ b o, h.get? b=some o → H b=none → b∉fs → b∉ex → h'.get? b=some o
  slot : ∀ b o, h.get? b=some o → H b=none → b∈fs → b∉ex → ∃ sl, h'.get? b=some { o with slots := sl }
  free : ∀ b o, h.get? b=some o → H b=none → b∉ex → H' b=none
  there : ∀ b o, h.get? b=some o → b∉ex → ∃ o', h'.get? b=some o'
  tups : ∀ b xs, H b=some (.tup xs) → H' b=some (.tup xs)
  frzs : ∀ b o u, H b=some (.frz o u) → H' b=some (.frz o u)
  tbls : ∀ b ps, H b=some (.tbl ps) → ∃ more, H' b=some (.tbl (ps++more))
section
variable {fs fs' ex ex' : List Addr} {H H1 H2 : Hp} {h h1 h2 h' : Heap} {a x e : Addr} {o : HO}
theorem Un.any (u : Un fs ex H H1 h h1){b : Addr}{ob : Obj}(q : h.get? b=some ob)(n : H b=none)(hx : b∉ex) : ∃ sl, h1.get? b=some { ob with slots := sl } := by
  by_cases hb : b∈fs
  · exact u.slot b ob q n hb hx
  · exact ⟨ob.slots, u.keep b ob q n hb hx⟩
theorem Un.kept (k : ∀ b u, h.get? b=some u → h'.get? b=some u) : Un fs ex H H h h' :=
  ⟨fun b ob q _ _ _ => k b ob q, fun b ob q _ _ _ => ⟨ob.slots, k b ob q⟩, fun _ _ _ n _ => n, fun b ob q _ => ⟨ob, k b ob q⟩, fun _ _ q => q, fun _ _ _ q => q, fun _ ps q => ⟨#[], by rw [q];simp⟩⟩
theorem Un.refl : Un fs ex H H h h := Un.kept fun _ _ q => q
theorem Un.laid (k : ∀ b u, h.get? b=some u → h'.get? b=some u)(hp : h.objs.size≤a)(hn : H a=none) : Un fs ex H (upd H a o) h h' where
  keep := fun b u q _ _ _ => k b u q
  slot := fun b u q _ _ _ => ⟨u.slots, k b u q⟩
  free := fun b u q n _ => by rw [aj (vG (vk (ve q) hp))];exact n
  there := fun b u q _ => ⟨u, k b u q⟩
  tups := fun b xs q => by rw [aj (ae q hn)];exact q
  frzs := fun b u xs q => by rw [aj (ae q hn)];exact q
  tbls := fun b ps q => ⟨#[], by rw [aj (ae q hn), q];simp⟩
theorem Un.write (mu : Mut (H x))(he : e=x ∨ H e=some (.own x))(k : ∀ b u, b≠e → h.get? b=some u → h'.get? b=some u)(heo : ∃ u, h'.get? e=some u) : Un fs ex H (upd H x o) h h' := by
  have hx : ∀ b, H b=none → b≠x := fun b n z => by subst z;rw [n] at mu;exact mu
  have hb : ∀ b, H b=none → b≠e := fun b n z => by
    subst z
    rcases he with r | r
    · exact hx b n r
    · rw [n] at r;cases r
  have hm : ∀ b u, H b=some u → ¬ Mut (some u) → b≠x := fun b u q nm z => by subst z;rw [q] at mu;exact nm mu
  refine ⟨fun b u q n _ _ => k b u (hb b n) q, fun b u q n _ _ => ⟨u.slots, k b u (hb b n) q⟩, fun b u q n _ => by rw [aj (hx b n)];exact n, fun b u q _ => ?_,
    fun b xs q => by rw [aj (hm b _ q fun z => z)];exact q, fun b u xs q => by rw [aj (hm b _ q fun z => z)];exact q, fun b ps q => ⟨#[], by rw [aj (hm b _ q fun z => z), q];simp⟩⟩
  by_cases hbe : b=e
  · subst hbe;exact heo
  · exact ⟨u, k b u hbe q⟩
end
def trk (h : Heap)(H : Hp) : List Addr := (List.range h.objs.size).filter fun a => (H a).isSome
def lP (h : Heap)(H : Hp) : Heap := PySem.W.hideAll h (trk h H)
theorem jg (h : Heap)(H : Hp) : (lP h H).objs.size=h.objs.size := PySem.W.hideAll_size _ _
theorem lQ {h : Heap}{H : Hp}{b : Addr}{o : Obj}(e : h.get? b=some o)(n : H b=none) : (lP h H).get? b=some o :=
  PySem.W.hideAll_get _ e fun hm => by
    have q : (H b).isSome=true := (xf.mp hm).2
    rw [n] at q;simp at q
theorem om {h : Heap}{H : Hp}{b : Addr}{o : Obj}(e : (lP h H).get? b=some o) : h.get? b=some o ∧ H b=none := by
  have e' : h.get? b=some o := PySem.W.of_hideAll (trk h H) e
  refine ⟨e', ?_⟩
  cases q : H b with
  | none => rfl
  | some x =>
    have hm : b∈trk h H := xf.mpr ⟨xP.mpr (ve e'), by simp [q]⟩
    have z : (lP h H).get? b=none := PySem.W.hideAll_none (trk h H) hm
    rw [z] at e;cases e
structure Mod (K : PySem.W.Frag) (mg : Str → Option Value) (base : Heap) : Prop where
  kin : K.In base
  glob : base.Ns mainGlobals mg
  blt : ∃ mb, base.Ns builtinsNs mb ∧ ∀ x : Str, x ≠ "__name__" → mb x=bootBuiltins x
  nolimit : base.NoLimit
/-- the context: a def's body (or a comprehension's block) running. base: fixed through the whole law;s₀, H₀: the entry;outer: the frames whose slots others may change (a def's callers);stack: all frames that run;
   ex: iterators that were made ahead of the entry and are walked here (a comprehension's);fn: the names whose cells were made at the entry (a def: all;a comprehension's block: its own);calm: not within an except suite;pn: pins that every state bears;xe: what is wanted of an exception that leaves the code -/
structure Cx where
  prog : Program
  w : World
  K : PySem.W.Frag
  mg : Str → Option Value
  base : Heap
  A : Around
  N : List Str
  s₀ : Shared
  H₀ : Hp
  env : Env
  outer : List Env
  stack : List Env
  ex : List Addr
  fn : Str → Bool
  calm : Bool
  pn : List (Addr × Obj)
  xe : Value → Shared → Prop
def frs (l : List Env) : List Addr := l.filterMap (·.frame)
abbrev Cx.fs (X : Cx) : List Addr := frs X.outer
def Vis (sc : Scope)(x : Str) : Prop := sc.names.lookup x=some .local ∨ sc.names.lookup x=some .cell ∨ sc.names.lookup x=some .free
def Loc (sc : Scope)(x : Str) : Prop := sc.names.lookup x=some .local ∨ sc.names.lookup x=some .cell
def uC (env : Env)(h : Heap)(m : Str → Option Value)(x : Str)(u : Value) : Prop :=
  (env.kindOf x=some .local ∧ m x=some u) ∨ ((env.kindOf x=some .cell ∨ env.kindOf x=some .free) ∧ ∃ c, env.cells.lookup x=some c ∧ h.IsCell c (some u))
structure Cx.Ok (X : Cx) : Prop where
  mod : Mod X.K X.mg X.base
  kind : X.env.scope.kind = .function
  glob : X.env.globals=mainGlobals
  blt : X.env.builtins=builtinsNs
  above : X.s₀.heap.objs.size≤X.env.locals
  inj : ∀ x y c, X.env.cells.lookup x=some c → X.env.cells.lookup y=some c → x=y
  has : ∀ x, (X.env.kindOf x=some .cell ∨ X.env.kindOf x=some .free) → ∃ c, X.env.cells.lookup x=some c
  cab : ∀ x c, X.fn x=true → X.env.cells.lookup x=some c → X.s₀.heap.objs.size≤c
  hd : X.calm=true → X.A.handled=none
  frames : X.A.frames=some X.stack
  stk : X.stack=X.outer ∨ (X.stack=X.env::X.outer ∧ X.env.frame=some X.env.locals)
  exf : ∀ b∈X.ex, b≠X.env.locals ∧ ∀ x c, X.env.cells.lookup x=some c → c≠b
  bs : ∀ b o, X.base.get? b=some o → X.s₀.heap.get? b=some o ∧ X.H₀ b=none
  bsz : X.base.objs.size≤X.s₀.heap.objs.size
  noex : ∀ b o, X.base.get? b=some o → b∉X.ex
  exfs : ∀ b∈X.ex, b∉X.fs
  funs : X.s₀.heap.FunFrames X.base X.outer
  frf : ∀ b∈X.fs, X.H₀ b=none
structure Inv (X : Cx) (pins : List (Addr × Obj)) (σ : List (Option V)) (H : Hp) (s : Shared) : Prop where
  ok : X.Ok
  os : s.os=X.s₀.os
  bare : AllBare s.gens
  base : Un X.fs X.ex X.H₀ H X.s₀.heap s.heap
  loc : ∃ m, s.heap.Ns X.env.locals m ∧ ∀ (i : Nat) (x : Str) (v : V), X.N[i]? = some x → σ[i]? = some (some v) → Vis X.env.scope x → ∃ u, aM v u ∧ uC X.env s.heap m x u
  cell : ∀ x c, X.env.cells.lookup x=some c → ∃ v, s.heap.IsCell c v
  free : H X.env.locals=none
  freeC : ∀ x c, X.env.cells.lookup x=some c → H c=none
  pin : ∀ p∈X.pn++pins, s.heap.get? p.1=some p.2 ∧ H p.1=none ∧ p.1≠X.env.locals ∧ p.1∉X.fs ∧ ∀ v, p.2.data ≠ .cell v
  hok : HOk X.prog X.w H s.heap
  len : σ.length=X.N.length
section
variable {X : Cx} {pins : List (Addr × Obj)} {σ : List (Option V)} {H H' : Hp} {s : Shared} {h' : Heap}
theorem Cx.Ok.nofr (ok : X.Ok){b : Addr}{o : Obj}(e : X.base.get? b=some o) : b∉X.fs := fun hb => by
  have := (ok.funs.mem hb).1
  rw [e] at this;cases this
theorem Inv.bs (I : Inv X pins σ H s) : ∀ b o, X.base.get? b=some o → s.heap.get? b=some o ∧ H b=none := fun b o e =>
  ⟨I.base.keep b o (I.ok.bs b o e).1 (I.ok.bs b o e).2 (I.ok.nofr e) (I.ok.noex b o e), I.base.free b o (I.ok.bs b o e).1 (I.ok.bs b o e).2 (I.ok.noex b o e)⟩
theorem Inv.bk (I : Inv X pins σ H s) : ∀ b o, X.base.get? b=some o → s.heap.get? b=some o := fun b o e => (I.bs b o e).1
theorem Inv.mod (I : Inv X pins σ H s) : Mod X.K X.mg X.base := I.ok.mod
theorem Inv.kIn (I : Inv X pins σ H s) : X.K.In s.heap := I.ok.mod.kin.keeps I.bk
theorem Inv.fr (I : Inv X pins σ H s) : ∃ m, Fr X.base X.env.locals s.heap m :=
  let ⟨m, hn, _⟩ := I.loc
  ⟨m, hn, I.bk, vI I.ok.bsz I.ok.above⟩
theorem Inv.lt (I : Inv X pins σ H s) : X.env.locals < s.heap.objs.size := let ⟨_, hn, _⟩ := I.loc; hn.lt
theorem Inv.sz (I : Inv X pins σ H s) : X.s₀.heap.objs.size≤s.heap.objs.size := vI I.ok.above (y7 I.lt)
theorem Inv.nofs (I : Inv X pins σ H s){a : Addr}(h : s.heap.objs.size≤a) : a∉X.fs := fun hb => by
  obtain ⟨_, o, ho, _⟩ := I.ok.funs.mem hb
  exact absurd (vk (ve ho) (vI I.sz h)) (vO _)
theorem Inv.cne (I : Inv X pins σ H s) : ∀ x c, X.env.cells.lookup x=some c → c≠X.env.locals := fun x c e z => by
  obtain ⟨v, o, ho, hd⟩ := I.cell x c e
  obtain ⟨m, ⟨o', es, ep, ho', hd', _⟩, _⟩ := I.loc
  rw [z, ho'] at ho;cases ho;rw [hd'] at hd;cases hd
theorem Inv.funs (I : Inv X pins σ H s) : s.heap.FunFrames X.base X.outer := by
  have all : ∀ (l : List Env), (∀ b∈frs l, b∈X.fs) → X.s₀.heap.FunFrames X.base l → s.heap.FunFrames X.base l := by
    intro l
    induction l with
    | nil => intro _ _;trivial
    | cons env r ih =>
      intro hs hl
      obtain ⟨hk, ⟨L, o, hf, hn, ho, hd⟩, hr⟩ := hl
      have hL : L∈X.fs := hs L (by unfold frs;rw [x6, hf];exact vz)
      obtain ⟨sl, e⟩ := I.base.slot L o ho (I.ok.frf L hL) hL fun z => I.ok.exfs L z hL
      exact ⟨hk, ⟨L, _, hf, hn, e, hd⟩, ih (fun b hb => hs b (by unfold frs;rw [x6, hf];exact vq _ hb)) hr⟩
  exact all X.outer (fun _ hb => hb) I.ok.funs
theorem Inv.stack (I : Inv X pins σ H s) : s.heap.FunFrames X.base X.stack := by
  rcases I.ok.stk with e | ⟨e, hf⟩
  · rw [e];exact I.funs
  · rw [e]
    obtain ⟨m, hn, _⟩ := I.loc
    refine .cons (by rw [I.ok.kind];decide) hf hn ?_ I.funs
    exact Heap.get?_none_of_le (vI I.ok.bsz I.ok.above)
theorem Inv.stkSub (I : Inv X pins σ H s) : ∀ b∈frs X.stack, b∈X.env.locals::X.fs := fun b hb => by
  rcases I.ok.stk with e | ⟨e, hf⟩
  · rw [e] at hb;exact vq _ hb
  · rw [e] at hb
    unfold frs at hb
    rw [x6, hf] at hb
    exact hb
theorem Inv.stkFree (I : Inv X pins σ H s) : ∀ b∈frs X.stack, H b=none := fun b hb => by
  rcases vt.mp (I.stkSub b hb) with e | hb
  · rw [e];exact I.free
  · obtain ⟨_, o, ho, _⟩ := I.ok.funs.mem hb
    exact I.base.free b o ho (I.ok.frf b hb) fun z => I.ok.exfs b z hb
theorem Inv.step {g' : Array GenState}{t' : Nat}{d' : Drawn}{ch : List Addr}(I : Inv X pins σ H s)
    (hch : ∀ b∈ch, (b∈X.ex ∨ X.s₀.heap.objs.size≤b) ∧ b≠X.env.locals ∧ (∀ x c, X.env.cells.lookup x=some c → c≠b) ∧ ∀ p∈X.pn++pins, p.1≠b)
    (keep : ∀ b o, b≠X.env.locals → b∉X.fs → b∉ch → s.heap.get? b=some o → H b=none → h'.get? b=some o)
    (slot : ∀ b o, b≠X.env.locals → b∈X.fs → b∉ch → s.heap.get? b=some o → H b=none → ∃ sl, h'.get? b=some { o with slots := sl }) (free : ∀ b o, b∉ch → s.heap.get? b=some o → H b=none → H' b=none)
    (there : ∀ b o, b∉ch → s.heap.get? b=some o → ∃ o', h'.get? b=some o')
    (tups : ∀ b xs, H b=some (.tup xs) → H' b=some (.tup xs)) (frzs : ∀ b o u, H b=some (.frz o u) → H' b=some (.frz o u)) (tbls : ∀ b ps, H b=some (.tbl ps) → ∃ more, H' b=some (.tbl (ps++more)))
    (ns : ∀ m, s.heap.Ns X.env.locals m → h'.Ns X.env.locals m) (hok : HOk X.prog X.w H' h') (hg : AllBare g') :
    Inv X pins σ H' { s with heap := h', gens := g', drawn := d', toks := t' } := by
  have neL : ∀ b o, X.s₀.heap.get? b=some o → b≠X.env.locals := fun b o e => vG (vk (ve e) I.ok.above)
  have neC : ∀ b o, X.s₀.heap.get? b=some o → b∉X.ex → b∉ch := fun b o e hx hb => by
    rcases (hch b hb).1 with z | z
    · exact hx z
    · exact absurd (vk (ve e) z) (vO _)
  have cellK : ∀ x c, X.env.cells.lookup x=some c → ∀ v, s.heap.IsCell c v → h'.IsCell c v := fun x c e v ⟨o, ho, hd⟩ => by
    have nch : c∉ch := fun z => (hch c z).2.2.1 x c e rfl
    by_cases hc : c∈X.fs
    · obtain ⟨sl, q⟩ := slot c o (I.cne x c e) hc nch ho (I.freeC x c e)
      exact ⟨_, q, hd⟩
    · exact ⟨o, keep c o (I.cne x c e) hc nch ho (I.freeC x c e), hd⟩
  refine ⟨I.ok, I.os, hg, ⟨fun b o e n hb hx => ?_, fun b o e n hb hx => ?_, fun b o e n hx => ?_, fun b o e hx => ?_, fun b xs e => tups b xs (I.base.tups b xs e), fun b o xs e => frzs b o xs (I.base.frzs b o xs e), fun b ps e => ?_⟩, ?_, fun x c e => ?_, ?_, fun x c e => ?_, fun p hp => ?_, hok, I.len⟩
  · exact keep b o (neL b o e) hb (neC b o e hx) (I.base.keep b o e n hb hx) (I.base.free b o e n hx)
  · obtain ⟨sl, e1⟩ := I.base.slot b o e n hb hx
    obtain ⟨sl', e2⟩ := slot b _ (neL b o e) hb (neC b o e hx) e1 (I.base.free b o e n hx)
    exact ⟨sl', e2⟩
  · obtain ⟨o', e1⟩ := I.base.there b o e hx
    exact free b o' (neC b o e hx) e1 (I.base.free b o e n hx)
  · obtain ⟨o', e1⟩ := I.base.there b o e hx
    exact there b o' (neC b o e hx) e1
  · obtain ⟨m1, e1⟩ := I.base.tbls b ps e
    obtain ⟨m2, e2⟩ := tbls b _ e1
    exact ⟨m1++m2, by rw [e2, Array.append_assoc]⟩
  · obtain ⟨m, hn, hl⟩ := I.loc
    refine ⟨m, ns m hn, fun i x v e1 e2 e3 => ?_⟩
    obtain ⟨u, r, l⟩ := hl i x v e1 e2 e3
    refine ⟨u, r, ?_⟩
    rcases l with l | ⟨k, c, e, z⟩
    · exact .inl l
    · exact .inr ⟨k, c, e, cellK x c e _ z⟩
  · obtain ⟨v, z⟩ := I.cell x c e
    exact ⟨v, cellK x c e v z⟩
  · obtain ⟨m, ⟨o, _, _, ho, _⟩, _⟩ := I.loc
    exact free _ o (fun z => (hch _ z).2.1 rfl) ho I.free
  · obtain ⟨v, o, ho, hd⟩ := I.cell x c e
    exact free c o (fun z => (hch c z).2.2.1 x c e rfl) ho (I.freeC x c e)
  · obtain ⟨e, n, ne, nf, d⟩ := I.pin p hp
    have nch : p.1∉ch := fun z => (hch p.1 z).2.2.2 p hp rfl
    exact ⟨keep p.1 p.2 ne nf nch e n, free p.1 p.2 nch e n, ne, nf, d⟩
theorem Inv.un {t' : Nat}(I : Inv X pins σ H s)(u : Un X.fs [] H H' s.heap h')(hok : HOk X.prog X.w H' h') : Inv X pins σ H' { s with heap := h', toks := t' } := by
  obtain ⟨m, ⟨o, es, ep, ho, r⟩, _⟩ := id I.loc
  obtain ⟨sl, hL⟩ := u.any ho I.free (by simp)
  exact I.step (g' := s.gens) (d' := s.drawn) (ch := []) (fun _ z => nomatch z) (fun b o _ hb _ e n => u.keep b o e n hb (by simp)) (fun b o _ hb _ e n => u.slot b o e n hb (by simp)) (fun b o _ e n => u.free b o e n (by simp)) (fun b o _ e => u.there b o e (by simp)) u.tups u.frzs u.tbls (fun m' hm => by
    obtain ⟨o', es', ep', ho', r'⟩ := hm
    rw [ho] at ho';cases ho'
    exact ⟨_, es', ep', hL, r'⟩) hok I.bare
theorem Inv.call {g' : Array GenState}{t' : Nat}{d' : Drawn}{ch : List Addr}(I : Inv X pins σ H s)(u : Un (frs X.stack) ch H H' s.heap h')(hok : HOk X.prog X.w H' h')(hg : AllBare g')
    (hch : ∀ b∈ch, (b∈X.ex ∨ X.s₀.heap.objs.size≤b) ∧ b≠X.env.locals ∧ (∀ x c, X.env.cells.lookup x=some c → c≠b) ∧ ∀ p∈X.pn++pins, p.1≠b) :
    Inv X pins σ H' { s with heap := h', gens := g', drawn := d', toks := t' } := by
  obtain ⟨m, ⟨o, es, ep, ho, r⟩, _⟩ := id I.loc
  obtain ⟨sl, hL⟩ := u.any ho I.free fun z => (hch _ z).2.1 rfl
  exact I.step (ch := ch) hch (fun b o hL hb hc e n => u.keep b o e n (fun z => (vt.mp (I.stkSub b z)).elim hL hb) hc) (fun b o _ _ hc e n => u.any e n hc) (fun b o hc e n => u.free b o e n hc) (fun b o hc e => u.there b o e hc) u.tups u.frzs u.tbls (fun m' hm => by
    obtain ⟨o', es', ep', ho', r'⟩ := hm
    rw [ho] at ho';cases ho'
    exact ⟨_, es', ep', hL, r'⟩) hok hg
theorem Inv.turned {t' : Nat}{it : Addr}(I : Inv X pins σ H s)(k : ∀ b o, b≠it → s.heap.get? b=some o → h'.get? b=some o)(hn : H it=none)(hL : it≠X.env.locals)
    (h1 : it∈X.ex ∨ X.s₀.heap.objs.size≤it) (h2 : ∀ x c, X.env.cells.lookup x=some c → c≠it) (h3 : ∀ p∈X.pn++pins, p.1≠it) : Inv X pins σ H { s with heap := h', toks := t' } := by
  have nit : ∀ b u, H b=some u → b≠it := fun b u e z => by rw [z, hn] at e;cases e
  refine I.step (g' := s.gens) (d' := s.drawn) (ch := [it]) (fun b hb => ?_) (fun b o _ _ hc e _ => k b o (fun z => hc (by simp [z])) e) (fun b o _ _ hc e _ => ⟨o.slots, k b o (fun z => hc (by simp [z])) e⟩) (fun _ _ _ _ n => n)
    (fun b o hc e => ⟨o, k b o (fun z => hc (by simp [z])) e⟩) (fun _ _ e => e) (fun _ _ _ e => e) (fun b ps e => ⟨#[], by rw [e];simp⟩) (fun m hm => ?_) (fun b u e => ?_) I.bare
  · have e : b=it := by simpa using hb
    subst e
    exact ⟨h1, hL, h2, h3⟩
  · obtain ⟨o, es, ep, ho, r⟩ := hm
    exact ⟨o, es, ep, k _ o (Ne.symm hL) ho, r⟩
  · refine (I.hok b u e).stay (fun c v hc q => k c v ?_ q) (fun _ q => q) fun _ _ q => q
    rcases hc with z | z
    · rw [z];exact nit b u e
    · exact nit c _ z
theorem Inv.tok (I : Inv X pins σ H s)(t : Nat) : Inv X pins σ H { s with toks := t } := I.un (h' := s.heap) (t' := t) Un.refl I.hok
theorem Inv.kept {t' : Nat}(I : Inv X pins σ H s)(k : ∀ b u, s.heap.get? b=some u → h'.get? b=some u) : Inv X pins σ H { s with heap := h', toks := t' } := I.un (Un.kept k) (I.hok.kept k)
theorem Inv.laid {a : Addr}{o : HO}{t' : Nat}(I : Inv X pins σ H s)(k : ∀ b u, s.heap.get? b=some u → h'.get? b=some u)(hp : s.heap.objs.size≤a)(new : aW X.prog X.w (upd H a o) h' a o) :
    Inv X pins σ (upd H a o) { s with heap := h', toks := t' } := I.un (Un.laid k hp (I.hok.fresh hp)) (I.hok.laid k hp new)
theorem Inv.write {x e : Addr}{o : HO}{t' : Nat}(I : Inv X pins σ H s)(mu : Mut (H x))(he : e=x ∨ H e=some (.own x))(k : ∀ b u, b≠e → s.heap.get? b=some u → h'.get? b=some u)(heo : ∃ u, h'.get? e=some u)
    (new : aW X.prog X.w (upd H x o) h' x o) : Inv X pins σ (upd H x o) { s with heap := h', toks := t' } := I.un (Un.write mu he k heo) (I.hok.write mu he k heo new)
theorem Inv.pins_of {pins' : List (Addr × Obj)}(I : Inv X pins σ H s)(h : ∀ p∈pins', s.heap.get? p.1=some p.2 ∧ H p.1=none ∧ p.1≠X.env.locals ∧ p.1∉X.fs ∧ ∀ v, p.2.data ≠ .cell v) : Inv X pins' σ H s :=
  ⟨I.ok, I.os, I.bare, I.base, I.loc, I.cell, I.free, I.freeC, fun p hp => (vK.mp hp).elim (fun z => I.pin p (vM _ z)) (h p), I.hok, I.len⟩
theorem ig {N : List Str}(hN : N.Nodup){i j : Nat}{x : Str}(a : N[i]? = some x)(b : N[j]? = some x) : i=j := by
  obtain ⟨h1, e1⟩ := vc.mp a
  obtain ⟨h2, e2⟩ := vc.mp b
  exact (List.getElem_inj hN).mp (e1.trans e2.symm)
theorem jh {M : Model}{A : Around}{E : Value → Shared → Prop}{i : Nat}{x : Str}{v : V}{u : Value}{Q : Unit → Shared → Prop}(I : Inv X pins σ H s)(hN : X.N.Nodup)(hi : X.N[i]? = some x)(hx : Loc X.env.scope x)(r : aM v u)
    (h : ∀ s', Inv X pins (σ.set i (some v)) H s' → (∃ a, Heap.SameBut a s.heap s'.heap ∧ (a=X.env.locals ∨ X.env.cells.lookup x=some a)) → Q () s') (hf : X.fn x=true ∨ X.env.scope.names.lookup x=some .local := by first | exact .inl rfl | exact .inr rfl | assumption) : wpAny M A (storeName X.env x u) Q E s := by
  obtain ⟨m, hn, hl⟩ := id I.loc
  have hcls : (X.env.scope.kind == .class || (X.env.scope.kind == .module && X.env.locals != X.env.globals))=false := by rw [I.ok.kind];rfl
  have hiσ : i < σ.length := by rw [I.len];exact (vc.mp hi).1
  have cne := I.cne
  have tracked : ∀ {a : Addr} {h' : Heap}, (∃ o, s.heap.get? a=some o ∧ H a=none) → Heap.SameBut a s.heap h' → HOk X.prog X.w H h' := fun {a h'} ha hs b ob e => by
    obtain ⟨_, _, hfree⟩ := ha
    refine (I.hok b ob e).stay (fun c w' hc q => (hs.2 c ?_).trans q) (fun _ q => q) fun _ _ q => q
    rintro rfl
    rcases hc with rfl | hc
    · rw [hfree] at e;cases e
    · rw [hfree] at hc;cases hc
  rcases hx with hk | hk
  · refine wpAny_storeName_local hk hn (fun h' hn' hs => ?_) hcls
    obtain ⟨oL, _, _, hoL, _⟩ := id hn
    refine h _ ⟨I.ok, I.os, I.bare, ⟨fun b o e n hb hx => ?_, fun b o e n hb hx => ?_, I.base.free, fun b o e hx => ?_, I.base.tups, I.base.frzs, I.base.tbls⟩, ⟨_, hn', fun j y v' e1 e2 e3 => ?_⟩, fun y c e => ?_, I.free, I.freeC, fun p hp => ?_, tracked ⟨oL, hoL, I.free⟩ hs, by simpa using I.len⟩ ⟨_, hs, .inl rfl⟩
    · exact (hs.2 b (vG (vk (ve e) I.ok.above))).trans (I.base.keep b o e n hb hx)
    · obtain ⟨sl, e1⟩ := I.base.slot b o e n hb hx
      exact ⟨sl, (hs.2 b (vG (vk (ve e) I.ok.above))).trans e1⟩
    · obtain ⟨o', e1⟩ := I.base.there b o e hx
      exact ⟨o', (hs.2 b (vG (vk (ve e) I.ok.above))).trans e1⟩
    · by_cases hj : j=i
      · subst hj
        rw [hi] at e1;cases e1
        rw [yZ hiσ] at e2
        cases e2
        exact ⟨u, r, .inl ⟨hk, by simp⟩⟩
      · rw [List.getElem?_set_ne (Ne.symm hj)] at e2
        obtain ⟨u', r', q⟩ := hl j y v' e1 e2 e3
        refine ⟨u', r', ?_⟩
        rcases q with ⟨k, e⟩ | ⟨k, c, e, z⟩
        · refine .inl ⟨k, ?_⟩
          have : y≠x := fun e => hj (ig hN e1 (e ▸ hi))
          simp [this, e]
        · exact .inr ⟨k, c, e, z.sameBut hs (cne y c e)⟩
    · obtain ⟨w', z⟩ := I.cell y c e
      exact ⟨w', z.sameBut hs (cne y c e)⟩
    · obtain ⟨e, n, ne, nf, d⟩ := I.pin p hp
      exact ⟨(hs.2 p.1 ne).trans e, n, ne, nf, d⟩
  · have hfn : X.fn x=true := by
      rcases hf with z | z
      · exact z
      · rw [z] at hk;cases hk
    obtain ⟨c, hc⟩ := I.ok.has x (.inl hk)
    obtain ⟨w', z⟩ := I.cell x c hc
    refine wpAny_storeName_cell I.ok.kind hk hc z (fun h' hc' hs => ?_)
    obtain ⟨oc, hoc, hocd⟩ := id z
    refine h { s with heap := h' } ⟨I.ok, I.os, I.bare, ⟨fun b o e n hb hx => ?_, fun b o e n hb hx => ?_, I.base.free, fun b o e hx => ?_, I.base.tups, I.base.frzs, I.base.tbls⟩, ⟨m, hn.sameBut hs (Ne.symm (cne x c hc)), fun j y v' e1 e2 e3 => ?_⟩, fun y c' e => ?_, I.free, I.freeC, fun p hp => ?_, tracked ⟨oc, hoc, I.freeC x c hc⟩ hs, by simpa using I.len⟩ ⟨c, hs, .inr hc⟩
    · exact (hs.2 b (vG (vk (ve e) (I.ok.cab x c hfn hc)))).trans (I.base.keep b o e n hb hx)
    · obtain ⟨sl, e1⟩ := I.base.slot b o e n hb hx
      exact ⟨sl, (hs.2 b (vG (vk (ve e) (I.ok.cab x c hfn hc)))).trans e1⟩
    · obtain ⟨o', e1⟩ := I.base.there b o e hx
      exact ⟨o', (hs.2 b (vG (vk (ve e) (I.ok.cab x c hfn hc)))).trans e1⟩
    · by_cases hj : j=i
      · subst hj
        rw [hi] at e1;cases e1
        rw [yZ hiσ] at e2
        cases e2
        exact ⟨u, r, .inr ⟨.inl hk, c, hc, hc'⟩⟩
      · rw [List.getElem?_set_ne (Ne.symm hj)] at e2
        obtain ⟨u', r', q⟩ := hl j y v' e1 e2 e3
        refine ⟨u', r', ?_⟩
        rcases q with q | ⟨k, c', e, z'⟩
        · exact .inl q
        · refine .inr ⟨k, c', e, z'.sameBut hs ?_⟩
          rintro rfl
          exact hj (ig hN e1 (I.ok.inj _ _ _ e hc ▸ hi))
    · by_cases hcc : c'=c
      · subst hcc;exact ⟨_, hc'⟩
      · obtain ⟨w2, z2⟩ := I.cell y c' e
        exact ⟨w2, z2.sameBut hs hcc⟩
    · obtain ⟨e, n, ne, nf, d⟩ := I.pin p hp
      refine ⟨(hs.2 p.1 ?_).trans e, n, ne, nf, d⟩
      intro q
      rw [q, hoc] at e
      have q' : oc=p.2 := vp e
      exact d w' (by rw [← q'];exact hocd)
theorem eA {M : Model}{A : Around}{E : Value → Shared → Prop}{i : Nat}{x : Str}{v : V}{u : Value}{Q : Unit → Shared → Prop}(I : Inv X pins σ H s)(hN : X.N.Nodup)(hi : X.N[i]? = some x)(hx : Loc X.env.scope x)(r : aM v u)
    (h : ∀ s', Inv X pins (σ.set i (some v)) H s' → Q () s') (hf : X.fn x=true ∨ X.env.scope.names.lookup x=some .local := by first | exact .inl rfl | exact .inr rfl | assumption) : wpAny M A (storeName X.env x u) Q E s :=
  jh I hN hi hx r (fun s' I' _ => h s' I') hf
theorem Inv.call' {s' : Shared}{ch : List Addr}(I : Inv X pins σ H s)(ho : s'.os=s.os)(u : Un (frs X.stack) ch H H' s.heap s'.heap)(hok : HOk X.prog X.w H' s'.heap)(hg : AllBare s'.gens)
    (hch : ∀ b∈ch, (b∈X.ex ∨ X.s₀.heap.objs.size≤b) ∧ b≠X.env.locals ∧ (∀ x c, X.env.cells.lookup x=some c → c≠b) ∧ ∀ p∈X.pn++pins, p.1≠b) : Inv X pins σ H' s' := by
  obtain ⟨h', g', d', t', o'⟩ := s'
  have e : o'=s.os := ho
  subst e
  exact I.call (g' := g') (t' := t') (d' := d') u hok hg hch
end
abbrev XK := Value → Option Addr → Hp → Prop
abbrev St := List (Option V)
abbrev VK := V → Hp → Prop
abbrev TE := St → Hp → VK → Prop
abbrev TT := St → Hp → (Bool → Hp → Prop) → Prop
abbrev TA := St → Hp → (List V → Hp → Prop) → Prop
structure fq where
  nx : St → Hp → Prop
  rt : VK
  bk : St → Hp → Prop := fun _ _ => False
  ct : St → Hp → Prop := fun _ _ => False
abbrev TS := fq → St → Hp → Prop
def EP (X : Cx)(pins : List (Addr × Obj))(σ : St)(Q : VK)(u : Value)(s' : Shared) : Prop := ∃ v H', Inv X pins σ H' s' ∧ aM v u ∧ Q v H'
def TP (X : Cx)(pins : List (Addr × Obj))(σ : St)(Q : Bool → Hp → Prop)(b : Bool)(s' : Shared) : Prop := ∃ H', Inv X pins σ H' s' ∧ Q b H'
def AP (X : Cx)(pins : List (Addr × Obj))(σ : St)(Q : List V → Hp → Prop)(us : List Value)(s' : Shared) : Prop := ∃ vs H', Inv X pins σ H' s' ∧ aI vs us ∧ Q vs H'
def SP (X : Cx)(pins : List (Addr × Obj))(D : fq)(f : Flow)(s' : Shared) : Prop :=
  match f with
  | .next => ∃ σ' H', Inv X pins σ' H' s' ∧ D.nx σ' H'
  | .brk => ∃ σ' H', Inv X pins σ' H' s' ∧ D.bk σ' H'
  | .cont => ∃ σ' H', Inv X pins σ' H' s' ∧ D.ct σ' H'
  | .ret u => ∃ v σ' H', Inv X pins σ' H' s' ∧ aM v u ∧ D.rt v H'
def PE (X : Cx)(e : Expr)(t : TE) : Prop :=
  ∀ (pins : List (Addr × Obj)) (s : Shared) (σ : St) (H : Hp) (Q : VK), Inv X pins σ H s → t σ H Q → wpAny (model X.prog X.w) X.A (eval e X.env) (EP X pins σ Q) X.xe s
def PT (X : Cx)(e : Expr)(t : TT) : Prop :=
  ∀ (pins : List (Addr × Obj)) (s : Shared) (σ : St) (H : Hp) (Q : Bool → Hp → Prop), Inv X pins σ H s → t σ H Q → wpAny (model X.prog X.w) X.A (isTrue e X.env (eval e X.env)) (TP X pins σ Q) X.xe s
def PW (X : Cx)(e : Expr)(t : TT) : Prop :=
  ∀ (whole : Sem Value) (pins : List (Addr × Obj)) (s : Shared) (σ : St) (H : Hp) (Q : Bool → Hp → Prop), Inv X pins σ H s → t σ H Q → wpAny (model X.prog X.w) X.A (isTrue e X.env whole) (TP X pins σ Q) X.xe s
theorem PW.pt {X : Cx}{e : Expr}{t : TT}(h : PW X e t) : PT X e t := h _
def PA (X : Cx)(es : List Expr)(t : TA) : Prop :=
  ∀ (pos : Pos) (pins : List (Addr × Obj)) (s : Shared) (σ : St) (H : Hp) (Q : List V → Hp → Prop), Inv X pins σ H s → t σ H Q → wpAny (model X.prog X.w) X.A (spliced (backTo pos (starEach es X.env))) (AP X pins σ Q) X.xe s
def PS (X : Cx)(st : Stmt)(t : TS) : Prop :=
  ∀ (pins : List (Addr × Obj)) (s : Shared) (σ : St) (H : Hp) (D : fq), Inv X pins σ H s → t D σ H → wpAny (model X.prog X.w) X.A (exec st X.env) (SP X pins D) X.xe s
def PSs (X : Cx)(st : List Stmt)(t : TS) : Prop :=
  ∀ (pins : List (Addr × Obj)) (s : Shared) (σ : St) (H : Hp) (D : fq), Inv X pins σ H s → t D σ H → wpAny (model X.prog X.w) X.A (execs st X.env) (SP X pins D) X.xe s
theorem thn {α : Type}{t : Sem α}{Q Q' : α → Shared → Prop}{M : Model}{A : Around}{E : Value → Shared → Prop}{s : Shared}(h : wpAny M A t Q E s)(hQ : ∀ a s, Q a s → Q' a s) : wpAny M A t Q' E s := wQ h hQ fun _ _ x => x
section
variable {X : Cx}
inductive su (i : Nat)(σ : St)(H : Hp)(Q : VK) : Prop
  | mk : ∀ v, (σ[i]? = some (some v)) → (Q v H) → su i σ H Q
def tC (v : V) : TE := fun _ H Q => Q v H
theorem p8 {i : Nat}{x : Str}{pos : Pos}(hN : X.N[i]? = some x)(hv : Vis X.env.scope x)(hd : (x == ("__debug__" : Str))=false := by decide)(hcd : (x == ("__classdict__" : Str))=false := by decide) : PE X (.Name x pos) (su i) := by
  intro pins s σ H Q I h
  obtain ⟨v, e, h⟩ := h
  obtain ⟨m, hn, hl⟩ := I.loc
  obtain ⟨u, r, l⟩ := hl i x v hN e hv
  have fin : EP X pins σ Q u s := ⟨v, H, I, r, h⟩
  rcases l with ⟨hk, hm⟩ | ⟨hk, c, hc, hcell⟩
  · exact wpAny_Name (wpAny_loadName_local I.ok.kind hk hn hm fin) hd
  · rcases hk with hk | hk
    · exact wpAny_Name (wpAny_loadName_cell I.ok.kind hk hc hcell fin) hd
    · exact wpAny_Name (wpAny_loadName_free I.ok.kind hk hc hcell fin hcd) hd
theorem aq {i j pos} : PE X (.Constant (.int i) j pos) (tC (.int i)) := fun _ _ _ H _ I h => wpAny_Constant_int ⟨.int i, H, I.tok _, ⟨_, rfl⟩, h⟩
theorem gE {b j pos} : PE X (.Constant (.bool b) j pos) (tC (.bl b)) := fun _ _ _ H _ I h => Constant_bool ⟨.bl b, H, I, rfl, h⟩
theorem aD {x j pos} : PE X (.Constant (.str x) j pos) (tC (.str x)) := fun _ _ _ H _ I h => Calls.Constant_str ⟨.str x, H, I.tok _, ⟨_, rfl⟩, h⟩
def Gl (X : Cx)(x : Str) : Prop := X.env.kindOf x=some .globalImplicit
theorem gF {E : Value → Shared → Prop}{pins : List (Addr × Obj)}{s : Shared}{σ : St}{H : Hp}{x : Str}{u : Value}{pos : Pos}{Q : Value → Shared → Prop}(I : Inv X pins σ H s)(hg : Gl X x)(hm : X.mg x=some u)(h : Q u s)
    (hd : (x == ("__debug__" : Str))=false := by decide) : wpAny (model X.prog X.w) X.A (eval (.Name x pos) X.env) Q E s :=
  ym I.ok.kind hg (Calls.loadGlobal_global (by rw [I.ok.glob];exact I.mod.glob.keeps I.bk) hm h) hd
theorem cT {E : Value → Shared → Prop}{pins : List (Addr × Obj)}{s : Shared}{σ : St}{H : Hp}{x : Str}{u : Value}{pos : Pos}{Q : Value → Shared → Prop}(I : Inv X pins σ H s)(hg : Gl X x)(hm : X.mg x=none)(hv : bootBuiltins x=some u)(h : Q u s)
    (hn : x ≠ "__name__" := by decide) (hd : (x == ("__debug__" : Str))=false := by decide) : wpAny (model X.prog X.w) X.A (eval (.Name x pos) X.env) Q E s := by
  obtain ⟨mb, h1, h2⟩ := I.mod.blt
  exact ym I.ok.kind hg (Calls.loadGlobal_builtin (by rw [I.ok.glob];exact I.mod.glob.keeps I.bk) hm (by rw [I.ok.blt];exact h1.keeps I.bk) ((h2 x hn).trans hv) h) hd
theorem gG {x : Str}{v : V}{u : Value}{pos : Pos}(hg : Gl X x)(hm : X.mg x=some u)(r : aM v u)(hd : (x == ("__debug__" : Str))=false := by decide) : PE X (.Name x pos) (tC v) :=
  fun _ _ _ H _ I h => gF I hg hm ⟨v, H, I, r, h⟩ hd
theorem gH {x : Str}{v : V}{u : Value}{pos : Pos}(hg : Gl X x)(hm : X.mg x=none)(hv : bootBuiltins x=some u)(r : aM v u)(hn : x ≠ "__name__" := by decide)(hd : (x == ("__debug__" : Str))=false := by decide) : PE X (.Name x pos) (tC v) :=
  fun _ _ _ H _ I h => cT I hg hm hv ⟨v, H, I, r, h⟩ hn hd
variable {a b : Expr} {ta tb : TE} {pos : Pos}
def PC (X : Cx)(op : CmpOp)(a b : Expr)(t : TE) : Prop :=
  ∀ (pins : List (Addr × Obj)) (s : Shared) (σ : St) (H : Hp) (Q : VK), Inv X pins σ H s → t σ H Q →
    wpAny (model X.prog X.w) X.A (eval a X.env) (fun v s₁ => wpAny (model X.prog X.w) X.A (eval b X.env) (fun u s₂ => wpAny (model X.prog X.w) X.A (compareOp op v u) (EP X pins σ Q) X.xe s₂) X.xe s₁) X.xe s
theorem lR (b : Expr){op : CmpOp}(h : op ≠ .In)(h2 : op ≠ .NotIn) : behindInMarks op b=false := by
  have e1 : (op == CmpOp.In)=false := by cases op <;> first | rfl | exact absurd rfl h
  have e2 : (op == CmpOp.NotIn)=false := by cases op <;> first | rfl | exact absurd rfl h2
  cases b <;> simp [behindInMarks, e1, e2]
inductive IsB (x : V)(H : Hp)(Q : Bool → Hp → Prop) : Prop
  | mk : ∀ c, (x = .bl c) → (Q c H) → IsB x H Q
def sv (Q : (Bool → Hp → Prop)) : V → Hp → Prop := fun x H1 => IsB x H1 Q
def tB (t : TE) : TT := fun σ H Q => t σ H (sv Q)
theorem p9 {op : CmpOp}{t : TE}(h : PC X op a b t)(h1 : behindInMarks op b=false := by first | exact lR _ (by decide) (by decide) | rfl) : PT X (.Compare a [op] [b] pos) (tB t) := by
  intro pins s σ H Q I hw
  refine wpAny_isTrue_Compare1 (thn (h pins s σ H _ I hw) fun v s1 h1 => thn h1 fun u s2 h2 => thn h2 fun c s3 zq5 => ?_) h1
  obtain ⟨x, H1, I1, r1, q1⟩ := zq5
  obtain ⟨d, rfl, q⟩ := q1
  cases r1
  exact wJ ⟨H1, I1, q⟩
variable {tA tB' : TT} {rest : List Expr}
def gI (u : TT)(σ : St)(Q : (Bool → Hp → Prop)) : Bool → Hp → Prop := fun c H1 => if c=true then u σ H1 Q else Q false H1
def uD (t u : TT) : TT := fun σ H Q => t σ H (gI u σ Q)
def nC (u : TT)(σ : St)(Q : (Bool → Hp → Prop)) : Bool → Hp → Prop := fun c H1 => if c=true then Q true H1 else u σ H1 Q
def tOr (t u : TT) : TT := fun σ H Q => t σ H (nC u σ Q)
def eB (Q : (Bool → Hp → Prop)) : Bool → Hp → Prop := fun c H1 => Q (!c) H1
def uE (t : TT) : TT := fun σ H Q => t σ H (eB Q)
theorem ji (ha : PT X a tA) : PW X (.BoolOp .And [a] pos) tA := by
  intro wh pins s σ H Q I h
  refine isTrue_and (thn (ha pins s σ H Q I h) fun c s1 e => ?_)
  cases c with
  | true => exact isTrue_and_nil e
  | false => exact e
theorem nD (ha : PT X a tA) : PW X (.BoolOp .Or [a] pos) tA := by
  intro wh pins s σ H Q I h
  refine isTrue_or (thn (ha pins s σ H Q I h) fun c s1 e => ?_)
  cases c with
  | false => exact isTrue_or_nil e
  | true => exact e
theorem nE (ha : PT X a tA)(hb : PW X (.BoolOp .And (b::rest) pos) tB') : PW X (.BoolOp .And (a::b::rest) pos) (uD tA tB') := by
  intro wh pins s σ H Q I h
  refine isTrue_and (thn (ha pins s σ H _ I h) fun c s1 zq7 => ?_)
  obtain ⟨H1, I1, q1⟩ := zq7
  cases c with
  | true => exact hb wh pins s1 σ H1 Q I1 q1
  | false => exact ⟨H1, I1, q1⟩
theorem oo (ha : PT X a tA)(hb : PW X (.BoolOp .Or (b::rest) pos) tB') : PW X (.BoolOp .Or (a::b::rest) pos) (tOr tA tB') := by
  intro wh pins s σ H Q I h
  refine isTrue_or (thn (ha pins s σ H _ I h) fun c s1 zq8 => ?_)
  obtain ⟨H1, I1, q1⟩ := zq8
  cases c with
  | true => exact ⟨H1, I1, q1⟩
  | false => exact hb wh pins s1 σ H1 Q I1 q1
theorem ft (ha : PT X a tA) : PT X (.UnaryOp .Not a pos) (uE tA) := by
  intro pins s σ H Q I h
  exact isTrue_not (ha pins s σ H (fun c H1 => Q (!c) H1) I h)
def lT (tb : TE)(σ : St)(Q : VK) : Bool → Hp → Prop := fun c H1 => if c=true then tb σ H1 Q else Q (.bl false) H1
def lU (tb : TE)(σ : St)(Q : VK) : V → Hp → Prop := fun x H1 => IsB x H1 (lT tb σ Q)
def sx (ta tb : TE) : TE := fun σ H Q => ta σ H (lU tb σ Q)
theorem p_ {op}{t : TE}(h : PE X a t) : PE X (.BoolOp op [a] pos) t := fun pins s σ H Q I hw => BoolOp_one (h pins s σ H Q I hw)
theorem qc (ha : PE X a ta)(hb : PE X (.BoolOp .And (b::rest) pos) tb) : PE X (.BoolOp .And (a::b::rest) pos) (sx ta tb) := by
  intro pins s σ H Q I h
  refine BoolOp_and (thn (ha pins s σ H _ I h) fun v s1 zq9 => ?_)
  obtain ⟨x, H1, I1, r1, q1⟩ := zq9
  obtain ⟨c, rfl, q1⟩ := q1
  cases r1
  refine wJ ?_
  cases c with
  | true => exact hb pins s1 σ H1 Q I1 q1
  | false => exact ⟨.bl false, H1, I1, rfl, q1⟩
def qd (ta : TE)(tb : TE)(σ : St)(Q : VK) : Bool → Hp → Prop := fun c H1 => if c=true then ta σ H1 Q else tb σ H1 Q
def tIf (t : TT)(ta tb : TE) : TE := fun σ H Q => t σ H (qd ta tb σ Q)
theorem ij {c : Expr}(hc : PT X c tA)(ha : PE X a ta)(hb : PE X b tb) : PE X (.IfExp c a b pos) (tIf tA ta tb) := by
  intro pins s σ H Q I h
  refine wpAny_IfExp (thn (hc pins s σ H _ I h) fun d s1 zq12 => ?_)
  obtain ⟨H1, I1, q1⟩ := zq12
  cases d with
  | true => exact ha pins s1 σ H1 Q I1 q1
  | false => exact hb pins s1 σ H1 Q I1 q1
end
def SqL (K : PySem.W.Frag)(H : Hp)(a : Addr)(xs : List V) : Prop :=
  Rd H a (.lst xs) ∨
    ∃ (o : Obj) (its : Array Value) (n : Nat), K.lookup a=some o ∧ o.cls = .type "list" ∧ o.dict=none ∧ o.data = .seq its n ∧ its.size≤sizeLine ∧ aI xs its.toList
def SqT (K : PySem.W.Frag)(H : Hp)(a : Addr)(xs : List V) : Prop :=
  Rd H a (.tup xs) ∨
    ∃ (o : Obj) (its : Array Value) (n : Nat), K.lookup a=some o ∧ o.cls = .type "tuple" ∧ o.data = .seq its n ∧ its.size≤sizeLine ∧ aI xs its.toList
def uF : Value → Option V
  | .none => some .non
  | .bool b => some (.bl b)
  | .int i _ => some (.int i)
  | .str x _ => some (.str x)
  | .bytes b _ => some (.byt b)
  | .float b _ => some (.flt b)
  | .ref a => some (.ref a)
  | .type n => some (.ty n)
  | _ => none
theorem aM.abs {x : V}{u : Value}(r : aM x u) : uF u=some x := by
  cases x with
  | non => cases r;rfl
  | bl _ => cases r;rfl
  | int _ => obtain ⟨t, rfl⟩ := r;rfl
  | str _ => obtain ⟨t, rfl⟩ := r;rfl
  | byt _ => obtain ⟨t, rfl⟩ := r;rfl
  | flt _ => obtain ⟨t, rfl⟩ := r;rfl
  | ref _ => cases r;rfl
  | ty _ => cases r;rfl
theorem aM.inj {x y : V}{u : Value}(r : aM x u)(q : aM y u) : x=y := vp (r.abs.symm.trans q.abs)
theorem aI.inj : ∀ {xs ys : List V} {us : List Value}, aI xs us → aI ys us → xs=ys
  | _, _, _, .nil, .nil => rfl
  | _, _, _, .cons r t, .cons r' t' => by rw [r.inj r', aI.inj t t']
section
variable {X : Cx} {pins : List (Addr × Obj)} {σ : St} {H : Hp} {s : Shared} {a : Addr} {xs ys : List V}
theorem SqL.of {K : PySem.W.Frag}(h : H a=some (.lst xs)) : SqL K H a xs := .inl (.inl h)
theorem SqT.of {K : PySem.W.Frag}(h : H a=some (.tup xs)) : SqT K H a xs := .inl (.inl h)
theorem Inv.list (I : Inv X pins σ H s)(h : SqL X.K H a xs) : ∃ its : List Value, aI xs its ∧ PlainL s.heap a its.toArray ∧ xs.length≤sizeLine := by
  rcases h with h | ⟨o, its, n, hk, hc, hd, hs, hz, r⟩
  · obtain ⟨z, its, n, r, e⟩ := h.ok I.hok
    exact ⟨its, r, ⟨_, n, e, rfl, rfl, rfl⟩, z⟩
  · refine ⟨its.toList, r, ⟨o, n, I.kIn a o hk, hc, hd, by simpa using hs⟩, ?_⟩
    have e := r.length
    simp only [wK] at e
    omega
theorem Inv.tuple (I : Inv X pins σ H s)(h : SqT X.K H a xs) : ∃ its : List Value, aI xs its ∧ IsTup s.heap a its.toArray ∧ xs.length≤sizeLine := by
  rcases h with h | ⟨o, its, n, hk, hc, hs, hz, r⟩
  · obtain ⟨z, its, r, p, _⟩ := h.ok I.hok
    exact ⟨its, r, p, z⟩
  · refine ⟨its.toList, r, ⟨o, I.kIn a o hk, hc, n, by simpa using hs⟩, ?_⟩
    have e := r.length
    simp only [wK] at e
    omega
theorem Inv.list_inj (I : Inv X pins σ H s)(h : SqL X.K H a xs)(h' : SqL X.K H a ys) : xs=ys := by
  obtain ⟨its, r, ⟨o, n, e, _, _, d⟩, _⟩ := I.list h
  obtain ⟨its', r', ⟨o', n', e', _, _, d'⟩, _⟩ := I.list h'
  rw [e] at e';cases e'
  rw [d] at d'
  injection d' with d1 _
  have : its=its' := by simpa using v5 Array.toList d1
  subst this
  exact r.inj r'
theorem Inv.tuple_inj (I : Inv X pins σ H s)(h : SqT X.K H a xs)(h' : SqT X.K H a ys) : xs=ys := by
  obtain ⟨its, r, ⟨o, e, _, n, d⟩, _⟩ := I.tuple h
  obtain ⟨its', r', ⟨o', e', _, n', d'⟩, _⟩ := I.tuple h'
  rw [e] at e';cases e'
  rw [d] at d'
  injection d' with d1 _
  have : its=its' := by simpa using v5 Array.toList d1
  subst this
  exact r.inj r'
end
abbrev Cx.wish (X : Cx)(E : Value → Shared → Prop) : Cx := { X with xe := E }
abbrev Cx.nox (X : Cx) : Cx := X.wish fun _ _ => False
theorem Cx.Ok.wish {X : Cx}(ok : X.Ok)(E : Value → Shared → Prop) : (X.wish E).Ok :=
  ⟨ok.mod, ok.kind, ok.glob, ok.blt, ok.above, ok.inj, ok.has, ok.cab, ok.hd, ok.frames, ok.stk, ok.exf, ok.bs, ok.bsz, ok.noex, ok.exfs, ok.funs, ok.frf⟩
theorem Cx.Ok.unwish {X : Cx}{E : Value → Shared → Prop}(ok : (X.wish E).Ok) : X.Ok :=
  ⟨ok.mod, ok.kind, ok.glob, ok.blt, ok.above, ok.inj, ok.has, ok.cab, ok.hd, ok.frames, ok.stk, ok.exf, ok.bs, ok.bsz, ok.noex, ok.exfs, ok.funs, ok.frf⟩
section
variable {X : Cx} {pins : List (Addr × Obj)} {σ : St} {H : Hp} {s : Shared} {E : Value → Shared → Prop}
theorem Inv.wish (I : Inv X pins σ H s)(E : Value → Shared → Prop) : Inv (X.wish E) pins σ H s := ⟨I.ok.wish E, I.os, I.bare, I.base, I.loc, I.cell, I.free, I.freeC, I.pin, I.hok, I.len⟩
theorem Inv.unwish (I : Inv (X.wish E) pins σ H s) : Inv X pins σ H s := ⟨I.ok.unwish, I.os, I.bare, I.base, I.loc, I.cell, I.free, I.freeC, I.pin, I.hok, I.len⟩
theorem SP.unwish {D : fq}{f : Flow}{s' : Shared}(h : SP (X.wish E) pins D f s') : SP X pins D f s' := by
  cases f with
  | next => obtain ⟨σ', H', I, q⟩ := h;exact ⟨σ', H', I.unwish, q⟩
  | brk => obtain ⟨σ', H', I, q⟩ := h;exact ⟨σ', H', I.unwish, q⟩
  | cont => obtain ⟨σ', H', I, q⟩ := h;exact ⟨σ', H', I.unwish, q⟩
  | ret u => obtain ⟨v, σ', H', I, r, q⟩ := h;exact ⟨v, σ', H', I.unwish, r, q⟩
theorem PSs.nox {st : List Stmt}{t : TS}(h : PSs X.nox st t) : PSs X st t := fun pins s σ H D I hw =>
  wQ (h pins s σ H D (I.wish _) hw) (fun _ _ q => q.unwish) fun _ _ z => False.elim z
end
section
variable {X : Cx} {st : Stmt} {rest : List Stmt} {t u : TS} {e : Expr} {te : TE} {pos : Pos}
def sy : TS := fun D σ H => D.nx σ H
def uG (t u : TS) : TS := fun D σ H => t { D with nx := u D } σ H
theorem bF : PSs X [] sy := fun _ _ σ H _ I h => x8 ⟨σ, H, I, h⟩
theorem ag (h1 : PS X st t)(h2 : PSs X rest u) : PSs X (st::rest) (uG t u) := by
  intro pins s σ H D I h
  refine wpAny_execs_cons (thn (h1 pins s σ H { D with nx := u D } I h) fun f s1 q => ?_)
  cases f with
  | next =>
    obtain ⟨σ', H', I', q⟩ := q
    exact h2 pins s1 σ' H' D I' q
  | ret v => exact q
  | brk => exact q
  | cont => exact q
theorem ak (h1 : PS X st t) : PSs X [st] t := by
  intro pins s σ H D I h
  refine wpAny_execs_cons (thn (h1 pins s σ H D I h) fun f s1 q => ?_)
  cases f with
  | next => exact x8 q
  | ret v => exact q
  | brk => exact q
  | cont => exact q
theorem Inv.quiet {pins : List (Addr × Obj)}{σ : St}{H : Hp}{s : Shared}(I : Inv X pins σ H s) : interactive X.env=false := by simp [interactive, I.ok.kind]
def lV (D : fq)(σ : St) : V → Hp → Prop := fun _ H1 => D.nx σ H1
def sA (te : TE) : TS := fun D σ H => te σ H (lV D σ)
theorem dh (he : PE X e te)(hs : swapsWith e none pos.line X.env=pure false := by rfl) : PS X (.Expr e pos) (sA te) := by
  intro pins s σ H D I h
  exact wpAny_Expr_any (thn (he pins s σ H _ I h) fun v s1 zq15 => (by obtain ⟨x, H1, I1, r1, q1⟩ := zq15;exact ⟨σ, H1, I1, q1⟩)) I.quiet hs
def uH (te : TE) : TS := fun D σ H => te σ H D.rt
theorem aJ (he : PE X e te) : PS X (.Return (some e) pos) (uH te) := by
  intro pins s σ H D I h
  exact wpAny_Return_some (thn (he pins s σ H _ I h) fun v s1 zq16 => (by obtain ⟨x, H1, I1, r1, q1⟩ := zq16;exact ⟨x, σ, H1, I1, r1, q1⟩))
def gJ (t : TS)(u : TS)(D : fq)(σ : St) : Bool → Hp → Prop := fun b H1 => if b=true then t D σ H1 else u D σ H1
def uI (c : TT)(t u : TS) : TS := fun D σ H => c σ H (gJ t u D σ)
theorem dW {c : Expr}{a b : List Stmt}{tc : TT}(hc : PT X c tc)(ha : PSs X a t)(hb : PSs X b u) : PS X (.If c a b pos) (uI tc t u) := by
  intro pins s σ H D I h
  refine wpAny_If (thn (hc pins s σ H _ I h) fun d s1 zq17 => ?_)
  obtain ⟨H1, I1, q1⟩ := zq17
  cases d with
  | true => exact ha pins s1 σ H1 D I1 q1
  | false => exact hb pins s1 σ H1 D I1 q1
end
abbrev TG := V → St → Hp → (St → Hp → Prop) → Prop
abbrev TGs := List V → St → Hp → (St → Hp → Prop) → Prop
def PG (X : Cx)(target : Expr)(t : TG) : Prop :=
  ∀ (pins : List (Addr × Obj)) (s : Shared) (σ : St) (H : Hp) (v : V) (u : Value) (Q : St → Hp → Prop), Inv X pins σ H s → aM v u → t v σ H Q →
    wpAny (model X.prog X.w) X.A (assign target X.env u) (fun _ s' => ∃ σ' H', Inv X pins σ' H' s' ∧ Q σ' H') X.xe s
def PGs (X : Cx)(ts : List Expr)(t : TGs) : Prop :=
  ∀ (pins : List (Addr × Obj)) (s : Shared) (σ : St) (H : Hp) (vs : List V) (us : List Value) (Q : St → Hp → Prop), Inv X pins σ H s → aI vs us → t vs σ H Q →
    wpAny (model X.prog X.w) X.A (assignInOrder ((assignEach ts X.env).map (·.2)) us) (fun _ s' => ∃ σ' H', Inv X pins σ' H' s' ∧ Q σ' H') X.xe s
abbrev sC := V → V → V → Hp → (Hp → Prop) → Prop
def tY (X : Cx)(t : sC) : Prop :=
  ∀ (pins : List (Addr × Obj)) (s : Shared) (σ : St) (H : Hp) (o i v : V) (ov iv u : Value) (Q : Hp → Prop), Inv X pins σ H s → aM o ov → aM i iv → aM v u → t o i v H Q →
    wpAny (model X.prog X.w) X.A (setItem ov iv u) (fun _ s' => ∃ H', Inv X pins σ H' s' ∧ Q H') X.xe s
abbrev TIp := V → V → Hp → VK → Prop
def PIp (X : Cx)(op : Operator)(t : TIp) : Prop :=
  ∀ (pins : List (Addr × Obj)) (s : Shared) (σ : St) (H : Hp) (x y : V) (v u : Value) (Q : VK), Inv X pins σ H s → aM x v → aM y u → t x y H Q →
    wpAny (model X.prog X.w) X.A (inplaceOp op v u) (EP X pins σ Q) X.xe s
section
variable {X : Cx} {pos : Pos}
def oq (i : Nat) : TG := fun v σ H Q => Q (σ.set i (some v)) H
theorem ar {i : Nat}{x : Str}(hN : X.N.Nodup)(hi : X.N[i]? = some x)(hx : Loc X.env.scope x)(hf : X.fn x=true ∨ X.env.scope.names.lookup x=some .local := by first | exact .inl rfl | exact .inr rfl | assumption) : PG X (.Name x pos) (oq i) := by
  intro pins s σ H v u Q I r h
  exact wpAny_assign_Name (eA I hN hi hx r (fun s' I' => ⟨_, H, I', h⟩) hf)
def uJ : TGs := fun vs σ H Q => vs=[] ∧ Q σ H
def sD (t : TG)(u : TGs) : TGs := fun vs σ H Q => ∃ v r, vs=v::r ∧ t v σ H fun σ' H' => u r σ' H' Q
theorem gK : PGs X [] uJ := by
  intro pins s σ H vs us Q I r h
  obtain ⟨e, h⟩ := h
  subst e
  cases r
  exact assignInOrder_nil ⟨σ, H, I, h⟩
theorem cv {e : Expr}{es : List Expr}{t : TG}{u : TGs}(h1 : PG X e t)(h2 : PGs X es u)
    (hs : (assignEach (e::es) X.env).map (·.2)=assign e X.env::(assignEach es X.env).map (·.2) := by rfl) : PGs X (e::es) (sD t u) := by
  intro pins s σ H vs us Q I r h
  obtain ⟨v, vr, e1, h⟩ := h
  subst e1
  cases r with
  | cons r rr =>
    rw [hs]
    refine assignInOrder_cons (thn (h1 pins s σ H _ _ _ I r h) fun _ s1 zq18 => ?_)
    obtain ⟨σ1, H1, I1, q1⟩ := zq18
    exact h2 pins s1 σ1 H1 _ _ Q I1 rr q1
def tZ (K : PySem.W.Frag)(n : Nat)(t : TGs) : TG := fun v σ H Q => ∃ a xs, v = .ref a ∧ SqT K H a xs ∧ xs.length=n ∧ t xs σ H Q
theorem nF {es : List Expr}{k : Nat}{t : TGs}{n : Nat}(hc : X.calm=true)(h : PGs X es t)
    (hn : (assignEach es X.env).length=n := by rfl) (hst : (assignEach es X.env).findIdx? (·.1)=none := by rfl) : PG X (.Tuple es k pos) (tZ X.K n t) := by
  intro pins s σ H v u Q I r hw
  obtain ⟨a, xs, e1, hq, hl, hw⟩ := hw
  subst e1
  cases r
  obtain ⟨its, rv, ht, hz⟩ := I.tuple hq
  refine assign_Tuple_tuple (I.ok.hd hc) ht (by simp [hn, ← hl, rv.length]) hst fun h' hx => ?_
  have I1 : Inv X pins σ H { s with heap := h' } := I.kept (t' := s.toks) fun b o e => hx b o (vG (ve e)) e
  exact h pins _ σ H xs _ Q I1 (by simpa using rv) hw
def bq (g : TG)(D : fq)(σ : St) : V → Hp → Prop := fun x H1 => g x σ H1 D.nx
def t_ (te : TE)(g : TG) : TS := fun D σ H => te σ H (bq g D σ)
theorem ax {i : Nat}{x : Str}{e : Expr}{te : TE}{pos' : Pos}(hN : X.N.Nodup)(hi : X.N[i]? = some x)(hx : Loc X.env.scope x)(he : PE X e te)(hs : swapsWith e (some (.Name x pos')) pos.line X.env=pure false := by rfl)(hf : X.fn x=true ∨ X.env.scope.names.lookup x=some .local := by first | exact .inl rfl | exact .inr rfl | assumption) :
    PS X (.Assign [.Name x pos'] e pos) (t_ te (oq i)) := by
  intro pins s σ H D I h
  refine wpAny_Assign_Name (thn (he pins s σ H _ I h) fun v s1 zq23 => ?_) hs
  obtain ⟨y, H1, I1, r1, q1⟩ := zq23
  exact eA I1 hN hi hx r1 (fun s2 I2 => ⟨_, H1, I2, q1⟩) hf
inductive ua (i : Nat)(te : TE)(ti : TIp)(D : fq)(σ : St)(H : Hp) : Prop
  | mk : ∀ x, (σ[i]? = some (some x)) → (te σ H fun y H1 => ti x y H1 fun z H2 => D.nx (σ.set i (some z)) H2) → ua i te ti D σ H
theorem qe {i : Nat}{x : Str}{e : Expr}{te : TE}{op : Operator}{ti : TIp}{pos' : Pos}(hN : X.N.Nodup)(hi : X.N[i]? = some x)(hx : Loc X.env.scope x)(he : PE X e te)(ho : PIp X op ti)(hf : X.fn x=true ∨ X.env.scope.names.lookup x=some .local := by first | exact .inl rfl | exact .inr rfl | assumption) :
    PS X (.AugAssign (.Name x pos') op e pos) (ua i te ti) := by
  intro pins s σ H D I h
  obtain ⟨v, e1, h⟩ := h
  obtain ⟨m, hn, hl⟩ := I.loc
  have vis : Vis X.env.scope x := by rcases hx with k | k;exact .inl k;exact .inr (.inl k)
  obtain ⟨u, r, l⟩ := hl i x v hi e1 vis
  refine wpAny_AugAssign_Name ?_
  have go : wpAny (model X.prog X.w) X.A (eval e X.env) (fun w s₂ => wpAny (model X.prog X.w) X.A (inplaceOp op u w) (fun r s₃ => wpAny (model X.prog X.w) X.A (storeName X.env x r) (fun _ => SP X pins D .next) X.xe s₃) X.xe s₂) X.xe s := by
    refine thn (he pins s σ H _ I h) fun w s1 zq25 => ?_
    obtain ⟨y, H1, I1, r1, q1⟩ := zq25
    refine thn (ho pins s1 σ H1 v y u w _ I1 r r1 q1) fun z s2 zq26 => ?_
    obtain ⟨zv, H2, I2, r2, q2⟩ := zq26
    exact eA I2 hN hi hx r2 (fun s3 I3 => ⟨_, H2, I3, q2⟩) hf
  rcases l with ⟨hk, hm⟩ | ⟨hk, c, hc, hcell⟩
  · exact wpAny_loadName_local I.ok.kind hk hn hm go
  · rcases hk with hk | hk
    · exact wpAny_loadName_cell I.ok.kind hk hc hcell go
    · rcases hx with k | k
      · have : X.env.scope.names.lookup x=some .free := hk
        rw [k] at this;cases this
      · have : X.env.scope.names.lookup x=some .free := hk
        rw [k] at this;cases this
def sE (to ti te : TE)(tget : V → V → Hp → VK → Prop)(tip : TIp)(tset : sC) : TS := fun D σ H => to σ H fun o H1 => ti σ H1 fun i H2 => tget o i H2 fun x H3 => te σ H3 fun y H4 => tip x y H4 fun z H5 => tset o i z H5 fun H6 => D.nx σ H6
def ub (X : Cx)(t : V → V → Hp → VK → Prop) : Prop :=
  ∀ (pins : List (Addr × Obj)) (s : Shared) (σ : St) (H : Hp) (o i : V) (ov iv : Value) (Q : VK), Inv X pins σ H s → aM o ov → aM i iv → t o i H Q →
    wpAny (model X.prog X.w) X.A (getItem ov iv) (EP X pins σ Q) X.xe s
theorem ou {o i e : Expr}{to ti te : TE}{tget : V → V → Hp → VK → Prop}{tip : TIp}{tset : sC}{op : Operator}{tpos : Pos}(ho : PE X o to)(hi : PE X i ti)(hg : ub X tget)(he : PE X e te)(hp : PIp X op tip)(hs : tY X tset)
    (ha : ∀ ov iv new, augStore i ov iv new=(do holding [new, ov, iv] (setItem ov iv new);release [new, ov, iv] [];pure .next) := by intros;rfl) : PS X (.AugAssign (.Subscript o i tpos) op e pos) (sE to ti te tget tip tset) := by
  intro pins s σ H D I h
  refine wpAny_AugAssign_SubscriptAny (thn (ho pins s σ H _ I h) fun ov s1 zq27 => ?_) ha
  obtain ⟨x1, H1, I1, r1, q1⟩ := zq27
  refine thn (hi pins s1 σ H1 _ I1 q1) fun iv s2 zq28 => ?_
  obtain ⟨x2, H2, I2, r2, q2⟩ := zq28
  refine thn (hg pins s2 σ H2 x1 x2 ov iv _ I2 r1 r2 q2) fun old s3 zq29 => ?_
  obtain ⟨x3, H3, I3, r3, q3⟩ := zq29
  refine thn (he pins s3 σ H3 _ I3 q3) fun v s4 zq30 => ?_
  obtain ⟨x4, H4, I4, r4, q4⟩ := zq30
  refine thn (hp pins s4 σ H4 x3 x4 old v _ I4 r3 r4 q4) fun new s5 zq31 => ?_
  obtain ⟨x5, H5, I5, r5, q5⟩ := zq31
  exact thn (hs pins s5 σ H5 x1 x2 x5 ov iv new _ I5 r1 r2 r5 q5) fun _ s6 zq32 => (by obtain ⟨H6, I6, q6⟩ := zq32;exact ⟨σ, H6, I6, q6⟩)
def ipI (f : Int → Int → Int) : TIp := fun x y H Q => ∃ i j, x = .int i ∧ y = .int j ∧ Q (.int (f i j)) H
theorem nG : PIp X .Add (ipI fun i j => i+j) := by
  intro pins s σ H x y v u Q I r1 r2 h
  obtain ⟨i, j, e1, e2, q⟩ := h
  subst e1;subst e2
  obtain ⟨t, rfl⟩ := r1
  obtain ⟨t', rfl⟩ := r2
  exact iadd_int ⟨.int _, H, I.tok _, ⟨_, rfl⟩, q⟩
def nI (c : TT)(tb : TS) : TS := fun D σ H => ∃ W : Nat → St → Hp → Prop, (∃ m, W m σ H) ∧ ∀ m σ H, W m σ H →
  c σ H fun b H1 => if b=true then ∃ N : St → Hp → Prop, (∀ σ' H', N σ' H' → ∃ m', m' < m ∧ W m' σ' H') ∧ tb { D with nx := N, ct := N, bk := D.nx } σ H1 else D.nx σ H1
theorem ik {c : Expr}{body : List Stmt}{tc : TT}{tb : TS}(hp : PassesOwn (model X.prog X.w) X.A X.env X.xe)(hc : PT X c tc)(hb : PSs X body tb) : PS X (.While c body [] pos) (nI tc tb) := by
  intro pins s σ H D I h
  obtain ⟨W, ⟨m0, w0⟩, turn⟩ := h
  refine wpAny_While (codeAny_whileLoop (fun n s' => ∃ σ' H', Inv X pins σ' H' s' ∧ W n σ' H') ?_ m0 ⟨σ, H, I, w0⟩)
  rintro n s1 ⟨σ1, H1, I1, w1⟩
  refine w5 hp (thn (hc pins s1 σ1 H1 _ I1 (turn n σ1 H1 w1)) fun b s2 zq33 => ?_)
  obtain ⟨H2, I2, q2⟩ := zq33
  cases b with
  | true =>
    obtain ⟨N, hN, q2⟩ := q2
    rw [if_pos rfl]
    refine w5 hp (thn (hb pins s2 σ1 H2 _ I2 q2) fun f s3 q3 => ?_)
    cases f with
    | next =>
      obtain ⟨σ3, H3, I3, n3⟩ := q3
      obtain ⟨m', hm, w3⟩ := hN σ3 H3 n3
      exact ⟨m', hm, σ3, H3, I3, w3⟩
    | cont =>
      obtain ⟨σ3, H3, I3, n3⟩ := q3
      obtain ⟨m', hm, w3⟩ := hN σ3 H3 n3
      exact ⟨m', hm, σ3, H3, I3, w3⟩
    | brk => exact q3
    | ret v => exact q3
  | false =>
    rw [if_neg vm]
    exact x8 ⟨σ1, H2, I2, q2⟩
end
structure It where
  go : Nat → Hp → Prop
  yld : Nat → Hp → V → Hp → Prop
  stop : Nat → Hp → Prop
def fz (X : Cx)(pins : List (Addr × Obj))(H : Hp)(b : Addr) : Prop :=
  H b=none ∧ b≠X.env.locals ∧ b∉X.fs ∧ (b∈X.ex ∨ X.s₀.heap.objs.size≤b) ∧ (∀ x c, X.env.cells.lookup x=some c → c≠b) ∧ ∀ p∈X.pn++pins, p.1≠b
theorem Inv.fpOk {X : Cx}{pins : List (Addr × Obj)}{σ : St}{H H' : Hp}{s : Shared}{b : Addr}(I : Inv X pins σ H s)(hb : s.heap.objs.size≤b)(hn : H' b=none) : fz X pins H' b := by
  refine ⟨hn, yo (vk I.lt hb), I.nofs hb, .inr (vI I.sz hb), fun x c e z => ?_, fun p hp z => ?_⟩
  · obtain ⟨v, q⟩ := I.cell x c e
    exact absurd (vk q.lt (by rw [z];exact hb)) (vO _)
  · exact absurd (vk (ve (I.pin p hp).1) (by rw [z];exact hb)) (vO _)
structure nJ (P : Program) (w : World) (K : PySem.W.Frag) (tg : Expr) (J : It) (fp : List Addr) (it : Addr) (tn : Nat → Heap → Prop) : Prop where
  mem : it∈fp
  obj : ∀ i h, tn i h → ∀ b∈fp, ∃ o, h.get? b=some o ∧ ∀ v, o.data ≠ .cell v
  keep : ∀ i h h', tn i h → (∀ b∈fp, ∀ o, h.get? b=some o → h'.get? b=some o) → tn i h'
  item : ∀ (X : Cx), X.prog=P → X.w=w → X.K=K → X.calm=true → ∀ (i : Nat) (pins : List (Addr × Obj)) (s : Shared) (σ : St) (H : Hp) (E : Value → Shared → Prop), Inv X pins σ H s → (∀ b∈fp, fz X pins H b) → tn i s.heap → J.go i H →
    wpAny (model P w) X.A (pyNext (.ref it)) (fun r s1 => ∃ u, r=some u ∧
      wpAny (model P w) X.A (letOwnedTupleGo tg (.ref it) u) (fun _ s2 => ∃ x H', Inv X pins σ H' s2 ∧ aM x u ∧ J.yld i H x H' ∧ tn (i+1) s2.heap ∧ ∀ b∈fp, H' b=none) E s1) E s
  done : ∀ (X : Cx), X.prog=P → X.w=w → X.K=K → X.calm=true → ∀ (i : Nat) (pins : List (Addr × Obj)) (s : Shared) (σ : St) (H : Hp) (E : Value → Shared → Prop), Inv X pins σ H s → (∀ b∈fp, fz X pins H b) → tn i s.heap → J.stop i H →
    wpAny (model P w) X.A (pyNext (.ref it)) (fun r s1 => r=none ∧ Inv X pins σ H s1) E s
  self : ∀ (A : Around) (i : Nat) (s : Shared) (Q : Value → Shared → Prop) (E : Value → Shared → Prop), tn i s.heap → Q (.ref it) s → wpAny (model P w) A (pyIter (.ref it)) Q E s
abbrev TI := St → Hp → (It → Hp → Prop) → Prop
def PIE (X : Cx)(pins : List (Addr × Obj))(σ : St)(tg : Expr)(R : It → Hp → Prop)(itv : Value)(s2 : Shared) : Prop :=
  ∃ (it : Addr) (fp : List Addr) (tn : Nat → Heap → Prop) (J : It) (H' : Hp), itv = .ref it ∧ Inv X pins σ H' s2 ∧ nJ X.prog X.w X.K tg J fp it tn ∧ tn 0 s2.heap ∧ (∀ b∈fp, fz X pins H' b) ∧ R J H'
def PI (X : Cx)(tg iter : Expr)(wi : TI) : Prop :=
  ∀ (pins : List (Addr × Obj)) (s : Shared) (σ : St) (H : Hp) (R : It → Hp → Prop), Inv X pins σ H s → wi σ H R →
    wpAny (model X.prog X.w) X.A (eval iter X.env) (fun v s1 => wpAny (model X.prog X.w) X.A (pyIter v) (PIE X pins σ tg R) X.xe s1) X.xe s
theorem lW {M : Model}{A : Around}{E : Value → Shared → Prop}{s : Shared}{tg : Expr}{it : Addr}{u : Value}{o : Obj}{n : String}{vs : Array Value}{Q : Unit → Shared → Prop}(ho : s.heap.get? it=some o)(hc : o.cls = .type n)(hd : o.data = .fields vs)
    (hn : ["enumerate", "zip", "dict_itemiterator", "dict_reverseitemiterator", "odict_iterator", "itertools.zip_longest", "itertools.pairwise"].contains n=false) (hQ : Q () s) : wpAny M A (letOwnedTupleGo tg (.ref it) u) Q E s := by
  unfold letOwnedTupleGo
  cases tg <;> first
    | exact vE hQ
    | (cases u <;> first
        | exact vE hQ
        | (refine va (wpAny_load ho ?_)
           rw [hc, hd]
           show wpAny M A (if (["enumerate", "zip", "dict_itemiterator", "dict_reverseitemiterator", "odict_iterator", "itertools.zip_longest", "itertools.pairwise"].contains n && vs[0]? == some (rawInt _))=true then _ else _) Q E s
           rw [if_neg (by intro h;rw [hn, zc] at h;cases h)]
           exact vE hQ))
def Itl (K : PySem.W.Frag)(a : Addr) : It :=
  ⟨fun i H => ∃ xs x, SqL K H a xs ∧ xs[i]? = some x, fun i H x H' => H'=H ∧ ∀ xs, SqL K H a xs → xs[i]? = some x, fun i H => ∃ xs, SqL K H a xs ∧ xs.length≤i⟩
def Itt (K : PySem.W.Frag)(a : Addr) : It :=
  ⟨fun i H => ∃ xs x, SqT K H a xs ∧ xs[i]? = some x, fun i H x H' => H'=H ∧ ∀ xs, SqT K H a xs → xs[i]? = some x, fun i H => ∃ xs, SqT K H a xs ∧ xs.length≤i⟩
def Itr (lo : Int)(n : Nat) : It := ⟨fun i _ => i < n, fun i H x H' => H'=H ∧ x = .int (lo+i), fun i _ => n≤i⟩
theorem jj {P : Program}{w : World}{K : PySem.W.Frag}{tg : Expr}(a it : Addr) : nJ P w K tg (Itl K a) [it] it (fun i h => h.IsListIter it a i) where
  mem := by simp
  obj := fun i h st b hb => by
    have e : b=it := by simpa using hb
    subst e
    obtain ⟨o, e, c, d⟩ := st
    exact ⟨o, e, fun v z => by rw [d] at z;cases z⟩
  keep := fun i h h' st k => st.at fun o e => k it (by simp) o e
  item := by
    intro X hP hw hK hc i pins s σ H E I hf st hg
    subst hP hw hK
    obtain ⟨xs, x, hq, hx⟩ := hg
    obtain ⟨its, rv, p, hz⟩ := I.list hq
    obtain ⟨u, hu, ru⟩ := rv.get hx
    obtain ⟨f0, f1, f2, f3, f4, f5⟩ := hf it (by simp)
    refine wpAny_pyNext_list_item st p.isList (x := u) (by simpa using hu) fun h' st' sb => ?_
    have I1 : Inv X pins σ H { s with heap := h' } := I.turned (t' := s.toks) (fun b o hb e => (sb.2 b hb).trans e) f0 f1 f3 f4 f5
    obtain ⟨o, e, c, d⟩ := id st'
    exact ⟨u, rfl, lW (s := { s with heap := h' }) e c d (by decide) ⟨x, H, I1, ru, ⟨rfl, fun ys hy => by rw [I.list_inj hy hq];exact hx⟩, st', fun b hb => (hf b hb).1⟩⟩
  done := by
    intro X hP hw hK hc i pins s σ H E I hf st hg
    subst hP hw hK
    obtain ⟨xs, hq, hx⟩ := hg
    obtain ⟨its, rv, p, hz⟩ := I.list hq
    obtain ⟨f0, f1, f2, f3, f4, f5⟩ := hf it (by simp)
    have hl := rv.length
    exact wpAny_pyNext_list_end (I.ok.hd hc) st p.isList (by simp;omega) fun h' eb => ⟨rfl, I.turned (t' := s.toks) (fun b o hb e => eb b o hb e) f0 f1 f3 f4 f5⟩
  self := fun _ _ _ _ _ st h => wpAny_pyIter_listiter st h
theorem iT {P : Program}{w : World}{K : PySem.W.Frag}{tg : Expr}(a it : Addr) : nJ P w K tg (Itt K a) [it] it (fun i h => h.IsTupleIter it a i) where
  mem := by simp
  obj := fun i h st b hb => by
    have e : b=it := by simpa using hb
    subst e
    obtain ⟨o, e, c, d⟩ := st
    exact ⟨o, e, fun v z => by rw [d] at z;cases z⟩
  keep := fun i h h' st k => st.at fun o e => k it (by simp) o e
  item := by
    intro X hP hw hK hc i pins s σ H E I hf st hg
    subst hP hw hK
    obtain ⟨xs, x, hq, hx⟩ := hg
    obtain ⟨its, rv, p, hz⟩ := I.tuple hq
    obtain ⟨u, hu, ru⟩ := rv.get hx
    obtain ⟨f0, f1, f2, f3, f4, f5⟩ := hf it (by simp)
    refine wpAny_pyNext_tuple_item st (show s.heap.IsTuple a its.toArray from p) (x := u) (by simpa using hu) fun h' st' sb => ?_
    have I1 : Inv X pins σ H { s with heap := h' } := I.turned (t' := s.toks) (fun b o hb e => (sb.2 b hb).trans e) f0 f1 f3 f4 f5
    obtain ⟨o, e, c, d⟩ := id st'
    exact ⟨u, rfl, lW (s := { s with heap := h' }) e c d (by decide) ⟨x, H, I1, ru, ⟨rfl, fun ys hy => by rw [I.tuple_inj hy hq];exact hx⟩, st', fun b hb => (hf b hb).1⟩⟩
  done := by
    intro X hP hw hK hc i pins s σ H E I hf st hg
    subst hP hw hK
    obtain ⟨xs, hq, hx⟩ := hg
    obtain ⟨its, rv, p, hz⟩ := I.tuple hq
    obtain ⟨f0, f1, f2, f3, f4, f5⟩ := hf it (by simp)
    have hl := rv.length
    exact wpAny_pyNext_tuple_end (I.ok.hd hc) st (show s.heap.IsTuple a its.toArray from p) (by simp;omega) fun h' eb => ⟨rfl, I.turned (t' := s.toks) (fun b o hb e => eb b o hb e) f0 f1 f3 f4 f5⟩
  self := fun _ _ _ _ _ st h => wpAny_pyIter_tupleiter st h
theorem iU {P : Program}{w : World}{K : PySem.W.Frag}{tg : Expr}(it : Addr)(lo : Int)(n : Nat) : nJ P w K tg (Itr lo n) [it] it (fun i h => IsRangeIter h it (lo+(i : Nat)*1) ((n : Int) - (i : Nat)) 1) where
  mem := by simp
  obj := fun i h st b hb => by
    have e : b=it := by simpa using hb
    subst e
    exact ⟨_, st, fun v z => by
      have z' : Data.fields _=Data.cell v := z
      cases z'⟩
  keep := fun i h h' st k => k it (by simp) _ st
  item := by
    intro X hP hw hK hc i pins s σ H E I hf st hg
    subst hP hw hK
    obtain ⟨f0, f1, f2, f3, f4, f5⟩ := hf it (by simp)
    have W := Walks.range (prog := X.prog) (w := X.w) (I.ok.hd hc) it lo 1 n
    refine W.item i s _ _ hg st fun v h' tk hv st' kk => ?_
    obtain ⟨t, rfl⟩ := hv
    have I1 : Inv X pins σ H { s with heap := h', toks := tk } := I.turned (fun b o hb e => kk b o (by simpa using hb) e) f0 f1 f3 f4 f5
    refine ⟨_, rfl, lW (s := { s with heap := h', toks := tk }) (n := "range_iterator") st' rfl rfl (by decide) ⟨.int (lo+i), H, I1, ⟨t, ?_⟩, ⟨rfl, rfl⟩, st', fun b hb => (hf b hb).1⟩⟩
    rw [Int.mul_one]
  done := by
    intro X hP hw hK hc i pins s σ H E I hf st hg
    subst hP hw hK
    obtain ⟨f0, f1, f2, f3, f4, f5⟩ := hf it (by simp)
    exact wpAny_pyNext_range_end (I.ok.hd hc) st (by have : n≤i := hg;omega) fun h' eb => ⟨rfl, I.turned (t' := s.toks) (fun b o hb e => eb b o hb e) f0 f1 f3 f4 f5⟩
  self := fun _ _ _ _ _ st h => wpAny_pyIter_rangeiter st h
section
variable {X : Cx} {tg : Expr}
def qf (K : PySem.W.Frag)(tl : TE) : TI := fun σ H R => tl σ H fun x H1 => ∃ a, x = .ref a ∧ (∃ xs, SqL K H1 a xs) ∧ R (Itl K a) H1
def uK (K : PySem.W.Frag)(tl : TE) : TI := fun σ H R => tl σ H fun x H1 => ∃ a, x = .ref a ∧ (∃ xs, SqT K H1 a xs) ∧ R (Itt K a) H1
theorem br {l : Expr}{tl : TE}(hl : PE X l tl) : PI X tg l (qf X.K tl) := by
  intro pins s σ H R I h
  refine thn (hl pins s σ H _ I h) fun v s1 zq34 => ?_
  obtain ⟨x, H1, I1, r1, q1⟩ := zq34
  obtain ⟨a, e, ⟨xs, hq⟩, q⟩ := q1
  subst e
  cases r1
  obtain ⟨its, rv, p, hz⟩ := I1.list hq
  refine xn p.isList ?_
  refine ⟨s1.heap.objs.size, [s1.heap.objs.size], _, _, H1, rfl, I1.kept (t' := s1.toks) fun b o e => u_ _ e, jj a _, ⟨_, vi _ rfl, rfl, rfl⟩, fun b hb => ?_, q⟩
  have e : b=s1.heap.objs.size := by simpa using hb
  subst e
  exact I1.fpOk (vd _) (I1.hok.fresh (vd _))
theorem qg {l : Expr}{tl : TE}(hl : PE X l tl) : PI X tg l (uK X.K tl) := by
  intro pins s σ H R I h
  refine thn (hl pins s σ H _ I h) fun v s1 zq35 => ?_
  obtain ⟨x, H1, I1, r1, q1⟩ := zq35
  obtain ⟨a, e, ⟨xs, hq⟩, q⟩ := q1
  subst e
  cases r1
  obtain ⟨its, rv, p, hz⟩ := I1.tuple hq
  refine xD (show s1.heap.IsTuple a its.toArray from p) ?_
  refine ⟨s1.heap.objs.size, [s1.heap.objs.size], _, _, H1, rfl, I1.kept (t' := s1.toks) fun b o e => u_ _ e, iT a _, ⟨_, vi _ rfl, rfl, rfl⟩, fun b hb => ?_, q⟩
  have e : b=s1.heap.objs.size := by simpa using hb
  subst e
  exact I1.fpOk (vd _) (I1.hok.fresh (vd _))
theorem ip {pins : List (Addr × Obj)}{σ : St}{H : Hp}{s : Shared}{R : It → Hp → Prop}{E : Value → Shared → Prop}{lo hi : Int}{t u v : Tok}{tk : Nat}(I : Inv X pins σ H s)(h1 : -(2 ^ 62)≤lo)(h2 : lo < 2 ^ 62)(h3 : -(2 ^ 62)≤hi)(h4 : hi < 2 ^ 62)
    (q : R (Itr lo (hi - lo).toNat) H) : wpAny (model X.prog X.w) X.A (pyIter (.ref s.heap.objs.size)) (PIE X pins σ tg R) E { s with heap := s.heap.push { cls := .type "range", data := .fields #[.int lo t, .int hi u, .int 1 v] }, toks := tk } := by
  refine wpAny_pyIter_range (IsRange.new ..) (small_one h1 h2 h3 h4) ?_
  have I1 : Inv X pins σ H { s with heap := s.heap.push { cls := .type "range", data := .fields #[.int lo t, .int hi u, .int 1 v] }, toks := tk } := I.kept fun b o e => u_ _ e
  refine ⟨(s.heap.push { cls := .type "range", data := .fields #[.int lo t, .int hi u, .int 1 v] }).objs.size, [(s.heap.push { cls := .type "range", data := .fields #[.int lo t, .int hi u, .int 1 v] }).objs.size], _, _, H, rfl,
    I1.kept (t' := tk) fun b o e => u_ _ e, iU _ lo (hi - lo).toNat, ?_, fun b hb => ?_, q⟩
  · have e1 : lo+((0 : Nat) : Int)*1=lo := by simp
    have e2 : (((hi - lo).toNat : Nat) : Int) - ((0 : Nat) : Int)=Builtin.Range.rangeSize lo hi 1 := by rw [rangeSize_one];split <;> omega
    show IsRangeIter _ _ (lo+((0 : Nat) : Int)*1) ((((hi - lo).toNat : Nat) : Int) - ((0 : Nat) : Int)) 1
    rw [e1, e2]
    exact vi _ rfl
  · have e : b=(s.heap.push { cls := .type "range", data := .fields #[.int lo t, .int hi u, .int 1 v] }).objs.size := by simpa using hb
    subst e
    exact I1.fpOk (vd _) (I1.hok.fresh (vd _))
def sF (ta : TA) : TI := fun σ H R => ta σ H fun vs H1 => ∃ j : Int, vs=[.int j] ∧ -(2 ^ 62)≤j ∧ j < 2 ^ 62 ∧ R (Itr 0 j.toNat) H1
def sG (ta : TA) : TI := fun σ H R => ta σ H fun vs H1 => ∃ i j : Int, vs=[.int i, .int j] ∧ (-(2 ^ 62)≤i ∧ i < 2 ^ 62 ∧ -(2 ^ 62)≤j ∧ j < 2 ^ 62) ∧ R (Itr i (j - i).toNat) H1
theorem a8 {a : Expr}{ta : TA}{p pos : Pos}(hg : Gl X "range")(hm : X.mg "range" = none)(ha : PA X [a] ta)(hs : starEach [a] X.env=[(false, eval a X.env)] := by rfl) : PI X tg (.Call (.Name "range" p) [a] [] pos) (sF ta) := by
  intro pins s σ H R I h
  refine Call_ (cT I hg hm boot_range (v9 (thn (ha pos pins s σ H _ I h) fun us s1 zq36 => ?_) hs rfl))
  obtain ⟨vs, H1, I1, r1, q1⟩ := zq36
  obtain ⟨j, e, q1, q2, q⟩ := q1
  subst e
  cases r1 with
  | cons r rr =>
    cases rr
    obtain ⟨t, rfl⟩ := r
    exact call_range_1 (ip I1 (by omega) (by omega) q1 q2 (by simpa using q))
theorem jk {a b : Expr}{ta : TA}{p pos : Pos}(hg : Gl X "range")(hm : X.mg "range" = none)(ha : PA X [a, b] ta)(hs : starEach [a, b] X.env=[(false, eval a X.env), (false, eval b X.env)] := by rfl)(hs2 : starEach [b] X.env=[(false, eval b X.env)] := by rfl) :
    PI X tg (.Call (.Name "range" p) [a, b] [] pos) (sG ta) := by
  intro pins s σ H R I h
  refine Call_ (cT I hg hm boot_range (v9 (thn (ha pos pins s σ H _ I h) fun us s1 zq37 => ?_) (by rw [hs, hs2]) (by rw [hs2];rfl)))
  obtain ⟨vs, H1, I1, r1, q1⟩ := zq37
  obtain ⟨i, j, e, ⟨q1, q2, q3, q4⟩, q⟩ := q1
  subst e
  cases r1 with
  | cons r rr =>
    cases rr with
    | cons r' rr =>
      cases rr
      obtain ⟨t, rfl⟩ := r
      obtain ⟨t', rfl⟩ := r'
      exact call_range_2 (ip I1 q1 q2 q3 q4 q)
def uL (wi : TI)(g : TG)(tb : TS) : TS := fun D σ H => wi σ H fun J H1 => ∃ W : Nat → Nat → St → Hp → Prop, (∃ m, W 0 m σ H1) ∧ ∀ i m σ H, W i m σ H →
  (J.stop i H ∧ D.nx σ H) ∨ (J.go i H ∧ ∃ N : St → Hp → Prop, (∀ σ' H', N σ' H' → ∃ m', m' < m ∧ W (i+1) m' σ' H') ∧ ∀ x H', J.yld i H x H' → g x σ H' fun σ2 H2 => tb { D with nx := N, ct := N, bk := D.nx } σ2 H2)
def d7 (fp : List Addr)(h : Heap) : List (Addr × Obj) := fp.filterMap fun b => (h.get? b).map fun o => (b, o)
theorem bo {fp : List Addr}{h : Heap}{b : Addr}{o : Obj}(hb : b∈fp)(e : h.get? b=some o) : (b, o)∈d7 fp h := List.mem_filterMap.mpr ⟨b, hb, by rw [e]; rfl⟩
theorem jl {fp : List Addr}{h : Heap}{p : Addr × Obj}(hp : p∈d7 fp h) : p.1∈fp ∧ h.get? p.1=some p.2 := by
  obtain ⟨b, hb, e⟩ := List.mem_filterMap.mp hp
  cases q : h.get? b with
  | none => rw [q] at e;cases e
  | some o =>
    rw [q] at e
    have e' : (b, o)=p := vp e
    subst e'
    exact ⟨hb, q⟩
theorem Inv.pinned {pins : List (Addr × Obj)}{σ : St}{H : Hp}{s : Shared}{fp : List Addr}(I : Inv X pins σ H s)(hf : ∀ b∈fp, fz X pins H b)(ho : ∀ b∈fp, ∃ o, s.heap.get? b=some o ∧ ∀ v, o.data ≠ .cell v) : Inv X (pins++d7 fp s.heap) σ H s :=
  I.pins_of fun p hp => (vK.mp hp).elim (fun z => I.pin p (vg _ z)) fun z => by
    obtain ⟨hb, e⟩ := jl z
    obtain ⟨f0, f1, f2, _⟩ := hf p.1 hb
    obtain ⟨o, e', d⟩ := ho p.1 hb
    rw [e] at e';cases e'
    exact ⟨e, f0, f1, f2, d⟩
theorem Inv.unpinned {pins pl : List (Addr × Obj)}{σ : St}{H : Hp}{s : Shared}(I : Inv X (pins++pl) σ H s) : Inv X pins σ H s := I.pins_of fun p hp => I.pin p (vg _ (vM _ hp))
theorem bB {iter : Expr}{body : List Stmt}{wi : TI}{g : TG}{tb : TS}{pos : Pos}(hp : PassesOwn (model X.prog X.w) X.A X.env X.xe)(hc : X.calm=true)(hi : PI X tg iter wi)(hg : PG X tg g)(hb : PSs X body tb)
    (hs : ∀ x, foldedSetIterable iter X.env x=pure x := by intro _;rfl) : PS X (.For tg iter body [] pos) (uL wi g tb) := by
  intro pins s σ H D I h
  refine wpAny_For (thn (hi pins s σ H _ I h) fun v s1 h1 => thn h1 fun itv s2 h2 => ?_) hs
  obtain ⟨it, fp, tn, J, H2, e, I2, T, st2, f2, W, ⟨m0, w0⟩, turn⟩ := h2
  subst e
  -- what stays true of the iterator's objects through the loop
  have stat : ∀ {H' : Hp}, (∀ b∈fp, H' b=none) → ∀ b∈fp, fz X pins H' b := fun hn b hb => ⟨hn b hb, (f2 b hb).2⟩
  refine codeAny_forLoop_any (fun n s' => ∃ i σ' H', Inv X pins σ' H' s' ∧ tn i s'.heap ∧ (∀ b∈fp, H' b=none) ∧ W i n σ' H') ?_ m0 ⟨0, σ, H2, I2, st2, fun b hb => (f2 b hb).1, w0⟩
  rintro n s3 ⟨i, σ3, H3, I3, st3, fr3, w3⟩
  rcases turn i n σ3 H3 w3 with ⟨stop, qn⟩ | ⟨go, N, hN, step⟩
  · refine w5 hp (thn (T.done X rfl rfl rfl hc i pins s3 σ3 H3 X.xe I3 (stat fr3) st3 stop) fun r s4 zq38 => ?_)
    obtain ⟨hr, I4⟩ := zq38
    subst hr
    exact x8 ⟨σ3, H3, I4, qn⟩
  · refine w5 hp (thn (T.item X rfl rfl rfl hc i pins s3 σ3 H3 X.xe I3 (stat fr3) st3 go) fun r s4 zq39 => ?_)
    obtain ⟨u, hr, h4⟩ := zq39
    subst hr
    refine w5 hp (thn h4 fun _ s5 zq40 => ?_)
    obtain ⟨x, H5, I5, r5, y5, st5, fr5⟩ := zq40
    have I5' := I5.pinned (stat fr5) (T.obj _ _ st5)
    refine w5 hp (thn (hg _ s5 σ3 H5 x u _ I5' r5 (step x H5 y5)) fun _ s6 zq41 => ?_)
    obtain ⟨σ6, H6, I6, q6⟩ := zq41
    refine w5 hp (thn (hb _ s6 σ6 H6 _ I6 q6) fun f s7 q7 => ?_)
    have again : ∀ {σ7 : St} {H7 : Hp}, Inv X (pins++d7 fp s5.heap) σ7 H7 s7 → N σ7 H7 → ∃ m, m < n ∧ ∃ i σ' H', Inv X pins σ' H' s7 ∧ tn i s7.heap ∧ (∀ b∈fp, H' b=none) ∧ W i m σ' H' := fun {σ7 H7} I7 n7 => by
      obtain ⟨m', hm, w7⟩ := hN σ7 H7 n7
      refine ⟨m', hm, i+1, σ7, H7, I7.unpinned, T.keep _ _ _ st5 fun b hb o e => (I7.pin (b, o) (vg _ (vg _ (bo hb e)))).1, fun b hb => ?_, w7⟩
      obtain ⟨o, e, d⟩ := T.obj _ _ st5 b hb
      exact (I7.pin (b, o) (vg _ (vg _ (bo hb e)))).2.1
    cases f with
    | next => obtain ⟨σ7, H7, I7, n7⟩ := q7;exact again I7 n7
    | cont => obtain ⟨σ7, H7, I7, n7⟩ := q7;exact again I7 n7
    | brk => obtain ⟨σ7, H7, I7, q7⟩ := q7;exact ⟨σ7, H7, I7.unpinned, q7⟩
    | ret v => obtain ⟨x7, σ7, H7, I7, r7, q7⟩ := q7;exact ⟨x7, σ7, H7, I7.unpinned, r7, q7⟩
end
theorem iq {K : PySem.W.Frag}{a : Addr}{xs : List V}{g : TG}{tb : TS}{D : fq}{σ : St}{H : Hp}(Pv : Nat → St → Hp → Prop)(h0 : Pv 0 σ H)(hl : ∀ i σ H, i≤xs.length → Pv i σ H → SqL K H a xs)
    (hs : ∀ i x σ H, xs[i]? = some x → Pv i σ H → g x σ H fun σ2 H2 => tb { D with nx := Pv (i+1), ct := Pv (i+1), bk := D.nx } σ2 H2) (hd : ∀ σ H, Pv xs.length σ H → D.nx σ H) :
    ∃ W : Nat → Nat → St → Hp → Prop, (∃ m, W 0 m σ H) ∧ ∀ i m σ H, W i m σ H →
      ((Itl K a).stop i H ∧ D.nx σ H) ∨ ((Itl K a).go i H ∧ ∃ N : St → Hp → Prop, (∀ σ' H', N σ' H' → ∃ m', m' < m ∧ W (i+1) m' σ' H') ∧ ∀ x H', (Itl K a).yld i H x H' → g x σ H' fun σ2 H2 => tb { D with nx := N, ct := N, bk := D.nx } σ2 H2) := by
  refine ⟨fun i m σ H => m=xs.length - i ∧ i≤xs.length ∧ Pv i σ H, ⟨xs.length, by simp, vR _, h0⟩, ?_⟩
  rintro i m σ H ⟨rfl, hi, p⟩
  have q := hl i σ H hi p
  by_cases hlt : i < xs.length
  · refine .inr ⟨⟨xs, xs[i], q, by simp [hlt]⟩, Pv (i+1), fun σ' H' p' => ⟨xs.length - (i+1), by omega, rfl, hlt, p'⟩, fun x H' y => ?_⟩
    obtain ⟨e, y⟩ := y
    subst e
    exact hs i x σ _ (y xs q) p
  · have e : i=xs.length := by omega
    subst e
    exact .inl ⟨⟨xs, q, vd _⟩, hd σ H p⟩
theorem bt {lo : Int}{n : Nat}{g : TG}{tb : TS}{D : fq}{σ : St}{H : Hp}(Pv : Nat → St → Hp → Prop)(h0 : Pv 0 σ H)
    (hs : ∀ i σ H, i < n → Pv i σ H → g (.int (lo+i)) σ H fun σ2 H2 => tb { D with nx := Pv (i+1), ct := Pv (i+1), bk := D.nx } σ2 H2) (hd : ∀ σ H, Pv n σ H → D.nx σ H) :
    ∃ W : Nat → Nat → St → Hp → Prop, (∃ m, W 0 m σ H) ∧ ∀ i m σ H, W i m σ H →
      ((Itr lo n).stop i H ∧ D.nx σ H) ∨ ((Itr lo n).go i H ∧ ∃ N : St → Hp → Prop, (∀ σ' H', N σ' H' → ∃ m', m' < m ∧ W (i+1) m' σ' H') ∧ ∀ x H', (Itr lo n).yld i H x H' → g x σ H' fun σ2 H2 => tb { D with nx := N, ct := N, bk := D.nx } σ2 H2) := by
  refine ⟨fun i m σ H => m=n - i ∧ i≤n ∧ Pv i σ H, ⟨n, by simp, vR _, h0⟩, ?_⟩
  rintro i m σ H ⟨rfl, hi, p⟩
  by_cases hlt : i < n
  · refine .inr ⟨hlt, Pv (i+1), fun σ' H' p' => ⟨n - (i+1), by omega, rfl, hlt, p'⟩, fun x H' y => ?_⟩
    obtain ⟨e, y⟩ := y
    subst e y
    exact hs i σ _ hlt p
  · have e : i=n := by omega
    subst e
    exact .inl ⟨vd _, hd σ H p⟩
abbrev R2 := V → V → Hp → VK → Prop
def OpR (X : Cx)(f : Value → Value → Sem Value)(r : R2) : Prop :=
  ∀ (pins : List (Addr × Obj)) (s : Shared) (σ : St) (H : Hp) (x y : V) (v u : Value) (Q : VK), Inv X pins σ H s → aM x v → aM y u → r x y H Q →
    wpAny (model X.prog X.w) X.A (f v u) (EP X pins σ Q) X.xe s
def UnR (X : Cx)(f : Value → Sem Value)(r : V → Hp → VK → Prop) : Prop :=
  ∀ (pins : List (Addr × Obj)) (s : Shared) (σ : St) (H : Hp) (x : V) (v : Value) (Q : VK), Inv X pins σ H s → aM x v → r x H Q →
    wpAny (model X.prog X.w) X.A (f v) (EP X pins σ Q) X.xe s
def bW (X : Cx)(f : Value)(r : List V → Hp → VK → Prop) : Prop :=
  ∀ (pins : List (Addr × Obj)) (s : Shared) (σ : St) (H : Hp) (xs : List V) (us : List Value) (Q : VK), Inv X pins σ H s → aI xs us → r xs H Q →
    wpAny (model X.prog X.w) X.A (call f us) (EP X pins σ Q) X.xe s
def uM (X : Cx)(r : V → Hp → (Bool → Hp → Prop) → Prop) : Prop :=
  ∀ (pins : List (Addr × Obj)) (s : Shared) (σ : St) (H : Hp) (x : V) (v : Value) (Q : Bool → Hp → Prop), Inv X pins σ H s → aM x v → r x H Q →
    wpAny (model X.prog X.w) X.A (truthy v) (TP X pins σ Q) X.xe s
def qh (r : R2)(Q : VK)(x : V) : V → Hp → Prop := fun y H2 => r x y H2 Q
def qi (r : R2)(tb : TE)(σ : St)(Q : VK) : V → Hp → Prop := fun x H1 => tb σ H1 (qh r Q x)
def tOp (r : R2)(ta tb : TE) : TE := fun σ H Q => ta σ H (qi r tb σ Q)
def qj (r : V → Hp → VK → Prop)(Q : VK) : V → Hp → Prop := fun x H1 => r x H1 Q
def tUn (r : V → Hp → VK → Prop)(ta : TE) : TE := fun σ H Q => ta σ H (qj r Q)
inductive rI (C : Int → Int → Prop)(g : Int → Int → V)(x : V)(y : V)(H : Hp)(Q : VK) : Prop
  | mk : ∀ i j, (x = .int i) → (y = .int j) → (C i j) → (Q (g i j) H) → rI C g x y H Q
inductive rI0 (g : Int → Int → V)(x : V)(y : V)(H : Hp)(Q : VK) : Prop
  | mk : ∀ i j, (x = .int i) → (y = .int j) → (Q (g i j) H) → rI0 g x y H Q
inductive rU (g : Int → V)(x : V)(H : Hp)(Q : VK) : Prop
  | mk : ∀ i, (x = .int i) → (Q (g i) H) → rU g x H Q
section
variable {X : Cx} {a b c : Expr} {ta tb tc : TE} {pos : Pos}
theorem sH (ha : PE X a ta)(hb : PE X b tb){pins : List (Addr × Obj)}{s : Shared}{σ : St}{H : Hp}{R : V → V → Hp → Prop}(I : Inv X pins σ H s)
    (h : ta σ H fun x H1 => tb σ H1 fun y H2 => R x y H2) {Q : Value → Shared → Prop} {f : Value → Value → Sem Value}
    (hf : ∀ v u s2 x y H2, Inv X pins σ H2 s2 → aM x v → aM y u → R x y H2 → wpAny (model X.prog X.w) X.A (f v u) Q X.xe s2) :
    wpAny (model X.prog X.w) X.A (eval a X.env) (fun v s₁ => wpAny (model X.prog X.w) X.A (eval b X.env) (fun u s₂ => wpAny (model X.prog X.w) X.A (f v u) Q X.xe s₂) X.xe s₁) X.xe s := by
  refine thn (ha pins s σ H _ I h) fun v s1 zq42 => ?_
  obtain ⟨x, H1, I1, r1, q1⟩ := zq42
  refine thn (hb pins s1 σ H1 _ I1 q1) fun u s2 zq43 => ?_
  obtain ⟨y, H2, I2, r2, q2⟩ := zq43
  exact hf v u s2 x y H2 I2 r1 r2 q2
theorem aA {op : Operator}{r : R2}(ho : OpR X (binaryOp op) r)(ha : PE X a ta)(hb : PE X b tb) : PE X (.BinOp a op b pos) (tOp r ta tb) := by
  intro pins s σ H Q I h
  exact wpAny_BinOp (sH ha hb I h fun v u s2 x y H2 I2 rx ry q => ho pins s2 σ H2 x y v u Q I2 rx ry q)
theorem qk {op : UnaryOp}{r : V → Hp → VK → Prop}(ho : UnR X (unaryOp op) r)(ha : PE X a ta) : PE X (.UnaryOp op a pos) (tUn r ta) := by
  intro pins s σ H Q I h
  exact UnaryOp_ (thn (ha pins s σ H _ I h) fun v s1 zq44 => (by obtain ⟨x, H1, I1, r1, q1⟩ := zq44;exact ho pins s1 σ H1 x v Q I1 r1 q1))
theorem opI {f : Value → Value → Sem Value}{C : Int → Int → Prop}{g : Int → Int → Int}
    (rule : ∀ (i j : Int) (t u : Tok) (s : Shared) (Q : Value → Shared → Prop) (E : Value → Shared → Prop), C i j → Q (.int (g i j) s.toks) { s with toks := s.toks+1 } → wpAny (model X.prog X.w) X.A (f (.int i t) (.int j u)) Q E s) :
    OpR X f (rI C fun i j => .int (g i j)) := by
  intro pins s σ H x y v u Q I rx ry h
  obtain ⟨i, j, rfl, rfl, hc, q⟩ := h
  obtain ⟨t, rfl⟩ := rx
  obtain ⟨t', rfl⟩ := ry
  exact rule i j t t' s _ _ hc ⟨.int (g i j), H, I.tok _, ⟨_, rfl⟩, q⟩
theorem uc {f : Value → Value → Sem Value}{g : Int → Int → Int}
    (rule : ∀ (i j : Int) (t u : Tok) (s : Shared) (Q : Value → Shared → Prop) (E : Value → Shared → Prop), Q (.int (g i j) s.toks) { s with toks := s.toks+1 } → wpAny (model X.prog X.w) X.A (f (.int i t) (.int j u)) Q E s) :
    OpR X f (rI0 fun i j => .int (g i j)) := by
  intro pins s σ H x y v u Q I rx ry h
  obtain ⟨i, j, rfl, rfl, q⟩ := h
  obtain ⟨t, rfl⟩ := rx
  obtain ⟨t', rfl⟩ := ry
  exact rule i j t t' s _ _ ⟨.int (g i j), H, I.tok _, ⟨_, rfl⟩, q⟩
theorem ud {f : Value → Value → Sem Value}{g : Int → Int → Bool}
    (rule : ∀ (i j : Int) (t u : Tok) (s : Shared) (Q : Value → Shared → Prop) (E : Value → Shared → Prop), Q (.bool (g i j)) s → wpAny (model X.prog X.w) X.A (f (.int i t) (.int j u)) Q E s) :
    OpR X f (rI0 fun i j => .bl (g i j)) := by
  intro pins s σ H x y v u Q I rx ry h
  obtain ⟨i, j, rfl, rfl, q⟩ := h
  obtain ⟨t, rfl⟩ := rx
  obtain ⟨t', rfl⟩ := ry
  exact rule i j t t' s _ _ ⟨.bl (g i j), H, I, rfl, q⟩
def uN (i j : Int) : Prop := 0 < j ∧ j < 1073741824
def uO (i j : Int) : Prop := 0≤j ∧ j≤1000000 ∧ i.natAbs < 2 ^ 64
def sI (i j : Int) : Prop := (-(2 ^ 64) < i ∧ i < 2 ^ 64) ∨ (-(2 ^ 64) < j ∧ j < 2 ^ 64)
theorem sI.ok {i j : Int}(h : sI i j) : IntMulOk i j := by
  rcases h with ⟨h1, h2⟩ | ⟨h1, h2⟩
  · exact .of_left (intBits_le_64 h1 h2)
  · exact .of_right (intBits_le_64 h1 h2)
theorem bJ : OpR X (binaryOp .Add) (rI0 fun i j => .int (i+j)) := uc fun _ _ _ _ _ _ _ q => add_int q
theorem jm : OpR X (binaryOp .Sub) (rI0 fun i j => .int (i - j)) := uc fun _ _ _ _ _ _ _ q => sub_int q
theorem dj : OpR X (binaryOp .Mult) (rI sI fun i j => .int (i*j)) := opI fun _ _ _ _ _ _ _ hc q => mul_int q hc.ok
theorem eC : OpR X (binaryOp .FloorDiv) (rI uN fun i j => .int (i / j)) := opI fun i j _ _ _ _ _ hc q => by
  have h1 : (0 : Int) < j := hc.1
  have h2 : j < 1073741824 := hc.2
  exact floordiv_int (by omega) (by rw [Int.fdiv_eq_ediv_of_nonneg i (by omega)];exact q) (.inl (PyProof.noPylong_small (by omega)))
theorem d8 : OpR X (binaryOp .Mod) (rI (fun _ j => 0 < j) fun i j => .int (i % j)) := opI fun i j _ _ _ _ _ hc q => by
  have h1 : (0 : Int) < j := hc
  exact mod_int' (by omega) (by rw [Int.fmod_eq_emod_of_nonneg i (by omega)];exact q)
theorem ql : OpR X (binaryOp .Pow) (rI uO fun i j => .int (i ^ j.toNat)) := opI fun _ _ _ _ _ _ _ hc q => pow_int_small hc.1 hc.2.1 hc.2.2 q
theorem unI {f : Value → Sem Value}{g : Int → Int}
    (rule : ∀ (i : Int) (t : Tok) (s : Shared) (Q : Value → Shared → Prop) (E : Value → Shared → Prop), Q (.int (g i) s.toks) { s with toks := s.toks+1 } → wpAny (model X.prog X.w) X.A (f (.int i t)) Q E s) :
    UnR X f (rU fun i => .int (g i)) := by
  intro pins s σ H x v Q I rx h
  obtain ⟨i, rfl, q⟩ := h
  obtain ⟨t, rfl⟩ := rx
  exact rule i t s _ _ ⟨.int (g i), H, I.tok _, ⟨_, rfl⟩, q⟩
theorem nK : UnR X (unaryOp .USub) (rU fun i => .int (-i)) := unI fun _ _ _ _ _ q => neg_int q
end
def ue : V → V → Bool
  | .non, .non => true | .non, .int _ => true | .int _, .non => true | .non, .bl _ => true | .bl _, .non => true | .non, .str _ => true | .str _, .non => true
  | .int _, .int _ => true | .bl _, .bl _ => true | .str _, .str _ => true | .byt _, .byt _ => true
  | .int _, .str _ => true | .str _, .int _ => true | .bl _, .str _ => true | .str _, .bl _ => true
  | _, _ => false
def rEq : R2 := fun x y H Q => ue x y=true ∧ Q (.bl (decide (x=y))) H
def rNe : R2 := fun x y H Q => ue x y=true ∧ Q (.bl (!decide (x=y))) H
theorem dec_int {i j : Int} : decide (V.int i=V.int j)=(i == j) := by
  rw [v_]
  simp
theorem nM {i j : Bool} : decide (V.bl i=V.bl j)=(i == j) := by
  rw [v_]
  simp
theorem jn {i j : Str} : decide (V.str i=V.str j)=(i == j) := by
  rw [v_]
  simp
theorem jo {i j : Array UInt8} : decide (V.byt i=V.byt j)=(i.toList == j.toList) := by
  rw [v_]
  cases i
  cases j
  simp
section
variable {X : Cx} {a b c : Expr} {ta tb tc : TE} {pos : Pos}
theorem aE {pins : List (Addr × Obj)}{σ : St}{H : Hp}{s : Shared}{Q : VK}{k k' : Bool}(I : Inv X pins σ H s)(q : Q (.bl k) H)(e : k=k') : EP X pins σ Q (.bool k') s := by
  subst e
  exact ⟨.bl k, H, I, rfl, q⟩
theorem lX : OpR X (compareOp .Eq) rEq := by
  intro pins s σ H x y v u Q I rx ry h
  obtain ⟨hs, q⟩ := h
  cases x with
  | non =>
    cases rx
    cases y with
    | non => cases ry;exact PySem.EqNone.eq_none_none (aE I q (by simp))
    | bl j => cases ry;exact PySem.EqNone.eq_none_bool (aE I q (by simp))
    | int j => obtain ⟨t', rfl⟩ := ry;exact PySem.EqNone.eq_none_int (aE I q (by simp))
    | str j => obtain ⟨t', rfl⟩ := ry;exact PySem.EqNone.eq_none_str (aE I q (by simp))
    | _ => exact absurd (show false=true from hs) vm
  | bl i =>
    cases rx
    cases y with
    | non => cases ry;exact PySem.EqNone.eq_bool_none (aE I q (by simp))
    | bl j => cases ry;exact eq_bool (aE I q nM)
    | str j => obtain ⟨t', rfl⟩ := ry;exact PySem.EqMixed.eq_bool_str (aE I q (by simp))
    | _ => exact absurd (show false=true from hs) vm
  | int i =>
    obtain ⟨t, rfl⟩ := rx
    cases y with
    | non => cases ry;exact PySem.EqNone.eq_int_none (aE I q (by simp))
    | int j => obtain ⟨t', rfl⟩ := ry;exact eq_int (aE I q dec_int)
    | str j => obtain ⟨t', rfl⟩ := ry;exact PySem.EqMixed.eq_int_str (aE I q (by simp))
    | _ => exact absurd (show false=true from hs) vm
  | str i =>
    obtain ⟨t, rfl⟩ := rx
    cases y with
    | non => cases ry;exact PySem.EqNone.eq_str_none (aE I q (by simp))
    | bl j => cases ry;exact PySem.EqMixed.eq_str_bool (aE I q (by simp))
    | int j => obtain ⟨t', rfl⟩ := ry;exact PySem.EqMixed.eq_str_int (aE I q (by simp))
    | str j => obtain ⟨t', rfl⟩ := ry;exact eq_str (aE I q jn)
    | _ => exact absurd (show false=true from hs) vm
  | byt i =>
    obtain ⟨t, rfl⟩ := rx
    cases y with
    | byt j => obtain ⟨t', rfl⟩ := ry;exact PySem.W.eq_bytes (aE I q jo)
    | _ => exact absurd (show false=true from hs) vm
  | _ => cases y <;> exact absurd (show false=true from hs) vm
theorem qm : OpR X (compareOp .NotEq) rNe := by
  intro pins s σ H x y v u Q I rx ry h
  obtain ⟨hs, q⟩ := h
  cases x with
  | non =>
    cases rx
    cases y with
    | non => cases ry;exact PySem.EqNone.ne_none_none (aE I q (by simp))
    | bl j => cases ry;exact PySem.EqNone.ne_none_bool (aE I q (by simp))
    | int j => obtain ⟨t', rfl⟩ := ry;exact PySem.EqNone.ne_none_int (aE I q (by simp))
    | str j => obtain ⟨t', rfl⟩ := ry;exact PySem.EqNone.ne_none_str (aE I q (by simp))
    | _ => exact absurd (show false=true from hs) vm
  | bl i =>
    cases rx
    cases y with
    | non => cases ry;exact PySem.EqNone.ne_bool_none (aE I q (by simp))
    | bl j => cases ry;exact ne_bool (aE I q (v5 not nM))
    | str j => obtain ⟨t', rfl⟩ := ry;exact PySem.EqMixed.ne_bool_str (aE I q (by simp))
    | _ => exact absurd (show false=true from hs) vm
  | int i =>
    obtain ⟨t, rfl⟩ := rx
    cases y with
    | non => cases ry;exact PySem.EqNone.ne_int_none (aE I q (by simp))
    | int j => obtain ⟨t', rfl⟩ := ry;exact ne_int (aE I q (v5 not dec_int))
    | str j => obtain ⟨t', rfl⟩ := ry;exact PySem.EqMixed.ne_int_str (aE I q (by simp))
    | _ => exact absurd (show false=true from hs) vm
  | str i =>
    obtain ⟨t, rfl⟩ := rx
    cases y with
    | non => cases ry;exact PySem.EqNone.ne_str_none (aE I q (by simp))
    | bl j => cases ry;exact PySem.EqMixed.ne_str_bool (aE I q (by simp))
    | int j => obtain ⟨t', rfl⟩ := ry;exact PySem.EqMixed.ne_str_int (aE I q (by simp))
    | str j => obtain ⟨t', rfl⟩ := ry;exact ne_str (aE I q (v5 not jn))
    | _ => exact absurd (show false=true from hs) vm
  | byt i =>
    obtain ⟨t, rfl⟩ := rx
    cases y with
    | byt j => obtain ⟨t', rfl⟩ := ry;exact PySem.W.ne_bytes (aE I q (v5 not jo))
    | _ => exact absurd (show false=true from hs) vm
  | _ => cases y <;> exact absurd (show false=true from hs) vm
theorem sJ : OpR X (compareOp .Lt) (rI0 fun i j => .bl (decide (i < j))) := ud fun _ _ _ _ _ _ _ q => lt_int q
theorem qo : OpR X (compareOp .LtE) (rI0 fun i j => .bl (decide (i≤j))) := ud fun _ _ _ _ _ _ _ q => le_int q
inductive dk  (x : V)(y : V)(H : Hp)(Q : VK) : Prop
  | mk : ∀ i j, (x = .str i) → (y = .str j) → (Q (.bl (!(Builtin.Str.occurrences j i 0 j.length 1).isEmpty)) H) → dk x y H Q
theorem jq : OpR X (compareOp .In) dk := by
  intro pins s σ H x y v u Q I rx ry h
  obtain ⟨i, j, rfl, rfl, q⟩ := h
  obtain ⟨t, rfl⟩ := rx
  obtain ⟨t', rfl⟩ := ry
  exact in_str (aE I q rfl)
theorem bY (b : Expr){op : CmpOp}(h : op ≠ .In := by decide)(h2 : op ≠ .NotIn := by decide) : behindInMarks op b=false := by
  have e1 : (op == CmpOp.In)=false := by cases op <;> first | rfl | exact absurd rfl h
  have e2 : (op == CmpOp.NotIn)=false := by cases op <;> first | rfl | exact absurd rfl h2
  cases b <;> simp [behindInMarks, e1, e2]
theorem jr {op : CmpOp}{r : R2}(ho : OpR X (compareOp op) r)(ha : PE X a ta)(hb : PE X b tb)(hm : behindInMarks op b=false) : PE X (.Compare a [op] [b] pos) (tOp r ta tb) := by
  intro pins s σ H Q I h
  exact wpAny_Compare1 (sH ha hb I h fun v u s2 x y H2 I2 rx ry q => ho pins s2 σ H2 x y v u Q I2 rx ry q) hm
def lY (Q : (Bool → Hp → Prop)) : V → Hp → Prop := fun x H' => IsB x H' Q
def ow (t : TE) : TT := fun σ H Q => t σ H (lY Q)
theorem a_ {op : CmpOp}{r : R2}(ho : OpR X (compareOp op) r)(ha : PE X a ta)(hb : PE X b tb)(hm : behindInMarks op b=false) : PT X (.Compare a [op] [b] pos) (ow (tOp r ta tb)) := by
  intro pins s σ H Q I h
  refine wpAny_isTrue_Compare1 (thn (ha pins s σ H _ I h) fun v s1 ⟨x, H1, I1, r1, q1⟩ => thn (hb pins s1 σ H1 _ I1 q1) fun u s2 ⟨y, H2, I2, r2, q2⟩ =>
    thn (ho pins s2 σ H2 x y v u _ I2 r1 r2 q2) fun c s3 ⟨z, H3, I3, r3, k, e, q3⟩ => ?_) hm
  subst e
  cases r3
  exact wJ ⟨H3, I3, q3⟩
def qp (r r' : R2)(ta tb tc : TE) : TE := fun σ H Q => ta σ H fun x H1 => tb σ H1 fun y H2 => r x y H2 fun z H3 => ∃ k, z = .bl k ∧
  (if k=true then tc σ H3 fun w' H4 => r' y w' H4 Q else Q (.bl false) H3)
theorem lZ {op op' : CmpOp}{r r' : R2}(ho : OpR X (compareOp op) r)(ho' : OpR X (compareOp op') r')(ha : PE X a ta)(hb : PE X b tb)(hc : PE X c tc)
    (hm : lastMarks [op, op'] [b, c]=false := by with_unfolding_all rfl) : PT X (.Compare a [op, op'] [b, c] pos) (ow (qp r r' ta tb tc)) := by
  intro pins s σ H Q I h
  refine isTrue_chain (thn (ha pins s σ H _ I h) fun v s1 ⟨x, H1, I1, r1, q1⟩ => test_link (thn (hb pins s1 σ H1 _ I1 q1) fun u s2 ⟨y, H2, I2, r2, q2⟩ =>
    thn (ho pins s2 σ H2 x y v u _ I2 r1 r2 q2) fun d s3 ⟨z, H3, I3, r3, k, e, q3⟩ => ?_)) hm
  subst e
  cases r3
  refine wJ ?_
  cases k with
  | false =>
    obtain ⟨k', e', q'⟩ := q3
    cases e'
    exact ite_ff ⟨H3, I3, q'⟩
  | true =>
    refine ite_tt (test_last (thn (hc pins s3 σ H3 _ I3 q3) fun w' s4 ⟨z', H4, I4, r4, q4⟩ => thn (ho' pins s4 σ H4 y z' u w' _ I4 r2 r4 q4) fun d' s5 zq46 => ?_))
    obtain ⟨z2, H5, I5, r5, k2, e2, q5⟩ := zq46
    subst e2
    cases r5
    exact wJ ⟨H5, I5, q5⟩
def uP (K : PySem.W.Frag)(x : V)(H : Hp)(k : Bool) : Prop :=
  match x with
  | .non => k=false
  | .bl b => k=b
  | .int i => k=(i != 0)
  | .str y => y.length≤sizeLine ∧ k=((y.length : Int) != 0)
  | .byt y => y.size≤sizeLine ∧ k=((y.size : Int) != 0)
  | .ref p => (∃ xs, SqL K H p xs ∧ k=!xs.isEmpty) ∨ (∃ xs, SqT K H p xs ∧ k=!xs.isEmpty) ∨ ∃ kvs, H p=some (.dK kvs) ∧ k=!kvs.isEmpty
  | _ => False
theorem iV {κ : Type}{kvs : List (κ × V)}{vs : List (κ × Value)}(r : KV kvs vs) : (!vs.isEmpty)=!kvs.isEmpty := by
  cases r <;> rfl
theorem d9 {xs : List V}{its : List Value}(r : aI xs its) : (!its.toArray.isEmpty)=!xs.isEmpty := by
  cases r <;> simp
theorem cI : (sizeLine : Nat) < 2 ^ 63 := by rw [x9]; decide
inductive ox (K : PySem.W.Frag)(x : V)(H : Hp)(Q : Bool → Hp → Prop) : Prop
  | mk : ∀ k, (uP K x H k) → (Q k H) → ox K x H Q
theorem nN : uM X (ox X.K) := by
  intro pins s σ H x v Q I rx h
  obtain ⟨k, e, q⟩ := h
  have hl := cI
  have hs : sizeLine=16777216 := x9
  cases x with
  | non =>
    cases rx
    have e' : k=false := e
    subst e'
    exact truthy_none ⟨H, I, q⟩
  | bl b =>
    cases rx
    have e' : k=b := e
    subst e'
    exact wJ ⟨H, I, q⟩
  | int i =>
    obtain ⟨t, rfl⟩ := rx
    have e' : k=(i != 0) := e
    subst e'
    exact PySem.P.truthy_int ⟨H, I, q⟩
  | str y =>
    obtain ⟨t, rfl⟩ := rx
    obtain ⟨hy, e'⟩ : y.length≤sizeLine ∧ k=((y.length : Int) != 0) := e
    subst e'
    exact PySem.P.truthy_str (by omega) ⟨H, I.tok _, q⟩
  | byt y =>
    obtain ⟨t, rfl⟩ := rx
    obtain ⟨hy, e'⟩ : y.size≤sizeLine ∧ k=((y.size : Int) != 0) := e
    subst e'
    exact PySem.W.truthy_bytes (by omega) ⟨H, I.tok _, q⟩
  | ref p =>
    cases rx
    have e' : (∃ xs, SqL X.K H p xs ∧ k=!xs.isEmpty) ∨ (∃ xs, SqT X.K H p xs ∧ k=!xs.isEmpty) ∨ ∃ kvs, H p=some (.dK kvs) ∧ k=!kvs.isEmpty := e
    rcases e' with ⟨xs, hx, e'⟩ | ⟨xs, hx, e'⟩ | ⟨kvs, hx, e'⟩
    · subst e'
      obtain ⟨its, r, pl, hz⟩ := I.list hx
      have hlen := r.length
      exact wpAny_truthy_list pl.isList (by simp only [vj];omega) ⟨H, I.tok _, by rw [d9 r];exact q⟩
    · subst e'
      obtain ⟨its, r, pl, hz⟩ := I.tuple hx
      have hlen := r.length
      exact truthy_tuple pl (by simp only [vj];omega) ⟨H, I.tok _, by rw [d9 r];exact q⟩
    · subst e'
      obtain ⟨hz, hS, vs, r, m⟩ : kvs.length≤sizeLine ∧ (p == sysModules)=false ∧ ∃ vs, KV kvs vs ∧ s.heap.DictOf (aH X.prog X.w) p vs := I.hok p _ hx
      have hlen : kvs.length=vs.length := wV r
      exact wpAny_truthy_dict hS m (by omega) ⟨H, I.tok _, by rw [iV r];exact q⟩
  | _ => exact (show False from e).elim
def oy (K : PySem.W.Frag)(Q : (Bool → Hp → Prop)) : V → Hp → Prop := fun x H' => ox K x H' Q
def uQ (K : PySem.W.Frag)(ta : TE) : TT := fun σ H Q => ta σ H (oy K Q)
theorem eD (ha : PE X a ta)(he : ∀ whole, isTrue a X.env whole=(do let v ← whole; standAt a.pos; holding [v] (truthy v))) :
    PT X a (uQ X.K ta) := by
  intro pins s σ H Q I h
  exact isTrue_plain (thn (ha pins s σ H _ I h) fun v s1 zq47 => (by obtain ⟨x, H1, I1, r1, q1⟩ := zq47;exact nN pins s1 σ H1 x v Q I1 r1 q1)) (he _)
inductive cU  (x : V)(y : V)(H : Hp)(Q : VK) : Prop
  | mk : ∀ i j, (x = .str i) → (y = .str j) → (i.length+j.length≤sizeLine) → (Q (.str (i++j)) H) → cU x y H Q
theorem aK : OpR X (binaryOp .Add) cU := by
  intro pins s σ H x y v u Q I rx ry h
  obtain ⟨i, j, rfl, rfl, hz, q⟩ := h
  obtain ⟨t, rfl⟩ := rx
  obtain ⟨t', rfl⟩ := ry
  exact add_str (fun t' tk => ⟨.str (i++j), H, I.tok _, ⟨_, rfl⟩, q⟩) hz
theorem bZ {x : V}{us : List Value}(r : aI [x] us) : ∃ u, us=[u] ∧ aM x u := by
  cases r with
  | cons r1 r2 => cases r2;exact ⟨_, rfl, r1⟩
theorem l7 {x y : V}{us : List Value}(r : aI [x, y] us) : ∃ u w', us=[u, w'] ∧ aM x u ∧ aM y w' := by
  cases r with
  | cons r1 r2 =>
    cases r2 with
    | cons r3 r4 => cases r4;exact ⟨_, _, rfl, r1, r3⟩
inductive dm  (xs : List V)(H : Hp)(Q : VK) : Prop
  | mk : ∀ i j, (xs=[.int i, .int j]) → (Q (.int (if j > i then j else i)) H) → dm xs H Q
theorem js (hc : X.calm=true) : bW X (.builtin "max") dm := by
  intro pins s σ H xs us Q I r h
  obtain ⟨i, j, rfl, q⟩ := h
  obtain ⟨u, w', rfl, ⟨t, rfl⟩, ⟨t', rfl⟩⟩ := l7 r
  refine max_two_ints (I.ok.hd hc) fun h' tk k => ⟨_, H, I.kept k, ?_, q⟩
  by_cases hj : j > i
  · rw [if_pos hj, if_pos hj];exact ⟨_, rfl⟩
  · rw [if_neg hj, if_neg hj];exact ⟨_, rfl⟩
theorem jt : bW X (.type "int") (fun xs H Q => (∃ i, xs=[.int i] ∧ Q (.int i) H) ∨ ∃ k, xs=[.bl k] ∧ Q (.int (if k then 1 else 0)) H) := by
  intro pins s σ H xs us Q I r h
  rcases h with ⟨i, rfl, q⟩ | ⟨k, rfl, q⟩
  · obtain ⟨u, rfl, t, rfl⟩ := bZ r
    exact call_int_int ⟨.int i, H, I, ⟨_, rfl⟩, q⟩
  · obtain ⟨u, rfl, r1⟩ := bZ r
    cases r1
    exact call_int_bool ⟨.int (if k then 1 else 0), H, I.tok _, ⟨_, rfl⟩, q⟩
end
structure sL (h : Heap) (x dx C : Addr) (mA : Str → Option Value) : Prop where
  obj : h.get? x=some (PySem.W.instObj C dx)
  ns : h.Ns1 dx mA
  ne : dx≠x
theorem ju {h : Heap}{dx : Addr}{mA : Str → Option Value}(n : h.Ns1 dx mA) : ∃ od, h.get? dx=some od ∧ ∀ name, PySem.W.lookIn name od=some (mA name) := by
  obtain ⟨o, es, ep, ho, hd, hk, _, hm⟩ := n
  refine ⟨o, ho, fun name => ?_⟩
  have e := hm name
  unfold nsFind findBy at e
  rw [← Array.find?_toList] at e
  unfold PySem.W.lookIn
  rw [hd]
  dsimp only
  split
  · rename_i y q
    rw [q] at e
    exact v5 some e
  · rename_i q
    rw [q] at e
    have a : es.toList.any (·.refKey)=false := by
      rw [yC]
      intro y hy
      obtain ⟨z, t, hkey⟩ := hk y (Array.mem_toList_iff.mp hy)
      simp [DictEntry.refKey, hkey]
    have a' : ¬ es.toList.any (·.refKey)=true := by rw [a];exact vm
    rw [if_neg a']
    exact v5 some e
theorem sL.look {h : Heap}{x dx C : Addr}{mA : Str → Option Value}(I : sL h x dx C mA) : ∃ od, PySem.W.InstAt h x (PySem.W.instObj C dx) C (some od) ∧ ∀ name, PySem.W.lookIn name od=some (mA name) :=
  let ⟨od, ho, hl⟩ := ju I.ns
  ⟨od, ⟨I.obj, rfl, rfl, ho⟩, hl⟩
section
variable {prog : Program} {w : World} {A : Around} {E : Value → Shared → Prop} {s : Shared} {K : PySem.W.Frag} {x dx C f : Addr} {mA : Str → Option Value} {name : Str} {v : Value}
end
theorem ie.some_of {v : V}{o : Option Value}(r : ie (some v) o) : ∃ u, o=some u ∧ aM v u := by
  cases o with
  | none => exact (show False from r).elim
  | some u => exact ⟨u, rfl, r⟩
section
variable {P : Program} {w : World} {H H' : Hp} {h h' : Heap} {a C dx : Addr} {fs fs' : List (Str × V)}
theorem oz (hok : HOk P w H h)(e : H a=some (.ins C dx fs)) : ∃ mA, sL h a dx C mA ∧ (∀ f, ie (fs.lookup f) (mA f)) ∧ PySem.Within mA (fs.map (·.1)) ∧ fs.length≤1000 ∧ H dx=some (.own a) := by
  obtain ⟨d, z, ne, ob, mA, n, r, q⟩ := (show aW P w H h a (.ins C dx fs) from hok a _ e)
  exact ⟨mA, ⟨ob, n, ne⟩, r, q, z, d⟩
end
structure Cls (K : PySem.W.Frag) (C : Addr) : Prop where
  pg : PySem.W.plainGet K C Str.empty=true
  hd : PySem.W.hasDictIn K C=true
  po : PySem.W.plainOver K C=true
  sa : PySem.W.findIn K (.ref C) "__setattr__" = some (some (.builtin "object.__setattr__"))
theorem Cls.get {K : PySem.W.Frag}{C : Addr}(c : Cls K C)(f : Str) : PySem.W.plainGet K C f=true := c.pg
section
variable {X : Cx} {pins : List (Addr × Obj)} {σ : St} {H : Hp} {s : Shared} {a C dx : Addr} {fs : List (Str × V)} {f : Str} {v : V} {A : Around} {E : Value → Shared → Prop}
end
section
variable {X : Cx} {o e value : Expr} {f : Str} {pos pos' tpos : Pos} {ta tv : TE}
end
section
variable {X : Cx} {pins : List (Addr × Obj)} {σ : St} {H : Hp} {s : Shared} {A : Around} {E : Value → Shared → Prop} {Q : Value → Shared → Prop} {c : Value} {b : Bool}
inductive iW (K : PySem.W.Frag)(H : Hp) : V → Value → Prop where
  | non : iW K H .non (.type "NoneType")
  | bl (x : Bool) : iW K H (.bl x) (.type "bool")
  | int (i : Int) : iW K H (.int i) (.type "int")
  | str (x : Str) : iW K H (.str x) (.type "str")
  | flt (x : UInt64) : iW K H (.flt x) (.type "float")
  | lst {a : Addr} {xs : List V} (e : H a=some (.lst xs)) : iW K H (.ref a) (.type "list")
  | frz {a : Addr} {o : Obj} {xs : List V} (e : H a=some (.frz o (.lst xs))) : iW K H (.ref a) (.type "list")
  | tup {a : Addr} {xs : List V} (e : H a=some (.tup xs)) : iW K H (.ref a) (.type "tuple")
  | dK {a : Addr} {kvs : List (Key × V)} (e : H a=some (.dK kvs)) : iW K H (.ref a) (.type "dict")
  | dT {a : Addr} {kvs : List (List Key × V)} (e : H a=some (.dT kvs)) : iW K H (.ref a) (.type "dict")
  | ins {a C dx : Addr} {fs : List (Str × V)} (e : H a=some (.ins C dx fs)) (cl : Cls K C) (ha : PySem.W.findIn K (.ref C) "__class__" = some (some (.builtin "object.__class__")))
      (hn : PySem.W.specialIn K (.builtin "object.__class__") "__get__" = some (some (.builtin "getset_descriptor.__get__"))) (htk : PySem.W.takesIn K (.builtin "object.__class__")=some true)
      (hm : PySem.W.mroIn K C (.type "object")=some true) : iW K H (.ref a) (.ref C)
theorem jv {x : V}{u t : Value}(I : Inv X pins σ H s)(rx : aM x u)(ty : iW X.K H x t)(e : PySem.W.kitOne X.K t c=some b)(h : ∀ tk, Q (.bool b) { s with toks := tk }) :
    wpAny (model X.prog X.w) A (call (.builtin "isinstance") [u, c]) Q E s := by
  cases ty with
  | non => cases (show u=Value.none from rx);exact wo PySem.W.kitx_none I.kIn True.intro e (fun z => nomatch z) h
  | bl y => cases (show u=Value.bool y from rx);exact wo PySem.W.kitx_bool I.kIn True.intro e (fun z => nomatch z) h
  | int i => obtain ⟨t, q⟩ := (show ∃ t, u=Value.int i t from rx);cases q;exact wo PySem.W.kitx_int I.kIn True.intro e (fun z => nomatch z) h
  | str y => obtain ⟨t, q⟩ := (show ∃ t, u=Value.str y t from rx);cases q;exact wo PySem.W.kitx_str I.kIn True.intro e (fun z => nomatch z) h
  | flt y => obtain ⟨t, q⟩ := (show ∃ t, u=Value.float y t from rx);cases q;exact wo PySem.W.kitx_float I.kIn True.intro e (fun z => nomatch z) h
  | @lst a xs ea =>
    cases (show u=Value.ref a from rx)
    obtain ⟨_, _, n, _, h1⟩ := (show aW X.prog X.w H s.heap a (.lst xs) from I.hok a _ ea)
    exact wo PySem.W.kitx_list I.kIn ⟨_, h1, rfl⟩ e (fun z => nomatch z) h
  | @frz a ob xs ea =>
    cases (show u=Value.ref a from rx)
    obtain ⟨_, _, _, n, _, h1⟩ := (show aW X.prog X.w H s.heap a (.frz ob (.lst xs)) from I.hok a _ ea)
    exact wo PySem.W.kitx_list I.kIn ⟨_, h1, rfl⟩ e (fun z => nomatch z) h
  | @tup a xs ea =>
    cases (show u=Value.ref a from rx)
    obtain ⟨_, _, _, p, _⟩ := (show aW X.prog X.w H s.heap a (.tup xs) from I.hok a _ ea)
    obtain ⟨o, h1, h2, _⟩ := p
    exact wo PySem.W.kitx_tuple I.kIn ⟨o, h1, h2⟩ e (fun z => nomatch z) h
  | @dK a kvs ea =>
    cases (show u=Value.ref a from rx)
    obtain ⟨_, _, vs, _, p⟩ := (show aW X.prog X.w H s.heap a (.dK kvs) from I.hok a _ ea)
    obtain ⟨o, es, ep, h1, h2, _⟩ := p
    exact wo PySem.W.kitx_dict I.kIn ⟨o, h1, h2.1⟩ e (fun z => nomatch z) h
  | @dT a kvs ea =>
    cases (show u=Value.ref a from rx)
    obtain ⟨_, _, xs, _, o, es, ep, h1, h2, _⟩ := (show aW X.prog X.w H s.heap a (.dT kvs) from I.hok a _ ea)
    exact wo PySem.W.kitx_dict I.kIn ⟨o, h1, h2.1⟩ e (fun z => nomatch z) h
  | @ins a C dx fs ea cl ha hn htk hm =>
    cases (show u=Value.ref a from rx)
    obtain ⟨mA, O, _⟩ := oz I.hok ea
    obtain ⟨od, J, _⟩ := O.look
    exact wo (PySem.W.kitx_own (cl.get _) cl.hd ha hn htk hm) I.kIn J e (fun z => nomatch z) h
end
structure d_ (k : Nat) (A : Around) : Prop where
  hd : A.handled=none
  dp : A.depth+3*k+5 < recursionLimit
  un : A.units+16*k+200 < cLine
  gd : A.guards=some []
theorem d_.mono {j k : Nat}{A : Around}(r : d_ k A)(h : j≤k) : d_ j A := ⟨r.hd, by have := r.dp; omega, by have := r.un; omega, r.gd⟩
theorem d_.deeper {k : Nat}{A : Around}(r : d_ (k+1) A)(env : Env) : d_ k (A.deeper env) :=
  ⟨r.hd, by have := r.dp;show A.depth+1+3*k+5 < _;omega, by have := r.un;show A.units+3+16*k+200 < _;omega, r.gd⟩
theorem d_.depth {k : Nat}{A : Around}(r : d_ k A) : A.depth < recursionLimit := by have := r.dp; omega
theorem d_.units {k : Nat}{A : Around}(r : d_ k A) : A.units+64 < cLine := by have := r.un; omega
def uR : TA := fun _ H Q => Q [] H
def l8 (Q : (List V → Hp → Prop))(x : V) : List V → Hp → Prop := fun xs H2 => Q (x::xs) H2
def l9 (tr : TA)(σ : St)(Q : (List V → Hp → Prop)) : V → Hp → Prop := fun x H1 => tr σ H1 (l8 Q x)
def sM (ta : TE)(tr : TA) : TA := fun σ H Q => ta σ H (l9 tr σ Q)
section
variable {X : Cx} {e : Expr} {es : List Expr} {te : TE} {t : TA} {pos : Pos}
theorem af : PA X [] uR := fun _ _ _ _ H Q I h => Calls.spliced_nil ⟨[], H, I, .nil, h⟩
theorem aa (ha : PE X e te)(hr : PA X es t)(hs : starEach (e::es) X.env=(false, eval e X.env)::starEach es X.env := by rfl) : PA X (e::es) (sM te t) := by
  intro pos pins s σ H Q I h
  rw [hs]
  show wpAny _ _ (spliced ((false, eval e X.env)::backTo pos (starEach es X.env))) _ _ s
  refine yp (thn (ha pins s σ H _ I h) fun u s1 zq54 => ?_)
  obtain ⟨x, H1, I1, r1, q1⟩ := zq54
  exact thn (hr pos pins s1 σ H1 _ I1 q1) fun us s2 zq55 => (by obtain ⟨xs, H2, I2, r2, q2⟩ := zq55;exact ⟨x::xs, H2, I2, .cons r1 r2, q2⟩)
def oA (Q : VK) : List V → Hp → Prop := fun xs H1 => xs.length≤sizeLine ∧ ∀ p, H1 p=none → Q (.ref p) (upd H1 p (.tup xs))
def uS (t : TA) : TE := fun σ H Q => t σ H (oA Q)
def oB (Q : VK) : List V → Hp → Prop := fun xs H1 => xs.length≤sizeLine ∧ ∀ p, H1 p=none → Q (.ref p) (upd H1 p (.lst xs))
def uT (t : TA) : TE := fun σ H Q => t σ H (oB Q)
theorem qq {x1}(h : PA X es t) : PE X (.Tuple es x1 pos) (uS t) := by
  intro pins s σ H Q I hq
  refine wpAny_Tuple_spliced (thn (h pos pins s σ H _ I hq) fun us s1 ⟨xs, H1, I1, r, z, q⟩ => ⟨by rw [← r.length];exact z, ?_⟩)
  have hf : H1 s1.heap.objs.size=none := I1.hok.fresh (vd _)
  refine ⟨.ref s1.heap.objs.size, upd H1 s1.heap.objs.size (.tup xs), I1.laid (t' := s1.toks) (fun b u e => u_ _ e) (vd _) ?_, rfl, q _ hf⟩
  exact ⟨z, us, r, ⟨_, vi _ rfl, rfl, _, rfl⟩, .new _ _ rfl⟩
theorem bC (h : PA X es t) : PE X (.List es pos) (uT t) := by
  intro pins s σ H Q I hq
  refine wpAny_List_spliced (thn (h pos pins s σ H _ I hq) fun us s1 ⟨xs, H1, I1, r, z, q⟩ => ⟨by rw [← r.length];exact z, ?_⟩)
  have hf : H1 s1.heap.objs.size=none := I1.hok.fresh (vd _)
  refine ⟨.ref s1.heap.objs.size, upd H1 s1.heap.objs.size (.lst xs), I1.laid (t' := s1.toks) (fun b u e => u_ _ e) (vd _) ?_, rfl, q _ hf⟩
  exact ⟨z, us, 0, r, vi _ rfl⟩
end
abbrev Sp := List V → Hp → VK → XK → Prop
abbrev CXT := List Env → Hp → Shared → XK → Value → Shared → Prop
structure se (P : Program) (w : World) (K : PySem.W.Frag) (mg : Str → Option Value) (base : Heap) (A : Around) (outer : List Env) (s : Shared) (H : Hp) : Prop where
  frames : A.frames=some outer
  mod : Mod K mg base
  bs : ∀ b o, base.get? b=some o → s.heap.get? b=some o ∧ H b=none
  bsz : base.objs.size≤s.heap.objs.size
  funs : s.heap.FunFrames base outer
  frf : ∀ b∈frs outer, H b=none
  hok : HOk P w H s.heap
  bare : AllBare s.gens
def CE (outer : List Env)(P : Program)(w : World)(H : Hp)(s : Shared)(Q : VK)(u : Value)(s' : Shared) : Prop :=
  ∃ v H', s'.os=s.os ∧ AllBare s'.gens ∧ Un (frs outer) [] H H' s.heap s'.heap ∧ HOk P w H' s'.heap ∧ aM v u ∧ Q v H'
def CR (CX : CXT)(outer : List Env)(P : Program)(w : World)(H : Hp)(s : Shared)(Q : VK)(E : XK)(r : Result)(s' : Shared) : Prop :=
  match r with
  | .ok (.ret u) => CE outer P w H s Q u s'
  | .ok _ => False
  | .error e => CX outer H s E e s'
structure lM (P : Program) (w : World) (K : PySem.W.Frag) (mg : Str → Option Value) (base : Heap) (CX : CXT) (k : Nat) (f : Addr) (fd : FuncData) (ps : List Str) (sp : Sp) : Prop where
  len : ∀ vs H Q E, sp vs H Q E → vs.length=ps.length
  run : ∀ (A : Around) (outer : List Env) (s : Shared) (H : Hp) (args : Args) (us : List Value) (vs : List V) (Q : VK) (E : XK), d_ k A → se P w K mg base A outer s H → BindsTo s fd args (ps.zip us) → aI vs us → sp vs H Q E →
    codeAny (model P w) A (.call (.ref f) args) (CR CX outer P w H s Q E) s
section
variable {X : Cx} {pins : List (Addr × Obj)} {σ : St} {H : Hp} {s s' : Shared}
theorem Inv.env0 (I : Inv X pins σ H s) : se X.prog X.w X.K X.mg X.base X.A X.stack s H :=
  ⟨I.ok.frames, I.ok.mod, I.bs, vI I.ok.bsz I.sz, I.stack, I.stkFree, I.hok, I.bare⟩
theorem Inv.after {Q : VK}{u : Value}(I : Inv X pins σ H s)(h : CE X.stack X.prog X.w H s Q u s') : EP X pins σ Q u s' := by
  obtain ⟨v, H', os, bare, un, hok, r, q⟩ := h
  obtain ⟨hh, g, d, t, os'⟩ := s'
  obtain rfl : os'=s.os := os
  exact ⟨v, H', I.call (h' := hh) (g' := g) (d' := d) (t' := t) (ch := []) un hok bare (fun b z => absurd z (by simp)), r, q⟩
end
def l_ (sp : Sp)(dvs : List V)(E : XK)(Q : VK) : List V → Hp → Prop := fun vs H1 => sp (vs++dvs) H1 Q E
def qr (sp : Sp)(dvs : List V)(E : XK)(t : TA) : TE := fun σ H Q => t σ H (l_ sp dvs E Q)
def iX (K : PySem.W.Frag)(fd : FuncData)(ps : List Str)(ds : List Value) : Prop :=
  ∀ (s : Shared) (us : List Value), K.In s.heap → (us++ds).length=ps.length → BindsTo s fd ⟨us, []⟩ (ps.zip (us++ds))
theorem iX.all {K : PySem.W.Frag}{fd : FuncData}{ps : List Str}(h : ∀ us : List Value, us.length=ps.length → bindArgs fd ⟨us, []⟩=pure (ps.zip us)) : iX K fd ps [] := fun s us _ hl => by
  rw [List.append_nil] at hl ⊢
  exact .of_eq (h us hl)
def jw (CX : CXT)(X : Cx)(E : XK) : Prop := ∀ (pins : List (Addr × Obj)) (σ : St) (H : Hp) (s : Shared) (e : Value) (s' : Shared), Inv X pins σ H s → CX X.stack H s E e s' → X.xe e s'
section
variable {X : Cx} {CX : CXT} {k : Nat} {f C : Addr} {fd : FuncData} {ps : List Str} {sp : Sp} {dvs : List V} {ds : List Value} {E : XK} {x m : Str} {p pos apos : Pos} {e o : Expr} {es : List Expr} {ta : TE} {t : TA}
theorem qt {pins : List (Addr × Obj)}{σ : St}{H : Hp}{s : Shared}{Q : VK}{us : List Value}{vs : List V}(F : lM X.prog X.w X.K X.mg X.base CX k f fd ps sp)(hr : d_ k X.A)(hb : iX X.K fd ps ds)(hd : aI dvs ds)(hx : jw CX X E)
    (I : Inv X pins σ H s) (r : aI vs us) (h : sp (vs++dvs) H Q E) : wpAny (model X.prog X.w) X.A (call (.ref f) us) (EP X pins σ Q) X.xe s := by
  have r2 : aI (vs++dvs) (us++ds) := r.append hd
  have hl : (us++ds).length=ps.length := by rw [← r2.length];exact F.len _ _ _ _ h
  refine wpAny_call (codeAny_mono (F.run X.A X.stack s H ⟨us, []⟩ (us++ds) (vs++dvs) Q E hr I.env0 (hb s us I.kIn hl) r2 h) fun r s' hq => ?_)
  cases r with
  | error e => exact hx pins σ H s e s' I hq
  | ok fl =>
    cases fl with
    | ret u => exact I.after hq
    | next => exact False.elim hq
    | brk => exact False.elim hq
    | cont => exact False.elim hq
theorem oD (F : lM X.prog X.w X.K X.mg X.base CX k f fd ps sp)(hr : d_ k X.A)(hg : Gl X x)(hm : X.mg x=some (.ref f))(hk : PySem.W.keepIn X.K (.ref f)=true)(hb : iX X.K fd ps ds)(hd : aI dvs ds)(hx : jw CX X E)
    (ha : PA X (e::es) t) (hdb : (x == ("__debug__" : Str))=false := by decide) (he : starEach (e::es) X.env=(false, eval e X.env)::starEach es X.env := by rfl) (hpl : (backTo pos (starEach es X.env)).any (·.1)=false := by rfl) :
    PE X (.Call (.Name x p) (e::es) [] pos) (qr sp dvs E t) := by
  intro pins s σ H Q I h
  refine yq (gF I hg hm ?_ hdb)
  refine PySem.W.callWith_K (h₀ := X.base) I.ok.mod.kin hk (thn (ha pos pins s σ H _ I h) fun us s1 ⟨vs, H1, I1, r, q⟩ => ⟨I1.kIn, ?_⟩) he hpl
  exact qt F hr hb hd hx I1 r q
end
section
variable {X : Cx} {CX : CXT} {k : Nat} {f C : Addr} {fd : FuncData} {ps ks : List Str} {sp : Sp} {E : XK} {x m : Str} {p pos apos kpos : Pos} {e o : Expr} {es : List Expr} {kws : List Keyword} {te ta : TE} {t tk : TA} {nm : Option Str}
variable {g : List Value → List Value → List Value} {gV : List V → List V → List V}
end
structure aC (N P : List Str) (sc : Scope) : Prop where
  kind : sc.kind = .function
  co : sc.isCoroutine=false
  gen : sc.isGenerator=false
  nd : N.Nodup
  pre : N.take P.length=P
  par : ∀ x∈P, sc.names.lookup x=some .local ∨ sc.names.lookup x=some .cell
  nofree : ∀ y∈sc.names, y.2 ≠ .free
theorem fA {kindOf : Str → Option NameKind}{x : Str} : ∀ {binds : List (Str × Value)} {m : Str → Option Value}, (∀ v, (x, v)∉binds) → bindL kindOf binds m x=m x
  | [], _, _ => rfl
  | (n, v)::r, m, h => by
    unfold bindL
    rw [fA fun w hw => h w (vq _ hw)]
    split
    · have : x≠n := by rintro rfl;exact h v vz
      simp [this]
    · rfl
theorem fB {kindOf : Str → Option NameKind}{x : Str} : ∀ {binds : List (Str × Value)} {m : Str → Option Value}, (∀ v, (x, v)∉binds) → bindC kindOf binds m x=m x
  | [], _, _ => rfl
  | (n, v)::r, m, h => by
    unfold bindC
    rw [fB fun w hw => h w (vq _ hw)]
    split
    · rfl
    · have : x≠n := by rintro rfl;exact h v vz
      simp [this]
theorem fC {kindOf : Str → Option NameKind}{x : Str}{v : Value} : ∀ {P : List Str} {vs : List Value} {i : Nat} {m : Str → Option Value}, P.Nodup → P[i]? = some x → vs[i]? = some v → kindOf x=some .local →
    bindL kindOf (P.zip vs) m x=some v
  | [], _, _, _, _, h, _, _ => by simp at h
  | _::_, [], _, _, _, _, h, _ => by simp at h
  | p::P, w::vs, 0, m, nd, h1, h2, hk => by
    simp at h1 h2;subst h1;subst h2
    show bindL kindOf ((p, w)::P.zip vs) m p=_
    unfold bindL
    rw [fA fun v hv => (vZ.mp nd).1 (y8 hv).1, if_pos hk]
    simp
  | p::P, w::vs, i+1, m, nd, h1, h2, hk => by
    show bindL kindOf ((p, w)::P.zip vs) m x=_
    unfold bindL
    exact fC (i := i) (vZ.mp nd).2 (by simpa using h1) (by simpa using h2) hk
theorem fD {kindOf : Str → Option NameKind}{x : Str}{v : Value} : ∀ {P : List Str} {vs : List Value} {i : Nat} {m : Str → Option Value}, P.Nodup → P[i]? = some x → vs[i]? = some v → kindOf x≠some .local →
    bindC kindOf (P.zip vs) m x=some v
  | [], _, _, _, _, h, _, _ => by simp at h
  | _::_, [], _, _, _, _, h, _ => by simp at h
  | p::P, w::vs, 0, m, nd, h1, h2, hk => by
    simp at h1 h2;subst h1;subst h2
    show bindC kindOf ((p, w)::P.zip vs) m p=_
    unfold bindC
    rw [fB fun v hv => (vZ.mp nd).1 (y8 hv).1, if_neg hk]
    simp
  | p::P, w::vs, i+1, m, nd, h1, h2, hk => by
    show bindC kindOf ((p, w)::P.zip vs) m x=_
    unfold bindC
    exact fD (i := i) (vZ.mp nd).2 (by simpa using h1) (by simpa using h2) hk
def start (N : List Str)(vs : List V) : St := vs.map some++List.replicate (N.length - vs.length) none
def oE (CX : CXT)(P : Program)(w : World)(K : PySem.W.Frag)(mg : Str → Option Value)(base : Heap)(N : List Str)(qual : Str)(scope : Scope)(f : Addr)(cd : Value)(A : Around)(outer : List Env)(s : Shared)(H : Hp)(E : XK) : Cx where
  prog := P
  w := w
  K := K
  mg := mg
  base := base
  A := A.deeper (envOfC qual scope s.heap.objs.size f cd)
  N := N
  s₀ := s
  H₀ := H
  env := envOfC qual scope s.heap.objs.size f cd
  outer := outer
  stack := envOfC qual scope s.heap.objs.size f cd::outer
  ex := []
  calm := true
  fn := fun _ => true
  pn := []
  xe := fun e s' => wpAny (model P w) (A.deeper (envOfC qual scope s.heap.objs.size f cd)) (leaving (envOfC qual scope s.heap.objs.size f cd) e) (fun _ s'' => CX outer H s E e s'') (fun e' s'' => CX outer H s E e' s'') s'
theorem ir {sc : Scope}{n : Nat}{x : Str}(h : sc.names.lookup x=some .cell) : ∃ c, (cellsFrom n sc.names []).lookup x=some c := by
  have q := y0 sc.names n [] (.inl h)
  exact yD.mp q
theorem jx {CX : CXT}{P : Program}{w : World}{K : PySem.W.Frag}{mg : Str → Option Value}{base : Heap}{N ps : List Str}{qual : Str}{scope : Scope}{f : Addr}{cd : Value}{A : Around}{outer : List Env}{s s1 : Shared}{H : Hp}{E : XK}{us : List Value}{vs : List V}
    (S : aC N ps scope) (hd : A.handled=none) (e0 : se P w K mg base A outer s H) (hl : vs.length=ps.length) (r : aI vs us)
    (x : InCallC s s.heap.objs.size (bindL (envOfC qual scope s.heap.objs.size f cd).kindOf (ps.zip us) fun _ => none) (cellsFrom (s.heap.objs.size+1) scope.names []) (bindC (envOfC qual scope s.heap.objs.size f cd).kindOf (ps.zip us) fun _ => none) s1) :
    Inv (oE CX P w K mg base N qual scope f cd A outer s H E) [] (start N vs) H s1 := by
  have hpl : ps.length≤N.length := by have := v5 List.length S.pre;rw [vC] at this;omega
  obtain ⟨h1, tk, rfl, hk⟩ := x.done
  have noA : ∀ b : Addr, b∉(oE CX P w K mg base N qual scope f cd A outer s H E).ex := fun b z => absurd (show b∈([] : List Addr) from z) (by simp)
  refine ⟨⟨e0.mod, S.kind, rfl, rfl, vd _, fun y z c h1 h2 => ?_, fun y hy => ?_, fun y c _ h => ?_, fun _ => hd, Around.frames_deeper e0.frames, .inr ⟨rfl, rfl⟩, fun b z => absurd z (noA b), e0.bs, e0.bsz, fun b _ _ => noA b, fun b z => absurd z (noA b), e0.funs, e0.frf⟩,
    rfl, e0.bare, Un.kept hk, ⟨_, x.toInCall.ns, fun i y v h1 h2 h3 => ?_⟩, fun y c h => ⟨_, x.cell y c h⟩, e0.hok.fresh (vd _), fun y c h => ?_, fun p hp => absurd (show p∈([] : List (Addr × Obj)) from hp) (by simp), e0.hok.kept hk, ?_⟩
  · exact name_of_addr x.apart (wb h1) (wb h2)
  · have hy : scope.names.lookup y=some .cell ∨ scope.names.lookup y=some .free := hy
    rcases hy with hy | hy
    · exact ir hy
    · exact absurd rfl (S.nofree _ (wb hy))
  · exact y7 (x.above y c (wb h))
  · have hi : i < vs.length := by
      unfold start at h2
      by_cases hi : i < vs.length
      · exact hi
      · rw [vW (by simpa using hi)] at h2
        rw [yP] at h2
        split at h2 <;> cases h2
    have ha : vs[i]? = some v := by
      unfold start at h2
      rw [wq (by simpa using hi), vo] at h2
      cases e : vs[i]? with
      | none => rw [e] at h2;cases h2
      | some a => rw [e] at h2;cases h2;rfl
    obtain ⟨u, hu, rv⟩ := r.get ha
    have hp : ps[i]? = some y := by
      rw [← S.pre, List.getElem?_take_of_lt (by omega)];exact h1
    have ndP : ps.Nodup := by rw [← S.pre];exact S.nd.sublist (List.take_sublist _ _)
    refine ⟨u, rv, ?_⟩
    rcases S.par y (vD hp) with k | k
    · exact .inl ⟨k, fC ndP hp hu k⟩
    · obtain ⟨c, e⟩ := ir (n := s.heap.objs.size+1) k
      refine .inr ⟨.inl k, c, e, ?_⟩
      have q := x.cell y c e
      rw [fD ndP hp hu (by show scope.names.lookup y≠_;rw [k];decide)] at q
      exact q
  · exact e0.hok.fresh (y7 (x.above y c (wb h)))
  · unfold start
    show _=N.length
    rw [vb, fu, xg]
    omega
theorem sO {CX : CXT}{P : Program}{w : World}{K : PySem.W.Frag}{mg : Str → Option Value}{base : Heap}{k : Nat}{f : Addr}{name qual : Str}{params : Arguments}{body : List Stmt}{scope : Scope}{dV kV doc pm cdv ct oc : Value}{an od : Option Addr}
    {osl : Array (Option Value)} {N ps : List Str} {sp : Sp} (lk : K.lookup f=some ⟨oc, od, .func (PySem.W.fnOf name qual params body scope dV kV doc pm an cdv ct), osl⟩) (hcd : PySem.W.codeIn K cdv qual=true) (S : aC N ps scope)
    (len : ∀ vs H Q E, sp vs H Q E → vs.length=ps.length)
    (hbody : ∀ (A : Around) (outer : List Env) (s : Shared) (H : Hp) (vs : List V) (Q : VK) (E : XK), d_ k (A.deeper (envOfC qual scope s.heap.objs.size f cdv)) → sp vs H Q E →
      ∃ t, PSs (oE CX P w K mg base N qual scope f cdv A outer s H E) body t ∧ t { nx := fun _ H' => Q .non H', rt := Q } (start N vs) H) :
    lM P w K mg base CX (k+1) f (PySem.W.fnOf name qual params body scope dV kV doc pm an cdv ct) ps sp := by
  refine ⟨len, fun A outer s H args us vs Q E hr e0 hb r hsp => ?_⟩
  have hl := len _ _ _ _ hsp
  have KX : K.In s.heap := e0.mod.kin.keeps fun b o e => (e0.bs b o e).1
  have lim : s.heap.NoLimit := e0.mod.nolimit.keeps fun b o e => (e0.bs b o e).1
  have hkind : ∀ y∈ps.zip us, scope.names.lookup y.1=some .local ∨ (scope.names.lookup y.1=some .cell ∧ ((cellsFrom (s.heap.objs.size+1) scope.names []).lookup y.1).isSome=true) := fun ⟨n, v⟩ hy => by
    rcases S.par n (y8 hy).1 with q | q
    · exact .inl q
    · exact .inr ⟨q, y0 _ _ _ (.inl q)⟩
  refine codeAny_call_function hr.depth (KX _ _ lk) rfl S.co S.gen rfl (PySem.W.codeRec_of KX hcd) (hb _ _ _ _ ?_)
  refine wpAny_newFunctionEnv_cells S.kind hkind fun env he s1 x => ?_
  subst he
  refine ⟨lim.keeps x.toInCall.keep, codeAny_func ?_⟩
  obtain ⟨t, ht, hq⟩ := hbody A outer s H vs Q E (hr.deeper _) hsp
  have I : Inv (oE CX P w K mg base N qual scope f cdv A outer s H E) [] (start N vs) H s1 := jx S hr.hd e0 hl r x
  refine wQ (ht [] s1 (start N vs) H _ I hq) (fun fl s' hs => ?_) fun e s' hs => hs
  have fin : ∀ {σ' : St} {H' : Hp} {v : V} {u : Value}, Inv (oE CX P w K mg base N qual scope f cdv A outer s H E) [] σ' H' s' → aM v u → Q v H' → CE outer P w H s Q u s' :=
    fun {σ' H' v u} J rv q => ⟨v, H', J.os, J.bare, J.base, J.hok, rv, q⟩
  cases fl with
  | ret u =>
    obtain ⟨v, σ', H', J, rv, q⟩ := hs
    exact fin J rv q
  | next =>
    obtain ⟨σ', H', J, q⟩ := hs
    exact fin (v := V.non) (u := Value.none) J rfl q
  | brk =>
    obtain ⟨_, _, _, q⟩ := hs
    exact False.elim q
  | cont =>
    obtain ⟨_, _, _, q⟩ := hs
    exact False.elim q
section
variable {X : Cx} {x : Str} {p pos : Pos} {e : Expr} {es : List Expr} {t : TA} {id T : String} {r : List V → Hp → VK → Prop}
def qu (r : List V → Hp → VK → Prop)(Q : VK) : List V → Hp → Prop := fun vs H1 => r vs H1 Q
def tCB (r : List V → Hp → VK → Prop)(t : TA) : TE := fun σ H Q => t σ H (qu r Q)
theorem au (hc : bW X (.builtin id) r)(hg : Gl X x)(hm : X.mg x=none)(hv : bootBuiltins x=some (.builtin id))(ha : PA X (e::es) t)(hn : x ≠ "__name__" := by decide)(hdb : (x == ("__debug__" : Str))=false := by decide)
    (he : starEach (e::es) X.env=(false, eval e X.env)::starEach es X.env := by rfl) (hpl : (backTo pos (starEach es X.env)).any (·.1)=false := by rfl) : PE X (.Call (.Name x p) (e::es) [] pos) (tCB r t) := by
  intro pins s σ H Q I h
  refine yq (cT I hg hm hv ?_ hn hdb)
  exact PyProof.Rows.callWith_builtin1 (thn (ha pos pins s σ H _ I h) fun us s1 zq60 => (by obtain ⟨vs, H1, I1, r1, q1⟩ := zq60;exact hc pins s1 σ H1 vs us Q I1 r1 q1)) he hpl
theorem bu (hc : bW X (.type T) r)(hg : Gl X x)(hm : X.mg x=none)(hv : bootBuiltins x=some (.type T))(ha : PA X (e::es) t)(hn : x ≠ "__name__" := by decide)(hdb : (x == ("__debug__" : Str))=false := by decide)
    (he : starEach (e::es) X.env=(false, eval e X.env)::starEach es X.env := by rfl) (hpl : (backTo pos (starEach es X.env)).any (·.1)=false := by rfl) : PE X (.Call (.Name x p) (e::es) [] pos) (tCB r t) := by
  intro pins s σ H Q I h
  refine yq (cT I hg hm hv ?_ hn hdb)
  exact v9 (thn (ha pos pins s σ H _ I h) fun us s1 zq61 => (by obtain ⟨vs, H1, I1, r1, q1⟩ := zq61;exact hc pins s1 σ H1 vs us Q I1 r1 q1)) he hpl
end
end L2
namespace HT
open PySem PyProof.Rows
section
open PySem.SeqAt
open PySem.AutoSeq1 (wpAny_loadPart')
open PySem.MeetsSeq PySem.MeetsSeq2 PySem.MeetsSeq3
end
section
variable {prog : Program} {w : World} {A : Around} {E : Value → Shared → Prop} {s : Shared}
def sIx (n d : Nat) : Option Int → Nat
  | none => d
  | some v => if v < 0 then (v+(n : Int)).toNat else min v.toNat n
theorem eE (n d : Nat) : sIx n d none=d := rfl
theorem gL (n d k : Nat) : sIx n d (some (k : Int))=min k n := by
  show (if (k : Int) < 0 then ((k : Int)+(n : Int)).toNat else min (k : Int).toNat n)=min k n
  rw [if_neg (by omega), vJ]
theorem nO (n d : Nat)(hd : d≤n)(o : Option Int) : sIx n d o≤n := by
  cases o with
  | none => exact hd
  | some v =>
    show (if v < 0 then (v+(n : Int)).toNat else min v.toNat n)≤n
    by_cases hv : v < 0
    · rw [if_pos hv];omega
    · rw [if_neg hv];exact Nat.min_le_right _ _
end
end HT
namespace L2
open PySem PySem.Spec PyProof.Rows
abbrev TO := St → Hp → (Option Int → Hp → Prop) → Prop
def PO (X : Cx)(e : Option Expr)(t : TO) : Prop :=
  ∀ (pins : List (Addr × Obj)) (s : Shared) (σ : St) (H : Hp) (Q : Option Int → Hp → Prop), Inv X pins σ H s → t σ H Q →
    wpAny (model X.prog X.w) X.A (evalPart e X.env) (fun u s' => ∃ o H', Inv X pins σ H' s' ∧ IsPart u o ∧ Q o H') X.xe s
def oF : TO := fun _ H Q => Q none H
inductive IsI (x : V)(H : Hp)(Q : Option Int → Hp → Prop) : Prop
  | mk : ∀ i, (x = .int i) → (Q (some i) H) → IsI x H Q
def ma (Q : (Option Int → Hp → Prop)) : V → Hp → Prop := fun x H1 => IsI x H1 Q
def sP (t : TE) : TO := fun σ H Q => t σ H (ma Q)
section
variable {X : Cx} {e : Expr} {te : TE} {lo hi : Option Expr} {tl th : TO} {pos p2 : Pos}
theorem aO : PO X none oF := by
  intro pins s σ H Q I h
  rw [evalPart_none]
  exact vE ⟨none, H, I, .none, h⟩
theorem aP (h : PE X e te) : PO X (some e) (sP te) := by
  intro pins s σ H Q I hw
  rw [evalPart_some]
  refine thn (h pins s σ H _ I hw) fun u s1 zq62 => ?_
  obtain ⟨x, H1, I1, r1, q1⟩ := zq62
  obtain ⟨i, rfl, q⟩ := q1
  obtain ⟨t, rfl⟩ := r1
  exact ⟨some i, H1, I1, .int i t, q⟩
def SlR (X : Cx)(r : V → Option Int → Option Int → Hp → VK → Prop) : Prop :=
  ∀ (pins : List (Addr × Obj)) (s : Shared) (σ : St) (H : Hp) (x : V) (v vl vu : Value) (lo hi : Option Int) (sl : Addr) (Q : VK), Inv X pins σ H s → aM x v → s.heap.IsSliceOf sl vl vu .none → IsPart vl lo → IsPart vu hi → r x lo hi H Q →
    ∃ T id, typeLookup (.type T) "__getitem__" = pure (some (.builtin id)) ∧ s.TypeIs v T ∧ wpAny (model X.prog X.w) X.A (getItem v (.ref sl)) (EP X pins σ Q) X.xe s
def qv (r : V → Option Int → Option Int → Hp → VK → Prop)(Q : VK)(x : V)(l : Option Int) : Option Int → Hp → Prop := fun u H3 => r x l u H3 Q
def qw (r : V → Option Int → Option Int → Hp → VK → Prop)(th : TO)(σ : St)(Q : VK)(x : V) : Option Int → Hp → Prop := fun l H2 => th σ H2 (qv r Q x l)
def qx (r : V → Option Int → Option Int → Hp → VK → Prop)(tl : TO)(th : TO)(σ : St)(Q : VK) : V → Hp → Prop := fun x H1 => tl σ H1 (qw r th σ Q x)
def tSl (r : V → Option Int → Option Int → Hp → VK → Prop)(te : TE)(tl th : TO) : TE := fun σ H Q => te σ H (qx r tl th σ Q)
theorem aF {r : V → Option Int → Option Int → Hp → VK → Prop}(hr : SlR X r)(he : PE X e te)(hl : PO X lo tl)(hu : PO X hi th) : PE X (.Subscript e (.Slice lo hi none p2) pos) (tSl r te tl th) := by
  intro pins s σ H Q I h
  refine Subscript_ (thn (he pins s σ H _ I h) fun v s1 zq63 => ?_)
  obtain ⟨x, H1, I1, r1, q1⟩ := zq63
  refine wpAny_Slice (thn (hl pins s1 σ H1 _ I1 q1) fun vl s2 ⟨l, H2, I2, pl, q2⟩ => thn (hu pins s2 σ H2 _ I2 q2) fun vu s3 zq64 => ?_)
  obtain ⟨u, H3, I3, pu, q3⟩ := zq64
  rw [evalPart_none]
  refine vE ?_
  have I4 : Inv X pins σ H3 { s3 with heap := s3.heap.push { cls := .type "slice", data := .fields #[vl, vu, .none] } } := I3.kept (t' := s3.toks) fun b ob q => u_ _ q
  obtain ⟨T, id, hT, ht, hg⟩ := hr pins { s3 with heap := s3.heap.push { cls := .type "slice", data := .fields #[vl, vu, .none] } } σ H3 x v vl vu l u s3.heap.objs.size Q I4 r1 (Heap.IsSliceOf.new ..) pl pu q3
  show wpAny (model X.prog X.w) X.A (subscriptTail e (.Slice lo hi none p2) v (.ref s3.heap.objs.size)) (EP X pins σ Q) X.xe { s3 with heap := s3.heap.push { cls := .type "slice", data := .fields #[vl, vu, .none] } }
  exact tail_any (ops := [.ref s3.heap.objs.size, v]) ht hT hg (by with_unfolding_all rfl)
def pV (xs : List V)(lo hi : Option Int) : List V := (xs.drop (HT.sIx xs.length 0 lo)).take (HT.sIx xs.length xs.length hi - HT.sIx xs.length 0 lo)
theorem gM (xs : List V)(lo hi : Option Int) : (pV xs lo hi).length≤xs.length := by
  unfold pV
  rw [vC, wz]
  omega
end
def ixN (n : Nat)(i : Int) : Option Nat := if 0≤i then (if i < n then some i.toNat else none) else if -(n : Int)≤i then some (i+n).toNat else none
def atI {α : Type}(xs : List α)(i : Int) : Option α := (ixN xs.length i).bind fun j => xs[j]?
theorem jy {n : Nat}{i : Int}{j : Nat}(h : ixN n i=some j) : seqIndex? i n=some j ∧ j < n ∧ -(n : Int)≤i ∧ i < n := by
  unfold ixN at h
  by_cases h0 : 0≤i
  · rw [if_pos h0] at h
    by_cases h1 : i < n
    · rw [if_pos h1] at h
      have e : i.toNat=j := vp h
      exact ⟨by rw [seqIndex_of h0 h1, e], by omega, by omega, h1⟩
    · rw [if_neg h1] at h;cases h
  · rw [if_neg h0] at h
    by_cases h1 : -(n : Int)≤i
    · rw [if_pos h1] at h
      have e : (i+n).toNat=j := vp h
      exact ⟨by rw [seqIndex_neg (by omega) h1, e], by omega, h1, by omega⟩
    · rw [if_neg h1] at h;cases h
theorem jz {α : Type}{xs : List α}{i : Int}{v : α}(h : atI xs i=some v) : ∃ j, seqIndex? i xs.length=some j ∧ xs[j]? = some v ∧ j < xs.length ∧ -(xs.length : Int)≤i ∧ i < xs.length := by
  unfold atI at h
  cases e : ixN xs.length i with
  | none => rw [e] at h;cases h
  | some j =>
    rw [e] at h
    obtain ⟨h1, h2, h3, h4⟩ := jy e
    exact ⟨j, h1, h, h2, h3, h4⟩
theorem dn {α : Type}{xs : List α}{j : Nat}{v : α}(h : xs[j]? = some v) : atI xs (j : Int)=some v := by
  have hj : j < xs.length := (vc.mp h).1
  have e : ixN xs.length (j : Int)=some j := by
    unfold ixN
    rw [if_pos (by omega), if_pos (by omega)];simp
  unfold atI;rw [e];exact h
def jA (b : Expr) : Prop := ∀ o i, subscripted b false o i=operate [o, i] (getItem o i)
def IxR (X : Cx)(r : R2) : Prop :=
  ∀ (value slice : Expr) (pins : List (Addr × Obj)) (s : Shared) (σ : St) (H : Hp) (x y : V) (v u : Value) (Q : VK), Inv X pins σ H s → aM x v → aM y u → r x y H Q →
    subscripted slice false v u=operate [v, u] (getItem v u) → wpAny (model X.prog X.w) X.A (subscriptTail value slice v u) (EP X pins σ Q) X.xe s
def MtR (X : Cx)(id : String)(r : V → List V → Hp → VK → Prop) : Prop :=
  ∀ (pins : List (Addr × Obj)) (s : Shared) (σ : St) (H : Hp) (x : V) (xs : List V) (v : Value) (us : List Value) (Q : VK), Inv X pins σ H s → aM x v → aI xs us → r x xs H Q →
    wpAny (model X.prog X.w) X.A (call (.builtin id) (v::us)) (EP X pins σ Q) X.xe s
section
variable {X : Cx} {a b : Expr} {ta tb : TE} {pos : Pos}
theorem eF {r : R2}(hr : IxR X r)(ha : PE X a ta)(hb : PE X b tb)(hs : jA b) : PE X (.Subscript a b pos) (tOp r ta tb) := by
  intro pins s σ H Q I h
  exact Subscript_ (sH ha hb I h fun v u s2 x y H2 I2 rx ry q => hr a b pins s2 σ H2 x y v u Q I2 rx ry q (hs _ _))
inductive sQ (K : PySem.W.Frag)(x : V)(y : V)(H : Hp)(Q : VK) : Prop
  | mk : ∀ p xs i v, (x = .ref p) → (y = .int i) → (SqL K H p xs) → (atI xs i=some v) → (Q v H) → sQ K x y H Q
inductive uf (x : V)(y : V)(H : Hp)(Q : VK) : Prop
  | mk : ∀ z i c, (x = .str z) → (y = .int i) → (z.length≤sizeLine) → (atI z.cps.toList i=some c) → (Q (.str ⟨#[c]⟩) H) → uf x y H Q
theorem dq : IxR X (sQ X.K) := by
  intro value slice pins s σ H x y v u Q I rx ry h hs
  obtain ⟨p, xs, i, z, rfl, rfl, hq, he, q⟩ := h
  cases rx
  obtain ⟨t, rfl⟩ := ry
  obtain ⟨its, r, pl, hz⟩ := I.list hq
  obtain ⟨j, h1, h2, h3, h4, h5⟩ := jz he
  obtain ⟨w, ew, rw'⟩ := r.get h2
  have hl := r.length
  have hn := cI
  have fin : EP X pins σ Q w s := ⟨z, H, I, rw', q⟩
  by_cases h0 : 0≤i
  · have hj : i.toNat=j := by
      rw [seqIndex_of h0 h5] at h1
      exact vp h1
    exact item_listR pl.isList h0 (by omega) (by rw [hj];simpa using ew) fin hs
  · have hj : (i+(its.toArray.size : Int)).toNat=j := by
      rw [seqIndex_neg (by omega) h4] at h1
      rw [vj, ← hl]
      exact vp h1
    exact subscriptTail_builtinR (x := w) pl.isList.typeIs slot_list_getitem.lookup
      (wpAny_getItem_list_neg (Q := fun r s' => r=w ∧ EP X pins σ Q r s') pl.isList (by omega) (by rw [vj] <;> omega) (by omega) (by rw [hj];simpa using ew) ⟨rfl, fin⟩) hs
theorem nP : IxR X uf := by
  intro value slice pins s σ H x y v u Q I rx ry h hs
  obtain ⟨z, i, c, rfl, rfl, hz, he, q⟩ := h
  obtain ⟨t, rfl⟩ := rx
  obtain ⟨t', rfl⟩ := ry
  obtain ⟨j, h1, h2, h3, h4, h5⟩ := jz he
  have hl : z.cps.toList.length=z.length := by simp [Str.length]
  rw [hl] at h1 h4 h5
  have hn := cI
  exact tail_any (yE s z t) slot_str_getitem.lookup (getItem_str (c := c) (by
    have e1 : decide (i < -(2 ^ 63 : Int))=false := vS (by omega)
    have e2 : decide (i≥2 ^ 63)=false := vS (by omega)
    rw [e1, e2, zh]) (by rw [h1];simpa using h2) ⟨.str ⟨#[c]⟩, H, I.tok _, ⟨_, rfl⟩, q⟩) hs
theorem iY (its : List Value)(n j : Nat)(u : Value) : Obj.mapSeq (·.setIfInBounds j u) { cls := .type "list", data := .seq its.toArray n }={ cls := .type "list", data := .seq (its.set j u).toArray n } := by
  simp [Obj.mapSeq]
theorem Inv.lst {pins : List (Addr × Obj)}{σ : St}{H : Hp}{s : Shared}{p : Addr}{xs : List V}(I : Inv X pins σ H s)(h : H p=some (.lst xs)) :
    ∃ (its : List Value) (n : Nat), aI xs its ∧ s.heap.get? p=some { cls := .type "list", data := .seq its.toArray n } ∧ xs.length≤sizeLine := by
  obtain ⟨z, its, n, r, e⟩ := I.hok p _ h
  exact ⟨its, n, r, e, z⟩
theorem Inv.lstUpd {pins : List (Addr × Obj)}{σ : St}{H : Hp}{s : Shared}{p : Addr}{xs ys : List V}{its its' : List Value}{n n' : Nat}{f : Obj → Obj}(I : Inv X pins σ H s)(h : H p=some (.lst xs))
    (ho : s.heap.get? p=some { cls := .type "list", data := .seq its.toArray n }) (hf : f { cls := .type "list", data := .seq its.toArray n }={ cls := .type "list", data := .seq its'.toArray n' }) (r : aI ys its') (hz : ys.length≤sizeLine) (t : Nat) :
    Inv X pins σ (upd H p (.lst ys)) { s with heap := s.heap.update p f, toks := t } := by
  have e : (s.heap.update p f).get? p=some { cls := .type "list", data := .seq its'.toArray n' } := by
    rw [wu f ho (by rw [hf] <;> rfl), hf]
  refine I.write (x := p) (e := p) (by rw [h];trivial) (.inl rfl) (fun b u hb q => (vQ _ _ (Ne.symm hb)).trans q) ⟨_, e⟩ ?_
  exact ⟨hz, its', n', r, e⟩
inductive qy (o : V)(i : V)(v : V)(H : Hp)(Q : (Hp → Prop)) : Prop
  | mk : ∀ p xs k j, (o = .ref p) → (i = .int k) → (H p=some (.lst xs)) → (ixN xs.length k=some j) → (Q (upd H p (.lst (xs.set j v)))) → qy o i v H Q
theorem md : tY X qy := by
  intro pins s σ H o i v ov iv u Q I ro ri rv h
  obtain ⟨p, xs, k, j, rfl, rfl, hp, hj, q⟩ := h
  cases ro
  obtain ⟨t, rfl⟩ := ri
  obtain ⟨its, n, r, ho, hz⟩ := I.lst hp
  obtain ⟨h1, h2, h3, h4⟩ := jy hj
  have hl := r.length
  have hn := cI
  have I' : Inv X pins σ (upd H p (.lst (xs.set j v))) { s with heap := s.heap.update p (Obj.mapSeq (·.setIfInBounds j u)) } :=
    I.lstUpd hp ho (iY its n j u) (r.set rv j) (by rw [List.length_set];exact hz) s.toks
  by_cases h0 : 0≤k
  · have hk : k.toNat=j := by
      rw [seqIndex_of h0 h4] at h1
      exact vp h1
    exact PySem.W.ki_setAt ho h0 (by omega) (by rw [vj, ← hl];exact h4) (by rw [hk];exact ⟨_, I', q⟩)
  · have hk : (k+(its.toArray.size : Int)).toNat=j := by
      rw [seqIndex_neg (by omega) h3] at h1
      rw [vj, ← hl]
      exact vp h1
    exact PySem.W.ki_setBack ho (by omega) (by rw [vj, ← hl];exact h3) (by omega) (by rw [hk];exact ⟨_, I', q⟩)
theorem fE (lo hi : Option Int)(n : Nat) : (sliceBounds lo hi none n).1=((HT.sIx n 0 lo : Nat) : Int) ∧ (sliceBounds lo hi none n).2.1=((HT.sIx n n hi : Nat) : Int) ∧ (sliceBounds lo hi none n).2.2=1 := by
  refine ⟨?_, ?_, rfl⟩
  · cases lo with
    | none => simp [sliceBounds, HT.sIx]
    | some i =>
      simp only [sliceBounds, HT.sIx, Option.getD_none, show (1 : Int) > 0 by decide, yw]
      by_cases h : i < 0
      · simp only [h, yw] <;> omega
      · simp only [h, zi] <;> omega
  · cases hi with
    | none => simp [sliceBounds, HT.sIx]
    | some i =>
      simp only [sliceBounds, HT.sIx, Option.getD_none, show (1 : Int) > 0 by decide, yw]
      by_cases h : i < 0
      · simp only [h, yw] <;> omega
      · simp only [h, zi] <;> omega
theorem eG (its : List Value)(lo hi : Option Int) : slicePick its.toArray lo hi none=((its.drop (HT.sIx its.length 0 lo)).take (HT.sIx its.length its.length hi - HT.sIx its.length 0 lo)).toArray := by
  obtain ⟨h1, h2, h3⟩ := fE lo hi its.toArray.size
  unfold slicePick
  rw [h1, h2, h3]
  simp only [sliceRange_one, pick_run, vj] <;> rfl
inductive ug (K : PySem.W.Frag)(x : V)(lo : Option Int)(hi : Option Int)(H : Hp)(Q : VK) : Prop
  | mk : ∀ a xs, (x = .ref a) → (SqL K H a xs) → (∀ p, H p=none → Q (.ref p) (upd H p (.lst (pV xs lo hi)))) → ug K x lo hi H Q
theorem oG : SlR X (ug X.K) := by
  intro pins s σ H x v vl vu lo hi sl Q I rx hs pl pu h
  obtain ⟨a, xs, rfl, hx, q⟩ := h
  cases rx
  obtain ⟨its, r, ht, hz⟩ := I.list hx
  have hlen := r.length
  refine ⟨"list", _, slot_list_getitem.lookup, ht.isList.typeIs, ?_⟩
  refine wpAny_getItem_list_slice ht.isList hs pl pu .none (by simp) ?_ (by rw [vj] <;> omega)
  rw [eG, ← hlen]
  refine ⟨.ref s.heap.objs.size, _, I.laid (t' := s.toks) (o := .lst (pV xs lo hi)) (fun b ob q => u_ _ q) (vd _) ?_, rfl, q _ (I.hok.fresh (vd _))⟩
  exact ⟨vI (gM xs lo hi) hz, _, 0, (r.drop (HT.sIx xs.length 0 lo)).take (HT.sIx xs.length xs.length hi - HT.sIx xs.length 0 lo), vi _ rfl⟩
def fF : V → Bool
  | .non => true
  | .bl _ => true
  | .int _ => true
  | .str _ => true
  | _ => false
def eqV : V → V → Bool
  | .non, .non => true
  | .bl a, .bl b => a == b
  | .bl a, .int b => (if a then 1 else 0) == b
  | .int a, .bl b => a == (if b then 1 else 0)
  | .int a, .int b => a == b
  | .str a, .str b => a == b
  | _, _ => false
theorem qz {A : Around}{s : Shared}{y x : V}{u v : Value}(ry : aM y u)(rx : aM x v)(fy : fF y=true)(fx : fF x=true) : SeqAt.EqAt A s u v (eqV y x) := by
  cases y with
  | non =>
    cases ry
    cases x with
    | non => cases rx;exact SeqAt.EqAt.same _
    | bl b => cases rx;exact SeqAt.EqAt.none_bool b
    | int b => obtain ⟨t, rfl⟩ := rx;exact SeqAt.EqAt.none_int b t
    | str b => obtain ⟨t, rfl⟩ := rx;exact SeqAt.EqAt.none_str b t
    | _ => exact absurd (show false=true from fx) vm
  | bl a =>
    cases ry
    cases x with
    | non => cases rx;exact SeqAt.EqAt.bool_none a
    | bl b => cases rx;exact SeqAt.EqAt.bool_bool a b
    | int b => obtain ⟨t, rfl⟩ := rx;exact SeqAt.EqAt.bool_int a b t
    | str b => obtain ⟨t, rfl⟩ := rx;exact SeqAt.EqAt.bool_str a b t
    | _ => exact absurd (show false=true from fx) vm
  | int a =>
    obtain ⟨t', rfl⟩ := ry
    cases x with
    | non => cases rx;exact SeqAt.EqAt.int_none a t'
    | bl b => cases rx;exact SeqAt.EqAt.int_bool a t' b
    | int b => obtain ⟨t, rfl⟩ := rx;exact SeqAt.EqAt.int_int a t' b t
    | str b => obtain ⟨t, rfl⟩ := rx;exact SeqAt.EqAt.int_str a t' b t
    | _ => exact absurd (show false=true from fx) vm
  | str a =>
    obtain ⟨t', rfl⟩ := ry
    cases x with
    | non => cases rx;exact SeqAt.EqAt.str_none a t'
    | bl b => cases rx;exact SeqAt.EqAt.str_bool a t' b
    | int b => obtain ⟨t, rfl⟩ := rx;exact SeqAt.EqAt.str_int a t' b t
    | str b => obtain ⟨t, rfl⟩ := rx;exact SeqAt.EqAt.str_str a t' b t
    | _ => exact absurd (show false=true from fx) vm
  | _ => exact absurd (show false=true from fy) vm
def eqU (x : V)(u : Value) : Bool := match u with
  | .none => eqV .non x
  | .bool b => eqV (.bl b) x
  | .int i _ => eqV (.int i) x
  | .str z _ => eqV (.str z) x
  | _ => false
theorem nQ {x y : V}{u : Value}(r : aM y u)(f : fF y=true) : eqU x u=eqV y x := by
  cases y with
  | non => cases r;rfl
  | bl b => cases r;rfl
  | int i => obtain ⟨t, rfl⟩ := r;rfl
  | str z => obtain ⟨t, rfl⟩ := r;rfl
  | _ => exact absurd (show false=true from f) vm
theorem du {x : V} : ∀ {xs : List V} {us : List Value}, aI xs us → xs.all fF=true → us.any (eqU x)=xs.any fun y => eqV y x
  | _, _, .nil, _ => rfl
  | y::xs, u::us, .cons r t, f => by
    rw [List.all_cons, v3] at f
    rw [xo, xo, nQ r f.1, du t f.2]
theorem cJ {A : Around}{s : Shared}{x : V}{v : Value}(rx : aM x v)(fx : fF x=true) : ∀ {xs : List V} {us : List Value}, aI xs us → xs.all fF=true → ∀ u∈us, SeqAt.EqAt A s u v (eqU x u)
  | _, _, .nil, _ => fun u hu => by cases hu
  | y::xs, u::us, .cons r t, f => fun u' hu => by
    rw [List.all_cons, v3] at f
    rcases vt.mp hu with rfl | hu
    · rw [nQ r f.1];exact qz r rx f.1 fx
    · exact cJ rx fx t f.2 u' hu
def inV (x : V)(xs : List V) : Bool := xs.any fun y => eqV y x
inductive rIn (K : PySem.W.Frag)(neg : Bool)(x : V)(y : V)(H : Hp)(Q : VK) : Prop
  | mk : ∀ p xs, (y = .ref p) → ((SqL K H p xs ∨ SqT K H p xs)) → (fF x=true) → (xs.all fF=true) → (Q (.bl (if neg then !inV x xs else inV x xs)) H) → rIn K neg x y H Q
theorem jB : OpR X (compareOp .In) (rIn X.K false) := by
  intro pins s σ H x y v u Q I rx ry h
  obtain ⟨p, xs, rfl, hq, fx, fs, q⟩ := h
  cases ry
  rcases hq with hq | hq
  · obtain ⟨its, r, pl, hz⟩ := I.list hq
    refine SeqAt.in_listAt (eqU x) pl.isList (fun w hw => cJ rx fx r fs w (by simpa using hw)) ⟨.bl _, H, I, rfl, ?_⟩
    rw [show its.toArray.any (eqU x)=its.any (eqU x) by simp, du r fs]
    exact q
  · obtain ⟨its, r, pl, hz⟩ := I.tuple hq
    refine SeqAt.in_tupleAt (eqU x) pl (fun w hw => cJ rx fx r fs w (by simpa using hw)) ⟨.bl _, H, I, rfl, ?_⟩
    rw [show its.toArray.any (eqU x)=its.any (eqU x) by simp, du r fs]
    exact q
theorem fG : OpR X (compareOp .NotIn) (rIn X.K true) := by
  intro pins s σ H x y v u Q I rx ry h
  obtain ⟨p, xs, rfl, hq, fx, fs, q⟩ := h
  cases ry
  rcases hq with hq | hq
  · obtain ⟨its, r, pl, hz⟩ := I.list hq
    refine SeqAt.notIn_listAt (eqU x) pl.isList (fun w hw => cJ rx fx r fs w (by simpa using hw)) ⟨.bl _, H, I, rfl, ?_⟩
    rw [show its.toArray.any (eqU x)=its.any (eqU x) by simp, du r fs]
    exact q
  · obtain ⟨its, r, pl, hz⟩ := I.tuple hq
    refine SeqAt.notIn_tupleAt (eqU x) pl (fun w hw => cJ rx fx r fs w (by simpa using hw)) ⟨.bl _, H, I, rfl, ?_⟩
    rw [show its.toArray.any (eqU x)=its.any (eqU x) by simp, du r fs]
    exact q
inductive bG (K : PySem.W.Frag)(xs : List V)(H : Hp)(Q : VK) : Prop
  | mk : ∀ p ys, (xs=[.ref p]) → ((SqL K H p ys ∨ SqT K H p ys)) → (Q (.int ys.length) H) → bG K xs H Q
theorem az : bW X (.builtin "len") (bG X.K) := by
  intro pins s σ H xs us Q I r h
  obtain ⟨p, ys, rfl, hq, q⟩ := h
  obtain ⟨u, rfl, rx⟩ := bZ r
  cases rx
  have hn := cI
  rcases hq with hq | hq
  · obtain ⟨its, r', pl, hz⟩ := I.list hq
    have hlen := r'.length
    exact Calls.call_len_list pl.isList (by simp only [vj] <;> omega) ⟨.int ys.length, H, I.tok _, ⟨s.toks+1, by rw [vj, hlen]⟩, q⟩
  · obtain ⟨its, r', pl, hz⟩ := I.tuple hq
    have hlen := r'.length
    exact len_tuple pl (by simp only [vj] <;> omega) ⟨.int ys.length, H, I.tok _, ⟨s.toks+1, by rw [vj, hlen]⟩, q⟩
inductive cz  (xs : List V)(H : Hp)(Q : VK) : Prop
  | mk : ∀ z, (xs=[.str z]) → (z.length≤sizeLine) → (Q (.int z.length) H) → cz xs H Q
theorem b_ : bW X (.builtin "len") cz := by
  intro pins s σ H xs us Q I r h
  obtain ⟨z, rfl, hz, q⟩ := h
  obtain ⟨u, rfl, t, rfl⟩ := bZ r
  have hn := cI
  exact len_str (by omega) ⟨.int z.length, H, I.tok _, ⟨_, rfl⟩, q⟩
inductive cC (K : PySem.W.Frag)(xs : List V)(H : Hp)(Q : VK) : Prop
  | mk : ∀ p ys, (xs=[.ref p]) → ((SqL K H p ys ∨ SqT K H p ys)) → (∀ l, H l=none → Q (.ref l) (upd H l (.lst ys))) → cC K xs H Q
theorem cb : bW X (.type "list") (cC X.K) := by
  intro pins s σ H xs us Q I r h
  obtain ⟨p, ys, rfl, hq, q⟩ := h
  obtain ⟨u, rfl, rx⟩ := bZ r
  cases rx
  have fin : ∀ (its : List Value), aI ys its → ys.length≤sizeLine → ∀ (h' : Heap) (c' : Nat), (∀ b o', s.heap.get? b=some o' → h'.get? b=some o') →
      h'.get? s.heap.objs.size=some { cls := .type "list", dict := none, data := .seq its.toArray c', slots := #[] } → EP X pins σ Q (.ref s.heap.objs.size) { s with heap := h' } := fun its r' hz h' c' kp e =>
    ⟨.ref s.heap.objs.size, _, I.laid (t' := s.toks) kp (vd _) (show aW X.prog X.w _ h' _ (.lst ys) from ⟨hz, its, c', r', e⟩), rfl, q _ (I.hok.fresh (vd _))⟩
  rcases hq with hq | hq
  · obtain ⟨its, r', pl, hz⟩ := I.list hq
    have hlen := r'.length
    obtain ⟨o, ho, hc, n, hd⟩ := pl.isList
    exact call_list_seq p (.inl rfl) ho hc hd (fun h' c' kp e => fin its r' hz h' c' kp e) (by simp only [vj] <;> omega)
  · obtain ⟨its, r', pl, hz⟩ := I.tuple hq
    have hlen := r'.length
    obtain ⟨o, ho, hc, n, hd⟩ := pl
    exact call_list_seq p (.inr rfl) ho hc hd (fun h' c' kp e => fin its r' hz h' c' kp e) (by simp only [vj] <;> omega)
inductive cg (K : PySem.W.Frag)(xs : List V)(H : Hp)(Q : VK) : Prop
  | mk : ∀ p ys, (xs=[.ref p]) → (((SqL K H p ys ∧ ∀ l, H l=none → Q (.ref l) (upd H l (.tup ys))) ∨ (SqT K H p ys ∧ Q (.ref p) H))) → cg K xs H Q
theorem eI : bW X (.type "tuple") (cg X.K) := by
  intro pins s σ H xs us Q I r h
  obtain ⟨p, ys, rfl, h⟩ := h
  obtain ⟨u, rfl, rx⟩ := bZ r
  cases rx
  rcases h with ⟨hq, q⟩ | ⟨hq, q⟩
  · obtain ⟨its, r', pl, hz⟩ := I.list hq
    have hlen := r'.length
    refine call_tuple_list pl.isList (fun h' kp => ?_) (by simp only [vj] <;> omega)
    have I1 : Inv X pins σ H { s with heap := h' } := I.kept (t' := s.toks) kp
    have I2 : Inv X pins σ (upd H h'.objs.size (.tup ys)) { s with heap := h'.push { cls := .type "tuple", data := .seq its.toArray } } :=
      I1.laid (t' := s.toks) (fun b o e => u_ _ e) (vd _) (show aW X.prog X.w _ _ _ (.tup ys) from ⟨hz, its, r', IsTup.new _ _, .new _ _ rfl⟩)
    exact ⟨.ref h'.objs.size, _, I2, rfl, q _ (I1.hok.fresh (vd _))⟩
  · obtain ⟨its, r', pl, hz⟩ := I.tuple hq
    exact call_tuple_same pl ⟨.ref p, H, I, rfl, q⟩
def tyV (K : PySem.W.Frag)(T : String)(x : V)(H : Hp) : Prop := match x with
  | .str _ => T = "str"
  | .int _ => T = "int"
  | .ref p => (T = "list" ∧ ∃ xs, SqL K H p xs) ∨ (T = "tuple" ∧ ((∃ o, K.lookup p=some o ∧ o.cls = .type "tuple" ∧ o.dict=none) ∨ ∃ xs, H p=some (.tup xs))) ∨
      (T = "dict" ∧ ((∃ kvs, H p=some (.dK kvs)) ∨ ∃ kvs, H p=some (.dT kvs))) ∨ (T = "set" ∧ ∃ S n, H p=some (.set S n))
  | _ => False
theorem nR {pins : List (Addr × Obj)}{σ : St}{H : Hp}{s : Shared}{T : String}{x : V}{v : Value}(I : Inv X pins σ H s)(r : aM x v)(ty : tyV X.K T x H) :
    s.TypeIs v T ∧ ∀ a, v = .ref a → ∃ ob, s.heap.get? a=some ob ∧ ob.dict=none := by
  cases x with
  | str z =>
    obtain ⟨t, rfl⟩ := r
    cases (show T = "str" from ty)
    exact ⟨yE s z t, fun _ e => nomatch e⟩
  | int i =>
    obtain ⟨t, rfl⟩ := r
    cases (show T = "int" from ty)
    exact ⟨typeIs_int s i t, fun _ e => nomatch e⟩
  | ref p =>
    cases r
    rcases ty with ⟨rfl, xs, hq⟩ | ⟨rfl, ⟨o, hk, hc, hd⟩ | ⟨xs, hk⟩⟩ | ⟨rfl, hk⟩ | ⟨rfl, S, n, hk⟩
    · obtain ⟨its, _, pl, _⟩ := I.list hq
      refine ⟨pl.isList.typeIs, fun a e => ?_⟩
      cases e
      obtain ⟨o, n, e, c, hd, _⟩ := pl
      exact ⟨o, e, hd⟩
    · refine ⟨⟨o, I.kIn p o hk, hc⟩, fun a e => ?_⟩
      cases e
      exact ⟨o, I.kIn _ o hk, hd⟩
    · obtain ⟨_, _, _, ⟨o, e, hc, _⟩, hn⟩ := I.hok p _ hk
      refine ⟨⟨o, e, hc⟩, fun a e => ?_⟩
      cases e
      exact hn
    · have z : ∃ o, s.heap.get? p=some o ∧ o.ExactDict := by
        rcases hk with ⟨kvs, hk⟩ | ⟨kvs, hk⟩
        · obtain ⟨_, _, _, _, o, _, _, e, ex, _⟩ := I.hok p _ hk
          exact ⟨o, e, ex⟩
        · obtain ⟨_, _, _, _, o, _, _, e, ex, _⟩ := I.hok p _ hk
          exact ⟨o, e, ex⟩
      obtain ⟨o, e, ex⟩ := z
      refine ⟨⟨o, e, ex.1⟩, fun a e2 => ?_⟩
      cases e2
      exact ⟨o, e, ex.2.1⟩
    · obtain ⟨o, _, _, _, e, ex, _⟩ := I.hok p _ hk
      refine ⟨⟨o, e, ex.1⟩, fun a e2 => ?_⟩
      cases e2
      exact ⟨o, e, ex.2.1⟩
  | _ => exact False.elim ty
def oH (K : PySem.W.Frag)(T : String)(r : V → List V → Hp → VK → Prop)(Q : VK) : V → Hp → Prop := fun x H1 => tyV K T x H1 ∧ r x [] H1 Q
def uU (K : PySem.W.Frag)(T : String)(r : V → List V → Hp → VK → Prop)(to : TE) : TE := fun σ H Q => to σ H (oH K T r Q)
def qA (r : V → List V → Hp → VK → Prop)(Q : VK)(x : V) : List V → Hp → Prop := fun xs H2 => r x xs H2 Q
def qB (K : PySem.W.Frag)(T : String)(r : V → List V → Hp → VK → Prop)(t : TA)(σ : St)(Q : VK) : V → Hp → Prop := fun x H1 => tyV K T x H1 ∧ t σ H1 (qA r Q x)
def tBM (K : PySem.W.Frag)(T : String)(r : V → List V → Hp → VK → Prop)(to : TE)(t : TA) : TE := fun σ H Q => to σ H (qB K T r t σ Q)
variable {o e : Expr} {es : List Expr} {to : TE} {t : TA} {name : Str} {apos cpos : Pos} {T id : String} {r : V → List V → Hp → VK → Prop}
theorem jC (pa : PlainAttrs T)(slot : Slot T name id)(hty : typeOf (.builtin id)=pure (.type "method_descriptor"))(hm : MtR X id r)(ho : PE X o to)
    (hbase : attributeBase o name X.env (eval o X.env)=eval o X.env := by rfl) (hline : (apos.endLine == cpos.line)=true := by rfl) : PE X (.Call (.Attribute o name apos) [] [] cpos) (uU X.K T r to) := by
  intro pins s σ H Q I h
  refine wpAny_Call_method0_late hbase hline (thn (ho pins s σ H _ I h) fun v s1 zq65 => ?_)
  obtain ⟨x, H1, I1, r1, ty, q1⟩ := zq65
  obtain ⟨h1, h2⟩ := nR I1 r1 ty
  exact ⟨T, id, pa, slot, hty, h1, h2, xK rfl (PySem.evalArgs_none (hm pins s1 σ H1 x [] v [] Q I1 r1 .nil q1))⟩
theorem fH (pa : PlainAttrs T)(slot : Slot T name id)(hty : typeOf (.builtin id)=pure (.type "method_descriptor"))(hm : MtR X id r)(ho : PE X o to)(ha : PA X (e::es) t)
    (hbase : attributeBase o name X.env (eval o X.env)=eval o X.env := by rfl)
    (hfew : ((backTo cpos (starEach (e::es) X.env)).all (fun x => !x.1) && (backToKw cpos (keywordEach [] X.env)).all (fun x => x.1.isSome)
      && decide ((e::es).length+([] : List Keyword).length+(if ([] : List Keyword).isEmpty then 0 else 1) < 30))=true := by rfl)
    (hline : (apos.endLine == cpos.line)=true := by rfl) (hs : starEach (e::es) X.env=(false, eval e X.env)::starEach es X.env := by rfl) (hplain : (backTo cpos (starEach es X.env)).any (·.1)=false := by rfl) :
    PE X (.Call (.Attribute o name apos) (e::es) [] cpos) (tBM X.K T r to t) := by
  intro pins s σ H Q I h
  refine wpAny_Call_method_late hbase hfew hline rfl (thn (ho pins s σ H _ I h) fun v s1 zq66 => ?_)
  obtain ⟨x, H1, I1, r1, ty, q1⟩ := zq66
  obtain ⟨h1, h2⟩ := nR I1 r1 ty
  refine ⟨T, id, pa, slot, hty, h1, h2, ?_⟩
  have hA := ha cpos pins s1 σ H1 _ I1 q1
  rw [hs] at hA ⊢
  refine xK (by show (false || (backTo cpos (starEach es X.env)).any (·.1))=false;rw [hplain] <;> rfl) (Calls.evalArgs_plain ?_)
  exact thn hA fun us s2 zq67 => (by obtain ⟨vs, H2, I2, r2, q2⟩ := zq67;exact hm pins s2 σ H2 x vs v us Q I2 r1 r2 q2)
/- xs.append(e), list.index on a module's tuple .. are MtR facts of 06m -/
end
def MtM (X : Cx)(id : String)(r : V → List V → Hp → VK → Prop) : Prop :=
  ∀ (pins : List (Addr × Obj)) (s : Shared) (σ : St) (H : Hp) (x : V) (xs : List V) (v : Value) (us : List Value) (Q : VK), Inv X pins σ H s → aM x v → aI xs us → r x xs H Q →
    wpAny (model X.prog X.w) X.A (call (.builtin id) (v::us)) (EP X pins σ Q) X.xe s
theorem aI.one : ∀ {x : V} {us : List Value}, aI [x] us → ∃ u, us=[u] ∧ aM x u
  | _, _, .cons r .nil => ⟨_, rfl, r⟩
theorem aI.zero : ∀ {us : List Value}, aI [] us → us=[]
  | _, .nil => rfl
theorem aI.dropLast {xs : List V}{us : List Value}(h : aI xs us) : aI xs.dropLast us.dropLast := by
  induction h with
  | nil => exact .nil
  | cons r t ih =>
    cases t with
    | nil => exact .nil
    | cons q t' => exact .cons r ih
theorem aI.rep {xs : List V}{us : List Value}(h : aI xs us) : ∀ k : Nat, aI (List.replicate k xs).flatten (List.replicate k us).flatten
  | 0 => .nil
  | k+1 => by
    rw [wc, wc, w6, w6]
    exact aI.append h (aI.rep h k)
theorem iZ {α : Type}(l : List α) : l.eraseIdx (l.length - 1)=l.dropLast := by
  induction l with
  | nil => rfl
  | cons a r ih =>
    cases r with
    | nil => rfl
    | cons b r =>
      have e : (a::b::r).length - 1=((b::r).length - 1)+1 := by
        have h1 : (a::b::r).length=r.length+2 := rfl
        have h2 : (b::r).length=r.length+1 := rfl
        omega
      rw [e, List.eraseIdx_cons_succ, ih]
      all_goals rfl
theorem fJ (its : List Value) : ∀ (k : Nat) (acc : List Value),
    List.foldl (fun x1 x2 => x1++x2) acc.toArray (List.replicate k its.toArray)=(acc++(List.replicate k its).flatten).toArray
  | 0, acc => by simp
  | k+1, acc => by
    have e : acc.toArray++its.toArray=(acc++its).toArray := by simp
    have e2 : (acc++its)++(List.replicate k its).flatten=acc++(List.replicate (k+1) its).flatten := by
      rw [wc, w6, v7]
    rw [← e2, ← fJ its k (acc++its), ← e, wc, x_]
section
variable {X : Cx} {pins : List (Addr × Obj)} {σ : St} {H : Hp} {s : Shared} {l b : Addr} {xs ys zs : List V}
theorem Inv.lset {its its' : List Value}{n : Nat}{f : Array Value → Array Value}{t' : Nat}(I : Inv X pins σ H s)(hH : H l=some (.lst xs))
    (e : s.heap.get? l=some { cls := .type "list", data := .seq its.toArray n }) (hf : f its.toArray=its'.toArray) (hv : aI ys its') (hz : ys.length≤sizeLine) :
    Inv X pins σ (upd H l (.lst ys)) { s with heap := s.heap.update l (Obj.mapSeq f), toks := t' } := by
  have q := yX e f
  rw [hf] at q
  refine I.write (x := l) (e := l) (by rw [hH];exact trivial) (.inl rfl) (fun b' u hb hu => (vQ s.heap (Obj.mapSeq f) (Ne.symm hb)).trans hu) ⟨_, q⟩ ?_
  exact ⟨hz, its', _, hv, q⟩
theorem Inv.lnew {its : List Value}{t' : Nat}(I : Inv X pins σ H s)(hv : aI ys its)(hz : ys.length≤sizeLine) :
    Inv X pins σ (upd H s.heap.objs.size (.lst ys)) { s with heap := s.heap.push { cls := .type "list", data := .seq its.toArray }, toks := t' } :=
  I.laid (fun _ _ q => u_ _ q) (vd _) ⟨hz, its, 0, hv, vi _ rfl⟩
theorem Inv.fresh (I : Inv X pins σ H s) : H s.heap.objs.size=none := I.hok.fresh (vd _)
theorem Inv.lstM (I : Inv X pins σ H s)(hH : H l=some (.lst xs)) : xs.length≤sizeLine ∧ ∃ (its : List Value) (n : Nat), aI xs its ∧ xs.length=its.length ∧ s.heap.get? l=some { cls := .type "list", data := .seq its.toArray n } := by
  obtain ⟨z, its, n, r, e⟩ := I.hok l _ hH
  exact ⟨z, its, n, r, r.length, e⟩
theorem iu {n : Nat}(h : n≤sizeLine) : Builtin.List.listTooLong n=false := by
  unfold Builtin.List.listTooLong
  exact vS (by omega)
end
section
variable {X : Cx}
inductive jD (x : V)(vs : List V)(H : Hp)(Q : VK) : Prop
  | mk : ∀ l xs y, (x = .ref l) → (vs=[y]) → (H l=some (.lst xs)) → (xs.length < sizeLine) → (Q .non (upd H l (.lst (xs++[y])))) → jD x vs H Q
theorem fK : MtM X "list.append" jD := by
  intro pins s σ H x vs v us Q I rx rv h
  obtain ⟨l, xs, y, rfl, rfl, hH, hz, q⟩ := h
  cases rx
  obtain ⟨u, rfl, ru⟩ := rv.one
  obtain ⟨z, its, n, r, hl, e⟩ := I.lstM hH
  refine xB w4 ⟨_, e, rfl⟩ ya (xW _ _) (yF l its.toArray n u (by rw [vj];omega)) ⟨e, ?_⟩
  refine ⟨.non, _, I.lset (its' := its++[u]) hH e (by simp) (r.append (.cons ru .nil)) ?_, rfl, q⟩
  rw [vb, vv]
  omega
inductive jE (x : V)(vs : List V)(H : Hp)(Q : VK) : Prop
  | mk : ∀ l b xs zs, (x = .ref l) → (vs=[.ref b]) → (H l=some (.lst xs)) → (H b=some (.lst zs)) → (xs.length+zs.length≤sizeLine) → (Q .non (upd H l (.lst (xs++zs)))) → jE x vs H Q
theorem fL : MtM X "list.extend" jE := by
  intro pins s σ H x vs v us Q I rx rv h
  obtain ⟨l, b, xs, zs, rfl, rfl, hH, hB, hz, q⟩ := h
  cases rx
  obtain ⟨u, rfl, ru⟩ := rv.one
  cases ru
  obtain ⟨z, its, n, r, hl, e⟩ := I.lstM hH
  obtain ⟨z2, its2, n2, r2, hl2, e2⟩ := I.lstM hB
  have hsz : its.toArray.size+its2.toArray.size≤sizeLine := by rw [vj, vj];omega
  have hlong : ¬ (!its.toArray.isEmpty && Builtin.List.listTooLong (its.toArray.size+its2.toArray.size))=true := by
    rw [iu hsz, Bool.and_false]
    exact vm
  refine xB F.slot_list_extend ⟨_, e, rfl⟩ F.entry_list_extend (F.args_list_extend_2 _ _)
    (AutoSeq1.list_extend_list_list_0 l its.toArray n b its2.toArray n2 hlong (by rw [vj];omega) (by omega)) ⟨e, e2, ?_⟩
  refine ⟨.non, _, I.lset (its' := its++its2) hH e (by simp) (r.append r2) ?_, rfl, q⟩
  rw [vb]
  omega
inductive uh (x : V)(vs : List V)(H : Hp)(Q : VK) : Prop
  | mk : ∀ l xs y, (x = .ref l) → (vs=[]) → (H l=some (.lst xs)) → (xs[xs.length - 1]? = some y) → (Q y (upd H l (.lst xs.dropLast))) → uh x vs H Q
theorem qC : MtM X "list.pop" uh := by
  intro pins s σ H x vs v us Q I rx rv h
  obtain ⟨l, xs, y, rfl, rfl, hH, hy, q⟩ := h
  cases rx
  have hus := rv.zero
  subst hus
  obtain ⟨z, its, n, r, hl, e⟩ := I.lstM hH
  obtain ⟨u, hu, ru⟩ := r.get hy
  have hy' : its.toArray[its.toArray.size - 1]? = some u := by
    show its.toArray[its.length - 1]? = some u
    rw [← Array.getElem?_toList, ← hl]
    exact hu
  refine xB F.slot_list_pop ⟨_, e, rfl⟩ F.entry_list_pop (F.args_list_pop_1 _) (MeetsSeq.list_pop_last l its.toArray n u hy' (by rw [vj];omega)) ⟨e, ?_⟩
  refine ⟨y, _, I.lset (its' := its.dropLast) hH e ?_ r.dropLast ?_, ru, q⟩
  · show its.toArray.eraseIdxIfInBounds (its.toArray.size - 1)=its.dropLast.toArray
    rw [vj, List.eraseIdxIfInBounds_toArray, iZ]
  · rw [List.length_dropLast]
    omega
inductive uk (x : V)(y : V)(H : Hp)(Q : VK) : Prop
  | mk : ∀ l b xs zs, (x = .ref l) → (y = .ref b) → (H l=some (.lst xs)) → (H b=some (.lst zs)) → (xs.length+zs.length≤sizeLine) → (∀ p, H p=none → Q (.ref p) (upd H p (.lst (xs++zs)))) → uk x y H Q
theorem qD : OpR X (binaryOp .Add) uk := by
  intro pins s σ H x y v u Q I rx ry h
  obtain ⟨l, b, xs, zs, rfl, rfl, hH, hB, hz, q⟩ := h
  cases rx
  cases ry
  obtain ⟨z, its, n, r, hl, e⟩ := I.lstM hH
  obtain ⟨z2, its2, n2, r2, hl2, e2⟩ := I.lstM hB
  refine PySem.P.add_list e e2 ?_ (by rw [vj, vj];omega)
  have ea : its.toArray++its2.toArray=(its++its2).toArray := by simp
  rw [ea]
  exact ⟨.ref _, _, I.lnew (t' := s.toks) (r.append r2) (by rw [vb];omega), rfl, q _ I.fresh⟩
inductive um (x : V)(y : V)(H : Hp)(Q : VK) : Prop
  | mk : ∀ l k xs, (x = .ref l) → (y = .int k) → (H l=some (.lst xs)) → (-(2 ^ 63)≤k) → (k < 2 ^ 63) → (xs.length*k.toNat≤sizeLine) → (∀ p, H p=none → Q (.ref p) (upd H p (.lst (List.replicate k.toNat xs).flatten))) → um x y H Q
theorem oI {α : Type}(xs : List α)(k : Nat) : (List.replicate k xs).flatten.length=k*xs.length := by
  induction k with
  | zero => simp
  | succ k ih => rw [wc, w6, vb, ih, zm, Nat.add_comm]
theorem jF : OpR X (binaryOp .Mult) um := by
  intro pins s σ H x y v u Q I rx ry h
  obtain ⟨l, k, xs, rfl, rfl, hH, h1, h2, hz, q⟩ := h
  cases rx
  obtain ⟨t, rfl⟩ := ry
  obtain ⟨z, its, n, r, hl, e⟩ := I.lstM hH
  have hlen : its.toArray.size*k.toNat≤sizeLine := by rw [vj, ← hl];exact hz
  have hcap : ¬ its.toArray.size*k.toNat > (2 ^ 63 - 1) / 8 := by
    have : (sizeLine : Nat)≤(2 ^ 63 - 1) / 8 := by decide
    omega
  have hfit : ¬ (!Builtin.List.listFitsIndex k)=true := by
    rw [fitsIndex_both h1 h2]
    exact vm
  have hlong : ¬ Builtin.List.listTooLong (its.toArray.size*k.toNat)=true := by
    rw [iu hlen]
    exact vm
  have hnew : List.foldl (fun x1 x2 => x1++x2) #[] (List.replicate (if its.toArray.isEmpty=true then 0 else k.toNat) its.toArray)=(List.replicate k.toNat its).flatten.toArray := by
    have f0 : ∀ m : Nat, List.foldl (fun x1 x2 => x1++x2) #[] (List.replicate m its.toArray)=(List.replicate m its).flatten.toArray := fun m => by
      have := fJ its m []
      rw [List.nil_append] at this
      exact this
    rw [f0]
    cases its with
    | nil => simp
    | cons a r' => rw [if_neg (by simp)]
  refine wpAny_binaryOp_repeat_ref (T := "list") (U := "int") (by decide) ⟨_, e, rfl⟩ (fun s' => typeIs_int s' k t) noFill_list_mul F.fills_int_mul F.slot_int_rmul repeat_list F.slot_int_index.lookup
    (xB F.slot_int_rmul (typeIs_int s k t) F.entry_int_rmul (F.args_int_rmul_2 _ _) (int___rmul___int_list k t l its.toArray n)
      ⟨e, rfl, ⟨_, e, rfl⟩, xB F.slot_list_mul ⟨_, e, rfl⟩ F.entry_list_mul (F.args_list_mul_2 _ _) (AutoListH.list___mul___list_int_3 l its.toArray n k t hfit hcap hlong) ⟨e, ?_⟩⟩)
  rw [hnew]
  exact ⟨.ref _, _, I.lnew (t' := s.toks) (r.rep k.toNat) (by rw [oI, Nat.mul_comm];exact hz), rfl, q _ I.fresh⟩
end
section
variable {prog : Program} {w : World} {A : Around} {E : Value → Shared → Prop} {s : Shared}
end
section
variable {X : Cx}
end
section
variable {κ : Type} [DecidableEq κ]
def bP (kvs : List (κ × V))(k : κ) : Option V := (kvs.find? fun kv => decide (kv.1=k)).map (·.2)
def bQ (kvs : List (κ × V))(k : κ)(v : V) : List (κ × V) :=
  if (kvs.any fun kv => decide (kv.1=k))=true then kvs.map (fun kv => if kv.1=k then (kv.1, v) else kv) else kvs++[(k, v)]
theorem aQ {p : κ × V}{r : List (κ × V)}{k : κ}(e : p.1=k) : bP (p::r) k=some p.2 := by simp [bP, xh, e]
theorem aR {p : κ × V}{r : List (κ × V)}{k : κ}(e : ¬ p.1=k) : bP (p::r) k=bP r k := by simp [bP, xh, e]
theorem cK (k : κ) : ∀ kvs : List (κ × V), (kvs.any fun kv => decide (kv.1=k))=(bP kvs k).isSome
  | [] => rfl
  | p::r => by
    rw [xo]
    by_cases e : p.1=k
    · simp only [aQ e, wg e, Bool.true_or, Option.isSome_some]
    · rw [aR e, vS e, Bool.false_or];exact cK k r
theorem iw (k j : κ)(y : V) : ∀ kvs : List (κ × V), bP (kvs.map fun kv => if kv.1=k then (kv.1, y) else kv) j=(bP kvs j).map fun x => if j=k then y else x
  | [] => rfl
  | p::r => by
    have ih := iw k j y r
    rw [vn]
    by_cases h : p.1=k
    · rw [if_pos h]
      by_cases e : p.1=j
      · rw [aQ (p := (p.1, y)) e, aQ e, yb, if_pos (e.symm.trans h)]
      · rw [aR (p := (p.1, y)) e, aR e, ih]
    · rw [if_neg h]
      by_cases e : p.1=j
      · rw [aQ (p := p) e, aQ e, yb, if_neg (fun z => h (e.trans z))]
      · rw [aR (p := p) e, aR e, ih]
theorem fM (k j : κ)(y : V) : ∀ kvs : List (κ × V), bP kvs k=none → bP (kvs++[(k, y)]) j=if j=k then some y else bP kvs j
  | [], _ => by
    by_cases e : k=j
    · rw [if_pos e.symm];exact aQ (p := (k, y)) e
    · rw [if_neg (fun z => e z.symm)];exact aR (p := (k, y)) e
  | p::r, hn => by
    rw [yY]
    have hk : ¬ p.1=k := fun z => by rw [aQ z] at hn;cases hn
    rw [aR hk] at hn
    have ih := fM k j y r hn
    by_cases e : p.1=j
    · rw [aQ e, aQ e, if_neg (fun z => hk (e.trans z))]
    · rw [aR e, aR e, ih]
theorem cX (kvs : List (κ × V))(k j : κ)(y : V) : bP (bQ kvs k y) j=if j=k then some y else bP kvs j := by
  unfold bQ
  by_cases a : (kvs.any fun kv => decide (kv.1=k))=true
  · rw [if_pos a, iw]
    rw [cK] at a
    by_cases e : j=k
    · obtain ⟨x, hx⟩ := yD.mp a
      rw [if_pos e, e, hx, yb, if_pos rfl]
    · rw [if_neg e]
      cases bP kvs j with
      | none => rfl
      | some x => rw [yb, if_neg e]
  · rw [if_neg a]
    refine fM k j y kvs ?_
    rw [cK] at a
    cases q : bP kvs k with
    | none => rfl
    | some x => rw [q] at a;exact (a rfl).elim
theorem bx (kvs : List (κ × V))(k : κ)(v : V) : (bQ kvs k v).length≤kvs.length+1 := by
  unfold bQ
  split
  · rw [fu];omega
  · rw [vb, vN, yc];omega
theorem ie.isSome_eq {o : Option V}{u : Option Value}(r : ie o u) : o.isSome=u.isSome := by
  cases o with
  | none => cases u with
    | none => rfl
    | some _ => exact (show False from r).elim
  | some _ => cases u with
    | none => exact (show False from r).elim
    | some _ => rfl
theorem ie.getD {o : Option V}{u : Option Value}{d : V}{d' : Value}(r : ie o u)(rd : aM d d') : aM (o.getD d) (u.getD d') := by
  cases o with
  | none => cases u with
    | none => exact rd
    | some _ => exact (show False from r).elim
  | some _ => cases u with
    | none => exact (show False from r).elim
    | some _ => exact r
theorem KV.val {kvs : List (κ × V)}{vs : List (κ × Value)}(r : KV kvs vs)(k : κ) : ie (bP kvs k) (valueAt vs k) := by
  unfold KV at r
  induction r with
  | nil => exact True.intro
  | @cons p q ps qs h t ih =>
    obtain ⟨h1, h2⟩ := h
    by_cases e : p.1=k
    · have e' : q.1=k := h1.symm.trans e
      have b : valueAt (q::qs) k=some q.2 := by simp [valueAt, xh, e']
      rw [aQ e, b];exact h2
    · have e' : ¬ q.1=k := fun z => e (h1.trans z)
      have b : valueAt (q::qs) k=valueAt qs k := by simp [valueAt, xh, e']
      rw [aR e, b];exact ih
theorem KV.any {kvs : List (κ × V)}{vs : List (κ × Value)}(r : KV kvs vs)(k : κ) : (kvs.any fun kv => decide (kv.1=k))=vs.any fun kv => decide (kv.1=k) := by
  unfold KV at r
  induction r with
  | nil => rfl
  | cons h t ih => rw [xo, xo, ih, h.1]
theorem KV.repl {kvs : List (κ × V)}{vs : List (κ × Value)}(r : KV kvs vs)(k : κ){y : V}{u : Value}(ry : aM y u) :
    KV (kvs.map fun kv => if kv.1=k then (kv.1, y) else kv) (vs.map fun kv => if kv.1=k then (kv.1, u) else kv) := by
  unfold KV at r ⊢
  induction r with
  | nil => exact .nil
  | @cons p q ps qs h t ih =>
    rw [vn, vn]
    refine .cons ?_ ih
    obtain ⟨h1, h2⟩ := h
    by_cases e : p.1=k
    · rw [if_pos e, if_pos (h1.symm.trans e)];exact ⟨h1, ry⟩
    · rw [if_neg e, if_neg (fun z => e (h1.trans z))];exact ⟨h1, h2⟩
theorem KV.put {kvs : List (κ × V)}{vs : List (κ × Value)}(r : KV kvs vs)(k : κ){y : V}{u : Value}(ry : aM y u) : KV (bQ kvs k y) (stored vs k u) := by
  unfold bQ stored
  rw [r.any k]
  by_cases e : (vs.any fun kv => decide (kv.1=k))=true
  · rw [if_pos e, if_pos e];exact r.repl k ry
  · rw [if_neg e, if_neg e];exact Paired.snoc r ⟨rfl, ry⟩
theorem KV.length {kvs : List (κ × V)}{vs : List (κ × Value)}(r : KV kvs vs) : kvs.length=vs.length := wV r
end
theorem i0 {P : Program}{w : World}{k : Key}{u : Value}(r : aM (kV k) u) : (aH P w).is k u=true := by
  cases k with
  | inl i => obtain ⟨t, e⟩ := (show ∃ t, u=Value.int i t from r);subst e;exact gC P w i t
  | inr x => obtain ⟨t, e⟩ := (show ∃ t, u=Value.str x t from r);subst e;exact gD P w x t
theorem fN {P : Program}{w : World} : ∀ {ks : List Key} {us : List Value}, aI (ks.map kV) us → ItemsAre (aH P w) ks us
  | [], _, r => by rw [yr] at r;cases r;exact .nil
  | k::ks, _, r => by
    rw [vn] at r
    cases r with
    | cons h t => exact .cons (i0 h) (fN t)
abbrev KT (H : Hp) : List (List Key × V) → List (List Key × Addr × Value) → Prop := Paired fun p q => p.1=q.1 ∧ H q.2.1=some (.tup (p.1.map kV)) ∧ aM p.2 q.2.2
theorem KT.val {H : Hp}{kvs : List (List Key × V)}{xs : List (List Key × Addr × Value)}(r : KT H kvs xs)(k : List Key) : ie (bP kvs k) ((atKey xs k).map (·.2)) := by
  induction r with
  | nil => exact True.intro
  | @cons p q ps qs h t ih =>
    obtain ⟨h1, _, h2⟩ := h
    by_cases e : p.1=k
    · have e' : q.1=k := h1.symm.trans e
      have b : atKey (q::qs) k=some q.2 := by simp [atKey, xh, e']
      rw [aQ e, b];exact h2
    · have e' : ¬ q.1=k := fun z => e (h1.trans z)
      have b : atKey (q::qs) k=atKey qs k := by simp [atKey, xh, e']
      rw [aR e, b];exact ih
theorem KT.repl {H : Hp}{kvs : List (List Key × V)}{xs : List (List Key × Addr × Value)}(r : KT H kvs xs)(k : List Key){y : V}{u : Value}(ry : aM y u) :
    KT H (kvs.map fun kv => if kv.1=k then (kv.1, y) else kv) (xs.map (putAt k u)) := by
  induction r with
  | nil => exact .nil
  | @cons p q ps qs h t ih =>
    rw [vn, vn]
    refine .cons ?_ ih
    obtain ⟨h1, h2, h3⟩ := h
    unfold putAt
    by_cases e : p.1=k
    · rw [if_pos e, if_pos (h1.symm.trans e)];exact ⟨h1, h2, ry⟩
    · rw [if_neg e, if_neg (fun z => e (h1.trans z))];exact ⟨h1, h2, h3⟩
theorem KT.put {H : Hp}{kvs : List (List Key × V)}{xs : List (List Key × Addr × Value)}(r : KT H kvs xs)(k : List Key){b : Addr}{y : V}{u : Value}(hb : H b=some (.tup (k.map kV)))(ry : aM y u) :
    KT H (bQ kvs k y) (storedH xs k b u) := by
  have e : (kvs.any fun kv => decide (kv.1=k))=(atKey xs k).isSome := by
    rw [cK, (r.val k).isSome_eq, Option.isSome_map]
  unfold bQ storedH
  rw [e]
  by_cases q : (atKey xs k).isSome=true
  · rw [if_pos q, if_pos q];exact r.repl k ry
  · rw [if_neg q, if_neg q];exact Paired.snoc r ⟨rfl, hb, ry⟩
theorem KT.keeps {H H' : Hp}{kvs : List (List Key × V)}{xs : List (List Key × Addr × Value)}(r : KT H kvs xs)(ht : ∀ b ys, H b=some (.tup ys) → H' b=some (.tup ys)) : KT H' kvs xs :=
  Paired.mapP r fun _ _ z => ⟨z.1, ht _ _ z.2.1, z.2.2⟩
section
variable {P : Program} {w : World} {H : Hp} {h : Heap} {a : Addr}
theorem qE {u : HO}(ok : HOk P w H h)(e : Rd H a u) : aW P w H h a u := e.ok ok
theorem gN {kvs : List (Key × V)}(ok : HOk P w H h)(e : Rd H a (.dK kvs)) : kvs.length≤sizeLine ∧ (a == sysModules)=false ∧ ∃ vs, KV kvs vs ∧ h.DictOf (aH P w) a vs :=
  show aW P w H h a (.dK kvs) from qE ok e
theorem me {kvs : List (Key × V)}(ok : HOk P w H h)(e : H a=some (.dK kvs)) : kvs.length≤sizeLine ∧ (a == sysModules)=false ∧ ∃ vs, KV kvs vs ∧ h.DictOf (aH P w) a vs := gN ok (.inl e)
theorem fO {ks : List Key}(ok : HOk P w H h)(e : H a=some (.tup (ks.map kV))) : (tupleKind (aH P w)).is h ks a := by
  obtain ⟨_, its, r, ⟨o, h1, h2, n, h3⟩, _⟩ := (show aW P w H h a (.tup (ks.map kV)) from ok a _ e)
  exact ⟨o, its.toArray, n, h1, h2, h3, by simpa using fN r⟩
theorem i3 {kvs : List (List Key × V)}(ok : HOk P w H h)(e : Rd H a (.dT kvs)) : kvs.length≤sizeLine ∧ (a == sysModules)=false ∧
    ∃ xs, KT H kvs xs ∧ h.DictOfH (tupleKind (aH P w)) a xs := by
  obtain ⟨z, y, xs, r, o, es, ep, h1, h2, h3, h4, h5⟩ := (show aW P w H h a (.dT kvs) from qE ok e)
  refine ⟨z, y, xs, r, o, es, ep, h1, h2, h3, h4, fun x hx => ?_, h5⟩
  have all : ∀ {l : List (List Key × V)} {m : List (List Key × Addr × Value)}, KT H l m → ∀ x∈m, (tupleKind (aH P w)).is h x.1 x.2.1 := by
    intro l m q
    induction q with
    | nil => intro x hx;exact nomatch hx
    | @cons p q ps qs hq t ih =>
      intro x hx
      rcases vt.mp hx with e | hx
      · subst e
        exact fO ok (by rw [← hq.1];exact hq.2.1)
      · exact ih x hx
  exact all r x hx
theorem sS {kvs : List (List Key × V)}(ok : HOk P w H h)(e : H a=some (.dT kvs)) : kvs.length≤sizeLine ∧ (a == sysModules)=false ∧
    ∃ xs, KT H kvs xs ∧ h.DictOfH (tupleKind (aH P w)) a xs := i3 ok (.inl e)
end
def dX (H : Hp)(a : Addr)(y : V)(r : Option V) : Prop :=
  (∃ kvs k, Rd H a (.dK kvs) ∧ y=kV k ∧ r=bP kvs k) ∨ ∃ kvs k b, Rd H a (.dT kvs) ∧ y = .ref b ∧ H b=some (.tup (k.map kV)) ∧ r=bP kvs k
def mf (H : Hp)(a : Addr)(y v : V)(H' : Hp) : Prop :=
  (∃ kvs k, H a=some (.dK kvs) ∧ y=kV k ∧ kvs.length < sizeLine ∧ H'=upd H a (.dK (bQ kvs k v))) ∨
  ∃ kvs k b, H a=some (.dT kvs) ∧ y = .ref b ∧ H b=some (.tup (k.map kV)) ∧ kvs.length < sizeLine ∧ H'=upd H a (.dT (bQ kvs k v))
theorem dX.k {H : Hp}{a : Addr}{kvs : List (Key × V)}{k : Key}(e : H a=some (.dK kvs)) : dX H a (kV k) (bP kvs k) := .inl ⟨kvs, k, .inl e, rfl, rfl⟩
theorem mf.k {H : Hp}{a : Addr}{kvs : List (Key × V)}{k : Key}{v : V}(e : H a=some (.dK kvs))(hl : kvs.length < sizeLine) : mf H a (kV k) v (upd H a (.dK (bQ kvs k v))) := .inl ⟨kvs, k, e, rfl, hl, rfl⟩
section
variable {X : Cx} {pins : List (Addr × Obj)} {σ : St} {H : Hp} {s : Shared} {a : Addr} {y v : V} {u r : Value} {o : Option V} {A : Around} {E : Value → Shared → Prop}
theorem Inv.big (I : Inv X pins σ H s) : sysModules < s.heap.objs.size := by
  have h : mainGlobals < s.heap.objs.size := (I.mod.glob.keeps I.bk).lt
  exact Nat.lt_trans (by decide) h
theorem jG {Q : Value → Shared → Prop}(hu : A.units+1 < cLine)(I : Inv X pins σ H s)(g : dX H a y (some v))(ry : aM y u)(h : ∀ w' s', Inv X pins σ H s' → aM v w' → Q w' s') :
    wpAny (model X.prog X.w) A (getItem (.ref a) u) Q E s := by
  rcases g with ⟨kvs, k, e, ey, l⟩ | ⟨kvs, k, b, e, ey, eb, l⟩
  · subst ey
    obtain ⟨z, hd, vs, rel, dd⟩ := gN I.hok e
    obtain ⟨w', hw, rw'⟩ := ie.some_of (v := v) (o := valueAt vs k) (by rw [l];exact rel.val k)
    exact wpAny_getItem_of (i0 ry) dd.mapOf hw (h w' _ (I.tok _) rw')
  · subst ey
    cases (show u=Value.ref b from ry)
    obtain ⟨z, hd, xs, rel, dd⟩ := i3 I.hok e
    obtain ⟨w', hw, rw'⟩ := ie.some_of (v := v) (o := (atKey xs k).map (·.2)) (by rw [l];exact rel.val k)
    obtain ⟨p, hp, hp2⟩ := vL.mp hw
    refine wpAny_getItem_heap (xE hu) (fO I.hok eb) dd hp ?_
    rw [hp2]
    exact h w' _ (I.tok _) rw'
theorem oJ {Q : Value → Shared → Prop}(hu : A.units+1 < cLine)(I : Inv X pins σ H s)(g : dX H a y o)(ry : aM y u)(h : ∀ s', Inv X pins σ H s' → Q (.bool (!o.isSome)) s') :
    wpAny (model X.prog X.w) A (compareOp .NotIn u (.ref a)) Q E s := by
  rcases g with ⟨kvs, k, e, ey, l⟩ | ⟨kvs, k, b, e, ey, eb, l⟩
  · subst ey
    obtain ⟨z, hd, vs, rel, dd⟩ := gN I.hok e
    refine wpAny_notIn_of (i0 ry) hd dd.mapOf ?_
    rw [← (rel.val k).isSome_eq, ← l]
    exact h _ (I.tok _)
  · subst ey
    cases (show u=Value.ref b from ry)
    obtain ⟨z, hd, xs, rel, dd⟩ := i3 I.hok e
    refine wpAny_notIn_heap (xE hu) (fO I.hok eb) hd dd ?_
    have q := (rel.val k).isSome_eq
    rw [Option.isSome_map] at q
    rw [← q, ← l]
    exact h _ (I.tok _)
theorem eJ {h' : Heap}{t' : Nat}{ob : HO}(I : Inv X pins σ H s)(mu : Mut (H a))(hs : Heap.SameBut a s.heap h')(he : ∃ q, h'.get? a=some q)(new : aW X.prog X.w (upd H a ob) h' a ob) :
    Inv X pins σ (upd H a ob) { s with heap := h', toks := t' } :=
  I.write (x := a) (e := a) mu (.inl rfl) (fun b q hb z => (hs.2 b hb).trans z) he new
theorem nS {P : Program}{w : World}{H' : Hp}{h' : Heap}{kvs : List (Key × V)}{vs : List (Key × Value)}(z : kvs.length≤sizeLine)(hd : (a == sysModules)=false)(rel : KV kvs vs)(dd : h'.DictOf (aH P w) a vs) :
    aW P w H' h' a (.dK kvs) := ⟨z, hd, vs, rel, dd⟩
theorem jH {H' : Hp}{Q : Unit → Shared → Prop}(hu : A.units+1 < cLine)(I : Inv X pins σ H s)(g : mf H a y v H')(ry : aM y u)(rv : aM v r)(h : ∀ s', Inv X pins σ H' s' → Q () s') :
    wpAny (model X.prog X.w) A (setItem (.ref a) u r) Q E s := by
  rcases g with ⟨kvs, k, e, ey, l, eH⟩ | ⟨kvs, k, b, e, ey, eb, l, eH⟩
  · subst ey eH
    obtain ⟨z, hd, vs, rel, dd⟩ := me I.hok e
    have hz : vs.length≤sizeLine := by rw [← rel.length];exact z
    have hl : (bQ kvs k v).length≤sizeLine := by have := bx kvs k v;omega
    refine wpAny_setItem_pairs (hsz := hz) (i0 ry) dd fun h' dd' hs => h _ ?_
    have he : ∃ q, h'.get? a=some q := let ⟨q, _, _, hq, _⟩ := dd';⟨q, hq⟩
    exact eJ I (by rw [e];exact True.intro) hs he (nS hl hd (rel.put k rv) dd')
  · subst ey eH
    cases (show u=Value.ref b from ry)
    obtain ⟨z, hd, xs, rel, dd⟩ := sS I.hok e
    have hz : xs.length≤sizeLine := by rw [← wV rel];exact z
    have hl : (bQ kvs k v).length≤sizeLine := by have := bx kvs k v;omega
    refine wpAny_setItem_heap (hsz := hz) (xE hu) (fO I.hok eb) dd fun h' dd' hs => h _ ?_
    obtain ⟨q, es, ep, hq, h2, h3, h4, _, h5⟩ := dd'
    refine eJ I (by rw [e];exact True.intro) hs ⟨q, hq⟩ ⟨hl, hd, _, (rel.put k eb rv).keeps fun c ys ec => ?_, q, es, ep, hq, h2, h3, h4, h5⟩
    rw [aj (oj ec e (fun z => nomatch z))]
    exact ec
end
section
variable {X : Cx} {pins : List (Addr × Obj)} {σ : St} {H : Hp} {s : Shared} {a : Addr} {kvs : List (Key × V)} {k : Key} {u : Value} {A : Around} {E : Value → Shared → Prop}
theorem sT {Q : Value → Shared → Prop}(I : Inv X pins σ H s)(e : Rd H a (.dK kvs))(h : ∀ t s', Inv X pins σ H s' → Q (.int kvs.length t) s') : wpAny (model X.prog X.w) A (call (.builtin "len") [.ref a]) Q E s := by
  obtain ⟨z, hd, vs, rel, dd⟩ := gN I.hok e
  refine call_len_dict hd dd (by rw [← rel.length];rw [x9] at z;omega) ?_
  rw [← rel.length]
  exact h _ _ (I.tok _)
end
def uo (i : Expr) : Prop := ∀ ov iv, subscripted i false ov iv=operate [ov, iv] (getItem ov iv)
theorem oK {prog : Program}{w : World}{A : Around}{E : Value → Shared → Prop}{s : Shared}{env : Env}{value slice : Expr}{pos : Pos}{T id : String}{Q : Value → Shared → Prop}
    (hl : typeLookup (.type T) "__getitem__" = pure (some (.builtin id))) (hs : uo slice)
    (h : wpAny (model prog w) A (eval value env) (fun o s₁ => wpAny (model prog w) A (eval slice env) (fun i s₂ => s₂.TypeIs o T ∧ wpAny (model prog w) A (getItem o i) Q E s₂) E s₁) E s) :
    wpAny (model prog w) A (eval (.Subscript value slice pos) env) Q E s := by
  refine Subscript_ (wQ h (fun o s₁ h₁ => wQ h₁ (fun i s₂ h₂ => ?_) fun _ _ x => x) fun _ _ x => x)
  obtain ⟨hT, h₂⟩ := h₂
  unfold subscriptTail
  refine va ?_
  rw [getitemInPython_of_ne hT.not_modules]
  refine va (yd hT hl ?_)
  have fin : wpAny (model prog w) A (subscripted slice false o i) (fun r s₃ => wpAny (model prog w) A (letTemporaryGo value o r >>= fun _ => pure r) Q E s₃) E s₂ := by
    rw [hs o i]
    exact wpAny_operating (wQ h₂ (fun r s₃ h₃ => va (wpAny_letTemporaryGo (vE h₃))) fun _ _ x => x)
  first
    | exact vE (va fin)
    | exact va (vE (va fin))
    | exact va fin
theorem gO {X : Cx}{pins : List (Addr × Obj)}{σ : St}{H : Hp}{s : Shared}{a : Addr}{y : V}{o : Option V}(I : Inv X pins σ H s)(g : dX H a y o) : s.TypeIs (.ref a) "dict" := by
  rcases g with ⟨kvs, k, e, _, _⟩ | ⟨kvs, k, b, e, _, _, _⟩
  · obtain ⟨_, _, vs, _, dd⟩ := gN I.hok e
    exact dd.typeIs
  · obtain ⟨_, _, xs, _, dd⟩ := i3 I.hok e
    exact dd.typeIs
def sU (td ty : TE) : TE := fun σ H Q => td σ H fun x H1 => ty σ H1 fun y H2 => ∃ a v, x = .ref a ∧ dX H2 a y (some v) ∧ Q v H2
def jI (ty td : TE) : TE := fun σ H Q => ty σ H fun y H1 => td σ H1 fun x H2 => ∃ a o, x = .ref a ∧ dX H2 a y o ∧ Q (.bl (!o.isSome)) H2
def sV (td ty tv : TE) : TS := fun D σ H => tv σ H fun v H1 => td σ H1 fun x H2 => ty σ H2 fun y H3 => ∃ a H4, x = .ref a ∧ mf H3 a y v H4 ∧ D.nx σ H4
section
variable {X : Cx} {o i e value : Expr} {pos pos' tpos : Pos} {td ty tv : TE}
theorem aX (hu : X.A.units+1 < cLine)(ho : PE X o td)(hi : PE X i ty)(hs : uo i) : PE X (.Subscript o i pos) (sU td ty) := by
  intro pins s σ H Q I h
  refine oK PySem.F.slot_dict_getitem.lookup hs (thn (ho pins s σ H _ I h) fun u s1 ⟨x, H1, I1, rx, q1⟩ => thn (hi pins s1 σ H1 _ I1 q1) fun iv s2 zq68 => ?_)
  obtain ⟨y, H2, I2, ry, a, v, ex, g, q2⟩ := zq68
  subst ex
  obtain rfl : u=Value.ref a := rx
  exact ⟨gO I2 g, jG hu I2 g ry fun w' s3 I3 rw' => ⟨v, H2, I3, rw', q2⟩⟩
theorem jJ (hu : X.A.units+1 < cLine)(hi : PE X i ty)(ho : PE X o td) : PC X .NotIn i o (jI ty td) := by
  intro pins s σ H Q I h
  refine thn (hi pins s σ H _ I h) fun iv s1 ⟨y, H1, I1, ry, q1⟩ => thn (ho pins s1 σ H1 _ I1 q1) fun u s2 zq70 => ?_
  obtain ⟨x, H2, I2, rx, a, ov, ex, g, q2⟩ := zq70
  subst ex
  obtain rfl : u=Value.ref a := rx
  exact oJ hu I2 g ry fun s3 I3 => ⟨.bl (!ov.isSome), H2, I3, rfl, q2⟩
theorem cF (hu : X.A.units+1 < cLine)(ho : PE X o td)(hi : PE X i ty)(hv : PE X value tv)(hs : swapsWith value (some (.Subscript o i pos')) pos.line X.env=pure false) :
    PS X (.Assign [.Subscript o i pos'] value pos) (sV td ty tv) := by
  intro pins s σ H D I h
  refine wpAny_Assign_Subscript (thn (hv pins s σ H _ I h) fun r s1 ⟨v, H1, I1, rv, q1⟩ => thn (ho pins s1 σ H1 _ I1 q1) fun u s2 ⟨x, H2, I2, rx, q2⟩ => thn (hi pins s2 σ H2 _ I2 q2) fun iv s3 zq71 => ?_) hs
  obtain ⟨y, H3, I3, ry, a, H4, ex, g, q3⟩ := zq71
  subst ex
  obtain rfl : u=Value.ref a := rx
  exact jH hu I3 g ry rv fun s4 I4 => ⟨σ, H4, I4, q3⟩
end
theorem ix {P : Program}{w : World}{H : Hp}(h : Heap)(hb : sysModules < h.objs.size) : aW P w H (h.push { cls := .type "dict", data := .dict #[] }) h.objs.size (.dK []) :=
  ⟨vR _, beq_eq_false_iff_ne.mpr (Ne.symm (vG hb)), [], .nil, Heap.DictOf.new h⟩
def qF : TE := fun _ H Q => ∀ p, H p=none → Q (.ref p) (upd H p (.dK []))
section
variable {X : Cx} {pos : Pos}
theorem eK : PE X (.Dict [] [] pos) qF := fun pins s σ H Q I h =>
  wpAny_Dict_empty ⟨.ref s.heap.objs.size, _, I.laid (a := s.heap.objs.size) (o := .dK []) (t' := s.toks) (fun _ _ q => u_ _ q) (vd _) (ix s.heap I.big), rfl, h _ (I.hok.fresh (vd _))⟩
end
def jK : List (TE × TE) → St → Hp → (List (V × V) → Hp → Prop) → Prop
  | [], _, H, Q => Q [] H
  | (tk, tv)::r, σ, H, Q => tk σ H fun x H1 => tv σ H1 fun y H2 => jK r σ H2 fun ps H3 => Q ((x, y)::ps) H3
abbrev VV : List (V × V) → List (Value × Value) → Prop := Paired fun p q => aM p.1 q.1 ∧ aM p.2 q.2
def PPs (X : Cx)(pos : Pos)(keys : List (Option Expr))(values : List Expr)(trs : List (TE × TE)) : Prop :=
  ∀ (pins : List (Addr × Obj)) (s : Shared) (σ : St) (H : Hp) (Q : List (V × V) → Hp → Prop), Inv X pins σ H s → jK trs σ H Q →
    wpAny (model X.prog X.w) X.A (evalPairs (pairTrees keys values X.env pos)) (fun vs s' => ∃ ps H', Inv X pins σ H' s' ∧ VV ps vs ∧ Q ps H') X.xe s
theorem jL {X : Cx}{pos : Pos} : PPs X pos [] [] [] := fun pins s σ H Q I h => pairTrees_nil_walk ⟨[], H, I, .nil, h⟩
theorem cL {X : Cx}{pos : Pos}{k v : Expr}{ks : List (Option Expr)}{vs : List Expr}{tk tv : TE}{trs : List (TE × TE)}(hk : PE X k tk)(hv : PE X v tv)(hr : PPs X pos ks vs trs) :
    PPs X pos (some k::ks) (v::vs) ((tk, tv)::trs) := fun pins s σ H Q I h =>
  pairTrees_cons_walk (thn (hk pins s σ H _ I h) fun u s1 ⟨x, H1, I1, rx, q1⟩ => thn (hv pins s1 σ H1 _ I1 q1) fun w2 s2 ⟨y, H2, I2, ry, q2⟩ =>
    thn (hr pins s2 σ H2 _ I2 q2) fun ws s3 zq75 => (by obtain ⟨ps, H3, I3, rel, q3⟩ := zq75;exact ⟨(x, y)::ps, H3, I3, .cons ⟨rx, ry⟩ rel, q3⟩))
def cV (kvs more : List (Key × V)) : List (Key × V) := more.foldl (fun acc kv => bQ acc kv.1 kv.2) kvs
theorem KV.merge : ∀ {more : List (Key × V)} {rs : List (Key × Value)} {kvs : List (Key × V)} {vs : List (Key × Value)}, KV more rs → KV kvs vs → KV (cV kvs more) (merged vs rs) := by
  intro more rs kvs vs r
  unfold KV at r
  induction r generalizing kvs vs with
  | nil => intro q;exact q
  | @cons p q ps qs h t ih =>
    intro r0
    have e : KV (bQ kvs p.1 p.2) (stored vs q.1 q.2) := by
      have := r0.put p.1 h.2
      rw [← h.1];exact this
    exact ih e
theorem cM : ∀ (more kvs : List (Key × V)), (cV kvs more).length≤kvs.length+more.length
  | [], kvs => by show kvs.length≤kvs.length+0;omega
  | p::r, kvs => by
    have h1 := cM r (bQ kvs p.1 p.2)
    have h2 := bx kvs p.1 p.2
    show (cV (bQ kvs p.1 p.2) r).length≤_
    rw [vN];omega
theorem ed {P : Program}{w : World} : ∀ {kvs : List (Key × V)} {ws : List (Value × Value)}, VV (kvs.map fun kv => (kV kv.1, kv.2)) ws → ∃ rs, Carries (aH P w) ws rs ∧ KV kvs rs
  | [], _, r => by rw [yr] at r;cases r;exact ⟨[], True.intro, .nil⟩
  | p::kvs, _, r => by
    rw [vn] at r
    cases r with
    | @cons a b as bs h t =>
      obtain ⟨rs, c, q⟩ := ed (P := P) (w := w) t
      obtain ⟨b1, b2⟩ := b
      exact ⟨(p.1, b2)::rs, ⟨i0 h.1, rfl, c⟩, .cons ⟨rfl, h.2⟩ q⟩
def sW (trs : List (TE × TE)) : TE := fun σ H Q => ∀ p, H p=none → jK trs σ (upd H p (.dK [])) fun ps H2 => H2 p=some (.dK []) ∧ ∃ kvs : List (Key × V), ps=kvs.map (fun kv => (kV kv.1, kv.2)) ∧ kvs.length≤15 ∧ Q (.ref p) (upd H2 p (.dK (cV [] kvs)))
theorem jM {X : Cx}{pos : Pos}{keys : List (Option Expr)}{values : List Expr}{trs : List (TE × TE)}(h : PPs X pos keys values trs)(hall : keys.all (·.isSome)=true)(hl : keys.length=values.length)(h0 : keys≠[])
    (h15 : keys.length≤15) : PE X (.Dict keys values pos) (sW trs) := by
  intro pins s σ H Q I q
  have hn := I.hok.fresh (vd s.heap.objs.size)
  have I1 := I.laid (a := s.heap.objs.size) (o := .dK []) (h' := s.heap.push { cls := .type "dict", data := .dict #[] }) (t' := s.toks) (fun _ _ q => u_ _ q) (vd _) (ix s.heap I.big)
  refine wpAny_Dict_walk (knd := aH X.prog X.w) hall hl h0 h15 (thn (h pins _ σ _ _ I1 (q _ hn)) fun ws s2 zq76 => ?_)
  obtain ⟨ps, H2, I2, rel, e, kvs, ep, lk, q2⟩ := zq76
  subst ep
  obtain ⟨rs, c, rk⟩ := ed (P := X.prog) (w := X.w) rel
  obtain ⟨z, hd, vs0, r0, dd⟩ := me I2.hok e
  cases r0
  refine ⟨rs, c, dd, fun h' dd' hs => ⟨.ref s.heap.objs.size, _, ?_, rfl, q2⟩⟩
  have hz : (cV [] kvs).length≤sizeLine := by
    have h1 := cM kvs []
    rw [yc] at h1
    rw [x9];omega
  have he : ∃ q, h'.get? s.heap.objs.size=some q := let ⟨q, _, _, hq, _⟩ := dd';⟨q, hq⟩
  exact eJ I2 (by rw [e];exact True.intro) hs he (nS hz hd (rk.merge .nil) dd')
structure M2 (X : Cx) (o : Expr) (m : Str) (apos : Pos) (e f : Expr) (cpos : Pos) : Prop where
  base : attributeBase o m X.env (eval o X.env)=eval o X.env
  few : ((backTo cpos (starEach [e, f] X.env)).all (fun x => !x.1) && (backToKw cpos (keywordEach [] X.env)).all (fun x => x.1.isSome)
    && decide (([e, f] : List Expr).length+([] : List Keyword).length+(if ([] : List Keyword).isEmpty then 0 else 1) < 30))=true
  line : (apos.endLine == cpos.line)=true
  trees : backTo cpos (starEach [e, f] X.env)=[(false, eval e X.env), (false, eval f X.env)]
def IsD (H : Hp)(a : Addr) : Prop := (∃ kvs, Rd H a (.dK kvs)) ∨ ∃ kvs, Rd H a (.dT kvs)
theorem qG {X : Cx}{pins : List (Addr × Obj)}{σ : St}{H : Hp}{s : Shared}{a : Addr}(I : Inv X pins σ H s)(d : IsD H a) :
    s.TypeIs (.ref a) "dict" ∧ (∀ b, Value.ref a = .ref b → ∃ ob, s.heap.get? b=some ob ∧ ob.dict=none) ∧ (a == sysModules)=false := by
  rcases d with ⟨kvs, e⟩ | ⟨kvs, e⟩
  · obtain ⟨_, hd, vs, _, dd⟩ := gN I.hok e
    refine ⟨dd.typeIs, fun b q => ?_, hd⟩
    cases q
    obtain ⟨ob, _, _, h1, h2, _⟩ := dd
    exact ⟨ob, h1, h2.2.1⟩
  · obtain ⟨_, hd, xs, _, dd⟩ := i3 I.hok e
    refine ⟨dd.typeIs, fun b q => ?_, hd⟩
    cases q
    obtain ⟨ob, _, _, h1, h2, _⟩ := dd
    exact ⟨ob, h1, h2.2.1⟩
section
variable {X : Cx} {pins : List (Addr × Obj)} {σ : St} {H : Hp} {s : Shared} {a : Addr} {y d : V} {u r : Value} {o : Option V} {A : Around} {E : Value → Shared → Prop}
theorem qH {Q : Value → Shared → Prop}(hu : A.units+1 < cLine)(I : Inv X pins σ H s)(g : dX H a y o)(ry : aM y u)(rd : aM d r)(h : ∀ w' s', Inv X pins σ H s' → aM (o.getD d) w' → Q w' s') :
    wpAny (model X.prog X.w) A (call (.builtin "dict.get") [.ref a, u, r]) Q E s := by
  rcases g with ⟨kvs, k, e, ey, l⟩ | ⟨kvs, k, b, e, ey, eb, l⟩
  · subst ey
    obtain ⟨z, hd, vs, rel, dd⟩ := gN I.hok e
    refine call_meetsIn xS dd.typeIs y2 (yQ _ _ _) (meets_dict_get_default (aH X.prog X.w) a (i0 ry) hd r) ⟨_, dd.mapOf, h _ _ (I.tok _) ?_⟩
    rw [l]
    exact (rel.val k).getD rd
  · subst ey
    cases (show u=Value.ref b from ry)
    obtain ⟨z, hd, xs, rel, dd⟩ := i3 I.hok e
    refine call_meetsIn xS dd.typeIs y2 (yQ _ _ _) (meetsH_dict_get_default (tupleKind (aH X.prog X.w)) a b hd r) ⟨xE hu, k, xs, fO I.hok eb, dd, h _ _ (I.tok _) ?_⟩
    rw [l]
    exact (rel.val k).getD rd
end
def qI (td ty tx : TE) : TE := fun σ H Q => td σ H fun x H1 => ∃ a, x = .ref a ∧ IsD H1 a ∧ ty σ H1 fun y H2 => tx σ H2 fun z H3 => ∃ o, dX H3 a y o ∧ Q (o.getD z) H3
section
variable {X : Cx} {o e f : Expr} {apos cpos : Pos} {td ty tx : TE}
theorem mh (hu : X.A.units+1 < cLine)(ho : PE X o td)(he : PE X e ty)(hf : PE X f tx)(m : M2 X o "get" apos e f cpos) : PE X (.Call (.Attribute o "get" apos) [e, f] [] cpos) (qI td ty tx) := by
  intro pins s σ H Q I h
  refine wpAny_Call_method m.base m.few m.line PySem.F.plainAttrs_dict xS PySem.F.type_dict_get (thn (ho pins s σ H _ I h) fun u s1 zq78 => ?_)
  obtain ⟨x, H1, I1, rx, a, ex, d, q1⟩ := zq78
  subst ex
  obtain rfl : u=Value.ref a := rx
  obtain ⟨t1, t2, _⟩ := qG I1 d
  refine ⟨t1, t2, ?_⟩
  rw [m.trees]
  refine xK rfl (Calls.evalArgs_plain (yp (thn (he pins s1 σ H1 _ I1 q1) fun iv s2 ⟨y, H2, I2, ry, q2⟩ =>
    yp (thn (hf pins s2 σ H2 _ I2 q2) fun fv s3 ⟨z, H3, I3, rz, ov, g, q3⟩ => Calls.spliced_nil ?_))))
  exact qH hu I3 g ry rz fun w' s4 I4 rw' => ⟨_, H3, I4, rw', q3⟩
end
section
variable {X : Cx} {pins : List (Addr × Obj)} {σ : St} {H : Hp} {s : Shared} {a : Addr} {kvs : List (Key × V)} {A : Around} {E : Value → Shared → Prop}
end
section
variable {X : Cx} {pins : List (Addr × Obj)} {σ : St} {H : Hp} {s : Shared} {a : Addr} {y : V} {u : Value} {A : Around} {E : Value → Shared → Prop}
end
end L2
namespace Att
open PySem PySem.W PySem.Calls PyProof.Rows
theorem dv {P : Params}{h : Heap} : ∀ (ns : List Int) (vs : List Value), WellAll P h vs (ns.map WData.int) → IntsAre vs ns := by
  intro ns
  induction ns with
  | nil =>
    intro vs w
    rw [yr] at w
    cases w
    exact .nil
  | cons n ns ih =>
    intro vs w
    rw [vn] at w
    cases w with
    | cons a b =>
      cases a
      exact .cons _ _ (ih _ b)
theorem jN {l : OpenLaw}{n : Nat}(hn : l.most=some n){P : Params}{h : Heap}{args : List WData}{vals : List Value}
    (hpre : l.row.toRowW.claim.pre args=true) (hwl : WellAll P h vals args) :
    ∃ a vs ns, vals=[Value.ref a] ∧ args=[WData.list (ns.map WData.int)] ∧ h.get? a=some { cls := .type "list", data := .seq vs.toArray } ∧ IntsAre vs ns ∧ ns.length≤n := by
  have hsh : WShape.hasAll [] args [.list .int]=true := (pre_splitW hpre).1
  have hc : l.pre.holds [] { args := args }=true := (pre_splitW hpre).2
  obtain ⟨d, r, rfl, h1, h2⟩ := hasAllW_cons hsh
  obtain rfl := hasAllW_nil h2
  obtain ⟨xs, rfl, h3⟩ := hasW_list h1
  obtain ⟨ns, rfl⟩ := items_int h3
  have hlen : ns.length≤n := by
    unfold OpenLaw.pre at hc
    have h4 : (WTm.not (.lt (.lit (.int (n : Int))) (.len (.arg 0)))).holds [] { args := [.list (ns.map .int)] }=true := by
      have h4 := (holds_andW hc).1
      rw [hn] at h4
      exact h4
    have h5 := condW_of h4 (w_not (w_lt w_lit (w_len_list (w_arg rfl))))
    rw [fu] at h5
    refine Nat.le_of_not_lt fun q => ?_
    have q' : (n : Int) < ((ns.length : Nat) : Int) := by omega
    first
      | (rw [wg q'] at h5;exact absurd h5 (by decide))
      | (simp at h5;omega)
  cases hwl with
  | cons w1 w2 =>
    cases w2
    cases w1 with
    | list ho hall => exact ⟨_, _, ns, rfl, rfl, ho, dv ns _ hall, hlen⟩
theorem jO (l : OpenLaw)(args : List WData) : l.row.toRowW.claim.post args (.bool true) args=true :=
  postW_of (r := l.row.toRowW) (X := (true == true))
    (show WShape.has [] (.bool true) .bool=true by first | rfl | decide | simp [WShape.has, WShape.arms, WShape.armsAll])
    (show (WTm.eq .res (.lit (.bool true))).value [] { args := args, res := some (.bool true), after := args }=some (.bool (true == true)) from w_eq_bool (w_res rfl) w_lit) rfl
theorem attach_call {l : OpenLaw}{n : Nat}{q : Program}{loose : List Str}{XP : (Str → Option Value) → Heap → Prop}{YP : World → Heap → Prop}{d : DefRec}
    (hn : l.most=some n) (hdf : d.params.defaults=[])
    (call : ∀ (w : World) (s₀ s₁ : Shared) (mg mb : Str → Option Value) (fa : Addr) (o : Obj) (pm cd doc : Value) (a : Addr) (vs : List Value) (ns : List Int),
      Ground q loose [] XP w s₀ mg mb s₁.heap → YP w s₁.heap →
      s₁.heap.get? fa=some o → o.data = .func (docDef d.name d.params d.body d.scope pm cd doc) → s₁.heap.CodeRec cd d.name → mg d.name=some (.ref fa) →
      s₁.heap.get? a=some { cls := .type "list", data := .seq vs.toArray } → IntsAre vs ns → ns.length≤n → s₁.gens=#[] →
      codeAny (model l.prog w) callerA (.call (.ref fa) ⟨[.ref a], []⟩) (fun r s' => r = .ok (.ret (.bool true)) ∧ OldK s₁.heap s'.heap ∧ s'.os=s₁.os ∧ AllBare s'.gens) s₁) :
    WalkO q loose XP YP l.row.toRowW d [] (fun f vs => PySem.call f vs) := by
  intro w s₀ s₁ mg mb G Y fa o pm cd doc dV kV ho hd hcd hD hmg hg args vals as hpre hlay hrd hwl hlo
  obtain rfl : dV = .none := Dflts.none hD hdf
  obtain rfl : kV = .none := Dflts.noKw hD
  obtain ⟨a, vs, ns, rfl, rfl, hobj, hints, hlen⟩ := jN hn hpre hwl
  refine enter_call (codeAny_mono (call w s₀ s₁ mg mb fa o pm cd doc a vs ns G Y ho (fd_plain hd) hcd hmg hobj hints hlen hg) fun r s' hq => ?_)
  obtain ⟨rfl, h2, h3, h4⟩ := hq
  exact ⟨.inl ⟨.bool true, .bool true, [], rfl, fun _ => rfl, .bool true, jO l _, fun _ => ⟨List.Pairwise.nil, fun _ hm => (nomatch hm)⟩⟩, h2, h3, h4⟩
section
variable {prog : Program} {w : World} {A : Around} {E : Value → Shared → Prop} {s : Shared} {K : Frag}
end
end Att
namespace L2
open PySem PySem.Spec PyProof.Rows
theorem fP : ∀ {vs : List Value} {ns : List Int}, IntsAre vs ns → aI (ns.map V.int) vs
  | _, _, .nil => .nil
  | _, _, .cons n t h => .cons ⟨t, rfl⟩ (fP h)
def sX (H : Hp) : Prop := ∀ b, H b=none ∨ ∃ o xs, H b=some (.frz o (.lst xs))
theorem mi {P : Program}{w : World}{K : PySem.W.Frag}{mg mb : Str → Option Value}{CX : CXT}{k : Nat}{fa a : Addr}{fd : FuncData}{x : Str}{sp : Sp}{s₁ : Shared}{vs : List Value}{ns : List Int}
    (KX : K.In s₁.heap) (hns : s₁.heap.Ns mainGlobals mg) (hb : s₁.heap.Ns builtinsNs mb) (hbb : ∀ x : Str, x ≠ "__name__" → mb x=bootBuiltins x) (hlim : s₁.heap.NoLimit) (hg : s₁.gens=#[])
    (ha : s₁.heap.get? a=some { cls := .type "list", data := .seq vs.toArray }) (hi : IntsAre vs ns) (hl : ns.length≤sizeLine) (hr : d_ k callerA)
    (F : ∀ base : Heap, K.In base → base.Ns mainGlobals mg → lM P w K mg base CX k fa fd [x] sp) (hbind : ∀ (s : Shared) (u : Value), BindsTo s fd ⟨[u], []⟩ [(x, u)])
    (hsp : ∀ H : Hp, sX H → SqL K H a (ns.map V.int) → sp [.ref a] H (fun v _ => v = .bl true) fun _ _ _ => False)
    (hCX : ∀ H e s', CX [] H s₁ (fun _ _ _ => False) e s' → False) :
    codeAny (model P w) callerA (.call (.ref fa) ⟨[.ref a], []⟩) (fun r s' => r = .ok (.ret (.bool true)) ∧ OldK s₁.heap s'.heap ∧ s'.os=s₁.os ∧ AllBare s'.gens) s₁ := by
  have rv := fP hi
  have lenV := hi.length
  -- from an abstract heap in which nothing but the script may be tracked
  have core : ∀ H : Hp, sX H → SqL K H a (ns.map V.int) → HOk P w H s₁.heap → (∀ b, H b≠none → b=a) → (H a≠none → K.lookup a=none) →
      codeAny (model P w) callerA (.call (.ref fa) ⟨[.ref a], []⟩) (fun r s' => r = .ok (.ret (.bool true)) ∧ OldK s₁.heap s'.heap ∧ s'.os=s₁.os ∧ AllBare s'.gens) s₁ := by
    intro H hO hS hok hA hK
    have base_of : ∀ {b : Addr} {o : Obj}, s₁.heap.get? b=some o → H b=none → (lP s₁.heap H).get? b=some o := fun e n => lQ e n
    have noA : ∀ {b : Addr} {o : Obj} {es : Array DictEntry} {ep : Nat}, s₁.heap.get? b=some o → o.data = .dict es ep → H b=none := fun {b o es ep} e d => by
      cases q : H b with
      | none => rfl
      | some u =>
        have e' : b=a := hA b (by rw [q];simp)
        subst e'
        rw [ha] at e;cases e
        have d' : Data.seq vs.toArray _=Data.dict es ep := d
        cases d'
    have nsK : ∀ {b : Addr} {m : Str → Option Value}, s₁.heap.Ns b m → (lP s₁.heap H).Ns b m := fun {b m} ⟨o, es, ep, e, d, r⟩ => ⟨o, es, ep, base_of e (noA e d), d, r⟩
    have hKb : K.In (lP s₁.heap H) := fun b o e => base_of (KX b o e) (by
      cases q : H b with
      | none => rfl
      | some u =>
        have e' : b=a := hA b (by rw [q];simp)
        subst e'
        rw [hK (by rw [q];simp)] at e;cases e)
    have hM : Mod K mg (lP s₁.heap H) := ⟨hKb, nsK hns, ⟨mb, nsK hb, hbb⟩, let ⟨mc, h1, h2⟩ := hlim;⟨mc, nsK h1, h2⟩⟩
    have e0 : se P w K mg (lP s₁.heap H) callerA [] s₁ H := ⟨rfl, hM, fun b o e => om e, Nat.le_of_eq (jg _ _), trivial, fun b hb => absurd (show b∈([] : List Addr) from hb) (by simp), hok, .of_eq hg⟩
    refine codeAny_mono ((F _ hKb (nsK hns)).run callerA [] s₁ H ⟨[.ref a], []⟩ [.ref a] [.ref a] _ _ hr e0 (hbind s₁ (.ref a)) (.cons rfl .nil) (hsp H hO hS)) fun r s' h => ?_
    cases r with
    | error e => exact (hCX H e s' h).elim
    | ok fl =>
      cases fl with
      | next => exact False.elim h
      | brk => exact False.elim h
      | cont => exact False.elim h
      | ret u =>
        obtain ⟨v, H', os, bare, un, hok', r', q⟩ := h
        have q' : v = .bl true := q
        subst q'
        obtain rfl : u=Value.bool true := r'
        refine ⟨rfl, OldK.of_keep fun b o e => ?_, os, bare⟩
        cases q : H b with
        | none => exact un.keep b o e q (by intro z;exact absurd (show b∈([] : List Addr) from z) (by simp)) (by simp)
        | some u =>
          rcases hO b with z | ⟨ob, xs, z⟩
          · rw [q] at z;cases z
          · have z2 := un.frzs b ob _ z
            obtain ⟨e1, _⟩ := hok b _ z
            obtain ⟨e2, _⟩ := hok' b _ z2
            rw [e] at e1;cases e1
            exact e2
  cases hk : K.lookup a with
  | some o =>
    -- the script is one of the module's own objects
    have e := KX a o hk
    rw [ha] at e
    cases e
    refine core (fun _ => none) (fun _ => .inl rfl) (.inr ⟨_, vs.toArray, _, hk, rfl, rfl, rfl, by rw [vj, lenV];exact hl, by simpa using rv⟩) (fun b u z => by have z' : (none : Option HO)=some u := z;cases z') (fun b z => absurd rfl z) fun z => absurd rfl z
  | none =>
    refine core (fun b => if b=a then some (.frz { cls := .type "list", data := .seq vs.toArray } (.lst (ns.map V.int))) else none) (fun b => ?_) (.inl (.inr ⟨{ cls := .type "list", data := .seq vs.toArray }, if_pos rfl⟩)) (fun b u z => ?_) (fun b z => ?_) fun _ => hk
    · by_cases hb : b=a
      · exact .inr ⟨_, _, if_pos hb⟩
      · exact .inl (if_neg hb)
    · by_cases hb : b=a
      · have z' := (if_pos hb).symm.trans z
        cases z'
        subst hb
        exact ⟨ha, by rw [fu];exact hl, vs, _, rv, ha⟩
      · have z' := (if_neg hb).symm.trans z
        cases z'
    · by_cases hb : b=a
      · exact hb
      · exact absurd (if_neg hb) z
theorem jP {l : PySem.W.OpenLaw}{n k : Nat}{q : Program}{loose : List Str}{XP : (Str → Option Value) → Heap → Prop}{YP : World → Heap → Prop}{d : DefRec}{K : Params → PySem.W.Frag}{CX : World → CXT}{sp : World → Sp}{x : Str}
    (hn : l.most=some n) (hn2 : n≤sizeLine) (hdf : d.params.defaults=[]) (hr : d_ k callerA)
    (hY : ∀ (w : World) (h : Heap), YP w h → (K w.params).In h)
    (F : ∀ (w : World) (mg : Str → Option Value) (fa : Addr) (h : Heap), (K w.params).In h → h.Ns mainGlobals mg → mg d.name=some (.ref fa) →
      ∃ fd : FuncData, (∀ (s : Shared) (u : Value), BindsTo s fd ⟨[u], []⟩ [(x, u)]) ∧
        ∀ base : Heap, (K w.params).In base → base.Ns mainGlobals mg → lM l.prog w (K w.params) mg base (CX w) k fa fd [x] (sp w))
    (hsp : ∀ (w : World) (H : Hp) (a : Addr) (ns : List Int), ns.length≤n → sX H → SqL (K w.params) H a (ns.map V.int) → sp w [.ref a] H (fun v _ => v = .bl true) fun _ _ _ => False)
    (hCX : ∀ (w : World) (H : Hp) (s : Shared) (e : Value) (s' : Shared), CX w [] H s (fun _ _ _ => False) e s' → False) :
    PySem.W.WalkO q loose XP YP l.row.toRowW d [] (fun f vs => PySem.call f vs) := by
  refine Att.attach_call hn hdf fun w s₀ s₁ mg mb fa o pm cd doc a vs ns G Y ho hd hcd hmg hobj hints hlen hg => ?_
  have KX := hY w _ Y
  obtain ⟨fd, hb, hF⟩ := F w mg fa _ KX G.T.g hmg
  exact mi KX G.T.g G.T.b G.T.builtins G.T.nolimit hg hobj hints (vI hlen hn2) hr hF hb (fun H hO hS => hsp w H a ns hlen hO hS) fun H e s' => hCX w H s₁ e s'
end L2
/- THE LAST THEOREM (shape;LID, My.* are yours):
   My.Adr: a structure of the addresses that your layer names (classes, functions);My.Txt K t: a structure (Prop) of the equations over K;
   My.txt_mk : {K} {implicit addresses ..} (e1 : nsIn K mainGlobals "law" = some (some (.ref f))) (e2 : K.lookup f=some ⟨oc, od, .func (fnOf "law" "law" params body scope dV kV doc pm an cdv ct), sl⟩) (e3 : codeIn K cdv "law" = true) .. : ∃ t, My.Txt K t
set_option maxRecDepth 100000 in
set_option maxHeartbeats 0 in
theorem PySem.Challenge.cw_LID_holds : PySem.Challenge.rw_LID.Holds := by
  w_on;o_law;k_head;(case hw => w_witness2)
  k_fill
  refine L2.jP (l := PySem.Challenge.rw_LID) (n := 63) (k := 40) (x := "script") (CX := fun w => ..) (sp := fun _ => My.sp_law) rfl (by decide) rfl ⟨rfl, by decide, by decide⟩ (fun w h Y => PySem.W.kIn_of Y) ?F ?S ?C
  case F =>
    intro w mg fa h KX G hmg
    have T : ∃ t, My.Txt (L2.KOf KX) t := by
      dsimp only [L2.KOf]                          -- K must stand as «<heap const> w.params» for k_is
      refine' My.txt_mk ?e1 ?e2 ?e3 ..
      (case e1 => PySem.W.k_is)                    -- in the order: a name -> its address -> its object -> its parts
      (case e2 => PySem.W.k_is)
      ..
    obtain ⟨t, T⟩ := T
    have e0 := hmg.symm.trans (xY KX G T.law)
    cases e0                                       -- fa is the law's own address
    exact ⟨_, fun s u => .of_eq rfl, fun base kb nb => My.law_fn T kb nb⟩     -- if «.of_eq rfl» comes too early: refine' ⟨_, ?b, fun base kb nb => My.law_fn T kb nb⟩;exact fun s u => .of_eq rfl
  case S => exact fun w H a ns hl hO hS => ..
  case C => exact ..
(the tactic k_is has no namespace: write k_is) -/
namespace L2
open PySem PySem.Spec PyProof.Rows
def bH (s : Stmt) : Arguments := match s with
  | .FunctionDef _ a _ _ _ _ _ _ _ _ => a
  | _ => { posonlyargs := [], args := [], vararg := none, kwonlyargs := [], kw_defaults := [], kwarg := none, defaults := [] }
def ba (s : Stmt) : List Stmt := match s with
  | .FunctionDef _ _ b _ _ _ _ _ _ _ => b
  | _ => []
def ao (s : Stmt) : Scope := match s with
  | .FunctionDef _ _ _ _ _ _ sc _ _ _ => sc
  | _ => { kind := .function, names := [], isGenerator := false, isCoroutine := false }
abbrev CX0 : CXT := fun _ _ _ _ _ _ => False
abbrev E0 : XK := fun _ _ _ => False
theorem s_ {X : Cx} : jw CX0 X E0 := fun _ _ _ _ _ _ _ h => h.elim
structure Fun (K : PySem.W.Frag) (x qual : Str) (st : Stmt) (f : Addr) (fd : FuncData) : Prop where
  ex : ∃ (oc : Value) (od : Option Addr) (kV doc pm : Value) (an : Option Addr) (cdv ct : Value) (osl : Array (Option Value)),
    fd=PySem.W.fnOf x qual (bH st) (ba st) (ao st) .none kV doc pm an cdv ct ∧ K.lookup f=some ⟨oc, od, .func fd, osl⟩ ∧ PySem.W.codeIn K cdv qual=true
  kp : PySem.W.keepIn K (.ref f)=true
section
variable {P : Program} {w : World} {K : PySem.W.Frag} {mg : Str → Option Value} {base : Heap}
theorem Fun.ok {x qual : Str}{st : Stmt}{f : Addr}{fd : FuncData}{N ps : List Str}{k : Nat}{sp : Sp}(F : Fun K x qual st f fd)(S : aC N ps (ao st))(len : ∀ vs H Q E, sp vs H Q E → vs.length=ps.length)
    (hbody : ∀ (cdv : Value) (A : Around) (outer : List Env) (s : Shared) (H : Hp) (vs : List V) (Q : VK) (E : XK), d_ k (A.deeper (envOfC qual (ao st) s.heap.objs.size f cdv)) → sp vs H Q E →
      ∃ t, PSs (oE CX0 P w K mg base N qual (ao st) f cdv A outer s H E).nox (ba st) t ∧ t { nx := fun _ H' => Q .non H', rt := Q } (start N vs) H) : lM P w K mg base CX0 (k+1) f fd ps sp := by
  obtain ⟨oc, od, kV, doc, pm, an, cdv, ct, osl, rfl, lk, hcd⟩ := F.ex
  refine sO lk hcd S len fun A outer s H vs Q E hr hsp => ?_
  obtain ⟨t, h, q⟩ := hbody cdv A outer s H vs Q E hr hsp
  exact ⟨t, h.nox, q⟩
theorem Fun.binds {x qual : Str}{st : Stmt}{f : Addr}{fd : FuncData}{ps : List Str}(F : Fun K x qual st f fd)
    (h : ∀ (kV doc pm : Value) (an : Option Addr) (cdv ct : Value) (us : List Value), us.length=ps.length → bindArgs (PySem.W.fnOf x qual (bH st) (ba st) (ao st) .none kV doc pm an cdv ct) ⟨us, []⟩=pure (ps.zip us)) : iX K fd ps [] := by
  obtain ⟨oc, od, kV, doc, pm, an, cdv, ct, osl, rfl, lk, hcd⟩ := F.ex
  exact .all (h kV doc pm an cdv ct)
theorem nT {x qual : Str}{st : Stmt}{f : Addr}{oc : Value}{od an : Option Addr}{osl : Array (Option Value)}{kV doc pm cdv ct : Value}(l : K.lookup f=some ⟨oc, od, .func (PySem.W.fnOf x qual (bH st) (ba st) (ao st) .none kV doc pm an cdv ct), osl⟩)
    (c : PySem.W.codeIn K cdv qual=true) (k : PySem.W.keepIn K (.ref f)=true) : Fun K x qual st f (PySem.W.fnOf x qual (bH st) (ba st) (ao st) .none kV doc pm an cdv ct) := ⟨⟨oc, od, kV, doc, pm, an, cdv, ct, osl, rfl, l, c⟩, k⟩
end
theorem dY {A : Around}{k : Nat}(hr : d_ k A) : A.units+1 < cLine := wm (Nat.add_le_add_left (by decide : 1≤64) _) hr.units
section
variable {X : Cx}
theorem pv (i : Nat){x : Str}{pos : Pos}(hN : X.N[i]? = some x := by rfl)(hv : Vis X.env.scope x := by first | exact Or.inl rfl | exact Or.inr (Or.inl rfl) | exact Or.inr (Or.inr rfl))(hd : (x == ("__debug__" : Str))=false := by decide)
    (hcd : (x == ("__classdict__" : Str))=false := by decide) : PE X (.Name x pos) (su i) := p8 hN hv hd hcd
inductive dw  (xs : List V)(H : Hp)(Q : VK) : Prop
  | mk : ∀ a kvs, (xs=[V.ref a]) → (H a=some (.dK kvs)) → (Q (.int kvs.length) H) → dw xs H Q
theorem jQ : bW X (.builtin "len") dw := by
  intro pins s σ H xs us Q I r h
  obtain ⟨a, kvs, rfl, ha, q⟩ := h
  obtain ⟨u, rfl, ru⟩ := bZ r
  cases ru
  exact sT I (.inl ha) fun t s' I' => ⟨.int kvs.length, H, I', ⟨t, rfl⟩, q⟩
end
theorem sf {A B : Prop}(h : B) : if false=true then A else B := by
  rw [if_neg vm]
  exact h
theorem uq {A B : Prop}(h : A) : if true=true then A else B := by
  rw [if_pos rfl]
  exact h
theorem tf {c A B : Prop}[Decidable c](h1 : c → A)(h2 : ¬ c → B) : if c then A else B := by
  by_cases h : c
  · rw [if_pos h]
    exact h1 h
  · rw [if_neg h]
    exact h2 h
def aw (H H' : Hp) : Prop := ∀ b o, H b=some o → H' b=some o
theorem aw.refl (H : Hp) : aw H H := fun _ _ h => h
theorem aw.trans {H H1 H2 : Hp}(a : aw H H1)(b : aw H1 H2) : aw H H2 := fun c o h => b c o (a c o h)
theorem aw.free {H H' : Hp}(e : aw H H'){l : Addr}(h : H' l=Option.none) : H l=Option.none := by
  cases q : H l with
  | none => rfl
  | some o =>
    rw [e l o q] at h
    cases h
theorem aw.seq {K : PySem.W.Frag}{H H' : Hp}{a : Addr}{xs : List V}(e : aw H H')(h : SqL K H a xs) : SqL K H' a xs := by
  rcases h with (h | ⟨o, h⟩) | h
  · exact .inl (.inl (e _ _ h))
  · exact .inl (.inr ⟨o, e _ _ h⟩)
  · exact .inr h
section
variable {κ : Type} [DecidableEq κ]
end
end L2
namespace L2
open PySem PySem.Spec PyProof.Rows
def cG (cells : List (Str × Addr)) : List (Str × NameKind) → List (Str × Addr) → List (Str × Addr)
  | [], acc => acc
  | (x, k)::r, acc => if k == NameKind.free then cG cells r ((x, (cells.lookup x).getD 0)::acc) else cG cells r acc
theorem cY {cells : List (Str × Addr)}{p : Str × Addr} : ∀ {names : List (Str × NameKind)} {acc : List (Str × Addr)}, p∈cG cells names acc → p∈acc ∨ ((p.1, NameKind.free)∈names ∧ p.2=(cells.lookup p.1).getD 0)
  | [], _, h => .inl h
  | (x, k)::r, acc, h => by
    unfold cG at h
    by_cases hk : (k == NameKind.free)=true
    · rw [if_pos hk] at h
      have ek : k=NameKind.free := by simpa using hk
      subst ek
      rcases cY h with h | ⟨h, e⟩
      · rcases vt.mp h with h | h
        · subst h
          exact .inr ⟨vz, rfl⟩
        · exact .inl h
      · exact .inr ⟨vq _ h, e⟩
    · rw [if_neg hk] at h
      rcases cY h with h | ⟨h, e⟩
      · exact .inl h
      · exact .inr ⟨vq _ h, e⟩
theorem eL {cells : List (Str × Addr)}{p : Str × Addr} : ∀ {names : List (Str × NameKind)} {acc : List (Str × Addr)}, p∈acc → p∈cG cells names acc
  | [], _, h => h
  | (x, k)::r, acc, h => by
    unfold cG
    split
    · exact eL (vq _ h)
    · exact eL h
theorem cZ {cells : List (Str × Addr)}{x : Str} : ∀ {names : List (Str × NameKind)} {acc : List (Str × Addr)}, (x, NameKind.free)∈names → (x, (cells.lookup x).getD 0)∈cG cells names acc
  | [], _, h => by simp at h
  | (y, k)::r, acc, h => by
    unfold cG
    rcases vt.mp h with h | h
    · have e1 : x=y := v5 Prod.fst h
      have e2 : NameKind.free=k := v5 Prod.snd h
      subst e1 e2
      rw [if_pos (by simp)]
      exact eL vz
    · split
      · exact cZ h
      · exact cZ h
theorem bR {x : Str}{c : Addr} : ∀ {l : List (Str × Addr)}, (x, c)∈l → ∃ d, l.lookup x=some d
  | [], h => by simp at h
  | (y, d)::r, h => by
    rw [wR]
    by_cases e : (x == y)=true
    · rw [e];exact ⟨d, rfl⟩
    · have e' : (x == y)=false := by simpa using e
      rw [e']
      rcases vt.mp h with h | h
      · have : x=y := v5 Prod.fst h
        exact absurd (by simpa using this) e
      · exact bR h
theorem cN {env : Env}{scope : Scope}(h : ∀ y∈scope.names, y.2=NameKind.free → ∃ c, env.cells.lookup y.1=some c) : closureFor scope env=pure (cG env.cells scope.names []) := by
  have all : ∀ (names : List (Str × NameKind)) (acc : List (Str × Addr)), (∀ y∈names, y.2=NameKind.free → ∃ c, env.cells.lookup y.1=some c) →
      (forIn names acc (fun (p : Str × NameKind) (r : List (Str × Addr)) => (if (p.2 == NameKind.free)=true then (do let a ← cellOf env p.1;pure (ForInStep.yield ((p.1, a)::r))) else pure (ForInStep.yield r) : Sem (ForInStep (List (Str × Addr))))))=(pure (cG env.cells names acc) : Sem (List (Str × Addr))) := by
    intro names
    induction names with
    | nil => intro acc _;rfl
    | cons p r ih =>
      intro acc hh
      obtain ⟨x, k⟩ := p
      have hr : ∀ y∈r, y.2=NameKind.free → ∃ c, env.cells.lookup y.1=some c := fun y hy => hh y (vq _ hy)
      rw [y9]
      unfold cG
      by_cases hk : (k == NameKind.free)=true
      · obtain ⟨c, hc⟩ := hh (x, k) vz (by simpa using hk)
        have hc : env.cells.lookup x=some c := hc
        have ec : cellOf env x=pure c := by
          unfold cellOf
          rw [hc]
        simp only [hk, yw, ec, pure_bind, hc, Option.getD_some]
        exact ih _ hr
      · simp only [hk, zi, pure_bind]
        exact ih _ hr
  have e := all scope.names [] h
  unfold closureFor
  simp only [bind_pure]
  exact e
def qJ (scope sc : Scope)(NB own : List Str)(cap : List Nat)(N : List Str) : Bool :=
  (scope.kind == .function) && (sc.kind == .function) &&
  (scope.names.all fun y => match y.2 with
    | .cell => false
    | .free => sc.names.lookup y.1 == some NameKind.cell
    | .local => scope.names.lookup y.1 == some NameKind.local
    | _ => true) &&
  (own.all fun x => scope.names.lookup x == some NameKind.local && scope.names.all fun y => !(y.1 == x) || y.2 == NameKind.local) &&
  (NB == own++cap.map fun i => N.getD i "") && (cap.all fun i => decide (i < N.length) && scope.names.lookup (N.getD i "") == some NameKind.free)
structure Blk (X : Cx) (scope : Scope) (NB own : List Str) (cap : List Nat) : Prop where
  kind : scope.kind = .function
  outk : X.env.scope.kind = .function
  nocell : ∀ y∈scope.names, y.2 ≠ .cell
  free : ∀ y∈scope.names, y.2 = .free → X.env.kindOf y.1=some .cell
  names : ∀ y∈scope.names, y.2 = .local → scope.names.lookup y.1=some .local
  owns : ∀ x∈own, ∀ y∈scope.names, y.1=x → y.2 = .local
  nb : NB=own++cap.map fun i => X.N.getD i ""
  caps : ∀ i∈cap, i < X.N.length ∧ scope.names.lookup (X.N.getD i "")=some .free
theorem a9 {X : Cx}{scope sc : Scope}{NB own : List Str}{cap : List Nat}(hs : X.env.scope=sc)(h : qJ scope sc NB own cap X.N=true) : Blk X scope NB own cap := by
  unfold qJ at h
  simp only [v3] at h
  obtain ⟨⟨⟨⟨⟨h1, h2⟩, h3⟩, h4⟩, h5⟩, h6⟩ := h
  rw [wU] at h3 h4 h6
  subst hs
  refine ⟨by simpa using h1, by simpa using h2, fun y hy e => ?_, fun y hy e => ?_, fun y hy e => ?_, fun x hx y hy e => ?_, by simpa using h5, fun i hi => ?_⟩
  · have := h3 y hy
    rw [e] at this
    exact absurd this (by simp)
  · have := h3 y hy
    rw [e] at this
    show X.env.scope.names.lookup y.1=some .cell
    simpa using this
  · have := h3 y hy
    rw [e] at this
    simpa using this
  · have := h4 x hx
    simp only [v3, wU] at this
    have q := this.2 y hy
    subst e
    simpa using q
  · have := h6 i hi
    simp only [v3] at this
    exact ⟨xN this.1, by simpa using this.2⟩
def cxB (X : Cx)(NB own : List Str)(scope : Scope)(C : Addr)(fp : List Addr)(s₀ : Shared)(H₀ : Hp) : Cx where
  prog := X.prog
  w := X.w
  K := X.K
  mg := X.mg
  base := X.base
  A := X.A
  N := NB
  s₀ := s₀
  H₀ := H₀
  env := compEnvC scope (cG X.env.cells scope.names []) C X.env
  outer := X.stack
  stack := X.stack
  ex := fp
  fn := fun x => own.contains x
  calm := X.calm
  pn := []
  xe := fun _ _ => False
theorem cj {env : Env}{x : Str}{k : NameKind}(hk : k = .cell ∨ k = .free) : ∀ {names : List (Str × NameKind)}, (∀ y∈names, y.2 ≠ .cell) →
    (names.map fun (n, k) => if (k == NameKind.free && env.scope.kind == .function && env.kindOf n == some .cell) then (n, NameKind.cell) else (n, k)).lookup x=some k → (x, NameKind.free)∈names
  | [], _, h => by simp at h
  | (n, q)::r, hn, h => by
    have ih := @cj env x k hk r fun y hy => hn y (vq _ hy)
    rw [vn, wR] at h
    have key : (if (q == NameKind.free && env.scope.kind == .function && env.kindOf n == some .cell)=true then (n, NameKind.cell) else (n, q)).1=n := by split <;> rfl
    by_cases e : (x == n)=true
    · have en : x=n := by simpa using e
      subst en
      by_cases hq : q = .free
      · subst hq;exact vz
      · have hqf : (q == NameKind.free)=false := by simpa using hq
        simp only [hqf, zc, yt, zi, xu] at h
        have h' : q=k := vp h
        rcases hk with z | z
        · exact absurd (h'.trans z) (hn (x, q) vz)
        · exact absurd (h'.trans z) hq
    · have e' : (x == n)=false := by simpa using e
      refine vq _ (ih ?_)
      have e2 : (x == (if (q == NameKind.free && env.scope.kind == .function && env.kindOf n == some .cell)=true then (n, NameKind.cell) else (n, q)).1)=false := by rw [key];exact e'
      rw [e2] at h
      exact h
theorem cH {env : Env}{x : Str}(hk : env.scope.kind = .function)(hc : env.kindOf x=some .cell) : ∀ {names : List (Str × NameKind)}, names.lookup x=some .free →
    (names.map fun (n, k) => if (k == NameKind.free && env.scope.kind == .function && env.kindOf n == some .cell) then (n, NameKind.cell) else (n, k)).lookup x=some .cell
  | [], h => by simp at h
  | (n, q)::r, h => by
    have ih := @cH env x hk hc r
    rw [wR] at h
    rw [vn, wR]
    by_cases e : (x == n)=true
    · have en : x=n := by simpa using e
      subst en
      rw [e] at h
      have hq : q = .free := vp h
      subst hq
      simp [hk, hc]
    · have e' : (x == n)=false := by simpa using e
      rw [e'] at h
      have key : (if (q == NameKind.free && env.scope.kind == .function && env.kindOf n == some .cell)=true then (n, NameKind.cell) else (n, q)).1=n := by split <;> rfl
      have e2 : (x == (if (q == NameKind.free && env.scope.kind == .function && env.kindOf n == some .cell)=true then (n, NameKind.cell) else (n, q)).1)=false := by rw [key];exact e'
      rw [e2]
      exact ih h
def stB (own : List Str)(cap : List Nat)(σ : St) : St := (own.map fun _ => none)++cap.map fun i => (σ[i]?).getD none
section
variable {X : Cx} {pins : List (Addr × Obj)} {σ : St} {H : Hp} {s : Shared} {scope : Scope} {NB own : List Str} {cap : List Nat} {fp : List Addr} {C : Addr}
theorem Blk.cells (B : Blk X scope NB own cap)(ok : X.Ok){x : Str}{c : Addr}(h : (cG X.env.cells scope.names []).lookup x=some c) : X.env.cells.lookup x=some c ∧ (x, NameKind.free)∈scope.names := by
  rcases cY (wb h) with q | ⟨q, e⟩
  · simp at q
  · obtain ⟨d, hd⟩ := ok.has x (.inl (B.free (x, .free) q rfl))
    have e : c=(X.env.cells.lookup x).getD 0 := e
    rw [hd] at e
    refine ⟨?_, q⟩
    rw [hd, e];rfl
theorem Blk.cell (B : Blk X scope NB own cap)(ok : X.Ok){x : Str}(h : (x, NameKind.free)∈scope.names) : ∃ c, (cG X.env.cells scope.names []).lookup x=some c := bR (cZ h)
theorem Blk.start (B : Blk X scope NB own cap)(I : Inv X pins σ H s)(hf : ∀ b∈fp, fz X pins H b)(hfs : ∀ b∈fp, ∃ o, s.heap.get? b=some o){h' : Heap}{tk : Nat}{m : Str → Option Value}(hC : s.heap.objs.size≤C)
    (k : ∀ b o, s.heap.get? b=some o → h'.get? b=some o) (hn : h'.Ns C m) :
    Inv (cxB X NB own scope C fp s H) [] (stB own cap σ) H { s with heap := h', toks := tk } := by
  have hlen : NB.length=own.length+cap.length := by rw [B.nb];simp
  have okB : (cxB X NB own scope C fp s H).Ok := by
    refine ⟨I.ok.mod, B.kind, I.ok.glob, I.ok.blt, hC, fun x y c h1 h2 => I.ok.inj x y c (B.cells I.ok h1).1 (B.cells I.ok h2).1, fun x hx => ?_, fun x c h1 h2 => ?_, I.ok.hd, I.ok.frames, .inl rfl, fun b hb => ⟨?_, fun x c h => ?_⟩, I.bs, vI I.ok.bsz I.sz, fun b o e hb => ?_, fun b hb z => ?_, I.stack, I.stkFree⟩
    · have : (x, NameKind.free)∈scope.names := by
        rcases hx with z | z
        · exact cj (.inl rfl) B.nocell z
        · exact cj (.inr rfl) B.nocell z
      exact B.cell I.ok this
    · have hx : x∈own := by simpa [cxB] using h1
      have q := B.owns x hx _ (B.cells I.ok h2).2 rfl
      exact absurd q (by simp)
    · obtain ⟨o, e⟩ := hfs b hb
      exact vG (vk (ve e) hC)
    · exact (hf b hb).2.2.2.2.1 x c (B.cells I.ok h).1
    · have hb : b∈fp := hb
      rcases (hf b hb).2.2.2.1 with z | z
      · exact I.ok.noex b o e z
      · exact absurd (vk (ve e) (vI I.ok.bsz z)) (vO _)
    · rcases vt.mp (I.stkSub b z) with z | z
      · exact (hf b hb).2.1 z
      · exact (hf b hb).2.2.1 z
  refine ⟨okB, rfl, I.bare, Un.kept k, ⟨m, hn, fun i x v e1 e2 e3 => ?_⟩, fun x c h => ?_, I.hok.fresh hC, fun x c h => I.freeC x c (B.cells I.ok h).1, fun p hp => absurd (show p∈([] : List (Addr × Obj)) from hp) (by simp), I.hok.kept k, ?_⟩
  · have e1 : NB[i]? = some x := e1
    have hi : ¬ i < own.length := fun hi => by
      unfold stB at e2
      rw [wq (by simpa using hi), vo] at e2
      cases q : own[i]? <;> rw [q] at e2 <;> cases e2
    unfold stB at e2
    rw [vW (by simpa using hi), vo] at e2
    rw [B.nb, vW (by omega), vo] at e1
    simp only [fu] at e2
    cases q : cap[i - own.length]? with
    | none => rw [q] at e1;cases e1
    | some j =>
      rw [q] at e1 e2
      have ex : X.N.getD j "" = x := vp e1
      have ev : (σ[j]?).getD none=some v := vp e2
      obtain ⟨hj, hjf⟩ := B.caps j (vD q)
      rw [ex] at hjf
      have hN : X.N[j]? = some x := by rw [← ex, vB, vh hj];rfl
      have hσ : σ[j]? = some (some v) := by
        cases z : σ[j]? with
        | none => rw [z] at ev;cases ev
        | some u => rw [z] at ev;exact v5 some ev
      have hmem : (x, NameKind.free)∈scope.names := wb hjf
      have hkc := B.free _ hmem rfl
      obtain ⟨m0, hn0, hl⟩ := I.loc
      obtain ⟨u, r, l⟩ := hl j x v hN hσ (.inr (.inl hkc))
      refine ⟨u, r, .inr ⟨.inl (cH B.outk hkc hjf), ?_⟩⟩
      obtain ⟨c, hc⟩ := B.cell I.ok hmem
      refine ⟨c, hc, ?_⟩
      rcases l with ⟨z, _⟩ | ⟨_, c', hc', ⟨oc, hoc, hd⟩⟩
      · rw [show X.env.kindOf x=some .cell from hkc] at z;cases z
      · have := (B.cells I.ok hc).1
        rw [hc'] at this
        have : c'=c := vp this
        subst this
        exact ⟨oc, k _ _ hoc, hd⟩
  · obtain ⟨v, oc, hoc, hd⟩ := I.cell x c (B.cells I.ok h).1
    exact ⟨v, oc, k _ _ hoc, hd⟩
  · show (stB own cap σ).length=NB.length
    unfold stB
    rw [hlen];simp
theorem Blk.done (B : Blk X scope NB own cap)(I : Inv X pins σ H s)(hf : ∀ b∈fp, fz X pins H b){σB : St}{H' : Hp}{s' : Shared}{h'' : Heap}{D : Addr}{ys : List V}{its : List Value}{n : Nat}(hC : s.heap.objs.size≤C)(hD : s.heap.objs.size≤D)(hDC : D≠C)
    (J : Inv (cxB X NB own scope C fp s H) [] σB H' s') (hn : H' D=none) (e : s'.heap.get? D=some { cls := .type "list", data := .seq its.toArray n }) (hv : aI ys its) (hz : ys.length≤sizeLine)
    (sb : Heap.SameBut C s'.heap h'') : Inv X pins σ (upd H' D (.lst ys)) { s' with heap := h'' } := by
  have un : Un (frs X.stack) fp H H' s.heap s'.heap := J.base
  have neC : ∀ {b o}, s.heap.get? b=some o → b≠C := fun q => vG (vk (ve q) hC)
  have neD : ∀ {b o}, s.heap.get? b=some o → b≠D := fun q => vG (vk (ve q) hD)
  have hCn : H' C=none := J.free
  refine I.call' (s' := { s' with heap := h'' }) (ch := fp) J.os ⟨fun b o q n hb hx => ?_, fun b o q n hb hx => ?_, fun b o q n hx => ?_, fun b o q hx => ?_, fun b xs q => ?_, fun b o u q => ?_, fun b ps q => ?_⟩ (fun b u q => ?_) J.bare fun b hb => ?_
  · exact (sb.2 b (neC q)).trans (un.keep b o q n hb hx)
  · obtain ⟨sl, r⟩ := un.slot b o q n hb hx
    exact ⟨sl, (sb.2 b (neC q)).trans r⟩
  · rw [aj (neD q)]
    exact un.free b o q n hx
  · obtain ⟨o', r⟩ := un.there b o q hx
    exact ⟨o', (sb.2 b (neC q)).trans r⟩
  · have r := un.tups b xs q
    rw [aj (ae r hn)]
    exact r
  · have r := un.frzs b o u q
    rw [aj (ae r hn)]
    exact r
  · obtain ⟨more, r⟩ := un.tbls b ps q
    exact ⟨more, by rw [aj (ae r hn)];exact r⟩
  · by_cases hb : b=D
    · subst hb
      rw [ab] at q
      cases q
      exact ⟨hz, its, n, hv, (sb.2 b hDC).trans e⟩
    · rw [aj hb] at q
      refine (J.hok b u q).stay (fun c v hc r => (sb.2 c ?_).trans r) (fun c r => ?_) fun c xs r => ?_
      · rcases hc with z | z
        · rw [z];exact ae q hCn
        · exact ae z hCn
      · rw [aj (ae r hn)];exact r
      · rw [aj (ae r hn)];exact r
  · obtain ⟨_, f1, _, f3, f4, f5⟩ := hf b hb
    exact ⟨f3, f1, f4, f5⟩
end
def PIf (X : Cx)(ifs : List Expr)(t : TT) : Prop :=
  ∀ (pins : List (Addr × Obj)) (s : Shared) (σ : St) (H : Hp) (Q : Bool → Hp → Prop), Inv X pins σ H s → t σ H Q →
    wpAny (model X.prog X.w) X.A (forIn ifs true fun c r => if r=true then do let ok ← isTrue c X.env (eval c X.env);pure (ForInStep.yield ok) else pure (ForInStep.yield r)) (TP X pins σ Q) X.xe s
def uV : TT := fun _ H Q => Q true H
theorem aL {X : Cx} : PIf X [] uV := fun _ _ _ H _ I h => wpAny_tests_nil ⟨H, I, h⟩
theorem eN {X : Cx}{c : Expr}{t : TT}(h : PT X c t) : PIf X [c] t := fun pins s σ H Q I q => wpAny_tests_one (h pins s σ H Q I q)
section
variable {prog : Program} {w : World} {A : Around} {R : Result → Shared → Prop} {s : Shared}
abbrev noE : Value → Shared → Prop := fun _ _ => False
theorem fQ {elt tg iter : Expr}{ifs : List Expr}{scope : Scope}{pos : Pos}{it acc : Value}{env : Env}(I : Nat → Shared → Prop)
    (turn : ∀ n s, I n s → wpAny (model prog w) A (pyNext it) (fun r s₁ => match r with
      | none => R (.ok .next) s₁
      | some v => wpAny (model prog w) A (letOwnedTupleGo tg it v) (fun _ s₀ => wpAny (model prog w) A (assign tg env v) (fun _ s₂ =>
          wpAny (model prog w) A (forIn ifs true fun c r => if r=true then do let ok ← isTrue c env (eval c env);pure (ForInStep.yield ok) else pure (ForInStep.yield r)) (fun ok s₃ =>
            if ok=true then wpAny (model prog w) A (eval elt env) (fun x s₄ => wpAny (model prog w) A (call (.builtin "list.append") [acc, x]) (fun _ s₅ => ∃ m, m < n ∧ I m s₅) noE s₄) noE s₃
            else ∃ m, m < n ∧ I m s₃) noE s₂) noE s₀) noE s₁) noE s)
    (n : Nat) (h : I n s) : codeAny (model prog w) A (.compLoop (.ListComp elt [⟨tg, iter, ifs, 0⟩] scope pos) 0 it acc env) R s := by
  refine codeAny_loop rfl I (fun n s hI => ?_) n h
  show wpAny _ A ((compTurn (.ListComp elt [⟨tg, iter, ifs, 0⟩] scope pos) 0 it acc env).onRaise (fun x => do noteFrame x env;theTreesLotGoes x)) _ _ s
  refine wpAny_noted ?_
  rw [compTurn_list]
  refine va (wpAny_standAt (va (wQ (turn n s hI) (fun r s₁ h₁ => ?_) fun _ _ z => False.elim z)))
  cases r with
  | none => exact vE h₁
  | some v =>
    refine va (wQ h₁ (fun _ s₀ h₀ => va (wQ h₀ (fun _ s₂ h₂ => va (wQ h₂ (fun ok s₃ h₃ => ?_) fun _ _ z => False.elim z)) fun _ _ z => False.elim z)) fun _ _ z => False.elim z)
    cases ok with
    | false => exact vE ⟨rfl, h₃⟩
    | true => exact va (va (wQ h₃ (fun x s₄ h₄ => va (wQ h₄ (fun _ s₅ h₅ => vE (vE ⟨rfl, h₅⟩)) fun _ _ z => False.elim z)) fun _ _ z => False.elim z))
end
def mj (own : List Str)(cap : List Nat)(g : TG)(ti : TT)(te : TE)(Q : VK)(σ : St)(J : It)(H1 : Hp) : Prop := ∃ W : Nat → Nat → List V → St → Hp → Prop, (∃ m, W 0 m [] (stB own cap σ) H1) ∧ ∀ i m ys σ H, W i m ys σ H →
  (J.stop i H ∧ ys.length≤sizeLine ∧ ∀ D, H D=none → Q (.ref D) (upd H D (.lst ys))) ∨
  (J.go i H ∧ ys.length < sizeLine ∧ ∀ x H', J.yld i H x H' → g x σ H' fun σ2 H2 => ti σ2 H2 fun b H3 => if b=true then te σ2 H3 fun y H4 => ∃ m', m' < m ∧ W (i+1) m' (ys++[y]) σ2 H4 else ∃ m', m' < m ∧ W (i+1) m' ys σ2 H3)
def ml (own : List Str)(cap : List Nat)(wi : TI)(g : TG)(ti : TT)(te : TE) : TE := fun σ H Q => wi σ H fun J H1 => mj own cap g ti te Q σ J H1
theorem iy {X : Cx}{pos2 : Pos}{use : Option (Value → Sem Unit)}{QQ : Value → Shared → Prop}{pins : List (Addr × Obj)}{s : Shared}{σ : St}{H : Hp}{Q : VK}{elt iter tg : Expr}{ifs : List Expr}{scope : Scope}{pos : Pos}{NB own : List Str}{cap : List Nat}{wi : TI}{g : TG}{ti : TT}{te : TE}(B : Blk X scope NB own cap)(hc : X.calm=true)(hi : PI X tg iter wi)
    (hg : ∀ C fp s₀ H₀, PG (cxB X NB own scope C fp s₀ H₀) tg g) (ht : ∀ C fp s₀ H₀, PIf (cxB X NB own scope C fp s₀ H₀) ifs ti) (he : ∀ C fp s₀ H₀, PE (cxB X NB own scope C fp s₀ H₀) elt te)
    (hs : ∀ x, foldedSetIterable iter X.env x=pure x) (I0 : Inv X pins σ H s) (h : ml own cap wi g ti te σ H Q)
    (fin : ∀ (fp : List Addr) (C : Addr) (s2 s4 : Shared) (H2 H3 : Hp) (σ3 : St) (its : List Value) (ys : List V) (k : Nat), Inv X pins σ H2 s2 → (∀ b∈fp, fz X pins H2 b) → s2.heap.objs.size≤C → s2.heap.objs.size≠C → Inv (cxB X NB own scope C fp s2 H2) [] σ3 H3 s4 → H3 s2.heap.objs.size=none → s4.heap.get? s2.heap.objs.size=some { cls := .type "list", data := .seq its.toArray k } → aI ys its → ys.length≤sizeLine → Q (.ref s2.heap.objs.size) (upd H3 s2.heap.objs.size (.lst ys)) →
      compPost (model X.prog X.w) X.A X.xe use QQ (.ref s2.heap.objs.size) C (.ok .next) s4) : wpAny (model X.prog X.w) X.A (comprehension (.ListComp elt [⟨tg, iter, ifs, 0⟩] scope pos) scope X.env pos2 (newList []) false (eval iter X.env) use) QQ X.xe s := by
  have hclos := cN (env := X.env) (scope := scope) fun y hy e => I0.ok.has y.1 (.inl (B.free y hy e))
  refine yG (use := use) rfl hs hclos B.kind B.names (thn (hi pins s σ H _ I0 h) fun v s1 h1 => thn h1 fun itv s2 h2 => ?_)
  obtain ⟨it, fp, tn, J, H2, rfl, I, T, st2, f2, W, ⟨m0, w0⟩, turn⟩ := h2
  refine wpAny_newList ?_
  refine wpAny_newFunctionEnv B.nocell (by intro y hy;simp at hy) (fun h₁ hns₁ hsb₁ => ?_) B.kind
  dsimp only at hns₁ hsb₁ ⊢
  generalize hP : s2.heap.push { cls := .type "list", dict := none, data := .seq ([] : List Value).toArray }=P at hns₁ hsb₁ ⊢
  have hC : P.objs.size=s2.heap.objs.size+1 := by rw [← hP, wF]
  have hDC : s2.heap.objs.size≠P.objs.size := by rw [hC];exact vG (xv _)
  have hCle : s2.heap.objs.size≤P.objs.size := by rw [hC];exact Nat.le_succ _
  have old : ∀ b o, s2.heap.get? b=some o → h₁.get? b=some o := fun b o e => by
    refine (hsb₁.2 b ?_).trans (u_ _ (hP ▸ u_ _ e))
    exact vG (vk (ve e) hCle)
  have hD : h₁.get? s2.heap.objs.size=some { cls := .type "list", data := .seq ([] : List Value).toArray 0 } := by
    refine (hsb₁.2 _ hDC).trans (u_ _ ?_)
    rw [← hP]
    exact vi _ rfl
  have hfs : ∀ b∈fp, ∃ o, s2.heap.get? b=some o := fun b hb => let ⟨o, e, _⟩ := T.obj _ _ st2 b hb;⟨o, e⟩
  have st4 : tn 0 h₁ := T.keep _ _ _ st2 fun b _ o e => old b o e
  generalize htk : s2.toks+([] : List (Str × Value)).length=tk4
  have I4 := B.start (C := P.objs.size) (tk := tk4) I f2 hfs hCle old hns₁
  have fOk : ∀ {H' : Hp} {b : Addr} {ob : Obj}, b∈fp → H' b=none → fz (cxB X NB own scope P.objs.size fp s2 H2) [(s2.heap.objs.size, ob)] H' b := fun {H' b ob} hb hn => by
    obtain ⟨o, e⟩ := hfs b hb
    refine ⟨hn, (I4.ok.exf b hb).1, I4.ok.exfs b hb, .inl hb, (I4.ok.exf b hb).2, fun p hp => ?_⟩
    have ep : p=(s2.heap.objs.size, ob) := vf.mp (show p∈[(s2.heap.objs.size, ob)] from hp)
    rw [ep]
    exact fun z => absurd (ve e) (by rw [← z];exact vO _)
  have dnf : s2.heap.objs.size∉frs X.stack := fun z => by
    rcases vt.mp (I.stkSub _ z) with z | z
    · exact absurd I.lt (by rw [← z];exact vO _)
    · exact I.nofs (vd _) z
  have I3D : ∀ {σ3 : St} {H3 : Hp} {s3 : Shared} {its : List Value} {k : Nat}, Inv (cxB X NB own scope P.objs.size fp s2 H2) [] σ3 H3 s3 → s3.heap.get? s2.heap.objs.size=some { cls := .type "list", data := .seq its.toArray k } → H3 s2.heap.objs.size=none →
      Inv (cxB X NB own scope P.objs.size fp s2 H2) [(s2.heap.objs.size, { cls := .type "list", data := .seq its.toArray k })] σ3 H3 s3 := fun I3 e n => I3.pins_of fun p hp => by
    have ep := vf.mp hp
    subst ep
    exact ⟨e, n, hDC, dnf, fun v z => by cases z⟩
  have ndf : s2.heap.objs.size∉fp := fun z => by
    obtain ⟨o, e⟩ := hfs _ z
    exact absurd (ve e) (vO _)
  have nCD : ∀ x c, (cxB X NB own scope P.objs.size fp s2 H2).env.cells.lookup x=some c → c≠s2.heap.objs.size := fun x c e z => by
    obtain ⟨v, o, ho, _⟩ := I.cell x c (B.cells I.ok e).1
    rw [z] at ho
    exact absurd (ve ho) (vO _)
  have loop : ∀ s₃ : Shared, s₃ = { s2 with heap := h₁, toks := tk4 } → codeAny (model X.prog X.w) X.A (.compLoop (.ListComp elt [⟨tg, iter, ifs, 0⟩] scope pos) 0 (.ref it) (.ref s2.heap.objs.size) (cxB X NB own scope P.objs.size fp s2 H2).env)
      (compPost (model X.prog X.w) X.A X.xe use QQ (.ref s2.heap.objs.size) P.objs.size) s₃ := by
    rintro s₃ rfl
    refine fQ (fun n s' => ∃ i σB H' ys its k, Inv (cxB X NB own scope P.objs.size fp s2 H2) [] σB H' s' ∧ tn i s'.heap ∧ (∀ b∈fp, H' b=none) ∧ s'.heap.get? s2.heap.objs.size=some { cls := .type "list", data := .seq (its : List Value).toArray k } ∧ aI ys its ∧ H' s2.heap.objs.size=none ∧ W i n ys σB H') ?_ m0
      ⟨0, stB own cap σ, H2, [], [], 0, I4, st4, fun b hb => (f2 b hb).1, hD, .nil, I.hok.fresh (vd _), w0⟩
    rintro n s3 ⟨i, σ3, H3, ys, its, k, I3, st3, fr3, hD3, rv, hn3, w3⟩
    rcases turn i n ys σ3 H3 w3 with ⟨stop, hz, q⟩ | ⟨go, hz, step⟩
    · refine thn (T.done (cxB X NB own scope P.objs.size fp s2 H2) rfl rfl rfl hc i _ s3 σ3 H3 noE (I3D I3 hD3 hn3) (fun b hb => fOk hb (fr3 b hb)) st3 stop) fun r s4 zq1 => ?_
      obtain ⟨hr, I4'⟩ := zq1
      subst hr
      have hD4 : s4.heap.get? s2.heap.objs.size=some { cls := .type "list", data := .seq (its : List Value).toArray k } := (I4'.pin (s2.heap.objs.size, _) (vg _ (vf.mpr rfl))).1
      have I5 : Inv (cxB X NB own scope P.objs.size fp s2 H2) [] σ3 H3 s4 := I4'.pins_of fun p hp => absurd (show p∈([] : List (Addr × Obj)) from hp) (by simp)
      exact fin fp _ s2 s4 H2 H3 σ3 its ys k I f2 hCle hDC I5 hn3 hD4 rv hz (q _ hn3)
    · refine thn (T.item (cxB X NB own scope P.objs.size fp s2 H2) rfl rfl rfl hc i _ s3 σ3 H3 noE (I3D I3 hD3 hn3) (fun b hb => fOk hb (fr3 b hb)) st3 go) fun r s4 zq2 => ?_
      obtain ⟨u, hr, h4⟩ := zq2
      subst hr
      refine thn h4 fun _ s5 zq3 => ?_
      obtain ⟨x, H5, I5, r5, y5, st5, fr5⟩ := zq3
      have I5' := I5.pinned (fun b hb => fOk hb (fr5 b hb)) (T.obj _ _ st5)
      refine thn (hg _ fp s2 H2 _ s5 σ3 H5 x u _ I5' r5 (step x H5 y5)) fun _ s6 zq4 => ?_
      obtain ⟨σ6, H6, I6, q6⟩ := zq4
      refine thn (ht _ fp s2 H2 _ s6 σ6 H6 _ I6 q6) fun b s7 zq5 => ?_
      obtain ⟨H7, I7, q7⟩ := zq5
      have pinned : ∀ {σ8 : St} {H8 : Hp} {s8 : Shared}, Inv (cxB X NB own scope P.objs.size fp s2 H2) ([(s2.heap.objs.size, { cls := .type "list", data := .seq (its : List Value).toArray k })]++d7 fp s5.heap) σ8 H8 s8 →
          tn (i+1) s8.heap ∧ (∀ b∈fp, H8 b=none) ∧ s8.heap.get? s2.heap.objs.size=some { cls := .type "list", data := .seq (its : List Value).toArray k } ∧ H8 s2.heap.objs.size=none := fun {σ8 H8 s8} I8 => by
        refine ⟨T.keep _ _ _ st5 fun b hb o e => (I8.pin (b, o) (vg _ (vg _ (bo hb e)))).1, fun b hb => ?_, ?_, ?_⟩
        · obtain ⟨o, e, d⟩ := T.obj _ _ st5 b hb
          exact (I8.pin (b, o) (vg _ (vg _ (bo hb e)))).2.1
        · exact (I8.pin (s2.heap.objs.size, _) (vg _ (vM _ (vf.mpr rfl)))).1
        · exact (I8.pin (s2.heap.objs.size, _) (vg _ (vM _ (vf.mpr rfl)))).2.1
      have nopin : ∀ {pp : List (Addr × Obj)} {σ8 : St} {H8 : Hp} {s8 : Shared}, Inv (cxB X NB own scope P.objs.size fp s2 H2) pp σ8 H8 s8 → Inv (cxB X NB own scope P.objs.size fp s2 H2) [] σ8 H8 s8 := fun I8 => I8.pins_of fun p hp => absurd (show p∈([] : List (Addr × Obj)) from hp) (by simp)
      cases b with
      | false =>
        rw [if_neg vm] at q7 ⊢
        obtain ⟨m', hm, w7⟩ := q7
        obtain ⟨p1, p2, p3, p4⟩ := pinned I7
        exact ⟨m', hm, i+1, σ6, H7, ys, its, k, nopin I7, p1, p2, p3, rv, p4, w7⟩
      | true =>
        rw [if_pos rfl] at q7 ⊢
        refine thn (he _ fp s2 H2 _ s7 σ6 H7 _ I7 q7) fun yv s8 zq6 => ?_
        obtain ⟨y, H8, I8, r8, m', hm, w8⟩ := zq6
        obtain ⟨p1, p2, p3, p4⟩ := pinned I8
        refine xB w4 ⟨_, p3, rfl⟩ ya (xW _ _) (yF s2.heap.objs.size its.toArray k yv (by rw [vj, ← rv.length];omega)) ⟨p3, ?_⟩
        have q := yX p3 fun a => a.push yv
        have ea : its.toArray.push yv=(its++[yv]).toArray := by simp
        rw [ea] at q
        have I9 : Inv (cxB X NB own scope P.objs.size fp s2 H2) [] σ6 H8 { s8 with heap := s8.heap.update s2.heap.objs.size (Obj.mapSeq fun a => a.push yv), toks := s8.toks } :=
          (nopin I8).turned (it := s2.heap.objs.size) (fun b o hb e => (vQ s8.heap _ (Ne.symm hb)).trans e) p4 hDC (.inr (vd _)) (fun x c e => nCD x c e) fun p hp => absurd (show p∈([] : List (Addr × Obj)) from hp) (by simp)
        refine ⟨m', hm, i+1, σ6, H8, ys++[y], its++[yv], _, I9, ?_, p2, q, rv.append (.cons r8 .nil), p4, w8⟩
        refine T.keep _ _ _ p1 fun b hb o e => (vQ s8.heap _ ?_).trans e
        intro z
        rw [z] at ndf
        exact ndf hb
  exact codeAny_compStart_list (loop _ rfl) (T.self X.A 0 _ _ _ st4 (loop _ rfl))
theorem aY {X : Cx}{elt iter tg : Expr}{ifs : List Expr}{scope : Scope}{pos : Pos}{NB own : List Str}{cap : List Nat}{wi : TI}{g : TG}{ti : TT}{te : TE}(B : Blk X scope NB own cap)(hc : X.calm=true)(hi : PI X tg iter wi)
    (hg : ∀ C fp s₀ H₀, PG (cxB X NB own scope C fp s₀ H₀) tg g) (ht : ∀ C fp s₀ H₀, PIf (cxB X NB own scope C fp s₀ H₀) ifs ti) (he : ∀ C fp s₀ H₀, PE (cxB X NB own scope C fp s₀ H₀) elt te)
    (hs : ∀ x, foldedSetIterable iter X.env x=pure x := by intro _;rfl) : PE X (.ListComp elt [⟨tg, iter, ifs, 0⟩] scope pos) (ml own cap wi g ti te) := by
  intro pins s σ H Q I0 h
  rw [eval_ListComp]
  refine iy (use := none) (QQ := EP X pins σ Q) B hc hi hg ht he hs I0 h fun fp C s2 s4 H2 H3 σ3 its ys k I f2 hCle hDC I5 hn3 hD4 rv hz q => ?_
  obtain ⟨mC, hnC, _⟩ := I5.loc
  exact ⟨mC, hnC, fun h'' sb => ⟨.ref s2.heap.objs.size, _, B.done I f2 hCle (vd _) hDC I5 hn3 hD4 rv hz sb, rfl, q⟩⟩
theorem bI {own : List Str}{cap : List Nat}{J : It}{g : TG}{ti : TT}{te : TE}{σ : St}{H : Hp}{Q : VK}(n : Nat)(Pv : Nat → List V → St → Hp → Prop)(h0 : Pv 0 [] (stB own cap σ) H)(hz : ∀ i ys σ H, i≤n → Pv i ys σ H → ys.length≤i)(hn : n≤sizeLine)
    (hgo : ∀ i ys σ H, i < n → Pv i ys σ H → J.go i H) (hst : ∀ ys σ H, Pv n ys σ H → J.stop n H)
    (hs : ∀ i ys σ H x H' (N : List V → St → Hp → Prop), i < n → Pv i ys σ H → J.yld i H x H' → (∀ ys' σ' H'', Pv (i+1) ys' σ' H'' → N ys' σ' H'') → g x σ H' fun σ2 H2 => ti σ2 H2 fun b H3 => if b=true then te σ2 H3 fun y H4 => N (ys++[y]) σ2 H4 else N ys σ2 H3)
    (hd : ∀ ys σ H D, Pv n ys σ H → H D=none → Q (.ref D) (upd H D (.lst ys))) :
    mj own cap g ti te Q σ J H := by
  refine ⟨fun i m ys σ H => m=n - i ∧ i≤n ∧ Pv i ys σ H, ⟨n, by simp, vR _, h0⟩, ?_⟩
  rintro i m ys σ H ⟨rfl, hi, p⟩
  have hl := hz i ys σ H hi p
  by_cases hlt : i < n
  · refine .inr ⟨hgo i ys σ H hlt p, by omega, fun x H' y => ?_⟩
    exact hs i ys σ H x H' (fun ys' σ' H'' => ∃ m', m' < n - i ∧ m'=n - (i+1) ∧ i+1≤n ∧ Pv (i+1) ys' σ' H'') hlt p y fun ys' σ' H'' q => ⟨n - (i+1), by omega, rfl, hlt, q⟩
  · have e : i=n := by omega
    subst e
    exact .inl ⟨hst ys σ H p, by omega, fun D hD => hd ys σ H D p hD⟩
end L2
namespace L2
open PySem PySem.Spec PyProof.Rows
def Its (z : Str) : It := ⟨fun i _ => i < z.cps.size, fun i H x H' => H'=H ∧ ∃ c, z.cps[i]? = some c ∧ x = .str ⟨#[c]⟩, fun i _ => i=z.cps.size⟩
theorem bS {P : Program}{w : World}{K : PySem.W.Frag}{tg : Expr}{it n : Nat}{Pv : Nat → Value → Prop}{st : Nat → Heap → Prop}{J : It}{T : String}{fl : Nat → Array Value}
    (W : ∀ A : Around, A.handled=none → Walks P w A it [it] [it] n Pv st) (hst : ∀ i h, st i h → ∃ o, h.get? it=some o ∧ o.cls = .type T ∧ o.data = .fields (fl i))
    (hT : ["enumerate", "zip", "dict_itemiterator", "dict_reverseitemiterator", "odict_iterator", "itertools.zip_longest", "itertools.pairwise"].contains T=false)
    (hgo : ∀ i H, J.go i H → i < n) (hstop : ∀ i H, J.stop i H → i=n) (hy : ∀ i H u, J.go i H → Pv i u → ∃ x, aM x u ∧ J.yld i H x H)
    (hself : ∀ (A : Around) (i : Nat) (s : Shared) (Q : Value → Shared → Prop) (E : Value → Shared → Prop), st i s.heap → Q (.ref it) s → wpAny (model P w) A (pyIter (.ref it)) Q E s) : nJ P w K tg J [it] it st where
  mem := by simp
  obj := fun i h s b hb => by
    have e : b=it := by simpa using hb
    subst e
    obtain ⟨o, e, c, d⟩ := hst i h s
    exact ⟨o, e, fun v z => by rw [d] at z;cases z⟩
  keep := fun i h h' s k => (W {} rfl).frame i h h' s k
  item := by
    intro X hP hw hK hc i pins s σ H E I hf s0 hg
    subst hP hw hK
    obtain ⟨f0, f1, f2, f3, f4, f5⟩ := hf it (by simp)
    refine (W X.A (I.ok.hd hc)).item i s _ _ (hgo i H hg) s0 fun v h' tk hv st' kk => ?_
    have I1 : Inv X pins σ H { s with heap := h', toks := tk } := I.turned (fun b o hb e => kk b o (by simpa using hb) e) f0 f1 f3 f4 f5
    obtain ⟨o, e, c, d⟩ := hst _ _ st'
    obtain ⟨x, rx, yx⟩ := hy i H v hg hv
    exact ⟨v, rfl, lW (s := { s with heap := h', toks := tk }) e c d hT ⟨x, H, I1, rx, yx, st', fun b hb => (hf b hb).1⟩⟩
  done := by
    intro X hP hw hK hc i pins s σ H E I hf s0 hg
    subst hP hw hK
    obtain ⟨f0, f1, f2, f3, f4, f5⟩ := hf it (by simp)
    have e := hstop i H hg
    subst e
    exact (W X.A (I.ok.hd hc)).done s _ _ s0 fun h' tk kk => ⟨rfl, I.turned (fun b o hb e => kk b o (by simpa using hb) e) f0 f1 f3 f4 f5⟩
  self := hself
section
variable {X : Cx} {tg : Expr}
def uW (tl : TE) : TI := fun σ H R => tl σ H fun x H1 => ∃ z, x = .str z ∧ R (Its z) H1
theorem jR {z : Str}{i : Nat}{H : Hp}{u : Value}(h : SignAt z i u) : ∃ x, aM x u ∧ (Its z).yld i H x H := by
  obtain ⟨c, t, e, rfl⟩ := h
  exact ⟨.str ⟨#[c]⟩, ⟨t, rfl⟩, rfl, c, e, rfl⟩
theorem iz {l : Expr}{tl : TE}(hl : PE X l tl) : PI X tg l (uW tl) := by
  intro pins s σ H R I h
  refine thn (hl pins s σ H _ I h) fun v s1 zq1 => ?_
  obtain ⟨x, H1, I1, r1, q1⟩ := zq1
  obtain ⟨z, rfl, q⟩ := q1
  obtain ⟨t, rfl⟩ := r1
  have fp : ∀ b∈[s1.heap.objs.size], fz X pins H1 b := fun b hb => by
    have e : b=s1.heap.objs.size := by simpa using hb
    subst e
    exact I1.fpOk (vd _) (I1.hok.fresh (vd _))
  cases ha : z.cps.all (· < 128)
  · refine wpAny_pyIter_wide ha ⟨s1.heap.objs.size, [s1.heap.objs.size], _, Its z, H1, rfl, I1.kept (t' := s1.toks) fun b o e => u_ _ e,
      bS (T := "str_iterator") (fl := fun i => #[.str z t, .int i 0]) (fun A hh => Walks.strWide hh _ z t) (fun i h st => st) (by decide) (fun i H g => g) (fun i H g => g) (fun i H u _ hu => jR hu) (fun A i s Q E st h => wpAny_pyIter_striter_wide st h), ⟨_, vi _ rfl, rfl, rfl⟩, fp, q⟩
  · refine wpAny_pyIter_ascii ha ⟨s1.heap.objs.size, [s1.heap.objs.size], _, Its z, H1, rfl, I1.kept (t' := s1.toks) fun b o e => u_ _ e,
      bS (T := "str_ascii_iterator") (fl := fun i => #[.str z t, .int i 0]) (fun A hh => Walks.strAscii hh _ z t) (fun i h st => st) (by decide) (fun i H g => g) (fun i H g => g) (fun i H u _ hu => jR hu) (fun A i s Q E st h => wpAny_pyIter_striter_ascii st h), ⟨_, vi _ rfl, rfl, rfl⟩, fp, q⟩
inductive ur (x : V)(lo : Option Int)(hi : Option Int)(H : Hp)(Q : VK) : Prop
  | mk : ∀ z, (x = .str z) → (z.length≤sizeLine) → (Q (.str (Txt.slice z lo hi)) H) → ur x lo hi H Q
theorem bh : SlR X ur := by
  intro pins s σ H x v vl vu lo hi sl Q I rx hs pl pu h
  obtain ⟨z, rfl, hz, q⟩ := h
  obtain ⟨t, rfl⟩ := rx
  have fin : ∀ (lo hi : Option Int), Q (.str (Txt.slice z lo hi)) H → ∀ t' k, EP X pins σ Q (.str (Txt.slice z lo hi) t') { s with toks := k } := fun lo hi q t' k => ⟨.str _, H, I.tok _, ⟨_, rfl⟩, q⟩
  refine ⟨"str", _, F.slot_str_getitem.lookup, yE _ _ _, ?_⟩
  cases pl with
  | none =>
    cases pu with
    | none => exact w9 (l := none) (u := none) (st := none) hs rfl (ye ⟨vI (wW z _ _) hz, fun t' k => fin _ _ q t' k⟩)
    | int j uj => exact w9 (l := none) (u := some (j, uj)) (st := none) hs rfl (ye ⟨vI (wW z _ _) hz, fun t' k => fin _ _ q t' k⟩)
  | int i ui =>
    cases pu with
    | none => exact w9 (l := some (i, ui)) (u := none) (st := none) hs rfl (ye ⟨vI (wW z _ _) hz, fun t' k => fin _ _ q t' k⟩)
    | int j uj => exact w9 (l := some (i, ui)) (u := some (j, uj)) (st := none) hs rfl (ye ⟨vI (wW z _ _) hz, fun t' k => fin _ _ q t' k⟩)
inductive nU (x : V)(vs : List V)(H : Hp)(Q : VK) : Prop
  | mk : ∀ z, (x = .str z) → (vs=[]) → (z.length≤5592405) → (Q (.str (Txt.upper z)) H) → nU x vs H Q
inductive nV (x : V)(vs : List V)(H : Hp)(Q : VK) : Prop
  | mk : ∀ z, (x = .str z) → (vs=[]) → (z.length≤5592405) → (Q (.str (Txt.lower z)) H) → nV x vs H Q
theorem mm : MtR X "str.upper" nU := by
  intro pins s σ H x vs v us Q I rx rv h
  obtain ⟨z, rfl, rfl, hz, q⟩ := h
  obtain ⟨t, rfl⟩ := rx
  cases rv
  exact SCL.upper hz fun _ => ⟨.str _, H, I.tok _, ⟨_, rfl⟩, q⟩
theorem mn : MtR X "str.lower" nV := by
  intro pins s σ H x vs v us Q I rx rv h
  obtain ⟨z, rfl, rfl, hz, q⟩ := h
  obtain ⟨t, rfl⟩ := rx
  cases rv
  exact SCL.lower hz fun _ => ⟨.str _, H, I.tok _, ⟨_, rfl⟩, q⟩
theorem ee : ∀ {ys : List Str} {us : List Value}, aI (ys.map V.str) us → StrsAre us ys
  | [], _, r => by
    rw [yr] at r
    cases r
    exact .nil
  | y::ys, us, r => by
    rw [vn] at r
    cases r with
    | cons r1 r2 =>
      obtain ⟨t, e⟩ := r1
      subst e
      exact .cons y t (ee r2)
inductive qK (K : PySem.W.Frag)(x : V)(vs : List V)(H : Hp)(Q : VK) : Prop
  | mk : ∀ z p ys, (x = .str z) → (vs=[.ref p]) → (SqL K H p (ys.map V.str)) → ((ys.map (·.length)).sum+ys.length*z.length≤16777216) → (Q (.str (Txt.join z ys)) H) → qK K x vs H Q
theorem jS : MtR X "str.join" (qK X.K) := by
  intro pins s σ H x vs v us Q I rx rv h
  obtain ⟨z, p, ys, rfl, rfl, hq, hz, q⟩ := h
  obtain ⟨t, rfl⟩ := rx
  obtain ⟨u, rfl, ru⟩ := bZ rv
  cases ru
  obtain ⟨its, r, pl, _⟩ := I.list hq
  exact join_list pl.isList (by simpa using ee r) hz fun t' k => ⟨.str _, H, I.tok _, ⟨_, rfl⟩, q⟩
end
theorem gP {z : Str}{g : TG}{tb : TS}{D : fq}{σ : St}{H : Hp}(Pv : Nat → St → Hp → Prop)(h0 : Pv 0 σ H)
    (hs : ∀ i c σ H, z.cps[i]? = some c → Pv i σ H → g (.str ⟨#[c]⟩) σ H fun σ2 H2 => tb { D with nx := Pv (i+1), ct := Pv (i+1), bk := D.nx } σ2 H2) (hd : ∀ σ H, Pv z.cps.size σ H → D.nx σ H) :
    ∃ W : Nat → Nat → St → Hp → Prop, (∃ m, W 0 m σ H) ∧ ∀ i m σ H, W i m σ H →
      ((Its z).stop i H ∧ D.nx σ H) ∨ ((Its z).go i H ∧ ∃ N : St → Hp → Prop, (∀ σ' H', N σ' H' → ∃ m', m' < m ∧ W (i+1) m' σ' H') ∧ ∀ x H', (Its z).yld i H x H' → g x σ H' fun σ2 H2 => tb { D with nx := N, ct := N, bk := D.nx } σ2 H2) := by
  refine ⟨fun i m σ H => m=z.cps.size - i ∧ i≤z.cps.size ∧ Pv i σ H, ⟨z.cps.size, by simp, vR _, h0⟩, ?_⟩
  rintro i m σ H ⟨rfl, hi, p⟩
  by_cases hlt : i < z.cps.size
  · refine .inr ⟨hlt, Pv (i+1), fun σ' H' p' => ⟨z.cps.size - (i+1), by omega, rfl, hlt, p'⟩, fun x H' y => ?_⟩
    obtain ⟨e, c, hc, ex⟩ := y
    subst e ex
    exact hs i c σ _ hc p
  · have e : i=z.cps.size := by omega
    subst e
    exact .inl ⟨rfl, hd σ H p⟩
end L2
namespace PySem
open Sem (wp)
open Builtin Builtin.SmallTypes
namespace F
theorem lookup_str_reversed : typeLookup (.type "str") "__reversed__" = pure none := by rw [yf, xi]; kernel_rfl
theorem eO : Slot "reversed" "__init__" "object.__init__" :=
  .of (owner := "object") (n := "__init__") (by rw [yf, xi];kernel_rfl) (by decide +kernel) (by decide +kernel) (by decide +kernel)
    (by first | exact .inl (by decide +kernel) | exact .inr (by decide +kernel)) (by rw [xQ];kernel_rfl)
theorem called_rvs : TypeCalled "reversed" "reversed.__new__" "object.__init__" :=
  ⟨by decide +kernel, create_reversed, ⟨_, _, mro_reversed⟩, made_reversed, plain_reversed_new, sub_reversed_self, eO⟩
end F
set_option maxHeartbeats 1000000 in
theorem jT (x : Str)(t : Tok) : Meets (Builtin.«reversed.__new__» ⟨[.type "reversed", .str x t], []⟩) (fun _ R s => ¬ (x.length : Int)≥2 ^ 63 ∧
      ∀ tk, R (.ok (.ret (.ref s.heap.objs.size))) { s with heap := s.heap.push { cls := .type "reversed", data := .fields #[.str x t, rawInt ((x.length : Int) - 1)] }, toks := tk }) :=
  .of_wp fun prog w A R s h => by
    obtain ⟨hx, h⟩ := h
    unfold Builtin.«reversed.__new__»
    refine va (yg (newClass_reversed _) ?_)
    try dsimp only
    refine va (yg (a := ()) (by first | rfl | kernel_rfl) ?_)
    refine va (yg (a := ()) (by first | rfl | kernel_rfl) ?_)
    try dsimp only
    refine va (yd (yE s x t) F.lookup_str_reversed ?_)
    try dsimp only
    refine va ?_
    have hl := F.slot_str_getitem.lookup
    have hT := yE s x t
    have hD : isSubtype (.type "str") (.type "dict")=pure false := by rw [xQ];kernel_rfl
    repeat (any_goals (first | assumption | refine PySem.P.len_str hx ?_ | wp_step))
    exact ⟨_, rfl, h _⟩
def Heap.IsRvs (h : Heap)(a : Addr)(x : Str)(t : Tok)(i : Int) : Prop := ∃ o, h.get? a=some o ∧ o.cls = .type "reversed" ∧ o.data = .fields #[.str x t, rawInt i]
theorem Heap.IsRvs.typeIs {s : Shared}{a : Addr}{x : Str}{t : Tok}{i : Int}(y : s.heap.IsRvs a x t i) : s.TypeIs (.ref a) "reversed" := let ⟨o, ho, hc, _⟩ := y; ⟨o, ho, hc⟩
namespace F
theorem slot_rvs_next : Slot "reversed" "__next__" "reversed.__next__" :=
  .of (owner := "reversed") (n := "__next__") (by rw [yf, xi];kernel_rfl) (by decide +kernel) (by decide +kernel) (by decide +kernel)
    (by first | exact .inl (by decide +kernel) | exact .inr (by decide +kernel)) (by rw [xQ];kernel_rfl)
theorem entry_rvs_next : entryFor table "reversed.__next__" = some Builtin.«reversed.__next__» := entryFor_of_tree (by kernel_rfl)
theorem args_rvs_next (a : Value) : argsOk "reversed.__next__" ⟨[a], []⟩ := by unfold argsOk; kernel_rfl
theorem slot_rvs_iter : Slot "reversed" "__iter__" "reversed.__iter__" :=
  .of (owner := "reversed") (n := "__iter__") (by rw [yf, xi];kernel_rfl) (by decide +kernel) (by decide +kernel) (by decide +kernel)
    (by first | exact .inl (by decide +kernel) | exact .inr (by decide +kernel)) (by rw [xQ];kernel_rfl)
theorem args_rvs_iter (a : Value) : argsOk "reversed.__iter__" ⟨[a], []⟩ := by unfold argsOk; kernel_rfl
theorem entry_rvs_iter : entryFor table "reversed.__iter__" = some Builtin.«dict_keyiterator.__iter__» :=
  entryFor_alias (id' := "dict_keyiterator.__iter__") (by kernel_rfl) rfl (by decide +kernel) (by kernel_rfl)
end F
section
variable {prog : Program} {w : World} {A : Around} {E : Value → Shared → Prop} {s : Shared} {x : Str} {t : Tok}
theorem fR {Q : Value → Shared → Prop}(hx : ¬ (x.length : Int)≥2 ^ 63)
    (h : ∀ tk, Q (.ref s.heap.objs.size) { s with heap := s.heap.push { cls := .type "reversed", data := .fields #[.str x t, rawInt ((x.length : Int) - 1)] }, toks := tk }) : wpAny (model prog w) A (call (.type "reversed") [.str x t]) Q E s :=
  callType_new F.called_rvs (by decide) (F.typeCall_reversed_1 _) (F.newCall_reversed_1 _) (fun obj => F.args_object_init_2 obj _) F.entry_reversed_new (jT x t) ⟨hx, fun tk => ⟨⟨_, vi _ rfl, rfl⟩, h tk⟩⟩
theorem eP {it : Addr}{i : Int}{Q : Value → Shared → Prop}(hit : s.heap.IsRvs it x t i)(h : Q (.ref it) s) : wpAny (model prog w) A (pyIter (.ref it)) Q E s := by
  refine wpAny_pyIter_slot hit.typeIs F.slot_rvs_iter (wG F.slot_rvs_iter hit.typeIs F.entry_rvs_iter ?_ (F.args_rvs_iter _))
  show wpAny _ _ (ret (.ref it)) _ _ s
  exact vE ⟨_, rfl, "reversed", _, hit.typeIs, F.slot_rvs_next.lookup, h⟩
theorem eQ {it : Addr}{i : Nat}{c : Nat}{Q : Option Value → Shared → Prop}(hit : s.heap.IsRvs it x t (i : Int))(hx : x.cps[i]? = some c)(h63 : (i : Int) < 2 ^ 63)
    (hQ : ∀ h' tk u, h'.IsRvs it x t ((i : Int) - 1) → Heap.SameBut it s.heap h' → Q (some (.str ⟨#[c]⟩ u)) { s with heap := h', toks := tk }) : wpAny (model prog w) A (pyNext (.ref it)) Q E s := by
  obtain ⟨o, ho, hc, hd⟩ := id hit
  unfold pyNext
  refine va (xF (wj (name := Str.ofString "__next__") hit.typeIs F.slot_rvs_next
    (wG F.slot_rvs_next hit.typeIs F.entry_rvs_next ?_ (F.args_rvs_next _))))
  unfold Builtin.«reversed.__next__»
  refine va (yg (a := (Value.ref it, [])) rfl ?_)
  try dsimp only
  refine va (wd ho hd (x := .str x t) rfl ?_)
  refine va (wd ho hd (x := rawInt (i : Int)) rfl ?_)
  show wpAny _ _ (if (i : Int) < 0 then _ else _) _ _ s
  rw [if_neg (by omega)]
  refine va (yd (yE s x t) F.slot_str_getitem.lookup ?_)
  show wpAny _ _ (if (some (Value.builtin "str.__getitem__")).isNone=true then _ else _) _ _ s
  rw [if_neg (by decide)]
  refine va (wpAny_mkInt ?_)
  have hlt : i < x.length := by
    have := wM.mp hx
    exact this.1
  refine va (xF (PySem.P.getItem_str (c := c) ?_ ?_ ?_))
  · have e1 : decide ((i : Int) < -(2 ^ 63 : Int))=false := vS (by omega)
    have e2 : decide ((i : Int)≥2 ^ 63)=false := vS (by omega)
    rw [e1, e2, zh]
  · rw [PySem.StrLaws.seqIndex_nonneg (by omega) (by omega)]
    simpa using hx
  try dsimp only
  refine va (wd ho hd (x := rawInt (i : Int)) rfl ?_)
  show wpAny _ _ (setField (.ref it) 1 (rawInt ((i : Int) - 1)) >>= _) _ _ _
  refine va (xR ho hd (by simp) ?_)
  refine vE ⟨_, rfl, vE (hQ _ _ _ ?_ (yh ..))⟩
  exact ⟨_, wu _ ho (xT (wX hd _)), (Obj.cls_mapFields ..).trans hc, by
    rw [wX hd];simp⟩
theorem fS {it : Addr}{Q : Option Value → Shared → Prop}(hh : A.handled=none)(hit : s.heap.IsRvs it x t (-1))
    (hQ : ∀ h', (∀ b o, b≠it → s.heap.get? b=some o → h'.get? b=some o) → Q none { s with heap := h' }) : wpAny (model prog w) A (pyNext (.ref it)) Q E s := by
  obtain ⟨o, ho, hc, hd⟩ := id hit
  unfold pyNext
  refine va (xF (wj (name := Str.ofString "__next__") hit.typeIs F.slot_rvs_next
    (wG F.slot_rvs_next hit.typeIs F.entry_rvs_next ?_ (F.args_rvs_next _))))
  unfold Builtin.«reversed.__next__»
  refine va (yg (a := (Value.ref it, [])) rfl ?_)
  try dsimp only
  refine va (wd ho hd (x := .str x t) rfl ?_)
  refine va (wd ho hd (x := rawInt (-1)) rfl ?_)
  show wpAny _ _ (if (-1 : Int) < 0 then _ else _) _ _ s
  rw [if_pos (by decide)]
  refine va (zb ?_)
  refine va ?_
  show wpAny _ _ (setField (.ref it) 1 (rawInt (-1)) >>= fun _ => setField (.ref it) 0 .none) _ _ s
  refine va (xR ho hd (by simp) ?_)
  have ho2 := wu (Obj.mapFields fun a => a.setIfInBounds 1 (rawInt (-1))) ho (xT (wX hd _))
  have hd2 := wX hd fun a => a.setIfInBounds 1 (rawInt (-1))
  refine xR ho2 hd2 (by simp) ?_
  generalize hh2 : (s.heap.update it _).update it _=h2
  have kk : ∀ b o, b≠it → s.heap.get? b=some o → h2.get? b=some o := fun b o hb e => by
    rw [← hh2]
    exact (vQ _ _ (Ne.symm hb)).trans ((vQ _ _ (Ne.symm hb)).trans e)
  have hz : A.in1.handled=none := hh
  have sub := zd
  repeat (any_goals (first | assumption | wp_step))
  unfold raiseNew
  refine va (wpAny_handled ?_)
  rw [hz]
  refine va (vE (wpAny_throw ?_))
  refine va (xU (T := "StopIteration") (b := true) ?_ sub (vE (hQ _ fun b o hb e => ?_)))
  · exact ⟨_, vi _ rfl, rfl⟩
  exact u_ _ (u_ _ (kk b o hb e))
theorem jU (hh : A.handled=none)(it : Addr)(x : Str)(t : Tok)(h63 : (x.cps.size : Int) < 2 ^ 63) :
    Walks prog w A it [it] [it] x.cps.size (fun i v => ∃ c u, x.cps[x.cps.size - 1 - i]? = some c ∧ v = .str ⟨#[c]⟩ u) (fun i h => i≤x.cps.size ∧ h.IsRvs it x t ((x.cps.size : Int) - 1 - (i : Int))) where
  sub := fun _ hb => hb
  frame := fun _ _ _ st hk => let ⟨l, o, ho, r⟩ := st;⟨l, o, hk it (by simp) o ho, r⟩
  item := fun i s Q E hi y hQ => by
    have e : (x.cps.size : Int) - 1 - (i : Int)=((x.cps.size - 1 - i : Nat) : Int) := by omega
    have hit := y.2
    rw [e] at hit
    have hx : x.cps[x.cps.size - 1 - i]? = some (x.cps[x.cps.size - 1 - i]'(by omega)) := xt (by omega)
    refine eQ hit hx (by omega) fun h' tk u hit' hs' => ?_
    have e2 : ((x.cps.size - 1 - i : Nat) : Int) - 1=(x.cps.size : Int) - 1 - ((i+1 : Nat) : Int) := by omega
    rw [e2] at hit'
    exact hQ _ h' tk ⟨_, u, hx, rfl⟩ ⟨hi, hit'⟩ fun b o hb eo => hs'.extBut b o (fun h => hb (by simp [h])) eo
  done := fun s Q E y hQ => by
    have e : (x.cps.size : Int) - 1 - (x.cps.size : Int) = -1 := by omega
    have hit := y.2
    rw [e] at hit
    exact fS hh hit fun h' he' => hQ h' s.toks fun b o hb eo => he' b o (fun h => hb (by simp [h])) eo
  self := fun _ _ _ _ y hQ => eP y.2 hQ
end
end PySem
namespace L2
open PySem PySem.Spec PyProof.Rows
def tj (z : Str) : It := ⟨fun i _ => i < z.cps.size, fun i H x H' => H'=H ∧ ∃ c, z.cps[z.cps.size - 1 - i]? = some c ∧ x = .str ⟨#[c]⟩, fun i _ => i=z.cps.size⟩
section
variable {X : Cx} {tg : Expr}
def tq (ta : TA) : TI := fun σ H R => ta σ H fun vs H1 => ∃ z, vs=[.str z] ∧ z.length≤sizeLine ∧ R (tj z) H1
theorem oM {a : Expr}{ta : TA}{p pos : Pos}(hg : Gl X "reversed")(hm : X.mg "reversed" = none)(hb : bootBuiltins "reversed" = some (.type "reversed"))(ha : PA X [a] ta)(hs : starEach [a] X.env=[(false, eval a X.env)] := by rfl) :
    PI X tg (.Call (.Name "reversed" p) [a] [] pos) (tq ta) := by
  intro pins s σ H R I h
  refine Call_ (cT I hg hm hb (v9 (thn (ha pos pins s σ H _ I h) fun us s1 zq1 => ?_) hs rfl))
  obtain ⟨vs, H1, I1, r1, q1⟩ := zq1
  obtain ⟨z, rfl, hz, q⟩ := q1
  obtain ⟨u, rfl, t, rfl⟩ := bZ r1
  have hn := cI
  have hsz : z.cps.size=z.length := rfl
  refine fR (by omega) fun tk => ?_
  have hit : Heap.IsRvs (s1.heap.push { cls := .type "reversed", data := .fields #[.str z t, rawInt ((z.length : Int) - 1)] }) s1.heap.objs.size z t ((z.length : Int) - 1) := ⟨_, vi _ rfl, rfl, rfl⟩
  refine eP (s := { s1 with heap := s1.heap.push { cls := .type "reversed", data := .fields #[.str z t, rawInt ((z.length : Int) - 1)] }, toks := tk }) hit ?_
  refine ⟨s1.heap.objs.size, [s1.heap.objs.size], _, tj z, H1, rfl, I1.kept (t' := tk) fun b o e => u_ _ e,
    bS (T := "reversed") (fl := fun i => #[.str z t, rawInt ((z.cps.size : Int) - 1 - (i : Int))]) (fun A hh => jU hh _ z t (by omega)) (fun i h st => st.2) (by decide) (fun i H g => g) (fun i H g => g)
      (fun i H u _ ⟨c, t', e, eu⟩ => ⟨.str ⟨#[c]⟩, ⟨t', eu⟩, rfl, c, e, rfl⟩) (fun A i s Q E st h => eP st.2 h), ⟨vR _, by simpa [hsz] using hit⟩, fun b hb => ?_, q⟩
  have e : b=s1.heap.objs.size := by simpa using hb
  subst e
  exact I1.fpOk (vd _) (I1.hok.fresh (vd _))
structure DTx (K : PySem.W.Frag) (w : World) (a : Addr) : Prop where
  ob : ∃ (es : Array DictEntry) (n : Nat), K.lookup a=some ⟨.type "dict", none, .dict es n, #[]⟩ ∧ PySem.W.KeysLit w.params es.toList
theorem mq {a : Addr}(D : DTx X.K X.w a) : IxR X (fun x y H Q => ∃ z z' t, x = .ref a ∧ y = .str z ∧ PySem.W.nsIn X.K a z=some (some (.str z' t)) ∧ Q (.str z') H) := by
  intro value slice pins s σ H x y v u Q I rx ry h hs
  obtain ⟨z, z', t', rfl, rfl, e, q⟩ := h
  cases rx
  obtain ⟨t, rfl⟩ := ry
  obtain ⟨es, n, hl, hk⟩ := D.ob
  obtain ⟨m, F⟩ := I.fr
  exact PySem.W.topItem_K F I.ok.mod.kin hl hk e ⟨.str z', H, I.tok _, ⟨_, rfl⟩, q⟩ hs
def mr (K : PySem.W.Frag)(a : Addr)(Q : VK) : V → Hp → Prop := fun y H1 => ∃ z z' t, y = .str z ∧ PySem.W.nsIn K a z=some (some (.str z' t)) ∧ Q (.str z') H1
def tu (K : PySem.W.Frag)(a : Addr)(ti : TE) : TE := fun σ H Q => ti σ H (mr K a Q)
theorem oN {K : PySem.W.Frag}{w : World}{a : Addr}{x : Str}{i : Expr}{ti : TE}{p pos : Pos}(D : DTx K w a)(hK : X.K=K)(hw : X.w=w)(hg : Gl X x)(hm : X.mg x=some (.ref a))(hi : PE X i ti)(hs : jA i)
    (hd : (x == ("__debug__" : Str))=false := by decide) : PE X (.Subscript (.Name x p) i pos) (tu K a ti) := by
  subst hK hw
  intro pins s σ H Q I h
  refine Subscript_ (gF I hg hm (thn (hi pins s σ H _ I h) fun u s2 zq2 => ?_) hd)
  obtain ⟨y, H2, I2, ry, z, z', t', e1, e2, q⟩ := zq2
  exact mq D _ _ pins s2 σ H2 (.ref a) y (.ref a) u Q I2 rfl ry ⟨z, z', t', rfl, e1, e2, q⟩ (hs _ _)
end
end L2
namespace Wd
abbrev L := Fin 12
def inv (x : L) : L := if h : x.val < 6 then ⟨x.val+6, by omega⟩ else ⟨x.val - 6, by omega⟩
theorem eR : ∀ x : L, inv (inv x)=x := by decide
def bk (w : List L) : List L := (w.map inv).reverse
theorem jV (u v : List L) : bk (u++v)=bk v++bk u := by simp [bk]
theorem bK (w : List L) : (bk w).length=w.length := by simp [bk]
def push (st : List L)(x : L) : List L := match st with
  | [] => [x]
  | y::r => if y=inv x then r else x::y::r
def Rd : List L → Prop
  | [] => True
  | [_] => True
  | x::y::r => y≠inv x ∧ Rd (y::r)
def rep : Nat → List L → List L
  | 0, _ => []
  | n+1, w => rep n w++w
def pw (w : List L)(n : Int) : List L := rep n.natAbs (if n < 0 then bk w else w)
end Wd
namespace L2
open PySem PySem.Spec PyProof.Rows Wd
def cp (x : L) : Nat := if x.val < 6 then 97+x.val else 59+x.val
theorem mw : ∀ x : L, cp x < 128 := by decide
theorem qL : ∀ x y : L, cp x=cp y → x=y := by decide
def toS (w : List L) : Str := ⟨(w.map cp).toArray⟩
def tx (w : List L) : V := .str (toS w)
theorem bz (w : List L) : (toS w).cps.toList=w.map cp := by simp [toS]
theorem ah (w : List L) : (toS w).length=w.length := by simp [toS, Str.length]
theorem bD (w : List L) : (toS w).cps.size=w.length := by simp [toS]
theorem cP (u v : List L) : toS u++toS v=toS (u++v) := by
  apply Str.ext'
  rw [Str.cps_append]
  simp [toS]
theorem ef : ∀ {u v : List L}, u.map cp=v.map cp → u=v
  | [], [], _ => rfl
  | [], _::_, h => by simp at h
  | _::_, [], h => by simp at h
  | x::u, y::v, h => by
    simp only [vn, List.cons.injEq] at h
    rw [qL x y h.1, ef h.2]
theorem bb {u v : List L}(h : toS u=toS v) : u=v := by
  have : (toS u).cps.toList=(toS v).cps.toList := by rw [h]
  rw [bz, bz] at this
  exact ef this
theorem oO : toS []=("" : Str) := by decide +kernel
theorem iA : tx []=V.str ("" : Str) := v5 V.str oO
theorem qM : toS [0, 1, 2, 3, 4, 5]=("abcdef" : Str) := by decide +kernel
theorem big : toS [6, 7, 8, 9, 10, 11]=("ABCDEF" : Str) := by decide +kernel
theorem dy {w : List L}{i c : Nat}(h : (toS w).cps[i]? = some c) : ∃ x, w[i]? = some x ∧ (⟨#[c]⟩ : Str)=toS [x] := by
  have h : ((w.map cp).toArray)[i]? = some c := h
  rw [List.getElem?_toArray, vo] at h
  cases e : w[i]? with
  | none => rw [e] at h;cases h
  | some x =>
    rw [e] at h
    have : cp x=c := vp h
    exact ⟨x, rfl, by rw [← this];rfl⟩
theorem jW {w : List L}{k : Nat}{x : L}{i : Int}(hk : i=(k : Int))(h : w[k]? = some x) : atI (toS w).cps.toList i=some (cp x) := by
  subst hk
  rw [bz]
  obtain ⟨hl, e⟩ := vc.mp h
  unfold atI ixN
  rw [if_pos (by omega), if_pos (by rw [fu];omega)]
  show (w.map cp)[((k : Nat) : Int).toNat]? = _
  rw [vJ, vo, h]
  rfl
def jd (w : List L)(lo hi : Option Int) : List L := (w.drop (HT.sIx w.length 0 lo)).take (HT.sIx w.length w.length hi - HT.sIx w.length 0 lo)
theorem oP (lo hi : Option Int)(n : Nat) : Builtin.Str.strSliceIndices lo hi 1 n=(List.range (HT.sIx n n hi - HT.sIx n 0 lo)).map (fun k => HT.sIx n 0 lo+k) := by
  have cl : ∀ v : Int, max (0 : Int) (min (if v < 0 then v+(n : Int) else v) (n : Int))=(((if v < 0 then (v+(n : Int)).toNat else min v.toNat n) : Nat) : Int) := fun v => by
    by_cases hv : v < 0
    · simp only [if_pos hv];omega
    · simp only [if_neg hv];omega
  have fin : ∀ a b : Nat, sliceRange (a : Int) (b : Int) 1=(List.range (b - a)).map (fun k => a+k) := fun a b => by
    unfold sliceRange
    simp only [show ((1 : Int) > 0)=True from by simp, yw]
    by_cases hlt : (a : Int) < b
    · have e3 : (((b : Int) - a+1 - 1) / 1).toNat=b - a := by first | omega | (simp;done) | (simp;omega)
      simp only [hlt, yw, e3]
      exact wL fun k _ => by omega
    · have : b - a=0 := by omega
      simp [hlt, this]
  unfold Builtin.Str.strSliceIndices
  simp only [show ((1 : Int) > 0)=True from by simp, yw]
  cases lo with
  | none =>
    cases hi with
    | none => exact fin 0 n
    | some j => simp only [cl];exact fin 0 _
  | some i =>
    cases hi with
    | none => simp only [cl];exact fin _ n
    | some j => simp only [cl];exact fin _ _
theorem aU (w : List L)(lo hi : Option Int) : Txt.slice (toS w) lo hi=toS (jd w lo hi) := by
  have h1 := HT.nO w.length 0 (vR _) lo
  have h2 := HT.nO w.length w.length (vd _) hi
  unfold Txt.slice
  rw [oP, ah]
  split
  · rename_i h
    have hl : HT.sIx w.length w.length hi - HT.sIx w.length 0 lo=w.length := by simpa using h
    have e : jd w lo hi=w := by
      unfold jd
      rw [hl]
      have ha : HT.sIx w.length 0 lo=0 ∨ w.length=0 := by omega
      rcases ha with ha | ha
      · rw [ha, ze, vY]
      · have : w=[] := w_ ha
        subst this
        simp
    rw [e]
  · apply Str.ext'
    show (List.filterMap _ _).toArray=_
    have e := StrLaws.picks (w.map cp) (HT.sIx w.length w.length hi - HT.sIx w.length 0 lo) (HT.sIx w.length 0 lo)
    by_cases hle : HT.sIx w.length 0 lo≤HT.sIx w.length w.length hi
    · have e := e (by rw [fu];omega)
      have e2 : (fun k : Nat => (toS w).cps[k]?)=fun k : Nat => (w.map cp)[k]? := funext fun k => by simp [toS]
      rw [e2, e]
      simp [toS, jd, zj, List.map_drop]
    · have z : HT.sIx w.length w.length hi - HT.sIx w.length 0 lo=0 := by omega
      rw [z]
      simp [toS, jd, z]
theorem eg (w : List L){n : Int}(h : 0≤n) : jd w none (some n)=w.take n.toNat := by
  obtain ⟨k, rfl⟩ := wH h
  unfold jd
  rw [HT.eE, HT.gL, ze, Nat.sub_zero, vJ]
  by_cases hk : k≤w.length
  · rw [Nat.min_eq_left hk]
  · rw [Nat.min_eq_right (by omega), vY, wC (by omega)]
theorem c9 (w : List L){n : Int}(h : 0≤n) : jd w (some n) none=w.drop n.toNat := by
  obtain ⟨k, rfl⟩ := wH h
  unfold jd
  rw [HT.eE, HT.gL, vJ]
  by_cases hk : k≤w.length
  · rw [Nat.min_eq_left hk, wC (by rw [wz];omega)]
  · rw [Nat.min_eq_right (by omega), List.drop_length, List.drop_eq_nil_of_le (by omega)]
    simp
theorem jX (w : List L) : Txt.upper (toS w)=⟨((w.map cp).map up1).toArray⟩ := by
  rw [upper_ascii fun c hc => by rw [bz] at hc;obtain ⟨x, _, rfl⟩ := vH.mp hc;exact mw x]
  simp [toS]
theorem jY (w : List L) : Txt.lower (toS w)=⟨((w.map cp).map lo1).toArray⟩ := by
  rw [lower_ascii fun c hc => by rw [bz] at hc;obtain ⟨x, _, rfl⟩ := vH.mp hc;exact mw x]
  simp [toS]
theorem tw : ∀ x : L, x.val < 6 → up1 (cp x)=cp (inv x) := by decide
theorem tD : ∀ x : L, ¬ x.val < 6 → lo1 (cp x)=cp (inv x) := by decide
theorem fT {x : L}(h : x.val < 6) : Txt.upper (toS [x])=toS [inv x] := by
  rw [jX]
  show (⟨#[up1 (cp x)]⟩ : Str)=⟨#[cp (inv x)]⟩
  rw [tw x h]
theorem fU {x : L}(h : ¬ x.val < 6) : Txt.lower (toS [x])=toS [inv x] := by
  rw [jY]
  show (⟨#[lo1 (cp x)]⟩ : Str)=⟨#[cp (inv x)]⟩
  rw [tD x h]
theorem ex1 : ∀ x : L, cp x∈List.map cp [0, 1, 2, 3, 4, 5] → x.val < 6 := by decide
theorem ex2 : ∀ x : L, x.val < 6 → (List.map cp [0, 1, 2, 3, 4, 5])[x.val]? = some (cp x) := by decide
theorem mx (x : L) : (!(Builtin.Str.occurrences ("abcdef" : Str) (toS [x]) 0 ("abcdef" : Str).length 1).isEmpty)=decide (x.val < 6) := by
  have h := StrLaws.found_iff ("abcdef" : Str) (toS [x])
  have e : (∃ i, i+(toS [x]).length≤("abcdef" : Str).length ∧ Builtin.Str.subAt ("abcdef" : Str) (toS [x]) i=true) ↔ x.val < 6 := by
    have e2 : ∀ i, (i+(toS [x]).length≤("abcdef" : Str).length ∧ Builtin.Str.subAt ("abcdef" : Str) (toS [x]) i=true) ↔ ("abcdef" : Str).cps.toList[i]? = some (cp x) := fun i => StrLaws.subAt_one _ _ _
    rw [show (("abcdef" : Str))=toS [0, 1, 2, 3, 4, 5] from qM.symm] at e2 ⊢
    constructor
    · rintro ⟨i, hi⟩
      have hi := (e2 i).mp hi
      rw [bz] at hi
      exact ex1 x (vD hi)
    · intro hx
      refine ⟨x.val, (e2 x.val).mpr ?_⟩
      rw [bz]
      exact ex2 x hx
  rw [v_, h, e, wy]
theorem my : ∀ w : List L, Txt.join ("" : Str) (w.map fun x => toS [x])=toS w := by
  intro w
  have e0 : ("" : Str)=Str.empty := by decide +kernel
  unfold Txt.join
  rw [StrLaws.glued_eq_join, e0]
  induction w with
  | nil => rfl
  | cons x r ih =>
    cases r with
    | nil => rfl
    | cons y r =>
      show toS [x]++Str.empty++Str.join Str.empty ((y::r).map fun x => toS [x])=_
      rw [ih, Str.append_empty, cP]
      rfl
theorem oQ (w : List L) : ((w.map fun x => toS [x]).map (·.length)).sum=w.length := by
  induction w with
  | nil => rfl
  | cons x r ih =>
    simp only [vn, xp, vN]
    rw [ih, ah]
    simp only [vv]
    omega
end L2
namespace L2
open PySem PySem.Spec PyProof.Rows Wd
structure Fnc (P : Program) (w : World) (K : PySem.W.Frag) (mg : Str → Option Value) (base : Heap) (x : Str) (ps : List Str) (k : Nat) (sp : Sp) : Prop where
  ex : ∃ (f : Addr) (fd : FuncData), mg x=some (.ref f) ∧ PySem.W.keepIn K (.ref f)=true ∧ iX K fd ps [] ∧ lM P w K mg base CX0 k f fd ps sp
theorem aT {X : Cx}{x : Str}{ps : List Str}{k j : Nat}{sp : Sp}{e : Expr}{es : List Expr}{t : TA}{p pos : Pos}(F : Fnc X.prog X.w X.K X.mg X.base x ps j sp)(hr : d_ k X.A)(hj : j≤k)(hg : Gl X x)(ha : PA X (e::es) t)
    (hdb : (x == ("__debug__" : Str))=false := by decide) (he : starEach (e::es) X.env=(false, eval e X.env)::starEach es X.env := by rfl) (hpl : (backTo pos (starEach es X.env)).any (·.1)=false := by rfl) :
    PE X (.Call (.Name x p) (e::es) [] pos) (qr sp [] E0 t) := by
  obtain ⟨f, fd, hm, hk, hb, F⟩ := F.ex
  exact oD F (hr.mono hj) hg hm hk hb .nil s_ ha hdb he hpl
structure Df (K : PySem.W.Frag) (mg : Str → Option Value) (x : Str) (st : Stmt) : Prop where
  ex : ∃ (f : Addr) (fd : FuncData), mg x=some (.ref f) ∧ Fun K x x st f fd
theorem Df.ok {P : Program}{w : World}{K : PySem.W.Frag}{mg : Str → Option Value}{base : Heap}{x : Str}{st : Stmt}{N ps : List Str}{k : Nat}{sp : Sp}(D : Df K mg x st)(S : aC N ps (ao st))
    (hb : ∀ (kV doc pm : Value) (an : Option Addr) (cdv ct : Value) (us : List Value), us.length=ps.length → bindArgs (PySem.W.fnOf x x (bH st) (ba st) (ao st) .none kV doc pm an cdv ct) ⟨us, []⟩=pure (ps.zip us))
    (len : ∀ vs H Q E, sp vs H Q E → vs.length=ps.length)
    (hbody : ∀ (f : Addr) (cdv : Value) (A : Around) (outer : List Env) (s : Shared) (H : Hp) (vs : List V) (Q : VK) (E : XK), d_ k (A.deeper (envOfC x (ao st) s.heap.objs.size f cdv)) → sp vs H Q E →
      ∃ t, PSs (oE CX0 P w K mg base N x (ao st) f cdv A outer s H E).nox (ba st) t ∧ t { nx := fun _ H' => Q .non H', rt := Q } (start N vs) H) : Fnc P w K mg base x ps (k+1) sp := by
  obtain ⟨f, fd, hm, F⟩ := D.ex
  exact ⟨f, fd, hm, F.kp, F.binds hb, F.ok S len fun cdv A outer s H vs Q E hr h => hbody f cdv A outer s H vs Q E hr h⟩
def bT (d : Addr)(H H' : Hp) : Prop := ∀ b o, b≠d → H b=some o → H' b=some o
theorem bT.trans {d : Addr}{H H1 H2 : Hp}(a : bT d H H1)(b : bT d H1 H2) : bT d H H2 := fun c o n h => b c o n (a c o n h)
theorem aw.b {d : Addr}{H H' : Hp}(a : aw H H') : bT d H H' := fun b o _ h => a b o h
theorem aw.new {H : Hp}{a : Addr}{o : HO}(h : H a=none) : aw H (upd H a o) := fun b u e => by rw [aj (ae e h)]; exact e
theorem bT.upd {d : Addr}{H : Hp}{o : HO} : bT d H (upd H d o) := fun b u n e => by rw [aj n]; exact e
theorem aw.then {H H1 : Hp}{a : Addr}{o : HO}(s : aw H H1)(h : H1 a=none) : aw H (L2.upd H1 a o) := s.trans (aw.new h)
def kS (x : Str) : Key := .inr x
def fkv (c : Addr)(i l t : Int) : List (Key × V) := [(kS "cells", .ref c), (kS "at", .int i), (kS "left", .int l), (kS "turn", .int t)]
theorem tE : ¬ (kS "cells" = kS "at") := by decide +kernel
theorem tF : ¬ (kS "cells" = kS "left") := by decide +kernel
theorem tG : ¬ (kS "cells" = kS "turn") := by decide +kernel
theorem sh : ¬ (kS "at" = kS "left") := by decide +kernel
theorem si : ¬ (kS "at" = kS "turn") := by decide +kernel
theorem sj : ¬ (kS "left" = kS "turn") := by decide +kernel
theorem c_ {κ : Type}[DecidableEq κ]{k : κ}{v : V}{r : List (κ × V)} : bP ((k, v)::r) k=some v := by unfold bP; simp
theorem bL {κ : Type}[DecidableEq κ]{k k' : κ}{v : V}{r : List (κ × V)}(h : ¬ k'=k) : bP ((k', v)::r) k=bP r k := by unfold bP; simp [h]
theorem jZ (c : Addr)(i l t : Int) : bP (fkv c i l t) (kS "cells")=some (.ref c) := c_
theorem uu (c : Addr)(i l t : Int) : bP (fkv c i l t) (kS "at")=some (.int i) := (bL tE).trans c_
theorem fV (c : Addr)(i l t : Int) : bP (fkv c i l t) (kS "left")=some (.int l) := (bL tF).trans ((bL sh).trans c_)
theorem j0 (c : Addr)(i l t : Int) : bP (fkv c i l t) (kS "turn")=some (.int t) := (bL tG).trans ((bL si).trans ((bL sj).trans c_))
theorem uX : ¬ (kS "turn" = kS "at") := fun e => si e.symm
theorem uY : ¬ (kS "left" = kS "at") := fun e => sh e.symm
theorem uZ : ¬ (kS "turn" = kS "left") := fun e => sj e.symm
theorem u0 (c : Addr)(i l t z : Int) : bQ (fkv c i l t) (kS "at") (.int z)=fkv c z l t := by simp [bQ, fkv, tE, uY, uX]
theorem j3 (c : Addr)(i l t z : Int) : bQ (fkv c i l t) (kS "left") (.int z)=fkv c i z t := by simp [bQ, fkv, tF, sh, uZ]
theorem qN (c : Addr)(i l t z : Int) : bQ (fkv c i l t) (kS "turn") (.int z)=fkv c i l z := by simp [bQ, fkv, tG, si, sj]
theorem dz (c : Addr)(i l t : Int) : (fkv c i l t).length < sizeLine := by show 4 < sizeLine; decide
theorem tH (c : Addr)(i l t : Int) : cV [] (fkv c i l t)=fkv c i l t := by simp [cV, bQ, fkv, tE, tF, tG, sh, si, sj]
structure Fd (H : Hp) (d : Addr) : Prop where
  ex : ∃ (c : Addr) (i l t : Int) (ns : List Int), H d=some (.dK (fkv c i l t)) ∧ H c=some (.lst (ns.map V.int)) ∧ ns≠[] ∧ ns.length≤64
theorem Fd.same {H H' : Hp}{d : Addr}(F : Fd H d)(s : aw H H') : Fd H' d := by
  obtain ⟨c, i, l, t, ns, h1, h2, h3, h4⟩ := F.ex
  exact ⟨c, i, l, t, ns, s _ _ h1, s _ _ h2, h3, h4⟩
theorem Fd.new {H : Hp}{d a : Addr}{o : HO}(F : Fd H d)(h : H a=none) : Fd (upd H a o) d := F.same (aw.new h)
theorem Fd.ne {H : Hp}{d a : Addr}(F : Fd H d)(h : H a=none) : a≠d := by
  obtain ⟨c, i, l, t, ns, h1, h2, h3, h4⟩ := F.ex
  exact (ae h1 h).symm
inductive fW (vs : List V)(H : Hp)(Q : VK)(u3_ : XK) : Prop
  | mk : ∀ (d : Addr) (m : Int), (vs=[.ref d, .int m]) → (Fd H d) → (0 < m) → (m < 1000000) → (∀ (r : Int) (H' : Hp), 0≤r → r < m → Fd H' d → bT d H H' → Q (.int r) H') → fW vs H Q u3_
inductive j4 (K : PySem.W.Frag)(vs : List V)(H : Hp)(Q : VK)(u3_ : XK) : Prop
  | mk : ∀ (a : Addr) (ns : List Int), (vs=[.ref a]) → (SqL K H a (ns.map V.int)) → (ns.length≤63) → (∀ (d : Addr) (H' : Hp), H d=none → Fd H' d → aw H H' → Q (.ref d) H') → j4 K vs H Q u3_
theorem oR {ns : List Int}(h : ns≠[])(i : Int) : ∃ n : Int, atI (ns.map V.int) (i % ((ns.map V.int).length : Int))=some (.int n) := by
  have hl : 0 < ns.length := xy.mpr h
  rw [fu]
  have h0 := yi i (show (ns.length : Int)≠0 by omega)
  have h1 := xG i (show (0 : Int) < ns.length by omega)
  obtain ⟨k, hk⟩ := wH h0
  rw [hk] at h1 ⊢
  have hk' : k < ns.length := by omega
  refine ⟨ns[k], ?_⟩
  unfold atI ixN
  rw [if_pos (by omega), if_pos (by rw [fu];omega)]
  show (ns.map V.int)[((k : Nat) : Int).toNat]? = _
  rw [vJ, vo, vh hk']
  rfl
end L2
namespace L2
open PySem PySem.Spec PyProof.Rows Wd
mutual
inductive Dt (H : Hp) : V → PyData → Prop where
  | non : Dt H .non .none
  | bl (b : Bool) : Dt H (.bl b) (.bool b)
  | int (i : Int) : Dt H (.int i) (.int i)
  | str (x : Str) : Dt H (.str x) (.str x)
  | lst {a : Addr} {xs : List V} {ds : List PyData} : H a=some (.lst xs) → Dts H xs ds → Dt H (.ref a) (.list ds)
  | tup {a : Addr} {xs : List V} {ds : List PyData} : H a=some (.tup xs) → Dts H xs ds → Dt H (.ref a) (.tuple ds)
inductive Dts (H : Hp) : List V → List PyData → Prop where
  | nil : Dts H [] []
  | cons {v : V} {d : PyData} {vs : List V} {ds : List PyData} : Dt H v d → Dts H vs ds → Dts H (v::vs) (d::ds)
end
section
variable {P : Program} {w : World} {H : Hp} {h : Heap}
mutual
theorem Dt.reads (ok : HOk P w H h) : ∀ {v : V} {d : PyData}, Dt H v d → ∀ {u : Value}, aM v u → ∃ as, Reads h u d as
  | _, _, .non, u, r => by cases r;exact ⟨_, .none⟩
  | _, _, .bl b, u, r => by cases r;exact ⟨_, .bool b⟩
  | _, _, .int i, u, r => by obtain ⟨t, rfl⟩ := r;exact ⟨_, .int i t⟩
  | _, _, .str x, u, r => by obtain ⟨t, rfl⟩ := r;exact ⟨_, .str x t⟩
  | _, _, .lst e q, u, r => by
    cases r
    obtain ⟨_, its, n, rv, g⟩ := ok _ _ e
    obtain ⟨as, ra⟩ := Dts.reads ok q rv
    exact ⟨_, .list g rfl rfl (by simpa using ra)⟩
  | _, _, .tup e q, u, r => by
    cases r
    obtain ⟨_, its, rv, ⟨ob, g, c, n, d⟩, _⟩ := ok _ _ e
    obtain ⟨as, ra⟩ := Dts.reads ok q rv
    exact ⟨_, .tuple g c d (by simpa using ra)⟩
theorem Dts.reads (ok : HOk P w H h) : ∀ {vs : List V} {ds : List PyData}, Dts H vs ds → ∀ {us : List Value}, aI vs us → ∃ as, ReadsAll h us ds as
  | _, _, .nil, _, r => by cases r;exact ⟨_, .nil⟩
  | _, _, .cons q qs, _, r => by
    cases r with
    | cons r rs =>
      obtain ⟨as, a1⟩ := Dt.reads ok q r
      obtain ⟨bs, a2⟩ := Dts.reads ok qs rs
      exact ⟨_, .cons a1 a2⟩
end
end
section
variable {X : Cx}
end
end L2
namespace Kx
open PySem PySem.Spec PyProof.Rows L2 Wd
theorem fX : bootBuiltins "list" = some (.type "list") := by kernel_rfl
theorem qO : bootBuiltins "int" = some (.type "int") := by kernel_rfl
theorem qP : bootBuiltins "max" = some (.builtin "max") := by kernel_rfl
theorem j5 : bootBuiltins "tuple" = some (.type "tuple") := by kernel_rfl
theorem ck : bootBuiltins "isinstance" = some (.builtin "isinstance") := by kernel_rfl
theorem qQ : bootBuiltins "zip" = some (.type "zip") := by kernel_rfl
theorem i4 : bootBuiltins "reversed" = some (.type "reversed") := by kernel_rfl
structure Bt (K : PySem.W.Frag) (w : World) (mg : Str → Option Value) (aB : Addr) : Prop where
  len : mg "len" = none
  repr : mg "repr" = none
  abs : mg "abs" = none
  max : mg "max" = none
  int : mg "int" = none
  list : mg "list" = none
  range : mg "range" = none
  reversed : mg "reversed" = none
  min : mg "min" = none
  sorted : mg "sorted" = none
  tuple : mg "tuple" = none
  isinstance : mg "isinstance" = none
  all : mg "all" = none
  str : mg "str" = none
  zip : mg "zip" = none
  mgB : mg "BACKS" = some (.ref aB)
  dB : DTx K w aB
  gB : ∀ x : L, ∃ t, PySem.W.nsIn K aB (toS [x])=some (some (.str (toS [inv x]) t))
theorem dg {H : Hp}{d : Addr}{kvs : List (Key × V)}{k : Str}{v : V}(h : H d=some (.dK kvs))(e : bP kvs (kS k)=some v) : dX H d (.str k) (some v) := by
  have q := dX.k (k := kS k) h
  rw [e] at q
  exact q
theorem dp {H : Hp}{d : Addr}{kvs kvs' : List (Key × V)}{k : Str}{v : V}(h : H d=some (.dK kvs))(hl : kvs.length < sizeLine)(e : bQ kvs (kS k) v=kvs') : mf H d (.str k) v (upd H d (.dK kvs')) := by
  have q := mf.k (k := kS k) (v := v) h hl
  rw [e] at q
  exact q
theorem tI {ns : List Int}(h : ns.length≤63) : pV (ns.map V.int) none (some 63)=ns.map V.int := by
  unfold pV
  have e : HT.sIx (ns.map V.int).length (ns.map V.int).length (some 63)=(ns.map V.int).length := by
    have := HT.gL (ns.map V.int).length (ns.map V.int).length 63
    rw [show ((63 : Nat) : Int)=63 from rfl] at this
    rw [this, fu]
    omega
  rw [e, HT.eE, ze, Nat.sub_zero, vY]
def mz (w : List L) : List V := w.map fun x => tx [x]
theorem iB (w : List L) : mz w=(w.map fun x => toS [x]).map V.str := by unfold mz; rw [wx]; rfl
theorem fY (w : List L)(x : L) : mz w++[tx [x]]=mz (w++[x]) := by unfold mz; rw [vw]; rfl
theorem dA (w : List L) : (mz w).length=w.length := by unfold mz; rw [fu]
theorem f_ (w : List L) : V.str (Txt.join ("" : Str) (w.map fun x => toS [x]))=tx w := v5 V.str (my w)
theorem gb (w : List L)(h : w.length≤1000000) : ((w.map fun x => toS [x]).map (·.length)).sum+(w.map fun x => toS [x]).length*("" : Str).length≤16777216 := by
  have e : ("" : Str).length=0 := by decide +kernel
  rw [e, oQ]
  omega
theorem aV : sizeLine=16777216 := x9
inductive pW (vs : List V)(H : Hp)(Q : VK)(u3_ : XK) : Prop
  | mk : ∀ w, (vs=[tx w]) → (w.length≤5000) → (∀ H', aw H H' → Q (tx (bk w)) H') → pW vs H Q u3_
theorem cW (u v : List L) : V.str (toS u++toS v)=tx (u++v) := v5 V.str (cP u v)
def sg (m : Int) : List L := ([0, 1, 2, 3, 4, 5] : List L).take m.toNat++([6, 7, 8, 9, 10, 11] : List L).take m.toNat
theorem gc {m : Int}(h1 : 1≤m)(h2 : m≤6) : (sg m).length=2*m.toNat := by
  unfold sg
  rw [vb, vC, vC]
  simp only [vN, yc]
  omega
inductive j6 (vs : List V)(H : Hp)(Q : VK)(u3_ : XK) : Prop
  | mk : ∀ (d : Addr) (m n : Int), (vs=[.ref d, .int m, .int n]) → (Fd H d) → (1≤m) → (m≤6) → (0≤n) → (n≤60) → (∀ (u : List L) (H' : Hp), u.length≤n.toNat → Fd H' d → bT d H H' → Q (tx u) H') → j6 vs H Q u3_
theorem eS {m : Int}(h1 : 1≤m) : V.str (Txt.slice ("abcdef" : Str) none (some m)++Txt.slice ("ABCDEF" : Str) none (some m))=tx (sg m) := by
  rw [← qM, ← big, aU, aU, eg _ (by omega), eg _ (by omega), cW]
  rfl
theorem nW : ("abcdef" : Str).length=6 := by decide +kernel
theorem nX : ("ABCDEF" : Str).length=6 := by decide +kernel
theorem qR (u : List L){i : Nat}{y : L}(hi : i < u.length)(h : u[u.length - 1 - i]? = some y) : (bk u)[i]? = some (inv y) := by
  unfold bk
  rw [List.getElem?_reverse (by rw [fu];exact hi), fu, vo, h]
  rfl
theorem gf {u : List L}{i : Nat}{x : L}(h : u[i]? = some x) : u.take (i+1)=u.take i++[x] := by
  obtain ⟨hl, e⟩ := vc.mp h
  rw [vP, h]
  rfl
theorem pX {c : Bool}{A B : Prop}(hc : c=true)(h : A) : if c=true then A else B := by rw [if_pos hc]; exact h
theorem oS {c : Bool}{A B : Prop}(hc : c=false)(h : B) : if c=true then A else B := by rw [hc]; exact sf h
def dws (ws : List (List L)) : List PyData := ws.map fun w => .str (toS w)
theorem gQ {H : Hp} : ∀ (ws : List (List L)), Dts H (ws.map tx) (dws ws)
  | [] => .nil
  | w::r => .cons (.str (toS w)) (gQ r)
theorem iC : ∀ (ws : List (List L)), PyData.showableAll (dws ws)=true ∧ PyData.hasDictAll (dws ws)=false ∧ PyData.depthAll (dws ws)=0 ∧ PyData.leavesShortAll 13 (dws ws)=true
  | [] => ⟨rfl, rfl, rfl, rfl⟩
  | w::r => by
    obtain ⟨h1, h2, h3, h4⟩ := iC r
    refine ⟨?_, ?_, ?_, ?_⟩
    · show (PyData.showable (.str (toS w)) && PyData.showableAll (dws r))=true
      rw [h1];rfl
    · show (PyData.hasDict (.str (toS w)) || PyData.hasDictAll (dws r))=false
      rw [h2];rfl
    · show max (PyData.depth (.str (toS w))) (PyData.depthAll (dws r))=0
      rw [h3];rfl
    · show (PyData.leavesShort 13 (.str (toS w)) && PyData.leavesShortAll 13 (dws r))=true
      rw [h4, Bool.and_true]
      show ((toS w).cps.toList.all fun c => decide (c < 16 ^ 8))=true
      rw [wU]
      intro c hc
      rw [bz] at hc
      obtain ⟨x, _, rfl⟩ := vH.mp hc
      exact wg (vk (mw x) (by decide))
end Kx
namespace Wd
end Wd
namespace Wd
def J (u v : List L) : Prop := ∀ x y, u.getLast? = some x → v.head? = some y → y≠inv x
end Wd
namespace L2
open PySem PySem.Spec PyProof.Rows Wd
def rnd (w : List L)(t : Nat) : Nat := ((w.map cp)[t % w.length]?).getD 0
end L2
namespace Wd
end Wd
namespace L2
open PySem PySem.Spec PyProof.Rows Wd
end L2
namespace L2
open PySem PySem.Spec PyProof.Rows Wd
section
variable {X : Cx} {tg : Expr}
end
section
variable {X : Cx} {o e : Expr} {es : List Expr} {to : TE} {t : TA} {name : Str} {apos cpos : Pos} {T id : String} {r : V → List V → Hp → VK → Prop} {K : PySem.W.Frag}
theorem j7 (hK : X.K=K)(pa : PlainAttrs T)(slot : Slot T name id)(hty : typeOf (.builtin id)=pure (.type "method_descriptor"))(hm : MtR X id r)(ho : PE X o to)(ha : PA X (e::es) t)
    (hbase : attributeBase o name X.env (eval o X.env)=eval o X.env := by rfl)
    (hfew : ((backTo cpos (starEach (e::es) X.env)).all (fun x => !x.1) && (backToKw cpos (keywordEach [] X.env)).all (fun x => x.1.isSome)
      && decide ((e::es).length+([] : List Keyword).length+(if ([] : List Keyword).isEmpty then 0 else 1) < 30))=true := by rfl)
    (hline : (apos.endLine == cpos.line)=true := by rfl) (hs : starEach (e::es) X.env=(false, eval e X.env)::starEach es X.env := by rfl) (hplain : (backTo cpos (starEach es X.env)).any (·.1)=false := by rfl) :
    PE X (.Call (.Attribute o name apos) (e::es) [] cpos) (tBM K T r to t) := by
  subst hK
  exact fH pa slot hty hm ho ha hbase hfew hline hs hplain
end
end L2
namespace L2
open PySem PySem.Spec PyProof.Rows Wd
theorem iD : ∀ {bs : List Bool} {us : List Value} {i : Nat} {v : Value}, aI (bs.map V.bl) us → us[i]? = some v → ∃ b, bs[i]? = some b ∧ v = .bool b
  | [], us, i, v, r, h => by
    rw [yr] at r
    cases r
    simp at h
  | b::bs, us, i, v, r, h => by
    rw [vn] at r
    cases r with
    | cons r1 r2 =>
      cases i with
      | zero =>
        simp at h
        subst h
        exact ⟨b, rfl, r1⟩
      | succ i =>
        obtain ⟨b', e1, e2⟩ := iD (i := i) r2 (by simpa using h)
        exact ⟨b', by simpa using e1, e2⟩
section
variable {X : Cx}
inductive nY (x : V)(y : V)(H : Hp)(Q : VK) : Prop
  | mk : ∀ a b xs, (x = .ref a) → (y = .ref b) → (H a=some (.lst xs)) → (H b=some (.lst [])) → (Q (.bl xs.isEmpty) H) → nY x y H Q
theorem j8 (hu : X.A.units+64 < cLine) : OpR X (compareOp .Eq) nY := by
  intro pins s σ H x y v u Q I rx ry h
  obtain ⟨a, b, xs, rfl, rfl, ha, hb, q⟩ := h
  cases rx
  cases ry
  obtain ⟨its, n, rv, ea, _⟩ := I.lst ha
  obtain ⟨its2, n2, rv2, eb, _⟩ := I.lst hb
  cases rv2
  have hla : s.heap.IsList a its.toArray := ⟨_, ea, rfl, _, rfl⟩
  have hlb : s.heap.IsList b ([] : List Value).toArray := ⟨_, eb, rfl, _, rfl⟩
  cases xs with
  | nil =>
    cases rv
    refine EqBoolInt.of_rc (SeqAt.RcAt.lists (e := fun _ => true) hla hlb rfl (by omega) (fun j hj => by simp at hj)) ?_
    exact ⟨.bl true, H, I, rfl, q⟩
  | cons z r =>
    cases rv with
    | cons r1 r2 =>
      refine EqBoolInt.of_rc (SeqAt.RcAt.lists_lengths hla hlb (by simp) (by omega)) ?_
      exact ⟨.bl false, H, I, rfl, q⟩
inductive bU (K : PySem.W.Frag)(xs : List V)(H : Hp)(Q : VK) : Prop
  | mk : ∀ x t b n, (xs=[x, .ty n]) → (iW K H x t) → (PySem.W.kitOne K t (.type n)=some b) → (Q (.bl b) H) → bU K xs H Q
theorem gR : bW X (.builtin "isinstance") (bU X.K) := by
  intro pins s σ H xs us Q I r h
  obtain ⟨x, t, b, n, rfl, ty, e, q⟩ := h
  obtain ⟨u, u2, rfl, rx, r2⟩ := l7 r
  cases r2
  exact jv I rx ty e fun tk => ⟨.bl b, H, I.tok _, rfl, q⟩
def gS (z : Str) : List V := z.cps.toList.map fun c => .str ⟨#[c]⟩
theorem i5 {z : Str}{acc : Array Value}(h : ItemsOf (SignAt z) acc z.cps.size) : aI (gS z) acc.toList := by
  have all : ∀ (cs : List Nat) (us : List Value), cs.length=us.length → (∀ (j : Nat) (v : Value), us[j]? = some v → ∃ c u, cs[j]? = some c ∧ v = .str ⟨#[c]⟩ u) → aI (cs.map fun c => V.str ⟨#[c]⟩) us := by
    intro cs
    induction cs with
    | nil =>
      intro us hl _
      cases us with
      | nil => exact .nil
      | cons _ _ => simp at hl
    | cons c cs ih =>
      intro us hl hh
      cases us with
      | nil => simp at hl
      | cons u us =>
        obtain ⟨c', t, e1, e2⟩ := hh 0 u rfl
        have : c=c' := vp e1
        subst this
        exact .cons ⟨t, e2⟩ (ih us (by simpa using hl) fun j v hj => hh (j+1) v (by simpa using hj))
  refine all _ _ (by rw [wK, wK];exact h.1.symm) fun j v hj => ?_
  obtain ⟨c, u, e1, e2⟩ := h.2 j v (by simpa using hj)
  exact ⟨c, u, by simpa using e1, e2⟩
inductive bM  (xs : List V)(H : Hp)(Q : VK) : Prop
  | mk : ∀ z, (xs=[.str z]) → (z.length≤sizeLine) → (∀ p, H p=none → Q (.ref p) (upd H p (.lst (gS z)))) → bM xs H Q
theorem dC (hc : X.calm=true) : bW X (.type "list") bM := by
  intro pins s σ H xs us Q I r h
  obtain ⟨z, rfl, hz, q⟩ := h
  obtain ⟨u, rfl, t, rfl⟩ := bZ r
  refine call_list_str (I.ok.hd hc) z t (fun h' tk acc' c' kp e hI => ?_) hz
  have hl : (gS z).length≤sizeLine := by unfold gS;rw [fu, wK];exact hz
  exact ⟨.ref s.heap.objs.size, _, I.laid kp (vd _) (show aW X.prog X.w _ h' _ (.lst (gS z)) from ⟨hl, acc'.toList, c', i5 hI, by simpa using e⟩), rfl, q _ (I.hok.fresh (vd _))⟩
theorem i7 {K : PySem.W.Frag}(hK : X.K=K) : OpR X (compareOp .NotIn) (rIn K true) := by
  subst hK
  exact fG
end
end L2
namespace PySem
open Sem (wp)
structure Ap5 (z TI TO i1 i2 : Addr) : Prop where
  TIz : TI≠z
  TOz : TO≠z
  i1z : i1≠z
  i2z : i2≠z
  TITO : TI≠TO
  TIi1 : TI≠i1
  TIi2 : TI≠i2
  TOi1 : TO≠i1
  TOi2 : TO≠i2
  i12 : i1≠i2
section
variable {prog : Program} {w : World} {A : Around} {E : Value → Shared → Prop} {s : Shared} {z TI TO i1 i2 : Addr} {x y : Str} {t u : Tok} {k c d : Nat} {a b : Value}
end
end PySem
namespace PySem
end PySem
namespace L2
open PySem PySem.Spec PyProof.Rows
theorem Inv.stepT {X : Cx}{pins : List (Addr × Obj)}{σ : St}{H : Hp}{s : Shared}{h' : Heap}{t' : Nat}{ch : List Addr}{T : Addr}{xs : List V}{its : List Value}(I : Inv X pins σ H s)(hf : ∀ b∈ch, fz X pins H b)
    (k : ∀ b o, b∉ch → s.heap.get? b=some o → h'.get? b=some o) (hT : s.heap.objs.size≤T) (hz : xs.length≤sizeLine) (rv : aI xs its) (ht : IsTup h' T its.toArray) (hnd : NoD h' T) (there : ∀ b∈ch, ∃ o, s.heap.get? b=some o) : Inv X pins σ (upd H T (.tup xs)) { s with heap := h', toks := t' } := by
  have hn : H T=none := I.hok.fresh hT
  have ne : ∀ {b o}, s.heap.get? b=some o → b≠T := fun e => vG (vk (ve e) hT)
  have nch : ∀ {b u}, H b=some u → b∉ch := fun e z => by rw [(hf _ z).1] at e;cases e
  refine I.step (g' := s.gens) (d' := s.drawn) (ch := ch) (fun b hb => ?_) (fun b o _ _ hc e _ => k b o hc e) (fun b o _ _ hc e _ => ⟨o.slots, k b o hc e⟩) (fun b o _ e n => by rw [aj (ne e)];exact n) (fun b o hc e => ⟨o, k b o hc e⟩)
    (fun b ys e => by rw [aj (ae e hn)];exact e) (fun b o u e => by rw [aj (ae e hn)];exact e) (fun b ps e => ⟨#[], by rw [aj (ae e hn), e];simp⟩) (fun m hm => ?_) (fun b u e => ?_) I.bare
  · obtain ⟨_, f1, _, f3, f4, f5⟩ := hf b hb
    exact ⟨f3, f1, f4, f5⟩
  · obtain ⟨o, es, ep, ho, r⟩ := hm
    exact ⟨o, es, ep, k _ o (fun z => (hf _ z).2.1 rfl) ho, r⟩
  · by_cases hb : b=T
    · subst hb
      rw [ab] at e
      cases e
      exact ⟨hz, its, rv, ht, hnd⟩
    · rw [aj hb] at e
      refine (I.hok b u e).stay (fun c v hc q => k c v ?_ q) (fun c q => by rw [aj (ae q hn)];exact q) fun c ys q => by rw [aj (ae q hn)];exact q
      rcases hc with z | z
      · rw [z];exact nch e
      · exact nch z
section
variable {X : Cx}
theorem qS (n : Nat) : Ap5 (n+4) (n+2) (n+3) n (n+1) := by
  constructor <;> (intro h;have h : (_ : Nat)=_ := h;omega)
theorem j9 {K : PySem.W.Frag}{es : List Expr}{k : Nat}{t : TGs}{n : Nat}{pos : Pos}(hK : X.K=K)(hc : X.calm=true)(h : PGs X es t)
    (hn : (assignEach es X.env).length=n := by rfl) (hst : (assignEach es X.env).findIdx? (·.1)=none := by rfl) : PG X (.Tuple es k pos) (tZ K n t) := by
  subst hK
  exact nF hc h hn hst
end
end L2
namespace L2
open PySem PySem.Spec PyProof.Rows Wd
theorem eT {X : Cx}{K : PySem.W.Frag}(hK : X.K=K) : bW X (.builtin "isinstance") (bU K) := by
  subst hK
  exact gR
def tJ : List Str := ([0, 1, 2, 3, 4, 5, 6, 7, 8, 9, 10, 11] : List L).map fun x => toS [x]
end L2
namespace Kx
open PySem PySem.Spec PyProof.Rows L2 Wd
end Kx
namespace L2
open PySem PySem.Spec PyProof.Rows Wd
section
variable {X : Cx}
inductive nZ (x : V)(y : V)(H : Hp)(Q : VK) : Prop
  | mk : ∀ a b xs, (x = .ref a) → (y = .ref b) → (H a=some (.lst xs)) → (H b=some (.lst [])) → (Q (.bl (!xs.isEmpty)) H) → nZ x y H Q
theorem gh (hu : X.A.units+64 < cLine) : OpR X (compareOp .NotEq) nZ := by
  intro pins s σ H x y v u Q I rx ry h
  obtain ⟨a, b, xs, rfl, rfl, ha, hb, q⟩ := h
  cases rx
  cases ry
  obtain ⟨its, n, rv, ea, _⟩ := I.lst ha
  obtain ⟨its2, n2, rv2, eb, _⟩ := I.lst hb
  cases rv2
  have hla : s.heap.IsList a its.toArray := ⟨_, ea, rfl, _, rfl⟩
  have hlb : s.heap.IsList b ([] : List Value).toArray := ⟨_, eb, rfl, _, rfl⟩
  cases xs with
  | nil =>
    cases rv
    refine yH (SeqAt.RcNeAt.lists (e := fun _ => true) hla hlb rfl (by omega) (fun j hj => by simp at hj)) ?_
    exact ⟨.bl false, H, I, rfl, q⟩
  | cons z r =>
    cases rv with
    | cons r1 r2 =>
      refine yH (SeqAt.RcNeAt.lists_lengths hla hlb (by simp) (by omega)) ?_
      exact ⟨.bl true, H, I, rfl, q⟩
end
end L2
namespace Kx
open PySem PySem.Spec PyProof.Rows L2 Wd
theorem s12 : toS [0, 1, 2, 3, 4, 5, 6, 7, 8, 9, 10, 11]=("abcdefABCDEF" : Str) := by decide +kernel
end Kx
namespace L2
open PySem PySem.Spec PyProof.Rows Wd
theorem mB {K : PySem.W.Frag}{a : Addr}{xs : List V}{own : List Str}{cap : List Nat}{g : TG}{ti : TT}{te : TE}{σ : St}{H : Hp}{Q : VK}(Pv : Nat → List V → St → Hp → Prop)(h0 : Pv 0 [] (stB own cap σ) H)(hz : ∀ i ys σ H, i≤xs.length → Pv i ys σ H → ys.length≤i)(hn : xs.length≤sizeLine)
    (hl : ∀ i ys σ H, Pv i ys σ H → SqT K H a xs)
    (hs : ∀ i ys σ H x (N : List V → St → Hp → Prop), xs[i]? = some x → Pv i ys σ H → (∀ ys' σ' H'', Pv (i+1) ys' σ' H'' → N ys' σ' H'') → g x σ H fun σ2 H2 => ti σ2 H2 fun b H3 => if b=true then te σ2 H3 fun y H4 => N (ys++[y]) σ2 H4 else N ys σ2 H3)
    (hd : ∀ ys σ H D, Pv xs.length ys σ H → H D=none → Q (.ref D) (upd H D (.lst ys))) :
    mj own cap g ti te Q σ (Itt K a) H := by
  refine bI (J := Itt K a) xs.length Pv h0 hz hn (fun i ys σ H hi p => ⟨xs, xs[i], hl i ys σ H p, vh hi⟩) (fun ys σ H p => ⟨xs, hl _ ys σ H p, vd _⟩) ?_ hd
  rintro i ys σ H x H' N hi p ⟨rfl, hx⟩ hN
  exact hs i ys σ _ x N (hx xs (hl i ys σ _ p)) p hN
theorem aZ {K : PySem.W.Frag}{a : Addr}{xs : List V}{own : List Str}{cap : List Nat}{g : TG}{ti : TT}{te : TE}{σ : St}{H : Hp}{Q : VK}(Pv : Nat → List V → St → Hp → Prop)(h0 : Pv 0 [] (stB own cap σ) H)(hz : ∀ i ys σ H, i≤xs.length → Pv i ys σ H → ys.length≤i)(hn : xs.length≤sizeLine)
    (hl : ∀ i ys σ H, Pv i ys σ H → SqL K H a xs)
    (hs : ∀ i ys σ H x (N : List V → St → Hp → Prop), xs[i]? = some x → Pv i ys σ H → (∀ ys' σ' H'', Pv (i+1) ys' σ' H'' → N ys' σ' H'') → g x σ H fun σ2 H2 => ti σ2 H2 fun b H3 => if b=true then te σ2 H3 fun y H4 => N (ys++[y]) σ2 H4 else N ys σ2 H3)
    (hd : ∀ ys σ H D, Pv xs.length ys σ H → H D=none → Q (.ref D) (upd H D (.lst ys))) :
    mj own cap g ti te Q σ (Itl K a) H := by
  refine bI (J := Itl K a) xs.length Pv h0 hz hn (fun i ys σ H hi p => ⟨xs, xs[i], hl i ys σ H p, vh hi⟩) (fun ys σ H p => ⟨xs, hl _ ys σ H p, vd _⟩) ?_ hd
  rintro i ys σ H x H' N hi p ⟨rfl, hx⟩ hN
  exact hs i ys σ _ x N (hx xs (hl i ys σ _ p)) p hN
theorem mD {X : Cx}{a : Expr}{ta : TE}(ha : PE X a ta)(he : ∀ whole, isTrue a X.env whole=(do let v ← whole; standAt a.pos; holding [v] (truthy v))) : PT X a (ow ta) := by
  intro pins s σ H Q I h
  refine isTrue_plain (thn (ha pins s σ H _ I h) fun v s1 ⟨x, H1, I1, r1, q1⟩ => nN pins s1 σ H1 x v Q I1 r1 ?_) (he _)
  obtain ⟨k, e, q⟩ := q1
  subst e
  exact ⟨k, rfl, q⟩
theorem iE {c : TT}{tb : TS}{D : fq}{σ : St}{H : Hp}(W : Nat → St → Hp → Prop)(E : St → Hp → Prop)(h0 : ∃ m, W m σ H)
    (turn : ∀ nx : St → Hp → Prop, (∀ σ H, E σ H → nx σ H) → ∀ m σ H, W m σ H → c σ H fun b H1 => if b=true then ∃ N : St → Hp → Prop, (∀ σ' H', N σ' H' → ∃ m', m' < m ∧ W m' σ' H') ∧ tb { D with nx := N, ct := N, bk := nx } σ H1 else nx σ H1)
    (he : ∀ σ H, E σ H → D.nx σ H) : nI c tb D σ H := ⟨W, h0, turn D.nx he⟩
end L2
namespace L2
open PySem PySem.Spec PyProof.Rows
theorem gT {X : Cx}{i : Nat}{y : Str}{py spos : Pos}{elt iter tg : Expr}{ifs : List Expr}{scope : Scope}{pos : Pos}{NB own : List Str}{cap : List Nat}{wi : TI}{g : TG}{ti : TT}{te : TE}(hN : X.N.Nodup)(hi0 : X.N[i]? = some y)(hx : Loc X.env.scope y)(B : Blk X scope NB own cap)(hc : X.calm=true)(hi : PI X tg iter wi)
    (hg : ∀ C fp s₀ H₀, PG (cxB X NB own scope C fp s₀ H₀) tg g) (ht : ∀ C fp s₀ H₀, PIf (cxB X NB own scope C fp s₀ H₀) ifs ti) (he : ∀ C fp s₀ H₀, PE (cxB X NB own scope C fp s₀ H₀) elt te)
    (hs : ∀ x, foldedSetIterable iter X.env x=pure x := by intro _;rfl) (hsw : swapsWith (.ListComp elt [⟨tg, iter, ifs, 0⟩] scope pos) (some (.Name y py)) spos.line X.env=pure true := by rfl) (hf : X.fn y=true ∨ X.env.scope.names.lookup y=some .local := by first | exact .inl rfl | exact .inr rfl | assumption) : PS X (.Assign [.Name y py] (.ListComp elt [⟨tg, iter, ifs, 0⟩] scope pos) spos) (t_ (ml own cap wi g ti te) (oq i)) := by
  intro pins s σ H DD I0 h
  rw [exec_Assign_Name_used _ _ _ _ hsw]
  refine va (wpAny_standAt (va ?_))
  show wpAny _ X.A (do let _ ← comprehension (.ListComp elt [⟨tg, iter, ifs, 0⟩] scope pos) scope X.env _ (newList []) false (eval iter X.env) (some (assign (.Name y py) X.env))) _ _ s
  refine va (wQ (iy (use := some (assign (.Name y py) X.env)) (QQ := fun _ s' => SP X pins DD .next s') (pos := pos) B hc hi hg ht he hs I0 h fun fp C s2 s4 H2 H3 σ3 its ys k I f2 hCle hDC I5 hn3 hD4 rv hz q => ?_) (fun _ s' hq => vE (vE hq)) fun _ _ e => e)
  obtain ⟨mC, hnC, _⟩ := I5.loc
  have I6 : Inv X pins σ (upd H3 s2.heap.objs.size (.lst ys)) s4 := B.done (h'' := s4.heap) I f2 hCle (vd _) hDC I5 hn3 hD4 rv hz ⟨rfl, fun _ _ => rfl⟩
  obtain ⟨oC, es, ep, hoC, hdC, rC⟩ := hnC
  have hCn : (upd H3 s2.heap.objs.size (.lst ys)) C=none := by rw [aj hDC.symm];exact I5.free
  have nL : C≠X.env.locals := fun z => absurd I.lt (by rw [← z];exact Nat.not_lt.mpr hCle)
  have I7 : Inv X (pins++[(C, oC)]) σ (upd H3 s2.heap.objs.size (.lst ys)) s4 := I6.pins_of fun p hp => by
    rcases vK.mp hp with z | z
    · exact I6.pin p (vg _ z)
    · have ep := vf.mp z
      subst ep
      exact ⟨hoC, hCn, nL, I.nofs hCle, fun v z => by rw [hdC] at z;cases z⟩
  refine thn (ar (pos := py) hN hi0 hx hf (pins++[(C, oC)]) s4 σ _ (.ref s2.heap.objs.size) (.ref s2.heap.objs.size) (fun σ' H' => DD.nx σ' H' ∧ H'=upd H3 s2.heap.objs.size (.lst ys)) I7 rfl ⟨q, rfl⟩) fun _ s5 zq2 => ?_
  obtain ⟨σ5, H5, I8, q5, e5⟩ := zq2
  subst e5
  have pC := (I8.pin (C, oC) (vg _ (vg _ (vf.mpr rfl)))).1
  refine ⟨mC, ⟨oC, es, ep, pC, hdC, rC⟩, fun h'' sb => ⟨σ5, _, ?_, q5⟩⟩
  have I9 : Inv X pins σ5 (upd H3 s2.heap.objs.size (.lst ys)) s5 := I8.pins_of fun p hp => I8.pin p (vg _ (vM _ hp))
  refine I9.turned (t' := s5.toks) (it := C) (fun b o hb e => (sb.2 b hb).trans e) hCn nL (.inr (vI I.sz hCle)) (fun x c e z => ?_) fun p hp z => ?_
  · obtain ⟨v, o, ho, _⟩ := I.cell x c e
    exact absurd (ve ho) (by rw [z];exact Nat.not_lt.mpr hCle)
  · exact absurd (ve (I.pin p hp).1) (by rw [z];exact Nat.not_lt.mpr hCle)
end L2
namespace L2
open PySem PySem.Spec PyProof.Rows Wd
end L2
namespace L2
open PySem PySem.Spec PyProof.Rows Wd
section
variable {X : Cx}
inductive j_ (x : V)(vs : List V)(H : Hp)(Q : VK) : Prop
  | mk : ∀ l xs i y, (x = .ref l) → (vs=[.int i, y]) → (H l=some (.lst xs)) → (0≤i) → (i≤xs.length) → (xs.length < sizeLine) → (Q .non (upd H l (.lst (xs.take i.toNat++y::xs.drop i.toNat)))) → j_ x vs H Q
theorem ka : MtM X "list.insert" j_ := by
  intro pins s σ H x vs v us Q I rx rv h
  obtain ⟨l, xs, i, y, rfl, rfl, hH, h0, h1, hz, q⟩ := h
  cases rx
  obtain ⟨u1, u2, rfl, ⟨t1, rfl⟩, r2⟩ := l7 rv
  obtain ⟨z, its, n, r, hl, e⟩ := I.lstM hH
  have hn := cI
  have hfit : Builtin.List.listFitsIndex i=true := by
    unfold Builtin.List.listFitsIndex
    rw [v3, yI, yI]
    constructor <;> omega
  refine xB yJ ⟨_, e, rfl⟩ PySem.F.entry_list_insert (PySem.F.args_list_insert_3 _ _ _) (PySem.AutoSeq1.list_insert_list_int_val_1 l its.toArray n i t1 u2 (by simp [hfit]) (by rw [vj];omega)) ⟨e, ?_⟩
  refine ⟨.non, _, I.lset (its' := its.take i.toNat++u2::its.drop i.toNat) hH e ?_ ((r.take _).append (.cons r2 (r.drop _))) ?_, rfl, q⟩
  · have hm : min i.toNat its.length=i.toNat := by omega
    simp only [vj, if_neg (show ¬ i < 0 by omega), hm]
    apply Array.toList_inj.mp
    simp
    exact wC (by rw [wz];exact vd _)
  · rw [vb, vN, vC, wz]
    omega
theorem kc {i o : Expr}{ty td : TE}{pos : Pos}(hu : X.A.units+1 < cLine)(hi : PE X i ty)(ho : PE X o td)(h1 : behindInMarks .NotIn o=false) : PT X (.Compare i [.NotIn] [o] pos) (tB (jI ty td)) := p9 (jJ hu hi ho) h1
end
end L2
namespace L2
open PySem PySem.Spec PyProof.Rows
section
variable {X : Cx}
end
end L2
namespace L2
open PySem PySem.Spec PyProof.Rows
section
variable {prog : Program} {w : World} {A : Around} {E : Value → Shared → Prop} {s : Shared}
end
section
variable {X : Cx}
end
end L2
namespace PySem
open Sem (wp)
open AutoSeq1 (wpAny_loadPart')
set_option maxHeartbeats 1000000 in
theorem ke (tp : Addr)(its : Array Value)(m : Nat)(dc : Option Addr)(sls : Array (Option Value)) :
    Meets (Builtin.«enumerate.__new__» ⟨[.type "enumerate", .ref tp], []⟩) (fun _ R s => s.heap.get? tp=some { cls := .type "tuple", dict := dc, data := .seq its m, slots := sls } ∧
      R (.ok (.ret (.ref (s.heap.push { cls := .type "tuple_iterator", data := .fields #[.ref tp, .int 0 0] }).objs.size)))
        { s with heap := (s.heap.push { cls := .type "tuple_iterator", data := .fields #[.ref tp, .int 0 0] }).push { cls := .type "enumerate", data := .fields #[.none, .bool false, .ref s.heap.objs.size, rawInt 0, .none, .none] } }) :=
  .of_wp fun prog w A R s h => by
    obtain ⟨hp, gg, dd, tk, os⟩ := s;obtain ⟨ht, h⟩ := h
    have hsub := sub_enumerate
    have hT : Heap.IsTuple (Shared.heap ⟨hp, gg, dd, tk, os⟩) tp its := ⟨_, ht, rfl, m, rfl⟩
    wp_walk using wpAny_loadPart' ht
    refine wpAny_stack_any fun stk => vE ?_
    split
    · rename_i cc _ _ _ _ _
      cases (cc == Value.type "enumerate")
      · (wp_walk using wpAny_loadPart' ht, xD hT);exact ⟨_, rfl, h⟩
      · (wp_walk using wpAny_loadPart' ht, xD hT);exact ⟨_, rfl, h⟩
    · (wp_walk using wpAny_loadPart' ht, xD hT);exact ⟨_, rfl, h⟩
section
variable {prog : Program} {w : World} {A : Around} {E : Value → Shared → Prop} {s : Shared}
theorem mE {tp : Addr}{its : Array Value}{Q : Value → Shared → Prop}(hT : s.heap.IsTuple tp its)
    (h : ∀ h', IsEnum h' (s.heap.objs.size+1) s.heap.objs.size 0 .none → h'.IsTupleIter s.heap.objs.size tp 0 → (∀ b o, s.heap.get? b=some o → h'.get? b=some o) → Q (.ref (s.heap.objs.size+1)) { s with heap := h' }) :
    wpAny (model prog w) A (call (.type "enumerate") [.ref tp]) Q E s := by
  obtain ⟨⟨c, dc, dt, sls⟩, ht, hc, m, hd⟩ := hT
  obtain rfl : c = .type "tuple" := hc
  obtain rfl : dt = .seq its m := hd
  refine callType_new F.called_enumerate (by decide) (F.typeCall_enumerate_1 _) (F.newCall_enumerate_1 _) (fun ob => F.args_object_init_2 ob _) F.entry_enumerate_new (ke tp its m dc sls) ⟨ht, ?_⟩
  have hz : (s.heap.push { cls := .type "tuple_iterator", data := .fields #[.ref tp, .int 0 0] }).objs.size=s.heap.objs.size+1 := wF ..
  show _ ∧ _
  rw [hz]
  have he := vi (s.heap.push { cls := .type "tuple_iterator", data := .fields #[.ref tp, .int 0 0] }) (o := { cls := .type "enumerate", data := .fields #[.none, .bool false, .ref s.heap.objs.size, rawInt 0, .none, .none] }) rfl
  rw [hz] at he
  exact ⟨⟨_, he, rfl⟩, h _ he ⟨_, u_ _ (vi _ rfl), rfl, rfl⟩ fun b o q => u_ _ (u_ _ q)⟩
theorem i8 {it tp : Addr}{k : Nat}{its : Array Value}{v : Value}{Q : Value → Shared → Prop}(hit : s.heap.IsTupleIter it tp k)(ht : s.heap.IsTuple tp its)(hv : its[k]? = some v)
    (hQ : ∀ h', h'.IsTupleIter it tp (k+1) → Heap.SameBut it s.heap h' → Q v { s with heap := h' }) : wpAny (model prog w) A (Builtin.SmallTypes.nextOf (.ref it)) Q E s := by
  obtain ⟨oi, gi, ci, di⟩ := id hit
  obtain ⟨ot, gt, _, nt, dt⟩ := ht
  unfold Builtin.SmallTypes.nextOf
  refine va (wj (name := Str.ofString "__next__") hit.typeIs wN (wG wN hit.typeIs yj ?_ (xZ _)))
  show wpAny _ _ (field (.ref it) 0 >>= _) _ _ s
  refine va (wd gi di (x := .ref tp) rfl ?_)
  show wpAny _ _ (if (Value.ref tp == Value.none)=true then _ else _) _ _ s
  rw [if_neg (show ¬ ((Value.ref tp == Value.none)=true) from vm)]
  show wpAny _ _ (field (.ref it) 1 >>= _) _ _ s
  refine va (wd gi di (x := .int k 0) rfl ?_)
  show wpAny _ _ (seqItems? (.ref tp) >>= _) _ _ s
  refine va (wI gt dt ?_)
  simp only [vJ, hv]
  refine va (xR gi di (by simp) (vE ⟨v, rfl, vE (hQ _ ?_ (yh ..))⟩))
  exact ⟨_, wu _ gi (xT (wX di _)), (Obj.cls_mapFields ..).trans ci, by rw [wX di];simp [rawInt]⟩
theorem gk {it tp : Addr}{k : Nat}{its : Array Value}{Q : Value → Shared → Prop}(hh : A.handled=none)(hit : s.heap.IsTupleIter it tp k)(ht : s.heap.IsTuple tp its)(hv : its[k]? = none)
    (hE : ∀ h' e, Heap.ExtBut it s.heap h' → (∃ o, h'.get? e=some o ∧ o.cls = .type "StopIteration") → E (.ref e) { s with heap := h' }) : wpAny (model prog w) A (Builtin.SmallTypes.nextOf (.ref it)) Q E s := by
  obtain ⟨oi, gi, ci, di⟩ := id hit
  obtain ⟨ot, gt, _, nt, dt⟩ := ht
  unfold Builtin.SmallTypes.nextOf
  refine va (wj (name := Str.ofString "__next__") hit.typeIs wN (wG wN hit.typeIs yj ?_ (xZ _)))
  show wpAny _ _ (field (.ref it) 0 >>= _) _ _ s
  refine va (wd gi di (x := .ref tp) rfl ?_)
  show wpAny _ _ (if (Value.ref tp == Value.none)=true then _ else _) _ _ s
  rw [if_neg (show ¬ ((Value.ref tp == Value.none)=true) from vm)]
  show wpAny _ _ (field (.ref it) 1 >>= _) _ _ s
  refine va (wd gi di (x := .int k 0) rfl ?_)
  show wpAny _ _ (seqItems? (.ref tp) >>= _) _ _ s
  refine va (wI gt dt ?_)
  simp only [vJ, hv]
  refine va (zb (va (xR gi di (by simp) ?_)))
  show wpAny _ _ (newExc (.type "StopIteration") [] >>= _) _ _ _
  refine va ?_
  simp only [newExc, newTuple]
  refine va (wpAny_newObj_type ?_ (by size_fits))
  refine va (m := firstArgMember _ _) (yg (a := Value.none) (by first | rfl | (simp only [firstArgMember];rfl)) (wpAny_newObj_type ?_ (by size_fits)))
  simp only [raiseNew]
  refine va (wpAny_handled ?_)
  first | rw [show A.in1.handled=none from hh] | rw [hh]
  exact va (vE (wpAny_throw (hE _ _ (((yh ..).extBut.push _).push _) ⟨_, vi _ rfl, rfl⟩)))
theorem qT {prog : Program}{w : World}{A : Around}(hh : A.handled=none)(it tp : Addr)(hne : tp≠it)(its : Array Value) :
    Draws prog w A it [it, tp] its.size (fun i x => its[i]? = some x) (fun i h => h.IsTupleIter it tp i ∧ h.IsTuple tp its) where
  live := fun i h st => let ⟨⟨o, e, _⟩, _⟩ := st;⟨o, e⟩
  frame := fun i h h' st kk => ⟨st.1.at fun o e => kk it (by simp) o e, let ⟨o, e, r⟩ := st.2;⟨o, kk tp (by simp) o e, r⟩⟩
  item := fun i s Q E hi st hQ => i8 st.1 st.2 (xt hi) fun h' st' sb => hQ _ h' s.toks (xt hi) ⟨st', let ⟨o, e, r⟩ := st.2;⟨o, (sb.2 tp hne).trans e, r⟩⟩ sb
  done := fun s Q E st hE => gk hh st.1 st.2 (Array.getElem?_eq_none (vd _)) hE
end
end PySem
namespace L2
open PySem PySem.Spec PyProof.Rows Wd
def so (K : PySem.W.Frag)(a : Addr) : It := ⟨fun i H => ∃ xs x, SqT K H a xs ∧ xs[i]? = some x,
  fun i H v H' => ∃ (T : Addr) (x : V), H T=none ∧ v = .ref T ∧ (∀ xs, SqT K H a xs → xs[i]? = some x) ∧ H'=upd H T (.tup [.int i, x]), fun i H => ∃ xs, SqT K H a xs ∧ xs.length≤i⟩
theorem kf {X : Cx}{pins : List (Addr × Obj)}{σ : St}{H : Hp}{s : Shared}{E : Value → Shared → Prop}{elts : List Expr}{k : Nat}{pos : Pos}{e it : Addr}{fp : List Addr}{n i : Nat}{Pv : Nat → Value → Prop}{St' : Nat → Heap → Prop}{old : Value}{tn : Nat → Heap → Prop}{Y : V → Hp → Prop}{x : V}
    (D : Draws X.prog X.w X.A.in1 it fp n Pv St') (I : Inv X pins σ H s) (hf : ∀ b∈[e, it], fz X pins H b) (he : IsEnum s.heap e it i old) (hst : St' i s.heap) (hi : i < n) (hne : e≠it) (hef : e∉fp) (hrel : ∀ u, Pv i u → aM x u) (hit : ∃ o, s.heap.get? it=some o)
    (hY : ∀ T, H T=none → Y (.ref T) (upd H T (.tup [.int i, x]))) (htn : ∀ h', St' (i+1) h' → (∃ old, IsEnum h' e it ((i : Int)+1) old) → tn (i+1) h') :
    wpAny (model X.prog X.w) X.A (pyNext (.ref e)) (fun r s1 => ∃ u, r=some u ∧
      wpAny (model X.prog X.w) X.A (letOwnedTupleGo (.Tuple elts k pos) (.ref e) u) (fun _ s2 => ∃ y H', Inv X pins σ H' s2 ∧ aM y u ∧ Y y H' ∧ tn (i+1) s2.heap ∧ ∀ b∈[e, it], H' b=none) E s1) E s := by
  refine wpAny_pyNext_enum_itemD D he hst hi hne hef fun u h' tk hu b1 b2 b3 b4 b5 => ⟨_, rfl, wpAny_letOwnedTupleGo_enum b1 fun h2 c1 e2 => ?_⟩
  have hTe : s.heap.objs.size≠e := yo (ve he)
  have kk : ∀ b o, b∉[e, it] → s.heap.get? b=some o → h2.get? b=some o := fun b o hb q => by
    simp only [vt, vA, xw, not_or] at hb
    exact e2.extBut _ _ hb.1 (b5 b o hb.1 hb.2 q)
  have there : ∀ b∈[e, it], ∃ o, s.heap.get? b=some o := fun b hb => by
    simp only [vt, vA, xw] at hb
    rcases hb with rfl | rfl
    · exact ⟨_, he⟩
    · exact hit
  have I2 : Inv X pins σ (upd H s.heap.objs.size (.tup [.int i, x])) { s with heap := h2, toks := tk+1 } :=
    I.stepT (ch := [e, it]) (its := [.int i tk, u]) hf kk (vd _) (by show 2≤sizeLine;decide) (.cons ⟨_, rfl⟩ (.cons (hrel u hu) .nil)) ⟨_, e2.extBut _ _ hTe b3, rfl, _, rfl⟩ ⟨_, e2.extBut _ _ hTe b3, rfl⟩ there
  have hn : H s.heap.objs.size=none := I.hok.fresh (vd _)
  refine ⟨.ref s.heap.objs.size, _, I2, rfl, hY _ hn, htn h2 (D.frame _ _ _ b2 fun b hb o q => e2.extBut _ _ (fun z => hef (z ▸ hb)) q) ⟨_, c1⟩, fun b hb => ?_⟩
  obtain ⟨o, q⟩ := there b hb
  rw [aj (vG (ve q))]
  exact (hf b hb).1
theorem mF {P : Program}{w : World}{K : PySem.W.Frag}{elts : List Expr}{k : Nat}{pos : Pos}{e it a : Addr}(hne : e≠it) :
    nJ P w K (.Tuple elts k pos) (so K a) [e, it] e (fun i h => (∃ old, IsEnum h e it i old) ∧ h.IsTupleIter it a i) where
  mem := by simp
  obj := fun i h st b hb => by
    obtain ⟨⟨old, s1⟩, ⟨o, s2, _, d2⟩⟩ := st
    simp only [vt, vA, xw] at hb
    rcases hb with rfl | rfl
    · exact ⟨_, s1, fun v q => by cases q⟩
    · exact ⟨_, s2, fun v q => by rw [d2] at q;cases q⟩
  keep := fun i h h' st kk => by
    obtain ⟨⟨old, s1⟩, s2⟩ := st
    exact ⟨⟨old, kk e (by simp) _ s1⟩, s2.at fun o q => kk it (by simp) o q⟩
  item := by
    intro X hP hw hK hc i pins s σ H E I hf st hg
    subst hP hw hK
    obtain ⟨xs, x, hq, hx⟩ := hg
    obtain ⟨its, rv, p, hz⟩ := I.tuple hq
    obtain ⟨u, hu, ru⟩ := rv.get hx
    obtain ⟨⟨old, s1⟩, s2⟩ := st
    have hu' : its.toArray[i]? = some u := by simpa using hu
    have ha : a≠e := fun z => by obtain ⟨o, q, c, _⟩ := p;rw [z, s1] at q;cases q;simp at c
    have hb : a≠it := fun z => by obtain ⟨o, q, c, _⟩ := p;obtain ⟨o2, q2, c2, _⟩ := s2;rw [z, q2] at q;cases q;rw [c2] at c;simp at c
    refine kf (tn := fun i h => (∃ old, IsEnum h e it i old) ∧ h.IsTupleIter it a i) (qT (by exact I.ok.hd hc) it a hb its.toArray) I hf s1 ⟨s2, p⟩ (wM.mp hu').1 hne (by simp only [vt, vA, xw, not_or];exact ⟨hne, fun z => ha z.symm⟩)
      (fun u2 h2 => by rw [show its.toArray[i]? = some u2 from h2] at hu';cases hu';exact ru) (let ⟨o, q, _⟩ := s2;⟨o, q⟩) (fun T hT => ⟨T, x, hT, rfl, fun ys hy => by rw [I.tuple_inj hy hq];exact hx, rfl⟩) fun h' st' ho => ⟨by simpa using ho, st'.1⟩
  done := by
    intro X hP hw hK hc i pins s σ H E I hf st hg
    subst hP hw hK
    obtain ⟨xs, hq, hx⟩ := hg
    obtain ⟨its, rv, p, hz⟩ := I.tuple hq
    obtain ⟨⟨old, s1⟩, s2⟩ := st
    obtain ⟨f0, f1, f2, f3, f4, f5⟩ := hf it (by simp)
    have hl := rv.length
    have hb : a≠it := fun z => by obtain ⟨o, q, c, _⟩ := p;obtain ⟨o2, q2, c2, _⟩ := s2;rw [z, q2] at q;cases q;rw [c2] at c;simp at c
    have T : wpAny (model X.prog X.w) X.A (pyNext (.ref e)) (fun r s1 => r=none ∧ Inv X pins σ H s1) E s := by
      have hT : s.TypeIs (.ref e) "enumerate" := ⟨_, s1, rfl⟩
      unfold pyNext
      refine va (xF (wj (name := Str.ofString "__next__") hT F.slot_enumerate_next (wG F.slot_enumerate_next hT F.entry_enumerate_next ?_ (F.args_enumerate_next_1 _))))
      show wpAny _ _ (field (.ref e) 2 >>= _) _ _ _
      refine va (wd s1 rfl (x := .ref it) rfl (va (gk (by exact I.ok.hd hc) s2 p (by simp;omega) fun h' ex eb hx' => ?_)))
      obtain ⟨o, ho, hcl⟩ := hx'
      exact va (xU (T := "StopIteration") (b := true) ⟨o, ho, hcl⟩ zd (vE ⟨rfl, I.turned (t' := s.toks) (fun b o hb q => eb b o hb q) f0 f1 f3 f4 f5⟩))
    exact T
  self := fun _ _ _ _ _ st h => let ⟨⟨_, s1⟩, _⟩ := st;wpAny_pyIter_enum s1 h
section
variable {X : Cx}
def u3 (K : PySem.W.Frag)(ta : TA) : TI := fun σ H R => ta σ H fun vs H1 => ∃ a, vs=[.ref a] ∧ (∃ xs, SqT K H1 a xs) ∧ R (so K a) H1
theorem fp2 {pins : List (Addr × Obj)}{σ : St}{H : Hp}{s : Shared}(I : Inv X pins σ H s) : ∀ b∈[s.heap.objs.size+1, s.heap.objs.size], fz X pins H b := fun b hb => by
  have hge : s.heap.objs.size≤b := by
    simp only [vt, vA, xw] at hb
    rcases hb with rfl | rfl <;> omega
  exact I.fpOk hge (I.hok.fresh hge)
theorem qU {K : PySem.W.Frag}(hK : X.K=K){a : Expr}{ta : TA}{p pos tp : Pos}{elts : List Expr}{k : Nat}(hg : Gl X "enumerate")(hm : X.mg "enumerate" = none)(hb : bootBuiltins "enumerate" = some (.type "enumerate"))(ha : PA X [a] ta)(hs : starEach [a] X.env=[(false, eval a X.env)] := by rfl) :
    PI X (.Tuple elts k tp) (.Call (.Name "enumerate" p) [a] [] pos) (u3 K ta) := by
  subst hK
  intro pins s σ H R I h
  refine Call_ (cT I hg hm hb (v9 (thn (ha pos pins s σ H _ I h) fun us s1 zq2 => ?_) hs rfl))
  obtain ⟨vs, H1, I1, r1, q1⟩ := zq2
  obtain ⟨l, rfl, ⟨xs, hq⟩, q⟩ := q1
  obtain ⟨u1, rfl, ru⟩ := bZ r1
  cases ru
  obtain ⟨its, rv, pl, hz⟩ := I1.tuple hq
  refine mE pl fun h' b1 b2 b4 => ?_
  have I2 : Inv X pins σ H1 { s1 with heap := h', toks := s1.toks } := I1.kept b4
  exact wpAny_pyIter_enum (s := { s1 with heap := h', toks := s1.toks }) b1 ⟨s1.heap.objs.size+1, [s1.heap.objs.size+1, s1.heap.objs.size], _, so X.K l, H1, rfl, I2, mF (Nat.succ_ne_self _), ⟨⟨_, b1⟩, b2⟩, fp2 I1, q⟩
end
end L2
namespace PySem
open Sem (wp)
structure Ap2 (z TO i1 i2 : Addr) (fp1 fp2 : List Addr) : Prop where
  z1 : z∉fp1
  z2 : z∉fp2
  o1 : TO∉fp1
  o2 : TO∉fp2
  i12 : i1∉fp2
  i21 : i2∉fp1
section
variable {prog : Program} {w : World} {A : Around} {E : Value → Shared → Prop} {s : Shared} {z TI TO i1 i2 : Addr} {k n1 n2 : Nat} {a b : Value} {fp1 fp2 : List Addr} {P1 P2 : Nat → Value → Prop} {S1 S2 : Nat → Heap → Prop}
theorem kg {Q : Value → Shared → Prop}(D1 : Draws prog w A i1 fp1 n1 P1 S1)(D2 : Draws prog w A i2 fp2 n2 P2 S2)(D : Ap5 z TI TO i1 i2)
    (B : Ap2 z TO i1 i2 fp1 fp2) (hz : IsZip s.heap z TI TO .none) (hTI : IsPair s.heap TI (.ref i1) (.ref i2)) (hTO : IsPair s.heap TO a b) (h1 : S1 k s.heap) (h2 : S2 k s.heap) (hx : k < n1) (hy : k < n2)
    (hQ : ∀ h' tk v1 v2, P1 k v1 → P2 k v2 → IsZip h' z TI TO (rawInt s.heap.objs.size) → IsPair h' TO v1 v2 → S1 (k+1) h' → S2 (k+1) h' → IsPair h' s.heap.objs.size v1 v2 →
      (∀ e o, e≠z → e≠TO → e≠i1 → e≠i2 → s.heap.get? e=some o → h'.get? e=some o) → Q (.ref s.heap.objs.size) { s with heap := h', toks := tk }) :
    wpAny (model prog w) A (Builtin.«zip.__next__» ⟨[.ref z], []⟩) (fun fin s' => ∃ v, fin = .done (.ret v) ∧ Q v s') E s := by
  show wpAny _ _ (field (.ref z) 2 >>= _) _ _ _
  refine va (wd hz rfl (x := .bool false) rfl ?_)
  show wpAny _ _ (field (.ref z) 3 >>= _) _ _ _
  refine va (wd hz rfl (x := .ref TI) rfl (va (wI hTI rfl ?_)))
  show wpAny _ _ (Builtin.SmallTypes.ownedTupleIsFree (.ref z) >>= _) _ _ _
  refine va ?_
  unfold Builtin.SmallTypes.ownedTupleIsFree
  refine va (wd hz rfl (x := .none) rfl (vE ?_))
  simp only [yw]
  refine va (zb (va (wd hz rfl (x := .ref TO) rfl (va (wY hz (by simp) fun g1 hz1 e1 => ?_)))))
  have hz1 : IsZip g1 z TI TO .ellipsis := hz1
  refine va ?_
  simp only [List.zipIdx_cons, List.zipIdx_nil, y9, zf]
  refine va (va (yR ?_))
  show wpAny _ _ (Builtin.SmallTypes.nextOf (.ref i1) >>= _) _ _ _
  refine va (D1.item k _ _ _ hx (D1.frame _ _ _ h1 fun q hq o eq => e1.extBut _ _ (fun zz => B.z1 (zz ▸ hq)) eq) fun v1 g2 tk2 p1 j1 e2 => vE ?_)
  have o2 : IsPair g2 TO a b := e2.extBut _ _ D.TOi1 (e1.extBut _ _ D.TOz hTO)
  refine va (wI o2 rfl (va (xX o2 fun g3 o3 e3 => va (zg (vE ?_)))))
  have o3 : IsPair g3 TO v1 b := o3
  refine va (va (yR ?_))
  show wpAny _ _ (Builtin.SmallTypes.nextOf (.ref i2) >>= _) _ _ _
  refine va (D2.item k _ _ _ hy (D2.frame _ _ _ h2 fun q hq o eq => e3.extBut _ _ (fun zz => B.o2 (zz ▸ hq)) (e2.extBut _ _ (fun zz => B.i12 (zz ▸ hq)) (e1.extBut _ _ (fun zz => B.z2 (zz ▸ hq)) eq))) fun v2 g4 tk4 p2 j2 e4 => vE ?_)
  have o4 : IsPair g4 TO v1 b := e4.extBut _ _ D.TOi2 o3
  refine va (wI o4 rfl (va (xX o4 fun g5 o5 e5 => va (zg (vE (vE ?_))))))
  have o5 : IsPair g5 TO v1 v2 := o5
  refine va (wI o5 rfl (va (wpAny_newTuple ?_)))
  have hsz : g5.objs.size=s.heap.objs.size := by rw [e5.1, e4.1, e3.1, e2.1, e1.1]
  have z5 : IsZip g5 z TI TO .ellipsis := e5.extBut _ _ D.TOz.symm (e4.extBut _ _ D.i2z.symm (e3.extBut _ _ D.TOz.symm (e2.extBut _ _ D.i1z.symm hz1)))
  have kk : ∀ e o, e≠z → e≠TO → e≠i1 → e≠i2 → s.heap.get? e=some o → g5.get? e=some o := fun e o n1 n2 n3 n4 q => e5.extBut _ _ n2 (e4.extBut _ _ n4 (e3.extBut _ _ n2 (e2.extBut _ _ n3 (e1.extBut _ _ n1 q))))
  have j1' : S1 (k+1) g5 := D1.frame _ _ _ j1 fun q hq o eq => e5.extBut _ _ (fun zz => B.o1 (zz ▸ hq)) (e4.extBut _ _ (fun zz => B.i21 (zz ▸ hq)) (e3.extBut _ _ (fun zz => B.o1 (zz ▸ hq)) eq))
  have j2' : S2 (k+1) g5 := D2.frame _ _ _ j2 fun q hq o eq => e5.extBut _ _ (fun zz => B.o2 (zz ▸ hq)) eq
  have zlt : z < g5.objs.size := ve z5
  show wpAny _ _ (Builtin.SmallTypes.ownedTupleHandOut (.ref z) (.ref g5.objs.size) >>= _) _ _ _
  refine va ?_
  unfold Builtin.SmallTypes.ownedTupleHandOut
  have z6 : IsZip (g5.push { cls := .type "tuple", data := .seq #[v1, v2] }) z TI TO .ellipsis := u_ _ z5
  refine va (wY z6 (by simp) fun g7 z7 e7 => ?_)
  have z7 : IsZip g7 z TI TO (rawInt g5.objs.size) := z7
  refine wY z7 (by simp) fun g8 z8 e8 => ?_
  have z8 : IsZip g8 z TI TO (rawInt g5.objs.size) := z8
  have up : ∀ e o, e≠z → g5.get? e=some o → g8.get? e=some o := fun e o n1 q => e8.extBut _ _ n1 (e7.extBut _ _ n1 (u_ _ q))
  have T8 : IsPair g8 g5.objs.size v1 v2 := e8.extBut _ _ (yo zlt) (e7.extBut _ _ (yo zlt) (vi _ rfl))
  rw [hsz] at z8 T8
  refine vE ⟨_, rfl, ?_⟩
  show Q (.ref g5.objs.size) _
  rw [hsz]
  exact hQ g8 _ v1 v2 p1 p2 z8 (up _ _ D.TOz o5) (D1.frame _ _ _ j1' fun q hq o eq => up q o (fun zz => B.z1 (zz ▸ hq)) eq) (D2.frame _ _ _ j2' fun q hq o eq => up q o (fun zz => B.z2 (zz ▸ hq)) eq) T8 fun e o n1 n2 n3 n4 q => up e o n1 (kk e o n1 n2 n3 n4 q)
theorem mG {Q : Fin → Shared → Prop}(D1 : Draws prog w A i1 fp1 n1 P1 S1)(D2 : Draws prog w A i2 fp2 n2 P2 S2)(D : Ap5 z TI TO i1 i2)
    (B : Ap2 z TO i1 i2 fp1 fp2) (hz : IsZip s.heap z TI TO .none) (hTI : IsPair s.heap TI (.ref i1) (.ref i2)) (hTO : IsPair s.heap TO a b) (h1 : S1 k s.heap) (h2 : S2 k s.heap) (hend : k=n1 ∨ (k < n1 ∧ k=n2))
    (hE : ∀ h' tk e, (∀ c o, c≠z → c≠TO → c≠i1 → c≠i2 → s.heap.get? c=some o → h'.get? c=some o) → (∃ o, h'.get? e=some o ∧ o.cls = .type "StopIteration") → E (.ref e) { s with heap := h', toks := tk }) :
    wpAny (model prog w) A (Builtin.«zip.__next__» ⟨[.ref z], []⟩) Q E s := by
  show wpAny _ _ (field (.ref z) 2 >>= _) _ _ _
  refine va (wd hz rfl (x := .bool false) rfl ?_)
  show wpAny _ _ (field (.ref z) 3 >>= _) _ _ _
  refine va (wd hz rfl (x := .ref TI) rfl (va (wI hTI rfl ?_)))
  show wpAny _ _ (Builtin.SmallTypes.ownedTupleIsFree (.ref z) >>= _) _ _ _
  refine va ?_
  unfold Builtin.SmallTypes.ownedTupleIsFree
  refine va (wd hz rfl (x := .none) rfl (vE ?_))
  simp only [yw]
  refine va (zb (va (wd hz rfl (x := .ref TO) rfl (va (wY hz (by simp) fun g1 hz1 e1 => ?_)))))
  have hz1 : IsZip g1 z TI TO .ellipsis := hz1
  refine va ?_
  simp only [List.zipIdx_cons, List.zipIdx_nil, y9, zf]
  refine va (va (yR ?_))
  show wpAny _ _ (Builtin.SmallTypes.nextOf (.ref i1) >>= _) _ _ _
  rcases hend with hk | ⟨hk, hk2⟩
  · subst hk
    refine va (D1.done _ _ _ (D1.frame _ _ _ h1 fun q hq o eq => e1.extBut _ _ (fun zz => B.z1 (zz ▸ hq)) eq) fun g2 ev e2 he => ?_)
    obtain ⟨oe, hoe, hce⟩ := he
    have z2 : IsZip g2 z TI TO .ellipsis := e2 _ _ D.i1z.symm hz1
    have hez : ev≠z := fun q => by subst q;rw [z2] at hoe;cases hoe;simp at hce
    exact wY z2 (by simp) fun g3 _ e3 => hE g3 _ ev (fun c o n1 _ n3 _ q => e3.extBut _ _ n1 (e2 _ _ n3 (e1.extBut _ _ n1 q))) ⟨oe, e3.extBut _ _ hez hoe, hce⟩
  · refine va (D1.item k _ _ _ hk (D1.frame _ _ _ h1 fun q hq o eq => e1.extBut _ _ (fun zz => B.z1 (zz ▸ hq)) eq) fun v1 g2 tk2 p1 j1 e2 => vE ?_)
    have o2 : IsPair g2 TO a b := e2.extBut _ _ D.TOi1 (e1.extBut _ _ D.TOz hTO)
    refine va (wI o2 rfl (va (xX o2 fun g3 o3 e3 => va (zg (vE ?_)))))
    refine va (va (yR ?_))
    show wpAny _ _ (Builtin.SmallTypes.nextOf (.ref i2) >>= _) _ _ _
    have h2' := D2.frame _ _ _ h2 fun q hq o eq => e3.extBut _ _ (fun zz => B.o2 (zz ▸ hq)) (e2.extBut _ _ (fun zz => B.i12 (zz ▸ hq)) (e1.extBut _ _ (fun zz => B.z2 (zz ▸ hq)) eq))
    rw [hk2] at h2'
    refine va (D2.done _ _ _ h2' fun g4 ev e4 he => ?_)
    obtain ⟨oe, hoe, hce⟩ := he
    have z4 : IsZip g4 z TI TO .ellipsis := e4 _ _ D.i2z.symm (e3.extBut _ _ D.TOz.symm (e2.extBut _ _ D.i1z.symm hz1))
    have hez : ev≠z := fun q => by subst q;rw [z4] at hoe;cases hoe;simp at hce
    exact wY z4 (by simp) fun g5 _ e5 => hE g5 _ ev (fun c o n1 n2 n3 n4 q => e5.extBut _ _ n1 (e4 _ _ n4 (e3.extBut _ _ n2 (e2.extBut _ _ n3 (e1.extBut _ _ n1 q))))) ⟨oe, e5.extBut _ _ hez hoe, hce⟩
theorem i9 {Q : Option Value → Shared → Prop}(D1 : Draws prog w A.in1 i1 fp1 n1 P1 S1)(D2 : Draws prog w A.in1 i2 fp2 n2 P2 S2)(D : Ap5 z TI TO i1 i2)
    (B : Ap2 z TO i1 i2 fp1 fp2) (hz : IsZip s.heap z TI TO .none) (hTI : IsPair s.heap TI (.ref i1) (.ref i2)) (hTO : IsPair s.heap TO a b) (h1 : S1 k s.heap) (h2 : S2 k s.heap) (hx : k < n1) (hy : k < n2)
    (hQ : ∀ h' tk v1 v2, P1 k v1 → P2 k v2 → IsZip h' z TI TO (rawInt s.heap.objs.size) → IsPair h' TO v1 v2 → S1 (k+1) h' → S2 (k+1) h' → IsPair h' s.heap.objs.size v1 v2 →
      (∀ e o, e≠z → e≠TO → e≠i1 → e≠i2 → s.heap.get? e=some o → h'.get? e=some o) → Q (some (.ref s.heap.objs.size)) { s with heap := h', toks := tk }) :
    wpAny (model prog w) A (pyNext (.ref z)) Q E s := by
  have hT : s.TypeIs (.ref z) "zip" := ⟨_, hz, rfl⟩
  unfold pyNext
  exact va (xF (wj (name := Str.ofString "__next__") hT yk (wG yk hT F.entry_zip_next
    (kg D1 D2 D B hz hTI hTO h1 h2 hx hy fun h' tk v1 v2 q1 q2 b1 b2 b3 b4 b5 b6 => vE (hQ h' tk v1 v2 q1 q2 b1 b2 b3 b4 b5 b6)) (F.args_zip_next_1 _))))
theorem kh {Q : Option Value → Shared → Prop}(D1 : Draws prog w A.in1 i1 fp1 n1 P1 S1)(D2 : Draws prog w A.in1 i2 fp2 n2 P2 S2)(D : Ap5 z TI TO i1 i2)
    (B : Ap2 z TO i1 i2 fp1 fp2) (hz : IsZip s.heap z TI TO .none) (hTI : IsPair s.heap TI (.ref i1) (.ref i2)) (hTO : IsPair s.heap TO a b) (h1 : S1 k s.heap) (h2 : S2 k s.heap) (hend : k=n1 ∨ (k < n1 ∧ k=n2))
    (hQ : ∀ h' tk, (∀ c o, c≠z → c≠TO → c≠i1 → c≠i2 → s.heap.get? c=some o → h'.get? c=some o) → Q none { s with heap := h', toks := tk }) : wpAny (model prog w) A (pyNext (.ref z)) Q E s := by
  have hT : s.TypeIs (.ref z) "zip" := ⟨_, hz, rfl⟩
  unfold pyNext
  refine va (xF (wj (name := Str.ofString "__next__") hT yk (wG yk hT F.entry_zip_next
    (mG D1 D2 D B hz hTI hTO h1 h2 hend fun h' tk e hk he => ?_) (F.args_zip_next_1 _))))
  obtain ⟨o, ho, hc⟩ := he
  refine va (xU (T := "StopIteration") (b := true) ⟨o, ho, hc⟩ zd ?_)
  exact vE (hQ _ _ hk)
end
end PySem
namespace PySem
end PySem
namespace L2
open PySem PySem.Spec PyProof.Rows Wd
section
variable {X : Cx}
end
end L2
namespace L2
open PySem PySem.Spec PyProof.Rows Wd
section
variable {X : Cx}
end
end L2
namespace Kx
open PySem PySem.Spec PyProof.Rows L2 Wd
end Kx
namespace L2
open PySem PySem.Spec PyProof.Rows Wd
section
variable {X : Cx} {tg : Expr}
end
end L2
namespace Kx
open PySem PySem.Spec PyProof.Rows L2 Wd
def dV : V → PyData
  | .int i => .int i
  | .str z => .str z
  | _ => .none
end Kx
namespace Wd
end Wd
namespace Kx
open PySem PySem.Spec PyProof.Rows L2 Wd
def sk (S : List Nat) : List (Key × V) := S.map fun g : Nat => (Sum.inl (g : Int), V.bl true)
end Kx
namespace Wd
def rfI (u : List L)(a b : L) : Int := ((u.idxOf b : Int) - (u.idxOf a : Int)) % (u.length : Int)
def ic (u : List L)(x z : L) : Int := if rfI u x z < rfI u x (inv x) then 1 else 0
def lt6 (j : Nat) : L := if h : j < 12 then ⟨j, h⟩ else 0
def bg (u : List L)(y : L)(g : Nat) : Int := ic u y (u.getD g 0)
end Wd
namespace L2
open PySem PySem.Spec PyProof.Rows
section
variable {X : Cx}
end
end L2
namespace Kx
open PySem PySem.Spec PyProof.Rows L2 Wd
def u9 (k : Nat) : List L := (List.range k).map lt6++bk ((List.range k).map lt6)
end Kx
namespace Wd
open PySem L2
def lcp : List L → List L → List L
  | x::u, y::v => if x=y then x::lcp u v else []
  | _, _ => []
def u4 (t o : List L) : Bool := decide (o≠t) && decide (t.length≤6*(lcp t o).length)
end Wd
namespace HT
open PySem PySem.Spec PyProof.Rows
section
variable {prog : Program} {w : World} {A : Around} {E : Value → Shared → Prop} {s : Shared}
end
end HT
namespace L2
open PySem PySem.Spec PyProof.Rows Wd
end L2
namespace Kx
open PySem PySem.Spec PyProof.Rows L2 Wd
theorem nt : ¬ ("turn" : Str) = "number" := by decide +kernel
theorem tl : ¬ ("turn" : Str) = "letter" := by decide +kernel
end Kx
namespace Kx
open PySem PySem.Spec PyProof.Rows L2 Wd
end Kx
namespace Wd
open PySem L2
end Wd
namespace Kx
open PySem L2 Wd
end Kx
namespace PySem
open Sem (wp)
section
variable {prog : Program} {w : World} {A : Around} {E : Value → Shared → Prop} {s : Shared}
section
variable {R : Result → Shared → Prop} {I : Addr} {fp wr : List Addr} {G : Array GenState → Array GenState → Prop} {n : Nat} {P : Nat → Value → Prop} {St : Nat → Shared → Prop}
end
end
end PySem
namespace PySem
open Sem (wp)
section
variable {prog : Program} {w : World} {A : Around} {E : Value → Shared → Prop} {s : Shared}
end
end PySem
namespace PySem
open Sem (wp)
end PySem
namespace PySem
open Sem (wp)
section
variable {K : Type} [DecidableEq K] {prog : Program} {w : World} {knd : KeyKind prog w K} {A : Around} {E : Value → Shared → Prop} {s : Shared}
section
variable {R : Result → Shared → Prop} {I : Addr} {fp wr : List Addr} {G : Array GenState → Array GenState → Prop} {n : Nat} {P : Nat → Value → Prop} {St : Nat → Shared → Prop}
end
end
end PySem
namespace PySem
open Sem (wp)
section
variable {prog : Program} {w : World} {A : Around} {E : Value → Shared → Prop} {s : Shared}
end
end PySem
namespace PySem
open Sem (wp)
section
variable {prog : Program} {w : World} {A : Around} {E : Value → Shared → Prop} {s : Shared}
end
end PySem
namespace PySem
open Sem (wp)
section
variable {prog : Program} {w : World} {A : Around} {E : Value → Shared → Prop} {s : Shared}
end
end PySem
namespace Tv
open PySem PyProof.Rows
section
variable {prog : Program} {w : World} {A : Around} {E : Value → Shared → Prop} {s : Shared} {κ : KeyKind} {kd : SortKind}
end
end Tv
namespace Tv
open PySem PyProof.Rows
end Tv
namespace Tv
open PySem PyProof.Rows
variable {κ : KeyKind} {kd : SortKind}
end Tv
namespace Tv
open PySem PyProof.Rows
section
variable {prog : Program} {w : World} {A : Around} {E : Value → Shared → Prop} {s : Shared} {κ : KeyKind} {kd : SortKind}
end
end Tv
namespace Tv
open PySem PyProof.Rows
variable {κ : KeyKind} {kd : SortKind}
section
variable {prog : Program} {w : World} {A : Around} {E : Value → Shared → Prop} {s : Shared}
end
end Tv
namespace Tv
open PySem PyProof.Rows
variable {κ : KeyKind} {kd : SortKind}
section
variable {prog : Program} {w : World} {A : Around} {E : Value → Shared → Prop} {s : Shared}
end
end Tv
namespace Tv
open PySem PyProof.Rows
variable {κ : KeyKind} {kd : SortKind}
section
variable {prog : Program} {w : World} {A : Around} {E : Value → Shared → Prop} {s : Shared}
end
end Tv
namespace Tv
open PySem PyProof.Rows
variable {κ : KeyKind} {kd : SortKind}
section
variable {prog : Program} {w : World} {A : Around} {E : Value → Shared → Prop} {s : Shared}
end
end Tv
namespace Tv
open PySem PyProof.Rows
variable {κ : KeyKind} {kd : SortKind}
section
variable {prog : Program} {w : World} {A : Around} {E : Value → Shared → Prop} {s : Shared}
end
end Tv
namespace Tv
open PySem PyProof.Rows
variable {κ : KeyKind} {kd : SortKind}
section
variable {prog : Program} {w : World} {A : Around} {E : Value → Shared → Prop} {s : Shared}
end
end Tv
namespace Ts
open PySem PyProof.Rows
section
variable {κ : KeyKind} {prog : Program} {w : World} {A : Around} {E : Value → Shared → Prop} {s : Shared}
end
end Ts
namespace Wd
section
variable {α : Type}
end
end Wd
namespace Wd
section
variable {α : Type}
end
end Wd
namespace Wd
end Wd
namespace Wd
section
variable {α : Type}
end
end Wd
namespace Wd
section
variable {α : Type}
end
end Wd
namespace Wd
end Wd
namespace Wd
end Wd
namespace PySem
end PySem
namespace L2
open PySem PySem.Spec PyProof.Rows Wd
section
variable {X : Cx}
end
end L2
namespace L2
open PySem PySem.Spec PyProof.Rows Wd
section
variable {X : Cx}
end
end L2
namespace Wd
def img (ws : List (List L))(x : L) : List L := if x.val < 6 then ws.getD x.val [] else bk (ws.getD (x.val - 6) [])
def sub (ws : List (List L))(u : List L) : List L := u.flatMap (img ws)
end Wd
namespace PySem
section
variable {prog : Program} {w : World} {A : Around} {E : Value → Shared → Prop}
end
end PySem
namespace L2
open PySem PySem.Spec PyProof.Rows Wd
section
variable {X : Cx} {pos : Pos}
inductive uv (x : V)(y : V)(H : Hp)(Q : VK) : Prop
  | mk : ∀ da db, (Dt H x da) → (Dt H y db) → (da.canLay0=true) → (db.canLay0=true) → (da.depth≤10) → (Q (.bl (!PyData.eqv da db)) H) → uv x y H Q
theorem ki (hu : X.A.units+64 < cLine) : OpR X (compareOp .NotEq) uv := by
  intro pins s σ H x y v u Q I rx ry h
  obtain ⟨da, db, ha, hb, la, lb, dp, q⟩ := h
  obtain ⟨as, ra⟩ := ha.reads I.hok rx
  obtain ⟨bs, rb⟩ := hb.reads I.hok ry
  exact yH (SeqAt.rcNeAt_reads ra rb la lb (by omega)) ⟨.bl _, H, I, rfl, q⟩
end
theorem oT (u : List L) : (PyData.str (toS u)).canLay0=true := by
  unfold PyData.canLay0 PyData.strOk
  rw [← Array.all_toList, bz, wU]
  intro c hc
  obtain ⟨x, _, rfl⟩ := vH.mp hc
  have := mw x
  exact wg (by omega)
theorem gm : ∀ ws : List (List L), PyData.canLayAll0 (ws.map fun u => .str (toS u))=true
  | [] => rfl
  | u::ws => by
    rw [vn, PyData.canLayAll0, oT, gm ws]
    rfl
end L2
namespace L2
open PySem PySem.Spec PyProof.Rows Wd
section
variable {X : Cx}
theorem eU {K : PySem.W.Frag}(hK : X.K=K) : IxR X (sQ K) := by subst hK; exact dq
end
end L2
namespace Kx
open PySem PySem.Spec PyProof.Rows L2 Wd
end Kx
namespace Wd
end Wd
namespace L2
open PySem PySem.Spec PyProof.Rows Wd
section
variable {X : Cx}
end
end L2
namespace Kx
open PySem PySem.Spec PyProof.Rows L2 Wd
end Kx
namespace L2
open PySem PySem.Spec PyProof.Rows Wd
section
variable {X : Cx}
end
end L2
namespace L2
open PySem PySem.Spec PyProof.Rows
section
variable {prog : Program} {w : World} {A : Around} {E : Value → Shared → Prop} {s : Shared}
end
section
variable {X : Cx}
end
end L2
namespace L2
open PySem PySem.Spec PyProof.Rows Wd
section
variable {X : Cx}
end
end L2
namespace Kx
open PySem PySem.Spec PyProof.Rows L2 Wd
end Kx
namespace Kx
open PySem PySem.Spec PyProof.Rows L2 Wd
theorem qV : bootBuiltins "bool" = some (.type "bool") := by kernel_rfl
end Kx
namespace L2
open PySem PySem.Spec PyProof.Rows Wd
section
variable {X : Cx}
end
end L2
namespace Wd
def nm (N : List L)(x : L) : L := if x.val < 6 then N.getD x.val 0 else inv (N.getD (x.val - 6) 0)
end Wd
namespace L2
open PySem PySem.Spec PyProof.Rows Wd
section
variable {X : Cx}
end
end L2
namespace Kx
open PySem PySem.Spec PyProof.Rows L2 Wd
end Kx
namespace L2
open PySem PySem.Spec PyProof.Rows
section
variable {prog : Program} {w : World} {A : Around} {E : Value → Shared → Prop} {s : Shared}
end
section
variable {X : Cx}
end
section
variable {prog : Program} {w : World} {A : Around} {E : Value → Shared → Prop} {s : Shared}
end
section
variable {X : Cx}
end
end L2
namespace PySem
open Sem (wp)
section
variable {prog : Program} {w : World} {A : Around} {E : Value → Shared → Prop} {s : Shared} {z TI TO i1 i2 : Addr} {x y : Str} {t u : Tok} {k c d : Nat} {a b : Value}
end
end PySem
namespace L2
open PySem PySem.Spec PyProof.Rows
section
variable {X : Cx}
end
end L2
namespace PySem
end PySem
namespace L2
open PySem PySem.Spec PyProof.Rows Wd
section
variable {X : Cx}
end
end L2
namespace HT
open PySem PySem.Spec PyProof.Rows
section
variable {prog : Program} {w : World} {A : Around} {E : Value → Shared → Prop} {s : Shared}
end
end HT
namespace L2
open PySem PySem.Spec PyProof.Rows Wd
section
variable {X : Cx}
end
theorem cO {X : Cx}{K : PySem.W.Frag}(hK : X.K=K) : bW X (.builtin "len") (bG K) := by
  subst hK
  exact az
end L2
namespace L2
open PySem PySem.Spec PyProof.Rows Wd
section
variable {X : Cx}
end
end L2
namespace HT
open PySem PySem.Spec PyProof.Rows PySem.SeqAt
end HT
namespace L2
open PySem PySem.Spec PyProof.Rows Wd
section
variable {X : Cx}
end
theorem qW : bootBuiltins "enumerate" = some (.type "enumerate") := by kernel_rfl
theorem oU {n k : Nat}(h : k < n) : ixN n (k : Int)=some k := by
  unfold ixN
  rw [if_pos (by omega), if_pos (by omega), vJ]
theorem mH {X : Cx}{tg : Expr}{K : PySem.W.Frag}(hK : X.K=K){l : Expr}{tl : TE}(hl : PE X l tl) : PI X tg l (qf K tl) := by
  subst hK
  exact br hl
end L2
namespace Wd
end Wd
namespace Kx
open PySem PySem.Spec PyProof.Rows L2 Wd
def fst (c : Option (Int × Int)) : Int := match c with | some (i, _) => i | none => 0
end Kx
namespace Kx
open PySem PySem.Spec PyProof.Rows L2 Wd
end Kx
namespace Kx
open PySem PySem.Spec PyProof.Rows L2 Wd
def iv (r : List Nat) : List V := r.map fun i : Nat => V.int (i : Int)
end Kx
namespace Kx
open PySem PySem.Spec PyProof.Rows L2 Wd
end Kx
namespace L2
open PySem PySem.Spec PyProof.Rows
section
variable {M : Model} {A : Around} {E : Value → Shared → Prop} {s : Shared}
end
end L2
namespace L2
open PySem PySem.Spec PyProof.Rows
def exo (a C : Addr)(d : Option Addr)(b c : Bool) : Heap → Prop := fun h =>
  ∃ oe vs, h.get? a=some oe ∧ oe.cls = .ref C ∧ oe.dict=d ∧ oe.data = .fields vs ∧ vs.size=6 ∧ (b=true → vs[1]? = some .none) ∧ (c=true → vs[2]? = some .none)
abbrev Exo (a C : Addr)(d : Option Addr)(b : Bool)(c : Bool := false) : HO := .ext (exo a C d b c)
section
variable {P : Program} {w : World} {H : Hp} {h h' : Heap} {fs : List Addr} {e C : Addr} {d : Option Addr} {b cx : Bool} {fl : Value}
end
section
variable {P : Program} {w : World} {K : PySem.W.Frag} {mg : Str → Option Value} {base : Heap} {N : List Str} {qual : Str} {scope : Scope} {f : Addr} {cd : Value} {A : Around} {outer : List Env} {s : Shared} {H : Hp} {E : XK}
end
end L2
namespace L2
open PySem PySem.Spec PyProof.Rows
section
variable {prog : Program} {w : World} {A : Around} {E : Value → Shared → Prop} {h : Heap} {g : Array GenState} {d : Drawn} {t : Nat} {os : OsState} {K : PySem.W.Frag} {C fI : Addr} {bm : List Value}
end
section
variable {X : Cx} {k : Nat} {f C : Addr} {fd : FuncData} {ps : List Str} {sp : Sp} {x : Str} {p pos : Pos} {e : Expr} {es : List Expr} {t : TA} {bm : List Value}
end
end L2
namespace L2
open PySem PySem.Spec PyProof.Rows Builtin Builtin.ObjectAttr
section
variable {prog : Program} {w : World} {A : Around} {E : Value → Shared → Prop} {h : Heap} {g : Array GenState} {d : Drawn} {t : Nat} {os : OsState} {K : PySem.W.Frag} {C e : Addr} {bm : List Value} {oe : Obj} {vs : Array Value}
section
variable {name : Str} {v : Value} {mA : Str → Option Value}
end
end
end L2
namespace L2
open PySem PySem.Spec PyProof.Rows
def xdt (d : Addr)(fs : List (Str × V)) : Heap → Prop := fun h => ∃ mA, h.Ns1 d mA ∧ (∀ f, ie (fs.lookup f) (mA f)) ∧ PySem.Within mA (fs.map (·.1))
abbrev Xdt (d : Addr)(fs : List (Str × V)) : HO := .ext (xdt d fs)
section
variable {X : Cx} {pins : List (Addr × Obj)} {σ : St} {H : Hp} {s : Shared} {A : Around} {E : Value → Shared → Prop} {a C : Addr} {b cx : Bool} {f : Str} {y : V} {u : Value} {Q : Unit → Shared → Prop}
end
section
variable {X : Cx} {o e value : Expr} {es : List Expr} {f x : Str} {p pos pos' apos : Pos} {ta tv te : TE} {t : TA} {R : Addr} {E : XK}
end
end L2
namespace L2
open PySem PySem.Spec PyProof.Rows
section
variable {prog : Program} {w : World} {A : Around} {E : Value → Shared → Prop} {s : Shared} {K : PySem.W.Frag} {C a : Addr} {bm : List Value} {oe : Obj} {od : Option Obj} {name : Str} {fill expr : Bool} {tk : Tok}
end
section
variable {X : Cx} {pins : List (Addr × Obj)} {σ : St} {H : Hp} {s : Shared} {A : Around} {E : Value → Shared → Prop} {a C dx : Addr} {b cx : Bool} {fs : List (Str × V)} {f : Str} {v : V}
end
section
variable {X : Cx} {e : Expr} {f : Str} {pos : Pos} {ta : TE}
end
end L2
namespace L2
open PySem PySem.Spec PyProof.Rows
section
variable {X : Cx} {pins : List (Addr × Obj)} {σ : St} {H : Hp} {s : Shared}
end
section
variable {M : Model} {A : Around} {E : Value → Shared → Prop} {s : Shared}
end
end L2
namespace L2
open PySem PySem.Spec PyProof.Rows
section
variable {X : Cx} {E : XK} {x : Str} {ps : List Str} {k j : Nat} {sp : Sp} {e a b : Expr} {es : List Expr} {t : TA} {te tb : TE} {tt : TT} {p pos pos' : Pos}
end
end L2
namespace L2
open PySem PySem.Spec PyProof.Rows
section
variable {K : PySem.W.Frag} {C R N : Addr} {dd d0 : Option Addr} {c0 oc : Value} {cd cdR : ClassData} {k0 k1 k2 k3 k5 : Option Value} {sl sl' : Array (Option Value)} {es : Array DictEntry} {n : Nat} {bm bm' : List Value}
end
end L2
namespace L2
open PySem PySem.Spec PyProof.Rows
section
variable {X : Cx} {x : Str} {C : Addr} {names : List Str} {k j : Nat} {e : Expr} {es : List Expr} {t : TA} {p pos : Pos}
end
section
variable {K : PySem.W.Frag} {C dx a : Addr} {b : Bool} {H : Hp}
end
section
variable {X : Cx} {K : PySem.W.Frag} {e : Expr} {f : Str} {pos : Pos} {ta : TE}
end
end L2
namespace L2
open PySem PySem.Spec PyProof.Rows
section
variable {X : Cx} {E : XK} {e a b c : Expr} {te ta tb : TE} {tA : TT} {pos : Pos}
end
end L2
namespace Kx
open PySem PySem.Spec PyProof.Rows L2 Wd
end Kx
namespace L2
open PySem PySem.Spec PyProof.Rows Wd
section
variable {X : Cx}
end
end L2
namespace Kx
open PySem PySem.Spec PyProof.Rows L2 Wd
def oL (o : Option (List L)) : List V := o.toList.map tx
end Kx
namespace L2
open PySem PySem.Spec PyProof.Rows Wd
end L2
namespace Kx
open PySem PySem.Spec PyProof.Rows L2 Wd
theorem aN {n : Nat}(h : n≤16777216) : n≤sizeLine := by rw [aV]; exact h
theorem tK {t u : TS}{D : fq}{σ : L2.St}{H : Hp}(h : t D σ H) : gJ t u D σ true H := uq h
theorem mI {t u : TS}{D : fq}{σ : L2.St}{H : Hp}(h : u D σ H) : gJ t u D σ false H := sf h
theorem tL {u : TT}{σ : L2.St}{Q : Bool → Hp → Prop}{H : Hp}(h : u σ H Q) : nC u σ Q false H := sf h
theorem qX {u : TT}{σ : L2.St}{Q : Bool → Hp → Prop}{H : Hp}(h : u σ H Q) : gI u σ Q true H := uq h
theorem qY {u : TT}{σ : L2.St}{Q : Bool → Hp → Prop}{H : Hp}(h : Q false H) : gI u σ Q false H := sf h
def XP (C : Addr)(H : Hp)(a : Addr)(z : Str)(k : Nat) : Prop := ∃ dx, H a=some (Exo a C (some dx) false) ∧ H dx=some (Xdt dx [("word", .str z), ("at", .int (k : Nat))])
end Kx
namespace L2
open PySem PySem.Spec PyProof.Rows
def Itk (d : Addr)(o : Obj)(kvs : List (Key × V)) : It := ⟨fun i H => i < kvs.length ∧ H d=some (.frz o (.dK kvs)), fun i H x H' => H'=H ∧ ∃ k v, kvs[i]? = some (k, v) ∧ x=kV k, fun i H => i=kvs.length ∧ H d=some (.frz o (.dK kvs))⟩
theorem qZ {P : Program}{w : World}{k : Key}{u : Value}(h : (aH P w).is k u=true) : aM (kV k) u := by
  rcases aG h with ⟨i, t, rfl, rfl⟩ | ⟨x, t, rfl, rfl⟩
  · exact ⟨t, rfl⟩
  · exact ⟨t, rfl⟩
theorem n0 {P : Program}{w : World}{H : Hp}{h : Heap}{d : Addr}{o : Obj}{kvs : List (Key × V)}{es : Array DictEntry}{ep : Nat}(hok : HOk P w H h)(e : H d=some (.frz o (.dK kvs)))(he : o.data = .dict es ep) :
    ∃ vs, KV kvs vs ∧ h.DictAt (aH P w) d vs ep := by
  obtain ⟨g, z, hd, vs, rel, o', es', ep', g', ex, dt, r⟩ := hok d _ e
  rw [g] at g'
  cases g'
  rw [he] at dt
  cases dt
  exact ⟨vs, rel, o, es, g, ex, he, r⟩
theorem cQ {α β : Type}{R : α → β → Prop} : ∀ {xs : List α} {ys : List β}, Paired R xs ys → ∀ {i : Nat} {x : α}, xs[i]? = some x → ∃ y, ys[i]? = some y ∧ R x y
  | _, _, .nil, i, x, h => by simp at h
  | _, _, .cons r q, 0, x, h => by cases h;exact ⟨_, rfl, r⟩
  | _, _, .cons r q, i+1, x, h => cQ q (i := i) (by simpa using h)
theorem gn {P : Program}{w : World}{K : PySem.W.Frag}{tg : Expr}{d it : Addr}{o : Obj}{es : Array DictEntry}{ep : Nat}{kvs : List (Key × V)}(he : o.data = .dict es ep) : nJ P w K tg (Itk d o kvs) [it] it (fun i h => h.IsKeyIter it d i kvs.length ep) where
  mem := by simp
  obj := fun i h st b hb => by
    have e : b=it := by simpa using hb
    subst e
    obtain ⟨o, e, c, dd⟩ := st
    exact ⟨o, e, fun v z => by rw [dd] at z;cases z⟩
  keep := fun i h h' st kk => st.at (kk it (by simp))
  item := by
    intro X hP hw hK hc i pins s σ H E I hf st hg
    subst hP hw hK
    obtain ⟨hi, e⟩ := hg
    obtain ⟨f0, f1, f2, f3, f4, f5⟩ := hf it (by simp)
    obtain ⟨vs, rel, hm⟩ := n0 I.hok e he
    have hl := wV rel
    obtain ⟨p, hp⟩ : ∃ p, kvs[i]? = some p := ⟨_, vh hi⟩
    obtain ⟨p', hp', ek, rv⟩ := cQ rel hp
    rw [hl] at st
    refine wpAny_pyNext_dict_item st hm (k := p'.1) (v := p'.2) hp' fun key h' hk st' hsb => ⟨_, rfl, ?_⟩
    refine letGo_keyiter (s' := { s with heap := h' }) st' ⟨kV p.1, H, ?_, by rw [ek];exact qZ hk, ⟨rfl, p.1, p.2, hp, rfl⟩, by rw [hl];exact st', fun b hb => (hf b hb).1⟩
    exact I.turned (t' := s.toks) (fun b o hb e => by rw [hsb.2 b hb];exact e) f0 f1 f3 f4 f5
  done := by
    intro X hP hw hK hc i pins s σ H E I hf st hg
    subst hP hw hK
    obtain ⟨hi, e⟩ := hg
    obtain ⟨f0, f1, f2, f3, f4, f5⟩ := hf it (by simp)
    obtain ⟨vs, rel, hm⟩ := n0 I.hok e he
    have hl := wV rel
    rw [hl] at st
    refine wpAny_pyNext_dict_end (I.ok.hd hc) st hm (by rw [we];omega) fun h' hx => ⟨rfl, ?_⟩
    exact I.turned (t' := s.toks) (fun b o hb e => hx b o hb e) f0 f1 f3 f4 f5
  self := fun A i s Q E st h => wpAny_pyIter_keyiter st h
section
variable {X : Cx} {tg : Expr}
end
end L2
namespace PySem
open Sem (wp)
namespace F
end F
section
variable {prog : Program} {w : World} {A : Around} {E : Value → Shared → Prop} {s : Shared} {a : Addr} {its : Array Value} {n : Nat} {sl : Array (Option Value)}
end
end PySem
namespace L2
open PySem PySem.Spec PyProof.Rows Wd
theorem kj : ∀ {ns : List Int} {us : List Value}, aI (ns.map V.int) us → ∃ ps : List (Int × Tok), us=ps.map (fun p => Value.int p.1 p.2) ∧ ps.map Prod.fst=ns
  | [], _, .nil => ⟨[], rfl, rfl⟩
  | n::ns, _, .cons r q => by
    obtain ⟨ps, rfl, e⟩ := kj q
    obtain ⟨t, rfl⟩ := r
    exact ⟨(n, t)::ps, rfl, by rw [vn, e]⟩
section
variable {X : Cx}
inductive eh (K : PySem.W.Frag)(xs : List V)(H : Hp)(Q : VK) : Prop
  | mk : ∀ (l : Addr) (ns : List Int), xs=[.ref l] → SqL K H l (ns.map V.int) → Q (.int ns.sum) H → eh K xs H Q
theorem eV (hc : X.calm=true) : bW X (.builtin "sum") (eh X.K) := by
  intro pins s σ H xs us Q I r h
  obtain ⟨l, ns, rfl, hq, q⟩ := h
  obtain ⟨u, rfl, ru⟩ := bZ r
  cases ru
  obtain ⟨its, rv, pl, _⟩ := I.list hq
  obtain ⟨ps, rfl, e⟩ := kj rv
  have hl : s.heap.IsList l (intItems ps.toArray) := by
    have := pl.isList
    unfold intItems
    simpa using this
  refine sum_intListG (I.ok.hd hc) hl fun h' tk t' hk => ?_
  refine ⟨.int ns.sum, H, I.kept hk, ⟨t', ?_⟩, q⟩
  rw [preSum_eq, wC (by simp)]
  have : (ps.toArray.toList.map Prod.fst)=ns := by simpa using e
  exact v5 (fun l : List Int => Value.int l.sum t') this
end
section
variable {P : Program} {w : World} {A : Around} {E : Value → Shared → Prop} {I : Addr} {fp wr : List Addr} {G : Array GenState → Array GenState → Prop} {n : Nat} {Pv : Nat → Value → Prop} {St' : Nat → Shared → Prop}
end
end L2
namespace L2
open PySem PySem.Spec PyProof.Rows Wd
section
variable {X : Cx}
end
end L2
namespace L2
open PySem PySem.Spec PyProof.Rows Wd
section
variable {X : Cx}
end
end L2
namespace L2
open PySem PySem.Spec PyProof.Rows
section
variable {X : Cx} {x : Str} {ps : List Str} {k j : Nat} {sp : Sp} {e : Expr} {es : List Expr} {t : TA} {p pos : Pos}
end
section
variable {prog : Program} {w : World} {A : Around} {E : Value → Shared → Prop} {h : Heap} {g : Array GenState} {d : Drawn} {t : Nat} {os : OsState} {K : PySem.W.Frag} {C : Addr} {bm : List Value}
end
end L2
namespace Kx
open PySem PySem.Spec PyProof.Rows L2 Wd
theorem dec_int (j n : Nat) : decide (V.int (0+(j : Int))=V.int (n : Int))=decide (n=j) := by
  by_cases e : n=j
  · subst e;simp
  · rw [vS e, vS]
    intro z
    have := V.int.inj z
    omega
end Kx
namespace L2
open PySem PySem.Spec PyProof.Rows Wd
section
variable {X : Cx}
end
end L2
namespace Kx
open PySem PySem.Spec PyProof.Rows L2 Wd
theorem oV : bootBuiltins "sum" = some (.builtin "sum") := by kernel_rfl
end Kx
namespace L2
open PySem PySem.Spec PyProof.Rows Wd
section
variable {X : Cx} {o : Expr} {apos cpos : Pos} {to : TE}
inductive q8 (x : V)(vs : List V)(H : Hp)(Q : VK) : Prop
  | mk : ∀ z y, (x = .str z) → (vs=[.str y]) → (Q (.bl (Txt.endswith z y)) H) → q8 x vs H Q
theorem km : MtR X "str.endswith" q8 := by
  intro pins s σ H x vs v us Q I rx rv h
  obtain ⟨z, y, rfl, rfl, q⟩ := h
  obtain ⟨t, rfl⟩ := rx
  obtain ⟨u1, rfl, ⟨t1, rfl⟩⟩ := bZ rv
  exact SC.endswith ⟨.bl _, H, I, rfl, q⟩
end
end L2
namespace PySem
open Sem (wp)
section
variable {prog : Program} {w : World} {A : Around} {E : Value → Shared → Prop} {s : Shared}
end
end PySem
namespace L2
open PySem PySem.Spec PyProof.Rows
section
variable {prog : Program} {w : World} {A : Around} {E : Value → Shared → Prop} {s : Shared}
end
end L2
namespace Ts
open PySem PyProof.Rows
end Ts
namespace L2
open PySem PySem.Spec PyProof.Rows Wd Ts
section
variable {prog : Program} {w : World} {A : Around} {E : Value → Shared → Prop} {s : Shared}
end
section
variable {X : Cx}
end
end L2
namespace L2
open PySem PySem.Spec PyProof.Rows Ts
section
variable {X : Cx}
end
end L2
namespace L2
open PySem PySem.Spec PyProof.Rows
theorem kn (val : Nat → Int) : ∀ n, argBest (fun i j => decide (val i > val j)) n≤n ∧ ∀ i, i≤n → val i≤val (argBest (fun i j => decide (val i > val j)) n)
  | 0 => by
    unfold argBest
    exact ⟨vd _, fun i hi => by rw [Nat.le_zero.mp hi];exact Int.le_refl _⟩
  | n+1 => by
    obtain ⟨h1, h2⟩ := kn val n
    unfold argBest
    split
    · rename_i h
      have h : val (n+1) > val (argBest (fun i j => decide (val i > val j)) n) := xN h
      refine ⟨vd _, fun i hi => ?_⟩
      by_cases e : i=n+1
      · rw [e];exact Int.le_refl _
      · have := h2 i (by omega);omega
    · rename_i h
      have h : ¬ val (n+1) > val (argBest (fun i j => decide (val i > val j)) n) := fun g => h (wg g)
      refine ⟨by omega, fun i hi => ?_⟩
      by_cases e : i=n+1
      · rw [e];omega
      · exact h2 i (by omega)
section
variable {X : Cx}
inductive cm (K : PySem.W.Frag)(xs : List V)(H : Hp)(Q : VK) : Prop
  | mk : ∀ (l : Addr) (ns : List Int), (xs=[.ref l]) → (SqL K H l (ns.map V.int)) → (ns≠[]) → (∀ m, m∈ns → (∀ n∈ns, n≤m) → Q (.int m) H) → cm K xs H Q
theorem eW {K : PySem.W.Frag}(hK : X.K=K)(hc : X.calm=true) : bW X (.builtin "max") (cm K) := by
  subst hK
  intro pins s σ H xs us Q I r h
  obtain ⟨l, ns, rfl, hq, hne, q⟩ := h
  obtain ⟨u, rfl, ru⟩ := bZ r
  cases ru
  obtain ⟨its, rv, pl, _⟩ := I.list hq
  have hlen : its.length=ns.length := by rw [← rv.length, fu]
  have hnz : 0 < ns.length := xy.mpr hne
  have hat : ∀ (i : Nat) (v : Value), its.toArray[i]? = some v → ∃ t, v = .int (ns.getD i 0) t := fun i v e => by
    rw [List.getElem?_toArray] at e
    have hi : i < ns.length := by
      have := (vc.mp e).1
      omega
    obtain ⟨u, eu, t, rfl⟩ := rv.get (i := i) (x := .int ns[i]) (by rw [vo, vh hi];rfl)
    rw [e] at eu
    cases eu
    exact ⟨t, by rw [vB, vh hi];rfl⟩
  have hl := pl.isList
  have hlt : l < s.heap.objs.size := by obtain ⟨_, e, _⟩ := hl;exact ve e
  refine call_max_walk (xn hl ?_)
  refine ⟨_, _, _, _, _, _, fun a b => decide (ns.getD a 0 > ns.getD b 0), rfl, Walks.list (A := X.A.in1) (I.ok.hd hc) _ l (vG hlt) _, ⟨⟨_, vi _ rfl, rfl, rfl⟩, hl.push _⟩, fun b hb => ?_, ?_, CmpOf.ints_gt (fun i => ns.getD i 0) hat, fun v h' tk hP hk => ?_⟩
  · show b < (s.heap.push _).objs.size
    rw [wF]
    rcases vt.mp hb with e | hb
    · rw [e];exact xv _
    · rw [vf.mp hb];exact Nat.lt_succ_of_lt hlt
  · rw [vj];omega
  · have old : ∀ b o, s.heap.get? b=some o → h'.get? b=some o := fun b o e => hk b o (fun z => by rw [vf.mp z] at e;exact absurd (ve e) (vO _)) (u_ _ e)
    obtain ⟨t, rfl⟩ := hat _ v hP
    have sz : its.toArray.size - 1=ns.length - 1 := by rw [vj, hlen]
    rw [sz]
    obtain ⟨b1, b2⟩ := kn (fun i => ns.getD i 0) (ns.length - 1)
    have at_ : ∀ i, i < ns.length → ns.getD i 0∈ns := fun i hi => by
      rw [vB, vh hi]
      exact xV hi
    refine ⟨.int _, H, I.kept old, ⟨t, rfl⟩, q _ (at_ _ (by omega)) fun n hn => ?_⟩
    obtain ⟨i, hi, rfl⟩ := List.mem_iff_getElem.mp hn
    have := b2 i (by omega)
    rw [show ns.getD i 0=ns[i] by rw [vB, vh hi];rfl] at this
    exact this
end
end L2
namespace L2
open PySem PySem.Spec PyProof.Rows
theorem mJ : ∀ bs : List Bool, ((List.range bs.length).any fun i => bs.getD i true)=bs.any id := fun bs => by
  rw [v_, wA, wA]
  constructor
  · rintro ⟨i, hi, e⟩
    have hi := xP.mp hi
    rw [vB, vh hi] at e
    exact ⟨_, xV hi, e⟩
  · rintro ⟨b, hb, e⟩
    obtain ⟨i, hi, rfl⟩ := List.mem_iff_getElem.mp hb
    exact ⟨i, xP.mpr hi, by rw [vB, vh hi];exact e⟩
section
variable {X : Cx}
inductive tM (K : PySem.W.Frag)(xs : List V)(H : Hp)(Q : VK) : Prop
  | mk : ∀ (l : Addr) (bs : List Bool), (xs=[.ref l]) → (SqL K H l (bs.map V.bl)) → (Q (.bl (bs.any id)) H) → tM K xs H Q
theorem dZ (hc : X.calm=true) : bW X (.builtin "any") (tM X.K) := by
  intro pins s σ H xs us Q I r h
  obtain ⟨l, bs, rfl, hq, q⟩ := h
  obtain ⟨u, rfl, ru⟩ := bZ r
  cases ru
  obtain ⟨its, rv, pl, _⟩ := I.list hq
  have hl := pl.isList
  have hlen : its.length=bs.length := by rw [← rv.length, fu]
  have hlt : l < s.heap.objs.size := by obtain ⟨_, e, _⟩ := hl;exact ve e
  refine call_any_walk (xn hl ?_)
  refine ⟨_, _, _, _, _, _, fun i => bs.getD i true, rfl, Walks.list (A := X.A.in1) (I.ok.hd hc) _ l (vG hlt) its.toArray, ⟨⟨_, vi _ rfl, rfl, rfl⟩, hl.push _⟩, ?_, fun h' tk hk => ?_⟩
  · intro i v s' Q' E' hP hQ'
    have hP : its[i]? = some v := by simpa using hP
    obtain ⟨b, hb, e⟩ := iD rv hP
    subst e
    have : bs.getD i true=b := by rw [vB, hb];rfl
    have hQ' : Q' (bs.getD i true) s' := hQ'
    rw [this] at hQ'
    exact wJ hQ'
  · have old : ∀ b o, s.heap.get? b=some o → h'.get? b=some o := fun b o e => hk b o (fun z => by rw [vf.mp z] at e;exact absurd (ve e) (vO _)) (u_ _ e)
    refine ⟨.bl _, H, I.kept old, rfl, ?_⟩
    have e : ((List.range its.toArray.size).any fun i => bs.getD i true)=bs.any id := by
      rw [vj, hlen]
      exact mJ bs
    rw [e]
    exact q
theorem tN : bootBuiltins "any" = some (.builtin "any") := by kernel_rfl
end
end L2
namespace L2
open PySem PySem.Spec PyProof.Rows Wd
theorem gp {x : Str} : ∀ {names : List (Str × NameKind)}, names.filter (fun y => y.2 == .cell)=[(x, .cell)] → ∀ (n : Nat) (acc : List (Str × Addr)) (h : Heap), cellsFrom n names acc=(x, n)::acc ∧ pushCells h names=h.push { cls := .type "cell", data := .cell none }
  | [], e, _, _, _ => by cases e
  | (y, k)::r, e, n, acc, h => by
    by_cases hk : (k == NameKind.cell)=true
    · rw [xH (by simpa using hk)] at e
      have e1 := (List.cons.inj e).1
      have e2 := (List.cons.inj e).2
      have no : ∀ (r : List (Str × NameKind)), r.filter (fun y => y.2 == .cell)=[] → ∀ (n : Nat) (acc : List (Str × Addr)) (h : Heap), cellsFrom n r acc=acc ∧ pushCells h r=h := fun r => by
        induction r with
        | nil => intro _ n acc h;exact ⟨rfl, rfl⟩
        | cons p r ih =>
          intro e n acc h
          obtain ⟨z, k2⟩ := p
          by_cases h2 : (k2 == NameKind.cell)=true
          · rw [xH (by simpa using h2)] at e;cases e
          · rw [xI (by simpa using h2)] at e
            unfold cellsFrom pushCells
            rw [if_neg h2, if_neg h2]
            exact ih e n acc h
      have ey : y=x := v5 Prod.fst e1
      subst ey
      unfold cellsFrom pushCells
      rw [if_pos hk, if_pos hk]
      exact no r e2 _ _ _
    · rw [xI (by simpa using hk)] at e
      unfold cellsFrom pushCells
      rw [if_neg hk, if_neg hk]
      exact gp e n acc h
theorem mK {M : Model}{A : Around}{E : Value → Shared → Prop}{s : Shared}{scope : Scope}{globals : Addr}{closure : List (Str × Addr)}{qual : Str}{func : Option Addr}{code : Value}{outer : Env}{builtins : Addr}{Q : Env → Shared → Prop}{x : Str}
    (hx : scope.names.filter (fun y => y.2 == .cell)=[(x, .cell)])
    (hQ : Q (newEnv scope s.heap.objs.size globals ((x, s.heap.objs.size+1)::closure) qual func code (some outer) builtins) { s with heap := (s.heap.push { cls := .type "dict", data := .dict #[] }).push { cls := .type "cell", data := .cell none } }) :
    wpAny M A (newFunctionEnv scope globals closure [] qual func code (some outer) builtins) Q E s := by
  simp only [newFunctionEnv, Option.isSome_some, yw]
  refine va (wpAny_alloc ?_)
  refine va (wpAny_layCells _ (fun name kind cells => by cases hkc : kind == NameKind.cell <;> simp [hkc]) _ _ _ _ ?_)
  obtain ⟨e1, e2⟩ := gp hx (s.heap.push { cls := .type "dict", data := .dict #[] }).objs.size closure (s.heap.push { cls := .type "dict", data := .dict #[] })
  dsimp only
  rw [e1, e2, wF]
  refine va ?_
  rw [zf]
  exact vE (vE hQ)
def n8 (scope sc : Scope)(NB own : List Str)(cap : List Nat)(N : List Str)(x : Str) : Bool :=
  (scope.kind == .function) && (sc.kind == .function) &&
  (scope.names.all fun y => match y.2 with
    | .cell => true
    | .free => sc.names.lookup y.1 == some NameKind.cell
    | .local => scope.names.lookup y.1 == some NameKind.local
    | _ => true) &&
  (own.all fun z => scope.names.all fun y => !(y.1 == z) || !(y.2 == NameKind.free)) &&
  (NB == own++cap.map fun i => N.getD i "") && (cap.all fun i => decide (i < N.length) && scope.names.lookup (N.getD i "") == some NameKind.free) &&
  (scope.names.filter (fun y => y.2 == .cell) == [(x, .cell)]) && (scope.names.lookup x == some NameKind.cell)
structure lN (X : Cx) (scope : Scope) (NB own : List Str) (cap : List Nat) (xc : Str) : Prop where
  kind : scope.kind = .function
  outk : X.env.scope.kind = .function
  one : scope.names.filter (fun y => y.2 == .cell)=[(xc, .cell)]
  isc : scope.names.lookup xc=some .cell
  free : ∀ y∈scope.names, y.2 = .free → X.env.kindOf y.1=some .cell
  names : ∀ y∈scope.names, y.2 = .local → scope.names.lookup y.1=some .local
  owns : ∀ x∈own, ∀ y∈scope.names, y.1=x → y.2 ≠ .free
  nb : NB=own++cap.map fun i => X.N.getD i ""
  caps : ∀ i∈cap, i < X.N.length ∧ scope.names.lookup (X.N.getD i "")=some .free
theorem oW {X : Cx}{scope sc : Scope}{NB own : List Str}{cap : List Nat}{xc : Str}(hs : X.env.scope=sc)(h : n8 scope sc NB own cap X.N xc=true) : lN X scope NB own cap xc := by
  unfold n8 at h
  simp only [v3] at h
  obtain ⟨⟨⟨⟨⟨⟨⟨h1, h2⟩, h3⟩, h4⟩, h5⟩, h6⟩, h7⟩, h8⟩ := h
  rw [wU] at h3 h4 h6
  subst hs
  refine ⟨by simpa using h1, by simpa using h2, by simpa using h7, by simpa using h8, fun y hy e => ?_, fun y hy e => ?_, fun x hx y hy e => ?_, by simpa using h5, fun i hi => ?_⟩
  · have := h3 y hy
    rw [e] at this
    show X.env.scope.names.lookup y.1=some .cell
    simpa using this
  · have := h3 y hy
    rw [e] at this
    simpa using this
  · have := h4 x hx
    rw [wU] at this
    have q := this y hy
    subst e
    simpa using q
  · have := h6 i hi
    simp only [v3] at this
    exact ⟨xN this.1, by simpa using this.2⟩
def cxC (X : Cx)(NB own : List Str)(scope : Scope)(C : Addr)(cells : List (Str × Addr))(fp : List Addr)(s₀ : Shared)(H₀ : Hp) : Cx where
  prog := X.prog
  w := X.w
  K := X.K
  mg := X.mg
  base := X.base
  A := X.A
  N := NB
  s₀ := s₀
  H₀ := H₀
  env := compEnvC scope cells C X.env
  outer := X.stack
  stack := X.stack
  ex := fp
  fn := fun x => own.contains x
  calm := X.calm
  pn := []
  xe := fun _ _ => False
theorem bV {env : Env}{x xc : Str}{k : NameKind}(hk : k = .cell ∨ k = .free) : ∀ {names : List (Str × NameKind)}, (∀ y∈names, y.2 = .cell → y.1=xc) →
    (names.map fun (n, k) => if (k == NameKind.free && env.scope.kind == .function && env.kindOf n == some .cell) then (n, NameKind.cell) else (n, k)).lookup x=some k → x=xc ∨ (x, NameKind.free)∈names
  | [], _, h => by simp at h
  | (n, q)::r, hn, h => by
    have ih := @bV env x xc k hk r fun y hy => hn y (vq _ hy)
    rw [vn, wR] at h
    have key : (if (q == NameKind.free && env.scope.kind == .function && env.kindOf n == some .cell)=true then (n, NameKind.cell) else (n, q)).1=n := by split <;> rfl
    by_cases e : (x == n)=true
    · have en : x=n := by simpa using e
      subst en
      by_cases hq : q = .free
      · subst hq;exact .inr vz
      · have hqf : (q == NameKind.free)=false := by simpa using hq
        simp only [hqf, zc, yt, zi, xu] at h
        have h' : q=k := vp h
        rcases hk with z | z
        · exact .inl (hn (x, q) vz (h'.trans z))
        · exact absurd (h'.trans z) hq
    · have e' : (x == n)=false := by simpa using e
      have e2 : (x == (if (q == NameKind.free && env.scope.kind == .function && env.kindOf n == some .cell)=true then (n, NameKind.cell) else (n, q)).1)=false := by rw [key];exact e'
      rw [e2] at h
      rcases ih h with z | z
      · exact .inl z
      · exact .inr (vq _ z)
section
variable {X : Cx} {pins : List (Addr × Obj)} {σ : St} {H : Hp} {s : Shared} {scope : Scope} {NB own : List Str} {cap : List Nat} {fp : List Addr} {C c : Addr} {xc : Str}
theorem lN.cells (B : lN X scope NB own cap xc)(ok : X.Ok){x : Str}{b : Addr}(h : ((xc, c)::cG X.env.cells scope.names []).lookup x=some b) : (x=xc ∧ b=c) ∨ (X.env.cells.lookup x=some b ∧ (x, NameKind.free)∈scope.names) := by
  rw [wR] at h
  by_cases e : (x == xc)=true
  · rw [e] at h
    exact .inl ⟨by simpa using e, (vp h).symm⟩
  · rw [show (x == xc)=false by simpa using e] at h
    right
    rcases cY (wb h) with q | ⟨q, e⟩
    · simp at q
    · obtain ⟨d, hd⟩ := ok.has x (.inl (B.free (x, .free) q rfl))
      have e : b=(X.env.cells.lookup x).getD 0 := e
      rw [hd] at e
      refine ⟨?_, q⟩
      rw [hd, e];rfl
theorem lN.cell (B : lN X scope NB own cap xc){x : Str}(h : x=xc ∨ (x, NameKind.free)∈scope.names) : ∃ b, ((xc, c)::cG X.env.cells scope.names []).lookup x=some b := by
  rw [wR]
  by_cases e : (x == xc)=true
  · rw [e];exact ⟨_, rfl⟩
  · rw [show (x == xc)=false by simpa using e]
    rcases h with h | h
    · exact absurd (by rw [h];exact xu _) e
    · exact bR (cZ h)
theorem lN.cellOnly (B : lN X scope NB own cap xc) : ∀ y∈scope.names, y.2 = .cell → y.1=xc := fun y hy e => by
  have : y∈scope.names.filter (fun y => y.2 == .cell) := xf.mpr ⟨hy, by simp [e]⟩
  rw [B.one] at this
  rw [vf.mp this]
theorem lN.start (B : lN X scope NB own cap xc)(I : Inv X pins σ H s)(hf : ∀ b∈fp, fz X pins H b)(hfs : ∀ b∈fp, ∃ o, s.heap.get? b=some o){h' : Heap}{tk : Nat}{m : Str → Option Value}(hC : s.heap.objs.size≤C)(hc : s.heap.objs.size≤c)
    (k : ∀ b o, s.heap.get? b=some o → h'.get? b=some o) (hn : h'.Ns C m) (hcel : h'.IsCell c none) :
    Inv (cxC X NB own scope C ((xc, c)::cG X.env.cells scope.names []) fp s H) [] (stB own cap σ) H { s with heap := h', toks := tk } := by
  have hlen : NB.length=own.length+cap.length := by rw [B.nb];simp
  have oldc : ∀ {x b}, X.env.cells.lookup x=some b → b < s.heap.objs.size := fun h => by
    obtain ⟨v, o, ho, _⟩ := I.cell _ _ h
    exact ve ho
  have okB : (cxC X NB own scope C ((xc, c)::cG X.env.cells scope.names []) fp s H).Ok := by
    refine ⟨I.ok.mod, B.kind, I.ok.glob, I.ok.blt, hC, fun x y b h1 h2 => ?_, fun x hx => ?_, fun x b h1 h2 => ?_, I.ok.hd, I.ok.frames, .inl rfl, fun b hb => ⟨?_, fun x d h => ?_⟩, I.bs, vI I.ok.bsz I.sz, fun b o e hb => ?_, fun b hb z => ?_, I.stack, I.stkFree⟩
    · rcases B.cells I.ok h1 with ⟨a1, a2⟩ | ⟨a1, _⟩ <;> rcases B.cells I.ok h2 with ⟨b1, b2⟩ | ⟨b1, _⟩
      · rw [a1, b1]
      · rw [a2] at b1;exact absurd (vk (oldc b1) hc) (vO _)
      · rw [b2] at a1;exact absurd (vk (oldc a1) hc) (vO _)
      · exact I.ok.inj x y b a1 b1
    · refine B.cell ?_
      rcases hx with z | z
      · exact bV (.inl rfl) B.cellOnly z
      · exact bV (.inr rfl) B.cellOnly z
    · rcases B.cells I.ok h2 with ⟨_, a2⟩ | ⟨_, a2⟩
      · rw [a2];exact hc
      · have hx : x∈own := by simpa [cxC] using h1
        exact absurd rfl (B.owns x hx _ a2 rfl)
    · obtain ⟨o, e⟩ := hfs b hb
      exact vG (vk (ve e) hC)
    · rcases B.cells I.ok h with ⟨_, a2⟩ | ⟨a1, _⟩
      · obtain ⟨o, e⟩ := hfs b hb
        rw [a2]
        exact (vG (vk (ve e) hc)).symm
      · exact (hf b hb).2.2.2.2.1 x d a1
    · have hb : b∈fp := hb
      rcases (hf b hb).2.2.2.1 with z | z
      · exact I.ok.noex b o e z
      · exact absurd (vk (ve e) (vI I.ok.bsz z)) (vO _)
    · rcases vt.mp (I.stkSub b z) with z | z
      · exact (hf b hb).2.1 z
      · exact (hf b hb).2.2.1 z
  refine ⟨okB, rfl, I.bare, Un.kept k, ⟨m, hn, fun i x v e1 e2 e3 => ?_⟩, fun x b h => ?_, I.hok.fresh hC, fun x b h => ?_, fun p hp => absurd (show p∈([] : List (Addr × Obj)) from hp) (by simp), I.hok.kept k, ?_⟩
  · have e1 : NB[i]? = some x := e1
    have hi : ¬ i < own.length := fun hi => by
      unfold stB at e2
      rw [wq (by simpa using hi), vo] at e2
      cases q : own[i]? <;> rw [q] at e2 <;> cases e2
    unfold stB at e2
    rw [vW (by simpa using hi), vo] at e2
    rw [B.nb, vW (by omega), vo] at e1
    simp only [fu] at e2
    cases q : cap[i - own.length]? with
    | none => rw [q] at e1;cases e1
    | some j =>
      rw [q] at e1 e2
      have ex : X.N.getD j "" = x := vp e1
      have ev : (σ[j]?).getD none=some v := vp e2
      obtain ⟨hj, hjf⟩ := B.caps j (vD q)
      rw [ex] at hjf
      have hN : X.N[j]? = some x := by rw [← ex, vB, vh hj];rfl
      have hσ : σ[j]? = some (some v) := by
        cases z : σ[j]? with
        | none => rw [z] at ev;cases ev
        | some u => rw [z] at ev;exact v5 some ev
      have hmem : (x, NameKind.free)∈scope.names := wb hjf
      have hkc := B.free _ hmem rfl
      have nx : x≠xc := fun z => by rw [z, B.isc] at hjf;cases hjf
      obtain ⟨m0, hn0, hl⟩ := I.loc
      obtain ⟨u, r, l⟩ := hl j x v hN hσ (.inr (.inl hkc))
      refine ⟨u, r, .inr ⟨.inl (cH B.outk hkc hjf), ?_⟩⟩
      obtain ⟨b, hb⟩ := B.cell (c := c) (.inr hmem)
      refine ⟨b, hb, ?_⟩
      rcases l with ⟨z, _⟩ | ⟨_, c', hc', ⟨oc, hoc, hd⟩⟩
      · rw [show X.env.kindOf x=some .cell from hkc] at z;cases z
      · rcases B.cells I.ok hb with ⟨z, _⟩ | ⟨this, _⟩
        · exact absurd z nx
        · rw [hc'] at this
          have : c'=b := vp this
          subst this
          exact ⟨oc, k _ _ hoc, hd⟩
  · rcases B.cells I.ok h with ⟨_, a2⟩ | ⟨a1, _⟩
    · rw [a2];exact ⟨none, hcel⟩
    · obtain ⟨v, oc, hoc, hd⟩ := I.cell x b a1
      exact ⟨v, oc, k _ _ hoc, hd⟩
  · rcases B.cells I.ok h with ⟨_, a2⟩ | ⟨a1, _⟩
    · rw [a2];exact I.hok.fresh hc
    · exact I.freeC x b a1
  · show (stB own cap σ).length=NB.length
    unfold stB
    rw [hlen];simp
theorem ko {cells : List (Str × Addr)}(I : Inv X pins σ H s)(hf : ∀ b∈fp, fz X pins H b){σB : St}{H' : Hp}{s' : Shared}{h'' : Heap}{D : Addr}{ys : List V}{its : List Value}{n : Nat}(hC : s.heap.objs.size≤C)(hD : s.heap.objs.size≤D)(hDC : D≠C)
    (J : Inv (cxC X NB own scope C cells fp s H) [] σB H' s') (hn : H' D=none) (e : s'.heap.get? D=some { cls := .type "list", data := .seq its.toArray n }) (hv : aI ys its) (hz : ys.length≤sizeLine)
    (sb : Heap.SameBut C s'.heap h'') : Inv X pins σ (upd H' D (.lst ys)) { s' with heap := h'' } := by
  have un : Un (frs X.stack) fp H H' s.heap s'.heap := J.base
  have neC : ∀ {b o}, s.heap.get? b=some o → b≠C := fun q => vG (vk (ve q) hC)
  have neD : ∀ {b o}, s.heap.get? b=some o → b≠D := fun q => vG (vk (ve q) hD)
  have hCn : H' C=none := J.free
  refine I.call' (s' := { s' with heap := h'' }) (ch := fp) J.os ⟨fun b o q n hb hx => ?_, fun b o q n hb hx => ?_, fun b o q n hx => ?_, fun b o q hx => ?_, fun b xs q => ?_, fun b o u q => ?_, fun b ps q => ?_⟩ (fun b u q => ?_) J.bare fun b hb => ?_
  · exact (sb.2 b (neC q)).trans (un.keep b o q n hb hx)
  · obtain ⟨sl, r⟩ := un.slot b o q n hb hx
    exact ⟨sl, (sb.2 b (neC q)).trans r⟩
  · rw [aj (neD q)]
    exact un.free b o q n hx
  · obtain ⟨o', r⟩ := un.there b o q hx
    exact ⟨o', (sb.2 b (neC q)).trans r⟩
  · have r := un.tups b xs q
    rw [aj (ae r hn)]
    exact r
  · have r := un.frzs b o u q
    rw [aj (ae r hn)]
    exact r
  · obtain ⟨more, r⟩ := un.tbls b ps q
    exact ⟨more, by rw [aj (ae r hn)];exact r⟩
  · by_cases hb : b=D
    · subst hb
      rw [ab] at q
      cases q
      exact ⟨hz, its, n, hv, (sb.2 b hDC).trans e⟩
    · rw [aj hb] at q
      refine (J.hok b u q).stay (fun c v hc r => (sb.2 c ?_).trans r) (fun c r => ?_) fun c xs r => ?_
      · rcases hc with z | z
        · rw [z];exact ae q hCn
        · exact ae z hCn
      · rw [aj (ae r hn)];exact r
      · rw [aj (ae r hn)];exact r
  · obtain ⟨_, f1, _, f3, f4, f5⟩ := hf b hb
    exact ⟨f3, f1, f4, f5⟩
end
theorem mL {X : Cx}{elt iter tg : Expr}{ifs : List Expr}{scope : Scope}{pos : Pos}{NB own : List Str}{cap : List Nat}{xc : Str}{wi : TI}{g : TG}{ti : TT}{te : TE}(B : lN X scope NB own cap xc)(hc : X.calm=true)(hi : PI X tg iter wi)
    (hg : ∀ C cl fp s₀ H₀, PG (cxC X NB own scope C cl fp s₀ H₀) tg g) (ht : ∀ C cl fp s₀ H₀, PIf (cxC X NB own scope C cl fp s₀ H₀) ifs ti) (he : ∀ C cl fp s₀ H₀, PE (cxC X NB own scope C cl fp s₀ H₀) elt te)
    (hs : ∀ x, foldedSetIterable iter X.env x=pure x := by intro _;rfl) : PE X (.ListComp elt [⟨tg, iter, ifs, 0⟩] scope pos) (ml own cap wi g ti te) := by
  intro pins s σ H Q I0 h
  rw [eval_ListComp]
  have hclos := cN (env := X.env) (scope := scope) fun y hy e => I0.ok.has y.1 (.inl (B.free y hy e))
  refine yG (use := none) rfl hs hclos B.kind B.names (thn (hi pins s σ H _ I0 h) fun v s1 h1 => thn h1 fun itv s2 h2 => ?_)
  obtain ⟨it, fp, tn, J, H2, rfl, I, T, st2, f2, W, ⟨m0, w0⟩, turn⟩ := h2
  refine wpAny_newList ?_
  refine mK B.one ?_
  dsimp only
  generalize hP : s2.heap.push { cls := .type "list", dict := none, data := .seq ([] : List Value).toArray }=P
  generalize hh₁ : (P.push { cls := .type "dict", data := .dict #[] }).push { cls := .type "cell", data := .cell none }=h₁
  have hns₁ : h₁.Ns P.objs.size (fun _ => none) := by rw [← hh₁];exact (Heap.Ns.new P (.type "dict")).keeps fun b o e => u_ _ e
  have hcel : h₁.IsCell (P.objs.size+1) none := by rw [← hh₁];exact ⟨_, by rw [← wF P { cls := .type "dict", data := .dict #[] }];exact vi _ rfl, rfl⟩
  have hC : P.objs.size=s2.heap.objs.size+1 := by rw [← hP, wF]
  have hDC : s2.heap.objs.size≠P.objs.size := by rw [hC];exact vG (xv _)
  have hCle : s2.heap.objs.size≤P.objs.size := by rw [hC];exact Nat.le_succ _
  have old : ∀ b o, s2.heap.get? b=some o → h₁.get? b=some o := fun b o e => by
    rw [← hh₁]
    exact u_ _ (u_ _ (hP ▸ u_ _ e))
  have hD : h₁.get? s2.heap.objs.size=some { cls := .type "list", data := .seq ([] : List Value).toArray 0 } := by
    rw [← hh₁]
    refine u_ _ (u_ _ ?_)
    rw [← hP]
    exact vi _ rfl
  have hfs : ∀ b∈fp, ∃ o, s2.heap.get? b=some o := fun b hb => let ⟨o, e, _⟩ := T.obj _ _ st2 b hb;⟨o, e⟩
  have st4 : tn 0 h₁ := T.keep _ _ _ st2 fun b _ o e => old b o e
  generalize htk : s2.toks=tk4
  have I4 := B.start (C := P.objs.size) (c := P.objs.size+1) (tk := tk4) I f2 hfs hCle (Nat.le_succ_of_le hCle) old hns₁ hcel
  have fOk : ∀ {H' : Hp} {b : Addr} {ob : Obj}, b∈fp → H' b=none → fz (cxC X NB own scope P.objs.size ((xc, P.objs.size+1)::cG X.env.cells scope.names []) fp s2 H2) [(s2.heap.objs.size, ob)] H' b := fun {H' b ob} hb hn => by
    obtain ⟨o, e⟩ := hfs b hb
    refine ⟨hn, (I4.ok.exf b hb).1, I4.ok.exfs b hb, .inl hb, (I4.ok.exf b hb).2, fun p hp => ?_⟩
    have ep : p=(s2.heap.objs.size, ob) := vf.mp (show p∈[(s2.heap.objs.size, ob)] from hp)
    rw [ep]
    exact fun z => absurd (ve e) (by rw [← z];exact vO _)
  have dnf : s2.heap.objs.size∉frs X.stack := fun z => by
    rcases vt.mp (I.stkSub _ z) with z | z
    · exact absurd I.lt (by rw [← z];exact vO _)
    · exact I.nofs (vd _) z
  have I3D : ∀ {σ3 : St} {H3 : Hp} {s3 : Shared} {its : List Value} {k : Nat}, Inv (cxC X NB own scope P.objs.size ((xc, P.objs.size+1)::cG X.env.cells scope.names []) fp s2 H2) [] σ3 H3 s3 → s3.heap.get? s2.heap.objs.size=some { cls := .type "list", data := .seq its.toArray k } → H3 s2.heap.objs.size=none →
      Inv (cxC X NB own scope P.objs.size ((xc, P.objs.size+1)::cG X.env.cells scope.names []) fp s2 H2) [(s2.heap.objs.size, { cls := .type "list", data := .seq its.toArray k })] σ3 H3 s3 := fun I3 e n => I3.pins_of fun p hp => by
    have ep := vf.mp hp
    subst ep
    exact ⟨e, n, hDC, dnf, fun v z => by cases z⟩
  have ndf : s2.heap.objs.size∉fp := fun z => by
    obtain ⟨o, e⟩ := hfs _ z
    exact absurd (ve e) (vO _)
  have nCD : ∀ x c, (cxC X NB own scope P.objs.size ((xc, P.objs.size+1)::cG X.env.cells scope.names []) fp s2 H2).env.cells.lookup x=some c → c≠s2.heap.objs.size := fun x c e z => by
    rcases B.cells I.ok e with ⟨_, q⟩ | ⟨q, _⟩
    · rw [z, hC] at q
      exact absurd q (vG (Nat.lt_succ_of_lt (xv _)))
    · obtain ⟨v, o, ho, _⟩ := I.cell x c q
      rw [z] at ho
      exact absurd (ve ho) (vO _)
  have loop : ∀ s₃ : Shared, s₃ = { s2 with heap := h₁, toks := tk4 } → codeAny (model X.prog X.w) X.A (.compLoop (.ListComp elt [⟨tg, iter, ifs, 0⟩] scope pos) 0 (.ref it) (.ref s2.heap.objs.size) (cxC X NB own scope P.objs.size ((xc, P.objs.size+1)::cG X.env.cells scope.names []) fp s2 H2).env)
      (compPost (model X.prog X.w) X.A X.xe none (EP X pins σ Q) (.ref s2.heap.objs.size) P.objs.size) s₃ := by
    rintro s₃ rfl
    refine fQ (fun n s' => ∃ i σB H' ys its k, Inv (cxC X NB own scope P.objs.size ((xc, P.objs.size+1)::cG X.env.cells scope.names []) fp s2 H2) [] σB H' s' ∧ tn i s'.heap ∧ (∀ b∈fp, H' b=none) ∧ s'.heap.get? s2.heap.objs.size=some { cls := .type "list", data := .seq (its : List Value).toArray k } ∧ aI ys its ∧ H' s2.heap.objs.size=none ∧ W i n ys σB H') ?_ m0
      ⟨0, stB own cap σ, H2, [], [], 0, I4, st4, fun b hb => (f2 b hb).1, hD, .nil, I.hok.fresh (vd _), w0⟩
    rintro n s3 ⟨i, σ3, H3, ys, its, k, I3, st3, fr3, hD3, rv, hn3, w3⟩
    rcases turn i n ys σ3 H3 w3 with ⟨stop, hz, q⟩ | ⟨go, hz, step⟩
    · refine thn (T.done (cxC X NB own scope P.objs.size ((xc, P.objs.size+1)::cG X.env.cells scope.names []) fp s2 H2) rfl rfl rfl hc i _ s3 σ3 H3 noE (I3D I3 hD3 hn3) (fun b hb => fOk hb (fr3 b hb)) st3 stop) fun r s4 zq1 => ?_
      obtain ⟨hr, I4'⟩ := zq1
      subst hr
      have hD4 : s4.heap.get? s2.heap.objs.size=some { cls := .type "list", data := .seq (its : List Value).toArray k } := (I4'.pin (s2.heap.objs.size, _) (vg _ (vf.mpr rfl))).1
      have I5 : Inv (cxC X NB own scope P.objs.size ((xc, P.objs.size+1)::cG X.env.cells scope.names []) fp s2 H2) [] σ3 H3 s4 := I4'.pins_of fun p hp => absurd (show p∈([] : List (Addr × Obj)) from hp) (by simp)
      obtain ⟨mC, hnC, _⟩ := I5.loc
      exact ⟨mC, hnC, fun h'' sb => ⟨.ref s2.heap.objs.size, _, ko I f2 hCle (vd _) hDC I5 hn3 hD4 rv hz sb, rfl, q _ hn3⟩⟩
    · refine thn (T.item (cxC X NB own scope P.objs.size ((xc, P.objs.size+1)::cG X.env.cells scope.names []) fp s2 H2) rfl rfl rfl hc i _ s3 σ3 H3 noE (I3D I3 hD3 hn3) (fun b hb => fOk hb (fr3 b hb)) st3 go) fun r s4 zq2 => ?_
      obtain ⟨u, hr, h4⟩ := zq2
      subst hr
      refine thn h4 fun _ s5 zq3 => ?_
      obtain ⟨x, H5, I5, r5, y5, st5, fr5⟩ := zq3
      have I5' := I5.pinned (fun b hb => fOk hb (fr5 b hb)) (T.obj _ _ st5)
      refine thn (hg _ _ fp s2 H2 _ s5 σ3 H5 x u _ I5' r5 (step x H5 y5)) fun _ s6 zq4 => ?_
      obtain ⟨σ6, H6, I6, q6⟩ := zq4
      refine thn (ht _ _ fp s2 H2 _ s6 σ6 H6 _ I6 q6) fun b s7 zq5 => ?_
      obtain ⟨H7, I7, q7⟩ := zq5
      have pinned : ∀ {σ8 : St} {H8 : Hp} {s8 : Shared}, Inv (cxC X NB own scope P.objs.size ((xc, P.objs.size+1)::cG X.env.cells scope.names []) fp s2 H2) ([(s2.heap.objs.size, { cls := .type "list", data := .seq (its : List Value).toArray k })]++d7 fp s5.heap) σ8 H8 s8 →
          tn (i+1) s8.heap ∧ (∀ b∈fp, H8 b=none) ∧ s8.heap.get? s2.heap.objs.size=some { cls := .type "list", data := .seq (its : List Value).toArray k } ∧ H8 s2.heap.objs.size=none := fun {σ8 H8 s8} I8 => by
        refine ⟨T.keep _ _ _ st5 fun b hb o e => (I8.pin (b, o) (vg _ (vg _ (bo hb e)))).1, fun b hb => ?_, ?_, ?_⟩
        · obtain ⟨o, e, d⟩ := T.obj _ _ st5 b hb
          exact (I8.pin (b, o) (vg _ (vg _ (bo hb e)))).2.1
        · exact (I8.pin (s2.heap.objs.size, _) (vg _ (vM _ (vf.mpr rfl)))).1
        · exact (I8.pin (s2.heap.objs.size, _) (vg _ (vM _ (vf.mpr rfl)))).2.1
      have nopin : ∀ {pp : List (Addr × Obj)} {σ8 : St} {H8 : Hp} {s8 : Shared}, Inv (cxC X NB own scope P.objs.size ((xc, P.objs.size+1)::cG X.env.cells scope.names []) fp s2 H2) pp σ8 H8 s8 → Inv (cxC X NB own scope P.objs.size ((xc, P.objs.size+1)::cG X.env.cells scope.names []) fp s2 H2) [] σ8 H8 s8 := fun I8 => I8.pins_of fun p hp => absurd (show p∈([] : List (Addr × Obj)) from hp) (by simp)
      cases b with
      | false =>
        rw [if_neg vm] at q7 ⊢
        obtain ⟨m', hm, w7⟩ := q7
        obtain ⟨p1, p2, p3, p4⟩ := pinned I7
        exact ⟨m', hm, i+1, σ6, H7, ys, its, k, nopin I7, p1, p2, p3, rv, p4, w7⟩
      | true =>
        rw [if_pos rfl] at q7 ⊢
        refine thn (he _ _ fp s2 H2 _ s7 σ6 H7 _ I7 q7) fun yv s8 zq6 => ?_
        obtain ⟨y, H8, I8, r8, m', hm, w8⟩ := zq6
        obtain ⟨p1, p2, p3, p4⟩ := pinned I8
        refine xB w4 ⟨_, p3, rfl⟩ ya (xW _ _) (yF s2.heap.objs.size its.toArray k yv (by rw [vj, ← rv.length];omega)) ⟨p3, ?_⟩
        have q := yX p3 fun a => a.push yv
        have ea : its.toArray.push yv=(its++[yv]).toArray := by simp
        rw [ea] at q
        have I9 : Inv (cxC X NB own scope P.objs.size ((xc, P.objs.size+1)::cG X.env.cells scope.names []) fp s2 H2) [] σ6 H8 { s8 with heap := s8.heap.update s2.heap.objs.size (Obj.mapSeq fun a => a.push yv), toks := s8.toks } :=
          (nopin I8).turned (it := s2.heap.objs.size) (fun b o hb e => (vQ s8.heap _ (Ne.symm hb)).trans e) p4 hDC (.inr (vd _)) (fun x c e => nCD x c e) fun p hp => absurd (show p∈([] : List (Addr × Obj)) from hp) (by simp)
        refine ⟨m', hm, i+1, σ6, H8, ys++[y], its++[yv], _, I9, ?_, p2, q, rv.append (.cons r8 .nil), p4, w8⟩
        refine T.keep _ _ _ p1 fun b hb o e => (vQ s8.heap _ ?_).trans e
        intro z
        rw [z] at ndf
        exact ndf hb
  exact codeAny_compStart_list (loop _ rfl) (T.self X.A 0 _ _ _ st4 (loop _ rfl))
theorem i_ {X : Cx}{K : PySem.W.Frag}(hK : X.K=K)(hc : X.calm=true) : bW X (.builtin "any") (tM K) := by subst hK; exact dZ hc
end L2
namespace L2
open PySem PySem.Spec PyProof.Rows Wd
section
variable {X : Cx} {tg : Expr}
inductive iF (R : It → Hp → Prop)(x : V)(H1 : Hp) : Prop
  | mk : ∀ d kvs, (x = .ref d) → (Rd H1 d (.dK kvs)) → (∀ o H2, H2 d=some (.frz o (.dK kvs)) → (∀ b, b≠d → H2 b=H1 b) → R (Itk d o kvs) H2) → iF R x H1
def q9 (tl : TE) : TI := fun σ H R => tl σ H (iF R)
theorem eX {l : Expr}{tl : TE}(hl : PE X l tl) : PI X tg l (q9 tl) := by
  intro pins s σ H R I h
  refine thn (hl pins s σ H _ I h) fun v s1 zq1 => ?_
  obtain ⟨x, H1, I1, r1, d, kvs, rfl, e, q⟩ := zq1
  cases r1
  rcases e with e | ⟨o, e⟩
  · obtain ⟨z, hd, vs, rel, o, es, ep, g, ex, he, r⟩ := me I1.hok e
    have I2 : Inv X pins σ (upd H1 d (.frz o (.dK kvs))) s1 := eJ (t' := s1.toks) I1 (by rw [e];exact True.intro) ⟨rfl, fun _ _ => rfl⟩ ⟨o, g⟩ ⟨g, z, hd, vs, rel, o, es, ep, g, ex, he, r⟩
    refine yK hd ⟨o, es, g, ex, he, r⟩ ?_
    refine ⟨s1.heap.objs.size, [s1.heap.objs.size], _, Itk d o kvs, _, rfl, I2.kept (t' := s1.toks) fun b o e => u_ _ e, gn he, ⟨_, vi _ rfl, rfl, by rw [wV rel];rfl⟩, fun b hb => ?_, q o _ ab fun b n => aj n⟩
    have e : b=s1.heap.objs.size := by simpa using hb
    subst e
    exact I2.fpOk (vd _) (I2.hok.fresh (vd _))
  · obtain ⟨g, z, hd, vs, rel, o', es, ep, g', ex, he, r⟩ := I1.hok d _ e
    rw [g] at g'
    cases g'
    refine yK hd ⟨o, es, g, ex, he, r⟩ ?_
    refine ⟨s1.heap.objs.size, [s1.heap.objs.size], _, Itk d o kvs, _, rfl, I1.kept (t' := s1.toks) fun b o e => u_ _ e, gn he, ⟨_, vi _ rfl, rfl, by rw [wV rel];rfl⟩, fun b hb => ?_, q o _ e fun b n => rfl⟩
    have e : b=s1.heap.objs.size := by simpa using hb
    subst e
    exact I1.fpOk (vd _) (I1.hok.fresh (vd _))
end
end L2
namespace Kx
open PySem PySem.Spec PyProof.Rows L2 Wd
theorem kq : ∀ {ps : List (Key × L2.V)} {p : Key × L2.V}, (ps.map Prod.fst).Nodup → p∈ps → bP ps p.1=some p.2
  | [], p, _, h => by cases h
  | q::ps, p, nd, h => by
    rw [vn, vZ] at nd
    rcases vt.mp h with rfl | h
    · exact aQ rfl
    · rw [aR fun e => nd.1 (by rw [e];exact vH.mpr ⟨p, h, rfl⟩)]
      exact kq nd.2 h
def sgN (m : Nat) : List L := ([0, 1, 2, 3, 4, 5] : List L).take m++([6, 7, 8, 9, 10, 11] : List L).take m
theorem n9 (m : Nat) : sg (m : Int)=sgN m := by
  unfold sg sgN
  rw [vJ]
theorem dX.f {H : Hp}{a : Addr}{o : Obj}{kvs : List (Key × L2.V)}{k : Key}(e : H a=some (.frz o (.dK kvs))) : dX H a (kV k) (bP kvs k) := .inl ⟨kvs, k, .inr ⟨o, e⟩, rfl, rfl⟩
end Kx
namespace Kx
open PySem PySem.Spec PyProof.Rows L2 Wd
def okB (bar : List (List L))(t : List L) : Bool := !(bar.any fun w => w.isSuffixOf t)
def bc (bar : List (List L))(t : List L) : Bool := bar.any fun w => decide (t.length < w.length) && t.isPrefixOf w
def lng (bar : List (List L)) : List L → List L
  | [] => []
  | x::r => if bc bar (x::r)=true then x::r else lng bar r
theorem bN {bar : List (List L)}{t : List L} : bc bar t=true ↔ ∃ w∈bar, t.length < w.length ∧ t <+: w := by
  unfold bc
  rw [wA]
  constructor
  · rintro ⟨w, hw, e⟩
    rw [v3, wy, wO] at e
    exact ⟨w, hw, e⟩
  · rintro ⟨w, hw, e⟩
    refine ⟨w, hw, ?_⟩
    rw [v3, wy, wO]
    exact e
theorem dD (bar : List (List L)) : ∀ t, lng bar t <:+ t
  | [] => List.suffix_refl _
  | x::r => by
    unfold lng
    split
    · exact List.suffix_refl _
    · exact (dD bar r).trans (List.suffix_cons x r)
theorem dE {bar : List (List L)}(h0 : bc bar []=true) : ∀ t, bc bar (lng bar t)=true
  | [] => h0
  | x::r => by
    unfold lng
    split
    · assumption
    · exact dE h0 r
theorem dF {bar : List (List L)}{u : List L}(hu : bc bar u=true) : ∀ {t}, u <:+ t → u <:+ lng bar t
  | [], h => h
  | x::r, h => by
    unfold lng
    split
    · exact h
    · rename_i nb
      rcases List.suffix_cons_iff.mp h with e | e
      · rw [e] at hu;exact absurd hu nb
      · exact dF hu e
theorem oX {bar : List (List L)}{u : List L}{x : L}(h : bc bar (u++[x])=true) : bc bar u=true := by
  obtain ⟨w, hw, h1, h2⟩ := bN.mp h
  refine bN.mpr ⟨w, hw, ?_, (List.prefix_append u [x]).trans h2⟩
  rw [vb, vv] at h1
  omega
theorem a5 {b t : List L}{x : L} : b <:+ t++[x] ↔ b=[] ∨ ∃ c, b=c++[x] ∧ c <:+ t := by
  rcases List.eq_nil_or_concat b with rfl | ⟨c, y, rfl⟩
  · exact ⟨fun _ => .inl rfl, fun _ => List.nil_suffix⟩
  · rw [List.suffix_concat_iff]
theorem q_ {bar : List (List L)}(ne : []∉bar)(w : List L)(x : L) : okB bar (lng bar w++[x])=okB bar (w++[x]) := by
  unfold okB
  congr 1
  rw [v_, wA, wA]
  constructor
  · rintro ⟨b, hb, h⟩
    refine ⟨b, hb, ?_⟩
    rw [vX] at h ⊢
    rcases a5.mp h with e | ⟨c, e, hc⟩
    · rw [e] at hb;exact absurd hb ne
    · exact a5.mpr (.inr ⟨c, e, hc.trans (dD bar w)⟩)
  · rintro ⟨b, hb, h⟩
    refine ⟨b, hb, ?_⟩
    rw [vX] at h ⊢
    rcases a5.mp h with e | ⟨c, e, hc⟩
    · rw [e] at hb;exact absurd hb ne
    · refine a5.mpr (.inr ⟨c, e, dF (bN.mpr ⟨b, hb, ?_, ?_⟩) hc⟩)
      · rw [e, vb, vv];omega
      · rw [e];exact List.prefix_append c [x]
theorem oY {bar : List (List L)}(h0 : bc bar []=true)(w : List L)(x : L) : lng bar (lng bar w++[x])=lng bar (w++[x]) := by
  have s1 : lng bar w++[x] <:+ w++[x] := by
    obtain ⟨p, hp⟩ := dD bar w
    exact ⟨p, by rw [← v7, hp]⟩
  have a := dF (dE h0 (lng bar w++[x])) ((dD bar _).trans s1)
  have b : lng bar (w++[x]) <:+ lng bar (lng bar w++[x]) := by
    refine dF (dE h0 _) ?_
    rcases a5.mp (dD bar (w++[x])) with e | ⟨c, e, hc⟩
    · rw [e];exact List.nil_suffix
    · rw [e]
      refine a5.mpr (.inr ⟨c, rfl, dF ?_ hc⟩)
      have := dE h0 (w++[x])
      rw [e] at this
      exact oX this
  exact yn a (Nat.le_antisymm a.length_le b.length_le)
def nxt (sg : List L)(bar : List (List L))(w : List L) : List (List L) := (sg.filter fun x => okB bar (w++[x])).map fun x => w++[x]
def avs (sg : List L)(bar : List (List L)) : Nat → List (List L)
  | 0 => [[]]
  | n+1 => (avs sg bar n).flatMap (nxt sg bar)
def dlt (sg : List L)(bar : List (List L))(s : List L) : List (List L) := (sg.filter fun x => okB bar (s++[x])).map fun x => lng bar (s++[x])
theorem oZ {sg : List L}{bar : List (List L)}(ne : []∉bar)(h0 : bc bar []=true)(w : List L) : dlt sg bar (lng bar w)=(nxt sg bar w).map (lng bar) := by
  unfold dlt nxt
  rw [wx]
  have e : (sg.filter fun x => okB bar (lng bar w++[x]))=sg.filter fun x => okB bar (w++[x]) := List.filter_congr fun x _ => q_ ne w x
  rw [e]
  exact wL fun x _ => oY h0 w x
theorem mM {sg : List L}{bar : List (List L)}(ne : []∉bar)(h0 : bc bar []=true)(n : Nat) : ((avs sg bar n).map (lng bar)).flatMap (dlt sg bar)=(avs sg bar (n+1)).map (lng bar) := by
  rw [avs, List.flatMap_map, List.map_flatMap]
  congr 1
  funext w
  exact oZ ne h0 w
def tlK (k : Nat)(t : List L) : List L := t.drop (t.length - k)
theorem dG (k : Nat)(t : List L) : tlK k t <:+ t := List.drop_suffix _ _
theorem cR (k : Nat)(t : List L) : (tlK k t).length=min k t.length := by unfold tlK; rw [wz]; omega
theorem kr {k : Nat}{u t : List L}(h : u <:+ t)(hu : u.length≤k) : u <:+ tlK k t := by
  have h2 := h.length_le
  refine List.suffix_of_suffix_length_le h (dG k t) ?_
  rw [cR]
  omega
theorem rf {k : Nat}(w : List L)(x : L) : tlK k (tlK k w++[x])=tlK k (w++[x]) := by
  have s1 : tlK k w++[x] <:+ w++[x] := by
    obtain ⟨p, hp⟩ := dG k w
    exact ⟨p, by rw [← v7, hp]⟩
  have e : tlK k (tlK k w++[x]) <:+ tlK k (w++[x]) := kr ((dG k _).trans s1) (by rw [cR];omega)
  refine yn e ?_
  rw [cR, cR, vb, vb, cR, vv]
  omega
theorem tO {bar : List (List L)}{k : Nat}(ne : []∉bar)(hk : ∀ b∈bar, b.length≤k+1)(w : List L)(x : L) : okB bar (tlK k w++[x])=okB bar (w++[x]) := by
  unfold okB
  congr 1
  rw [v_, wA, wA]
  constructor
  · rintro ⟨b, hb, h⟩
    refine ⟨b, hb, ?_⟩
    rw [vX] at h ⊢
    rcases a5.mp h with e | ⟨c, e, hc⟩
    · rw [e] at hb;exact absurd hb ne
    · exact a5.mpr (.inr ⟨c, e, hc.trans (dG k w)⟩)
  · rintro ⟨b, hb, h⟩
    refine ⟨b, hb, ?_⟩
    rw [vX] at h ⊢
    rcases a5.mp h with e | ⟨c, e, hc⟩
    · rw [e] at hb;exact absurd hb ne
    · refine a5.mpr (.inr ⟨c, e, kr hc ?_⟩)
      have := hk b hb
      rw [e, vb, vv] at this
      omega
def dtl (sg : List L)(bar : List (List L))(k : Nat)(s : List L) : List (List L) := (sg.filter fun x => okB bar (s++[x])).map fun x => tlK k (s++[x])
theorem rg {sg : List L}{bar : List (List L)}{k : Nat}(ne : []∉bar)(hk : ∀ b∈bar, b.length≤k+1)(n : Nat) : ((avs sg bar n).map (tlK k)).flatMap (dtl sg bar k)=(avs sg bar (n+1)).map (tlK k) := by
  rw [avs, List.flatMap_map, List.map_flatMap]
  congr 1
  funext w
  unfold dtl nxt
  rw [wx]
  have e : (sg.filter fun x => okB bar (tlK k w++[x]))=sg.filter fun x => okB bar (w++[x]) := List.filter_congr fun x _ => tO ne hk w x
  rw [e]
  exact wL fun x _ => rf w x
abbrev Cts := List (List L × Nat)
def mul (l : Cts) : List (List L) := l.flatMap fun p => List.replicate p.2 p.1
def eY : Cts → List L → Nat → Cts
  | [], s, v => [(s, v)]
  | p::r, s, v => if p.1=s then (s, p.2+v)::r else p::eY r s v
def rh (l : Cts)(s : List L) : Nat := ((l.find? fun p => decide (p.1=s)).map (·.2)).getD 0
theorem cw (p : List L × Nat)(l : Cts) : mul (p::l)=List.replicate p.2 p.1++mul l := by unfold mul; rw [vT]
theorem mul_add : ∀ (l : Cts) (s : List L) (v : Nat), (mul (eY l s v)).Perm (mul l++List.replicate v s)
  | [], s, v => by simp [eY, mul]
  | p::r, s, v => by
    unfold eY
    split
    · rename_i e
      rw [cw, cw, e]
      show (List.replicate (p.2+v) s++mul r).Perm _
      rw [← List.replicate_append_replicate, v7, v7]
      exact xj _ List.perm_append_comm
    · rw [cw, cw, v7]
      exact xj _ (mul_add r s v)
theorem dH : ∀ (l : Cts) (s : List L) (v : Nat) (t : List L), t∈(eY l s v).map Prod.fst ↔ t∈l.map Prod.fst ∨ t=s
  | [], s, v, t => by simp [eY]
  | p::r, s, v, t => by
    unfold eY
    split
    · rename_i e
      rw [vn, vn, vt, vt, e]
      exact ⟨.inl, fun h => h.elim id .inl⟩
    · rw [vn, vt, dH r s v t, vn, vt, or_assoc]
theorem ku : ∀ (l : Cts) (s : List L) (v : Nat), (l.map Prod.fst).Nodup → ((eY l s v).map Prod.fst).Nodup
  | [], s, v, _ => by simp [eY]
  | p::r, s, v, h => by
    rw [vn, vZ] at h
    unfold eY
    split
    · rename_i e
      rw [vn, vZ]
      rw [e] at h
      exact h
    · rename_i e
      rw [vn, vZ]
      refine ⟨fun hm => ?_, ku r s v h.2⟩
      rcases (dH r s v _).mp hm with q | q
      · exact h.1 q
      · exact e q
def cD (p : List L × Nat) : Key × L2.V := (.inr (toS p.1), .int (p.2 : Int))
theorem mN (l : Cts)(s : List L) : (bP (l.map cD) (.inr (toS s))).getD (.int 0) = .int ((rh l s : Nat) : Int) := by
  induction l with
  | nil => rfl
  | cons p r ih =>
    unfold rh
    by_cases e : p.1=s
    · rw [vn, aQ (show (cD p).1=_ by rw [← e];rfl), y3 (by simpa using e)]
      rfl
    · rw [vn, aR (show (cD p).1≠_ from fun z => e (bb (xx z))), y4 (by simpa using e)]
      exact ih
theorem mO {q : Key × L2.V}{qs : List (Key × L2.V)}{k : Key}{v : L2.V}(e : q.1=k)(h : k∉qs.map Prod.fst) : bQ (q::qs) k v=(k, v)::qs := by
  have : qs.map (fun kv => if kv.1=k then (kv.1, v) else kv)=qs := by
    have e2 : qs.map (fun kv => if kv.1=k then (kv.1, v) else kv)=qs.map id := wL fun kv hk => if_neg fun z => h (vH.mpr ⟨kv, hk, z⟩)
    rw [e2, List.map_id]
  unfold bQ
  rw [if_pos (by rw [xo, wg e];rfl), vn, if_pos e, this, e]
theorem mP {q : Key × L2.V}{qs : List (Key × L2.V)}{k : Key}{v : L2.V}(e : q.1≠k) : bQ (q::qs) k v=q::bQ qs k v := by
  unfold bQ
  rw [xo, vS e, Bool.false_or, vn, if_neg e]
  split <;> rfl
theorem iG : ∀ (l : Cts) (s : List L) (v : Nat), (l.map Prod.fst).Nodup → bQ (l.map cD) (.inr (toS s)) (.int ((rh l s : Nat)+(v : Nat) : Int))=(eY l s v).map cD
  | [], s, v, _ => by simp [rh, eY, cD, bQ]
  | p::r, s, v, nd => by
    rw [vn, vZ] at nd
    unfold eY rh
    by_cases e : p.1=s
    · rw [if_pos e, y3 (by simpa using e), vn, mO (show (cD p).1=_ by rw [← e];rfl)]
      · rfl
      · intro hm
        rw [wx] at hm
        obtain ⟨q, hq, z⟩ := vH.mp hm
        have : q.1=s := bb (xx z)
        exact nd.1 (vH.mpr ⟨q, hq, by rw [this, e]⟩)
    · rw [if_neg e, y4 (by simpa using e), vn, mP (show (cD p).1≠_ from fun z => e (bb (xx z))), vn]
      exact v5 _ (iG r s v nd.2)
theorem kx {l : Cts}(nd : (l.map Prod.fst).Nodup){p : List L × Nat}(hp : p∈l) : bP (l.map cD) (.inr (toS p.1))=some (.int (p.2 : Int)) := by
  refine kq (p := cD p) ?_ (vH.mpr ⟨p, hp, rfl⟩)
  rw [wx]
  have : (l.map (Prod.fst ∘ cD))=(l.map Prod.fst).map fun u => (Sum.inr (toS u) : Key) := by rw [wx];rfl
  rw [this]
  exact List.Pairwise.map _ (fun a b n e => n (bb (xx e))) nd
theorem o6 (l : Cts) : (mul l).length=(l.map (·.2)).sum := by
  induction l with
  | nil => rfl
  | cons p r ih => rw [cw, vb, xg, ih, vn, xp]
theorem mQ (f : List L → List (List L))(s : List L)(v : Nat) : ((f s).flatMap fun b => List.replicate v b).Perm ((List.replicate v s).flatMap f) := by
  induction v with
  | zero => simp
  | succ v ih =>
    rw [wc, vT]
    refine List.Perm.trans ?_ (ih.append_left (f s))
    generalize f s=l
    induction l with
    | nil => simp
    | cons b l ih2 =>
      rw [vT, vT, wc, yY, yY]
      refine List.Perm.cons b ?_
      refine (xj _ ih2).trans ?_
      rw [← v7, ← v7]
      exact xM _ List.perm_append_comm
def rj (f : List L → List (List L))(l : Cts) : Cts := l.foldl (fun a p => (f p.1).foldl (fun a b => eY a b p.2) a) []
theorem iH (v : Nat) : ∀ (bs : List (List L)) (a : Cts), (mul (bs.foldl (fun a b => eY a b v) a)).Perm (mul a++bs.flatMap fun b => List.replicate v b)
  | [], a => by simp
  | b::bs, a => by
    rw [x_, vT, ← v7]
    exact (iH v bs _).trans (xM _ (mul_add a b v))
theorem ky (f : List L → List (List L))(l : Cts) : (mul (rj f l)).Perm ((mul l).flatMap f) := by
  have go : ∀ (l a : Cts), (mul (l.foldl (fun a p => (f p.1).foldl (fun a b => eY a b p.2) a) a)).Perm (mul a++(mul l).flatMap f) := fun l => by
    induction l with
    | nil => intro a;simp [mul]
    | cons p r ih =>
      intro a
      rw [x_, cw, List.flatMap_append, ← v7]
      exact (ih _).trans (xM _ ((iH p.2 _ a).trans (xj _ (mQ f p.1 p.2))))
  have := go l []
  simpa [mul, rj] using this
def smN (m : Nat) : List L := ([0, 1, 2, 3, 4, 5] : List L).take m
def sgP (m : Nat) : List L := smN m++bk (smN m)
def barP (m : Nat)(W : List (List L)) : List (List L) := W++(smN m).flatMap fun x => [[x, inv x], [inv x, x]]
def sr (kvs : List (Key × L2.V))(bar : List (List L)) : Prop := ∀ t : List L, (bP kvs (.inr (toS t))).isSome=bc bar t
inductive kz (vs : List L2.V)(H : Hp)(Q : VK)(E : XK) : Prop
  | mk : ∀ (a : Addr) (bar : List (List L)), vs=[.ref a] → H a=some (.lst (bar.map tx)) → bar.length≤200 → (∀ w∈bar, w.length≤10) → (∀ (d : Addr) (kvs : List (Key × L2.V)) (H' : Hp), H d=none → H' d=some (.dK kvs) → sr kvs bar → aw H H' → Q (.ref d) H') → kz vs H Q E
inductive dI (vs : List L2.V)(H : Hp)(Q : VK)(E : XK) : Prop
  | mk : ∀ (d : Addr) (kvs : List (Key × L2.V)) (bar : List (List L)) (t : List L), vs=[.ref d, tx t] → H d=some (.dK kvs) → sr kvs bar → bc bar []=true → t.length≤20 → Q (tx (lng bar t)) H → dI vs H Q E
theorem mR (bar : List (List L))(w t : List L) : bc (bar++[w]) t=(bc bar t || (decide (t.length < w.length) && t.isPrefixOf w)) := by
  unfold bc
  rw [List.any_append]
  simp
theorem rm : ("abcdef" : Str)=toS [0, 1, 2, 3, 4, 5] := by decide +kernel
theorem iI {m : Nat} : Txt.slice ("abcdef" : Str) none (some (m : Int))=toS (smN m) := by
  rw [rm, aU, eg _ (by omega), vJ]
  rfl
theorem eZ (m : Nat) : (smN m).length≤6 := by unfold smN; rw [vC]; show min m 6≤6; omega
theorem kA (m : Nat) : (sgP m).length≤12 := by unfold sgP; rw [vb, bK]; have := eZ m; omega
theorem iJ (u p : List L) : Txt.endswith (toS u) (toS p)=p.isSuffixOf u := by
  have key : (toS u).cps.extract ((toS u).length - (toS p).length) ((toS u).length - (toS p).length+(toS p).length)=((((u.drop (u.length - p.length)).take p.length).map cp).toArray) := by
    rw [ah, ah]
    apply Array.ext'
    rw [Array.toList_extract, bz, List.extract_eq_drop_take, zj, List.map_drop]
    congr 1
    omega
  unfold Txt.endswith Builtin.Str.subAt
  rw [key, zo, ah, ah]
  have e2 : (u.drop (u.length - p.length)).take p.length=u.drop (u.length - p.length) := wC (by rw [wz];omega)
  rw [e2, v_, v3, wy, vX, yS]
  constructor
  · rintro ⟨_, z⟩
    have z := eq_of_beq z
    have z : ((u.drop (u.length - p.length)).map cp).toArray=(p.map cp).toArray := z
    have := bb (u := u.drop (u.length - p.length)) (v := p) (by unfold toS;rw [z])
    exact this.symm
  · intro z
    have hl : p.length≤u.length := by have := v5 List.length z;rw [wz] at this;omega
    refine ⟨hl, ?_⟩
    rw [← z]
    show ((p.map cp).toArray == (p.map cp).toArray)=true
    exact xu _
theorem kC (m : Nat)(bar : List (List L))(s : List L) : (dlt (sgP m) bar s).length≤12 := by
  unfold dlt
  rw [fu]
  exact vI (xk _ _) (kA m)
inductive e9 (vs : List L2.V)(H : Hp)(Q : VK)(E : XK) : Prop
  | mk : ∀ (m : Nat) (a d : Addr) (kvs : List (Key × L2.V)) (bar : List (List L)) (st : List L), vs=[.int (m : Int), .ref a, .ref d, tx st] → m≤6 → H a=some (.lst (bar.map tx)) → H d=some (.dK kvs) → sr kvs bar → bc bar []=true → bar.length≤200 → (∀ w∈bar, w.length≤10) → st.length≤10 → (∀ (l : Addr) (H' : Hp), H l=none → H' l=some (.lst ((dlt (sgP m) bar st).map tx)) → aw H H' → Q (.ref l) H') → e9 vs H Q E
def pY (bar : List (List L)) : List (List L) := bar.flatMap fun w => (List.range w.length).map fun k => w.take k
theorem kD {bar : List (List L)}{t : List L}(h : bc bar t=true) : t∈pY bar := by
  obtain ⟨w, hw, h1, h2⟩ := bN.mp h
  exact wB.mpr ⟨w, hw, vH.mpr ⟨t.length, xP.mpr h1, (yT.mp h2).symm⟩⟩
theorem mS {bar : List (List L)}(bw : ∀ w∈bar, w.length≤10) : (pY bar).length≤bar.length*10 := by
  unfold pY
  induction bar with
  | nil => simp
  | cons w r ih =>
    rw [vT, vb, fu, xq, vN]
    have := ih fun v hv => bw v (vq _ hv)
    have := bw w vz
    omega
theorem mT {α : Type}[DecidableEq α] : ∀ {l s : List α}, l.Nodup → (∀ x∈l, x∈s) → l.length≤s.length
  | [], s, _, _ => vR _
  | x::l, s, nd, h => by
    rw [vZ] at nd
    have hx := h x vz
    have := mT (l := l) (s := s.erase x) nd.2 fun y hy => (List.mem_erase_of_ne (fun e => nd.1 (by rw [← e];exact hy))).mpr (h y (vq _ hy))
    rw [List.length_erase_of_mem hx] at this
    have := y6 hx
    rw [vN]
    omega
structure gU (H : Hp) (kvs : List (Key × L2.V)) (m : Nat) (bar : List (List L)) (wa : Addr) (ss wt : List (List L)) : Prop where
  nd : ss.Nodup
  beg : ∀ s∈ss, bc bar s=true
  kl : kvs.length≤ss.length
  key : ∀ t : List L, (bP kvs (.inr (toS t))).isSome=decide (t∈ss)
  val : ∀ s∈ss, ∃ r, bP kvs (.inr (toS s))=some (.ref r) ∧ r≠wa ∧ H r=some (.lst ((dlt (sgP m) bar s).map tx)) ∧ ∀ b∈dlt (sgP m) bar s, b∈ss ∨ b∈wt
theorem gU.mono {H H' : Hp}{kvs : List (Key × L2.V)}{m : Nat}{bar : List (List L)}{wa : Addr}{ss wt : List (List L)}(F : gU H kvs m bar wa ss wt)(k : ∀ r xs, r≠wa → H r=some (.lst xs) → H' r=some (.lst xs)) : gU H' kvs m bar wa ss wt :=
  ⟨F.nd, F.beg, F.kl, F.key, fun s hs => let ⟨r, a, b, c, d⟩ := F.val s hs;⟨r, a, b, k _ _ b c, d⟩⟩
theorem gU.pop {H : Hp}{kvs : List (Key × L2.V)}{m : Nat}{bar : List (List L)}{wa : Addr}{ss wt : List (List L)}{u : List L}(F : gU H kvs m bar wa ss (wt++[u]))(hu : u∈ss) : gU H kvs m bar wa ss wt :=
  ⟨F.nd, F.beg, F.kl, F.key, fun s hs => let ⟨r, a, b, c, d⟩ := F.val s hs;⟨r, a, b, c, fun x hx => by
    rcases d x hx with q | q
    · exact .inl q
    · rcases vK.mp q with q | q
      · exact .inr q
      · rw [vf.mp q];exact .inl hu⟩⟩
theorem gU.put {H : Hp}{kvs : List (Key × L2.V)}{m : Nat}{bar : List (List L)}{wa r : Addr}{ss wt : List (List L)}{u : List L}(F : gU H kvs m bar wa ss (wt++[u]))(hu : u∉ss)(hb : bc bar u=true)(hr : H r=some (.lst ((dlt (sgP m) bar u).map tx)))(nr : r≠wa) :
    gU H (bQ kvs (.inr (toS u)) (.ref r)) m bar wa (ss++[u]) (wt++dlt (sgP m) bar u) := by
  refine ⟨?_, fun s hs => ?_, vI (bx _ _ _) ?_, fun t => ?_, fun s hs => ?_⟩
  · rw [xO]
    exact ⟨F.nd, by simp, fun a ha b hb e => hu (by rw [← vf.mp hb, ← e];exact ha)⟩
  · rcases vK.mp hs with q | q
    · exact F.beg s q
    · rw [vf.mp q];exact hb
  · have := F.kl
    rw [vb, vv];omega
  · rw [cX]
    by_cases e : t=u
    · rw [if_pos (by rw [e]), e];simp
    · rw [if_neg (fun z => e (bb (xx z))), F.key t]
      simp [e]
  · rw [cX]
    by_cases e : s=u
    · rw [if_pos (by rw [e]), e]
      exact ⟨r, rfl, nr, hr, fun b hb => .inr (vg _ hb)⟩
    · rw [if_neg (fun z => e (bb (xx z)))]
      have hs : s∈ss := by
        rcases vK.mp hs with q | q
        · exact q
        · exact absurd (vf.mp q) e
      obtain ⟨r1, a, b, c, d⟩ := F.val s hs
      refine ⟨r1, a, b, c, fun x hx => ?_⟩
      rcases d x hx with q | q
      · exact .inl (vM _ q)
      · rcases vK.mp q with q | q
        · exact .inr (vM _ q)
        · exact .inl (vg _ q)
theorem kE {m : Nat}{W : List (List L)}(h : []∉W) : []∉barP m W := fun hm => by
  unfold barP at hm
  rcases vK.mp hm with q | q
  · exact h q
  · obtain ⟨x, _, q⟩ := wB.mp q
    simp at q
theorem rp {m : Nat}{W : List (List L)}(m1 : 1≤m) : bc (barP m W) []=true := by
  refine bN.mpr ⟨[0, inv 0], vg _ (wB.mpr ⟨0, ?_, by simp⟩), by decide, List.nil_prefix⟩
  unfold smN
  obtain ⟨k, rfl⟩ : ∃ k, m=k+1 := ⟨m - 1, by omega⟩
  simp
theorem kF (m : Nat)(W : List (List L)) : (barP m W).length≤W.length+12 := by
  unfold barP
  rw [vb]
  have : ∀ l : List L, (l.flatMap fun x => [[x, inv x], [inv x, x]]).length=2*l.length := fun l => by
    induction l with
    | nil => rfl
    | cons x r ih => rw [vT, vb, ih];simp;omega
  rw [this]
  have := eZ m
  omega
theorem o7 {m : Nat}{W : List (List L)}{k : Nat}(k2 : 2≤k)(h : ∀ w∈W, w.length≤k) : ∀ w∈barP m W, w.length≤k := fun w hw => by
  rcases vK.mp hw with q | q
  · exact h w q
  · obtain ⟨x, _, q⟩ := wB.mp q
    simp at q
    rcases q with q | q <;> rw [q] <;> exact k2
inductive o8 (vs : List L2.V)(H : Hp)(Q : VK)(E : XK) : Prop
  | mk : ∀ (m : Nat) (a : Addr) (W : List (List L)), vs=[.int (m : Int), .ref a] → 1≤m → m≤6 → H a=some (.lst (W.map tx)) → []∉W → W.length≤100 → (∀ w∈W, w.length≤10) → (∀ (d wa : Addr) (kvs : List (Key × L2.V)) (ss : List (List L)) (H' : Hp), H d=none → H' d=some (.dK kvs) → gU H' kvs m (barP m W) wa ss [] → []∈ss → aw H H' → Q (.ref d) H') → o8 vs H Q E
def inC (a : Cts)(v : Nat)(bs : List (List L)) : Cts := bs.foldl (fun a b => eY a b v) a
def stC (f : List L → List (List L))(l : Cts) : Cts := l.foldl (fun a p => inC a p.2 (f p.1)) []
theorem mU (a : Cts)(v : Nat)(bs : List (List L))(b : List L) : inC a v (bs++[b])=eY (inC a v bs) b v := by unfold inC; rw [List.foldl_append]; rfl
theorem mV (f : List L → List (List L))(l : Cts)(p : List L × Nat) : stC f (l++[p])=inC (stC f l) p.2 (f p.1) := by unfold stC; rw [List.foldl_append]; rfl
structure CtD (l : Cts) (ss : List (List L)) : Prop where
  nd : (l.map Prod.fst).Nodup
  sub : ∀ t∈l.map Prod.fst, t∈ss
theorem CtD.add {l : Cts}{ss : List (List L)}(c : CtD l ss){s : List L}(hs : s∈ss)(v : Nat) : CtD (eY l s v) ss :=
  ⟨ku l s v c.nd, fun t ht => by
    rcases (dH l s v t).mp ht with q | q
    · exact c.sub t q
    · rw [q];exact hs⟩
theorem CtD.ins {l : Cts}{ss : List (List L)}(c : CtD l ss)(v : Nat) : ∀ {bs : List (List L)}, (∀ b∈bs, b∈ss) → CtD (inC l v bs) ss := fun {bs} h => by
  induction bs generalizing l with
  | nil => exact c
  | cons b bs ih => exact ih (c.add (h b vz) v) fun x hx => h x (vq _ hx)
theorem CtD.len {l : Cts}{ss : List (List L)}(c : CtD l ss) : l.length≤ss.length := by
  have := mT c.nd c.sub
  rwa [fu] at this
theorem CtD.nil (ss : List (List L)) : CtD [] ss := ⟨xa, fun t ht => absurd ht vA⟩
theorem CtD.step {f : List L → List (List L)}{l : Cts}{ss : List (List L)}(h : ∀ p∈l, ∀ b∈f p.1, b∈ss) : CtD (stC f l) ss := by
  have go : ∀ (l a : Cts), CtD a ss → (∀ p∈l, ∀ b∈f p.1, b∈ss) → CtD (l.foldl (fun a p => inC a p.2 (f p.1)) a) ss := fun l => by
    induction l with
    | nil => intro a c _;exact c
    | cons p r ih => intro a c h;rw [x_];exact ih _ (c.ins p.2 (h p vz)) fun q hq => h q (vq _ hq)
  exact go l [] (CtD.nil ss) h
theorem gU.in {H : Hp}{kvs : List (Key × L2.V)}{m : Nat}{bar : List (List L)}{wa : Addr}{ss : List (List L)}(F : gU H kvs m bar wa ss []){s b : List L}(hs : s∈ss)(hb : b∈dlt (sgP m) bar s) : b∈ss := by
  obtain ⟨r, _, _, _, d⟩ := F.val s hs
  rcases d b hb with q | q
  · exact q
  · cases q
theorem o9 (l : Cts) : (l.map fun p => (p.2 : Int)).sum=((mul l).length : Int) := by
  rw [o6]
  induction l with
  | nil => rfl
  | cons p r ih => rw [vn, xp, ih, vn, xp];omega
def uw (m : Nat)(W : List (List L))(k : Nat) : List Int := (List.range k).map fun n => ((avs (sgP m) (barP m W) n).length : Int)
theorem o_ (A B : List (List L))(t : List L) : okB (A++B) t=(okB A t && okB B t) := by unfold okB; rw [List.any_append, Bool.not_or]
theorem kG {m : Nat}{x : L}(h : x∈sgN m) : x∈smN m ∨ inv x∈smN m := by
  unfold sgN at h
  rcases vK.mp h with q | q
  · exact .inl q
  · right
    have e : ([6, 7, 8, 9, 10, 11] : List L)=([0, 1, 2, 3, 4, 5] : List L).map inv := by decide
    rw [e, ← zj] at q
    obtain ⟨y, hy, rfl⟩ := vH.mp q
    rw [eR]
    exact hy
theorem e_ {a b x : L}{t : List L} : [a, b] <:+ t++[x] ↔ b=x ∧ t.drop (t.length - 1)=[a] := by
  rw [a5]
  constructor
  · rintro (e | ⟨c, e, h⟩)
    · cases e
    · have e2 : [a]++[b]=c++[x] := e
      have := List.append_inj' e2 rfl
      refine ⟨by simpa using this.2, ?_⟩
      rw [← this.1] at h
      exact (yS.mp h).symm
  · rintro ⟨rfl, h⟩
    exact .inr ⟨[a], rfl, by rw [← h];exact List.drop_suffix _ _⟩
theorem mW {m : Nat}{x : L}(hx : x∈sgN m)(t : List L) : okB ((smN m).flatMap fun y => [[y, inv y], [inv y, y]]) (t++[x])=!decide (L2.V.str (toS [x])=tx (bk (t.drop (t.length - 1)))) := by
  unfold okB
  congr 1
  rw [v_, wA, wy]
  constructor
  · rintro ⟨b, hb, h⟩
    obtain ⟨y, hy, hb⟩ := wB.mp hb
    rw [vX] at h
    simp only [vt, vA, xw] at hb
    rcases hb with rfl | rfl
    · obtain ⟨e1, e2⟩ := e_.mp h
      rw [e2, ← e1];rfl
    · obtain ⟨e1, e2⟩ := e_.mp h
      rw [e2, ← e1]
      show _=tx [inv (inv y)]
      rw [eR];rfl
  · intro h
    have h := bb (L2.V.str.inj h)
    have hl : (t.drop (t.length - 1)).length≤1 := by rw [wz];omega
    match hd : t.drop (t.length - 1), hl with
    | [], _ => rw [hd] at h;cases h
    | [a], _ =>
      rw [hd] at h
      have ea : x=inv a := by simpa [bk] using h
      have ei : inv x=a := by rw [ea, eR]
      rcases kG hx with q | q
      · refine ⟨[inv x, x], wB.mpr ⟨x, q, by simp⟩, ?_⟩
        rw [vX]
        exact e_.mpr ⟨rfl, by rw [hd, ei]⟩
      · refine ⟨[inv x, inv (inv x)], wB.mpr ⟨inv x, q, by simp⟩, ?_⟩
        rw [vX, eR]
        exact e_.mpr ⟨rfl, by rw [hd, ei]⟩
theorem rq {m : Nat}{W : List (List L)}{x : L}(hx : x∈sgN m)(t : List L) : okB (barP m W) (t++[x])=(!decide (L2.V.str (toS [x])=tx (bk (t.drop (t.length - 1)))) && okB W (t++[x])) := by
  unfold barP
  rw [o_, mW hx, Bool.and_comm]
def upW (sg : List L) : Nat → List (List L)
  | 0 => [[]]
  | k+1 => []::(upW sg k).flatMap fun w => sg.map fun x => x::w
def upN (s : Nat) : Nat → Nat
  | 0 => 1
  | k+1 => upN s k*s+1
theorem kH (sg : List L) : ∀ k, (upW sg k).length=upN sg.length k
  | 0 => rfl
  | k+1 => by
    have : ∀ l : List (List L), (l.flatMap fun w => sg.map fun x => x::w).length=l.length*sg.length := fun l => by
      induction l with
      | nil => simp
      | cons w r ih => rw [vT, vb, fu, ih, vN, Nat.add_mul];omega
    rw [upW, upN, vN, this, kH sg k]
theorem gW {sg : List L} : ∀ {k : Nat} {w : List L}, w.length≤k → (∀ x∈w, x∈sg) → w∈upW sg k
  | 0, [], _, _ => by simp [upW]
  | 0, x::r, h, _ => by simp at h
  | k+1, [], _, _ => vz
  | k+1, x::r, h, hs => vq _ (wB.mpr ⟨r, gW (by simpa using h) fun y hy => hs y (vq _ hy), vH.mpr ⟨x, hs x vz, rfl⟩⟩)
theorem gX {sg : List L} : ∀ {k : Nat} {w : List L}, w∈upW sg k → w.length≤k ∧ ∀ x∈w, x∈sg
  | 0, w, h => by
    rw [vf.mp h]
    exact ⟨vd _, fun x hx => absurd hx vA⟩
  | k+1, w, h => by
    rcases vt.mp h with rfl | h
    · exact ⟨vR _, fun x hx => absurd hx vA⟩
    · obtain ⟨v, hv, h⟩ := wB.mp h
      obtain ⟨x, hx, rfl⟩ := vH.mp h
      obtain ⟨h1, h2⟩ := gX hv
      refine ⟨by rw [vN];omega, fun y hy => ?_⟩
      rcases vt.mp hy with rfl | hy
      · exact hx
      · exact h2 y hy
theorem kI {sg : List L}{bar : List (List L)}{k : Nat}{t b : List L}(ht : t∈upW sg k)(hb : b∈dtl sg bar k t) : b∈upW sg k := by
  unfold dtl at hb
  obtain ⟨x, hx, rfl⟩ := vH.mp hb
  have hx := (xf.mp hx).1
  refine gW (by rw [cR];omega) fun y hy => ?_
  rcases vK.mp ((dG k _).mem hy) with q | q
  · exact (gX ht).2 y q
  · rw [vf.mp q];exact hx
def gq (m : Nat)(W : List (List L))(k : Nat) : List Int := (List.range k).map fun n => ((avs (sgN m) (barP m W) n).length : Int)
theorem kJ (m : Nat)(W : List (List L))(k : Nat) : gq m W (k+1)=gq m W k++[((avs (sgN m) (barP m W) k).length : Int)] := by unfold gq; rw [xl, vw]; rfl
theorem gr {f g : List L → List (List L)}(h : ∀ w, (f w).Perm (g w)) : ∀ (l : List (List L)), (l.flatMap f).Perm (l.flatMap g)
  | [] => List.Perm.refl _
  | w::l => by rw [vT, vT];exact (h w).append (gr h l)
theorem fc {sg sg' : List L}(p : sg.Perm sg')(bar : List (List L)) : ∀ n, (avs sg bar n).Perm (avs sg' bar n)
  | 0 => List.Perm.refl _
  | n+1 => ((fc p bar n).flatMap_right _).trans (gr (fun w => (p.filter _).map _) _)
theorem iK : ∀ m, m≤6 → (sgP m).Perm (sgN m) := by decide
theorem mX {m : Nat}(m6 : m≤6)(W : List (List L))(k : Nat) : uw m W k=gq m W k := by
  unfold uw gq
  refine wL fun n _ => ?_
  rw [(fc (iK m m6) (barP m W) n).length_eq]
theorem kK {m : Nat}(m6 : m≤6)(bar : List (List L)) : ∀ n, (avs (sgN m) bar n).length≤12 ^ n
  | 0 => vd _
  | n+1 => by
    have hs : (sgN m).length≤12 := by unfold sgN;rw [vb, vC, vC];show min m 6+min m 6≤12;omega
    have : ∀ l : List (List L), (l.flatMap (nxt (sgN m) bar)).length≤l.length*12 := fun l => by
      induction l with
      | nil => simp
      | cons w r ih =>
        have : (nxt (sgN m) bar w).length≤12 := by unfold nxt;rw [fu];exact vI (xk _ _) hs
        rw [vT, vb, vN, Nat.add_mul]
        omega
    rw [avs, Nat.pow_succ]
    exact vI (this _) (xr _ (kK m6 bar n))
inductive fe (vs : List L2.V)(H : Hp)(Q : VK)(E : XK) : Prop
  | mk : ∀ (m k N : Nat) (a : Addr) (W : List (List L)), vs=[.int (m : Int), .ref a, .int (k : Int), .int (N : Int)] → 1≤m → m≤6 → 1≤k → k≤20 → H a=some (.lst (W.map tx)) → []∉W → W.length≤100 → (∀ w∈W, w.length≤k+1) → N≤100 → upN (sgN m).length k≤100000 → (∀ (l : Addr) (H' : Hp), H l=none → H' l=some (.lst ((gq m W (N+1)).map L2.V.int)) → aw H H' → Q (.ref l) H') → fe vs H Q E
theorem pb {H : Hp}{d l : Addr}{o : HO}{ws : List (List L)}(F : Fd H d)(h : H l=some (.lst (ws.map tx)))(n : l≠d) : Fd (L2.upd H l o) d := by
  obtain ⟨c, i, ll, t, ns, h1, h2, h3, h4⟩ := F.ex
  have hc : c≠l := fun e => by
    subst e
    rw [h2] at h
    have h := HO.lst.inj (vp h)
    cases ns with
    | nil => exact h3 rfl
    | cons a r =>
      cases ws with
      | nil => cases h
      | cons w ws => cases h
  exact ⟨c, i, ll, t, ns, by rw [aj n.symm];exact h1, by rw [aj hc];exact h2, h3, h4⟩
theorem dJ (ws : List (List L)) : (PyData.list (dws ws)).canLay0=true := by
  have : dws ws=ws.map fun u => .str (toS u) := rfl
  rw [this]
  exact gm ws
end Kx
namespace Dm
open Lean.Grind
section
variable {R : Type} [CommRing R]
def sR (f : Nat → R) : Nat → R
  | 0 => 0
  | n+1 => sR f n+f n
theorem sR_congr {f g : Nat → R} : ∀ {n : Nat}, (∀ i, i < n → f i=g i) → sR f n=sR g n
  | 0, _ => rfl
  | n+1, h => by
    show sR f n+f n=sR g n+g n
    rw [sR_congr fun i hi => h i (by omega), h n (by omega)]
theorem sR_lin (a b : R)(f g : Nat → R) : ∀ n : Nat, sR (fun i => a*f i+b*g i) n=a*sR f n+b*sR g n
  | 0 => by show (0 : R)=a*0+b*0;grind
  | n+1 => by
    show sR _ n+_=a*(sR f n+f n)+b*(sR g n+g n)
    rw [sR_lin a b f g n]
    grind
theorem sR_zero {f : Nat → R}{n : Nat}(h : ∀ i, i < n → f i=0) : sR f n=0 := by
  rw [sR_congr (g := fun _ => 0) h]
  clear h
  induction n with
  | zero => rfl
  | succ n ih => show sR _ n+0=0;rw [ih];grind
theorem sR_swap (F : Nat → Nat → R)(m : Nat) : ∀ n : Nat, sR (fun i => sR (fun j => F i j) m) n=sR (fun j => sR (fun i => F i j) n) m
  | 0 => by
    show (0 : R)=_
    exact (sR_zero fun i _ => rfl).symm
  | n+1 => by
    show sR _ n+sR _ m=_
    rw [sR_swap F m n]
    have := sR_lin 1 1 (fun j => sR (fun i => F i j) n) (fun j => F n j) m
    have e : sR (fun j => sR (fun i => F i j) (n+1)) m=sR (fun i => 1*(fun j => sR (fun i => F i j) n) i+1*(fun j => F n j) i) m := sR_congr fun j _ => by
      show sR (fun i => F i j) n+F n j=1*_+1*_
      grind
    rw [e, this]
    grind
def sk (i r : Nat) : Nat := if r < i then r else r+1
theorem sR_skip (f : Nat → R) : ∀ {n i : Nat}, i≤n → sR f (n+1)=f i+sR (fun k => f (sk i k)) n
  | 0, i, h => by
    obtain rfl : i=0 := by omega
    show (0 : R)+f 0=f 0+0
    grind
  | n+1, i, h => by
    show sR f (n+1)+f (n+1)=f i+(sR (fun k => f (sk i k)) n+f (sk i n))
    by_cases c : i=n+1
    · subst c
      have e : sR (fun k => f (sk (n+1) k)) n+f (sk (n+1) n)=sR f n+f n := by
        have e1 : sR (fun k => f (sk (n+1) k)) n=sR f n := sR_congr fun k hk => by unfold sk;rw [if_pos (by omega)]
        rw [e1]
        unfold sk
        rw [if_pos (by omega)]
      rw [e]
      show (sR f n+f n)+_=_
      grind
    · rw [sR_skip f (n := n) (i := i) (by omega)]
      have : sk i n=n+1 := by unfold sk;rw [if_neg (by omega)]
      rw [this]
      grind
def sg : Nat → R
  | 0 => 1
  | i+1 => -sg i
def det : Nat → (Nat → Nat → R) → R
  | 0, _ => 1
  | n+1, M => sR (fun i => sg i*M i 0*det n (fun r c => M (sk i r) (c+1))) (n+1)
def up (M : Nat → Nat → R)(r : Nat)(u : Nat → R) : Nat → Nat → R := fun i c => if i=r then u c else M i c
theorem cn (M : Nat → Nat → R)(r : Nat)(u : Nat → R)(c : Nat) : up M r u r c=u c := if_pos rfl
theorem d3 {M : Nat → Nat → R}{r i : Nat}{u : Nat → R}(h : i≠r)(c : Nat) : up M r u i c=M i c := if_neg h
theorem gs : ∀ {n : Nat} {M N : Nat → Nat → R}, (∀ i c, i < n → c < n → M i c=N i c) → det n M=det n N
  | 0, _, _, _ => rfl
  | n+1, M, N, h => sR_congr fun i hi => by
    rw [h i 0 hi (by omega), gs (n := n) (M := fun r c => M (sk i r) (c+1)) (N := fun r c => N (sk i r) (c+1)) fun r c hr hc => h _ _ (by unfold sk;split <;> omega) (by omega)]
def un (i r : Nat) : Nat := if r < i then r else r - 1
theorem rA {i r : Nat}(h : r≠i)(k : Nat) : sk i k=r ↔ k=un i r := by unfold sk un; (repeat' split) <;> omega
theorem de {M : Nat → Nat → R}{i r : Nat}(h : r≠i)(u : Nat → R) : (fun k c => up M r u (sk i k) (c+1))=up (fun k c => M (sk i k) (c+1)) (un i r) (fun c => u (c+1)) := by
  funext k c
  unfold up
  by_cases e : k=un i r
  · rw [if_pos e, if_pos ((rA h k).mpr e)]
  · rw [if_neg e, if_neg fun z => e ((rA h k).mp z)]
theorem bj {M : Nat → Nat → R}{r : Nat}(u : Nat → R) : (fun k c => up M r u (sk r k) (c+1))=(fun k c => M (sk r k) (c+1)) := by
  funext k c
  exact d3 (by unfold sk;split <;> omega) _
theorem dM (a b : R) : ∀ {n : Nat} {M : Nat → Nat → R} {r : Nat} (u v : Nat → R), r < n → det n (up M r fun c => a*u c+b*v c)=a*det n (up M r u)+b*det n (up M r v)
  | 0, _, _, _, _, h => by omega
  | n+1, M, r, u, v, h => by
    unfold det
    rw [← sR_lin]
    refine sR_congr fun i hi => ?_
    by_cases e : r=i
    · subst e
      rw [bj, bj, bj, cn, cn, cn]
      grind
    · rw [de e, de e, de e, d3 (Ne.symm e), d3 (Ne.symm e), d3 (Ne.symm e), dM a b (fun c => u (c+1)) (fun c => v (c+1)) (by unfold un;split <;> omega)]
      grind
theorem n_ {f : Nat → R}{r : Nat}(h1 : f r+f (r+1)=0) : ∀ {n : Nat}, (∀ i, i < n → i≠r → i≠r+1 → f i=0) → r+1 < n → sR f n=0
  | 0, _, h => by omega
  | n+1, h0, h => by
    show sR f n+f n=0
    by_cases e : n=r+1
    · subst e
      show (sR f r+f r)+f (r+1)=0
      rw [sR_zero fun i hi => h0 i (by omega) (by omega) (by omega)]
      grind
    · rw [n_ h1 (n := n) (fun i hi => h0 i (by omega)) (by omega), h0 n (by omega) (by omega) e]
      grind
theorem gY : ∀ {n : Nat} {M : Nat → Nat → R} {r : Nat}, r+1 < n → (∀ c, M r c=M (r+1) c) → det n M=0
  | 0, _, _, h, _ => by omega
  | n+1, M, r, h, e => by
    unfold det
    refine n_ (r := r) ?_ (fun i hn h1 h2 => ?_) h
    · have em : (fun k c => M (sk r k) (c+1))=(fun k c => M (sk (r+1) k) (c+1)) := by
        funext k c
        by_cases ek : k=r
        · subst ek
          have a1 : sk k k=k+1 := by unfold sk;split <;> omega
          have a2 : sk (k+1) k=k := by unfold sk;split <;> omega
          rw [a1, a2, e]
        · have : sk r k=sk (r+1) k := by unfold sk;split <;> split <;> omega
          rw [this]
      rw [em, e 0]
      show sg r*_*_ + -sg r*_*_=0
      grind
    · rw [gY (n := n) (r := un i r) (by unfold un;split <;> omega) fun c => by
        show M (sk i (un i r)) _=M (sk i (un i r+1)) _
        have a1 : sk i (un i r)=r := by unfold sk un;(repeat' split) <;> omega
        have a2 : sk i (un i r+1)=r+1 := by unfold sk un;(repeat' split) <;> omega
        rw [a1, a2]
        exact e _]
      grind
theorem gZ (M : Nat → Nat → R)(r : Nat) : up M r (M r)=M := by
  funext i c
  unfold up
  by_cases h : i=r
  · rw [if_pos h, h]
  · rw [if_neg h]
theorem g0 (M : Nat → Nat → R){r s : Nat}(h : r≠s)(u v : Nat → R) : up (up M r u) s v=up (up M s v) r u := by
  funext i c
  unfold up
  by_cases h1 : i=r
  · subst h1;rw [if_neg h, if_pos rfl, if_pos rfl]
  · rw [if_neg h1, if_neg h1]
theorem mY {n : Nat}{M : Nat → Nat → R}{r : Nat}(h : r+1 < n)(u v : Nat → R) : det n (up (up M r u) (r+1) v) = -det n (up (up M r v) (r+1) u) := by
  have ne : r≠r+1 := by omega
  have z : ∀ w : Nat → R, det n (up (up M r w) (r+1) w)=0 := fun w => gY h fun c => by rw [cn, d3 ne, cn]
  have l1 : ∀ x y w : Nat → R, det n (up (up M r w) (r+1) fun c => 1*x c+1*y c)=1*det n (up (up M r w) (r+1) x)+1*det n (up (up M r w) (r+1) y) := fun x y w => dM 1 1 x y h
  have l2 : ∀ x y w : Nat → R, det n (up (up M r fun c => 1*x c+1*y c) (r+1) w)=1*det n (up (up M r x) (r+1) w)+1*det n (up (up M r y) (r+1) w) := fun x y w => by
    rw [g0 M ne, g0 M ne, g0 M ne]
    exact dM 1 1 x y (by omega)
  have h0 := z fun c => 1*u c+1*v c
  rw [l1, l2, l2] at h0
  have h1 := z u
  have h2 := z v
  grind
theorem g6 {n : Nat} : ∀ {d r : Nat} {M : Nat → Nat → R}, r+d+1 < n → (∀ c, M r c=M (r+d+1) c) → det n M=0
  | 0, r, M, h, e => gY h e
  | d+1, r, M, h, e => by
    have e1 : M=up (up M (r+d+1) (M (r+d+1))) (r+d+1+1) (M (r+d+1+1)) := by rw [gZ, gZ]
    rw [e1, mY (by omega), g6 (d := d) (r := r) (by omega) fun c => by
      rw [d3 (by omega), d3 (by omega), d3 (by omega), cn]
      exact e c]
    grind
theorem mZ {n r s : Nat}{M : Nat → Nat → R}(hr : r < n)(hs : s < n)(ne : r≠s)(e : ∀ c, M r c=M s c) : det n M=0 := by
  by_cases c : r < s
  · exact g6 (d := s - r - 1) (r := r) (by omega) fun c => by rw [show r+(s - r - 1)+1=s by omega];exact e c
  · exact g6 (d := r - s - 1) (r := s) (by omega) fun c => by rw [show s+(r - s - 1)+1=r by omega];exact (e c).symm
def ei (j c : Nat) : R := if c=j then 1 else 0
def cf (n : Nat)(M : Nat → Nat → R)(i j : Nat) : R := det n (up M i (ei j))
theorem kL {n i : Nat}{M : Nat → Nat → R}(hi : i < n)(a : Nat → R) : ∀ m : Nat, det n (up M i fun c => sR (fun j => a j*ei j c) m)=sR (fun j => a j*cf n M i j) m
  | 0 => by
    show det n (up M i fun c => (0 : R))=0
    have := dM (0 : R) 0 (M := M) (fun _ => 0) (fun _ => 0) hi
    have e : (fun _ : Nat => (0 : R)*0+0*0)=fun _ => 0 := by funext c;grind
    rw [e] at this
    grind
  | m+1 => by
    show det n (up M i fun c => sR (fun j => a j*ei j c) m+a m*ei m c)=sR (fun j => a j*cf n M i j) m+a m*cf n M i m
    have := dM (1 : R) (a m) (M := M) (fun c => sR (fun j => a j*ei j c) m) (ei m) hi
    have e : (fun c => (1 : R)*sR (fun j => a j*ei j c) m+a m*ei m c)=fun c => sR (fun j => a j*ei j c) m+a m*ei m c := by funext c;grind
    rw [e] at this
    rw [this, kL hi a m]
    unfold cf
    grind
theorem sum_ei (a : Nat → R){n c : Nat}(h : c < n) : sR (fun j => a j*ei j c) n=a c := by
  obtain ⟨m, rfl⟩ : ∃ m, n=m+1 := ⟨n - 1, by omega⟩
  rw [sR_skip _ (show c≤m by omega), sR_zero fun k hk => by
    have : c≠sk c k := by unfold sk;split <;> omega
    unfold ei
    rw [if_neg this]
    grind]
  unfold ei
  rw [if_pos rfl]
  grind
theorem iL {n i : Nat}{M : Nat → Nat → R}(hi : i < n)(a : Nat → R) : det n (up M i a)=sR (fun j => a j*cf n M i j) n := by
  rw [← kL hi]
  refine gs fun r c hr hc => ?_
  unfold up
  by_cases e : r=i
  · rw [if_pos e, if_pos e]
    exact (sum_ei a hc).symm
  · rw [if_neg e, if_neg e]
theorem rB {n i k : Nat}{M : Nat → Nat → R}(hi : i < n)(hk : k < n) : sR (fun j => M k j*cf n M i j) n=if k=i then det n M else 0 := by
  rw [← iL hi]
  by_cases e : k=i
  · subst e;rw [if_pos rfl, gZ]
  · rw [if_neg e]
    exact mZ hi hk (Ne.symm e) fun c => by rw [cn, d3 e]
structure Der (D : R → R) : Prop where
  add : ∀ a b, D (a+b)=D a+D b
  mul : ∀ a b, D (a*b)=D a*b+a*D b
theorem Der.one {D : R → R}(h : Der D) : D 1=0 := by
  have := h.mul 1 1
  have e : (1 : R)*1=1 := by grind
  rw [e] at this
  grind
theorem Der.zero {D : R → R}(h : Der D) : D 0=0 := by
  have := h.add 0 0
  have e : (0 : R)+0=0 := by grind
  rw [e] at this
  grind
theorem Der.sg {D : R → R}(h : Der D) : ∀ i, D (sg i)=0
  | 0 => h.one
  | i+1 => by
    have := h.add (Dm.sg i) (-Dm.sg i)
    have e : Dm.sg i + -Dm.sg i=(0 : R) := by grind
    rw [e, h.zero, h.sg i] at this
    show D (-Dm.sg i)=0
    grind
theorem Der.sum {D : R → R}(h : Der D)(f : Nat → R) : ∀ n, D (sR f n)=sR (fun i => D (f i)) n
  | 0 => h.zero
  | n+1 => by
    show D (sR f n+f n)=_
    rw [h.add, h.sum f n]
    rfl
theorem kM {D : R → R}(h : Der D) : ∀ (n : Nat) (M : Nat → Nat → R), D (det n M)=sR (fun i => det n (up M i fun c => D (M i c))) n
  | 0, M => h.one
  | n+1, M => by
    show D (sR _ (n+1))=_
    rw [h.sum]
    have e1 : ∀ i, i < n+1 → D (sg i*M i 0*det n (fun r c => M (sk i r) (c+1)))=sR (fun r => sg i*up M r (fun c => D (M r c)) i 0*det n (fun k c => up M r (fun c => D (M r c)) (sk i k) (c+1))) (n+1) := fun i hi => by
      rw [sR_skip _ (show i≤n by omega), cn, bj, h.mul, h.mul, h.sg, kM h n]
      have e2 : sR (fun k => sg i*up M (sk i k) (fun c => D (M (sk i k) c)) i 0*det n (fun k' c => up M (sk i k) (fun c => D (M (sk i k) c)) (sk i k') (c+1))) n=sR (fun k => (sg i*M i 0)*det n (up (fun r c => M (sk i r) (c+1)) k fun c => D (M (sk i k) (c+1)))+0*0) n := sR_congr fun k hk => by
        have ne : sk i k≠i := by unfold sk;split <;> omega
        rw [d3 (Ne.symm ne), de ne]
        have : un i (sk i k)=k := by unfold un sk;(repeat' split) <;> omega
        rw [this]
        grind
      rw [e2, sR_lin (sg i*M i 0) 0 (fun k => det n (up (fun r c => M (sk i r) (c+1)) k fun c => D (M (sk i k) (c+1)))) (fun _ => 0)]
      grind
    rw [sR_congr e1, sR_swap]
    rfl
end
def PS := Nat → Int
namespace PS
def tl (f : PS) : PS := fun n => f (n+1)
def ux : PS → PS → Nat → Int
  | f, g, 0 => f 0*g 0
  | f, g, n+1 => f 0*g (n+1)+ux (tl f) g n
def cst (a : Int) : PS := fun n => if n=0 then a else 0
instance : Add PS := ⟨fun f g n => f n+g n⟩
instance : Neg PS := ⟨fun f n => -f n⟩
instance : Sub PS := ⟨fun f g n => f n - g n⟩
instance : Mul PS := ⟨fun f g => ux f g⟩
theorem bE (f g : PS)(n : Nat) : (f+g) n=f n+g n := rfl
theorem rD (f : PS)(n : Nat) : (-f) n = -f n := rfl
theorem fh (f g : PS) : (f*g) 0=f 0*g 0 := rfl
theorem cq (f g : PS)(n : Nat) : (f*g) (n+1)=f 0*g (n+1)+(tl f*g) n := rfl
theorem oa : ∀ (n : Nat) (f g : PS), (f*g) (n+1)=f (n+1)*g 0+(f*tl g) n
  | 0, f, g => by
    show f 0*g 1+f 1*g 0=f 1*g 0+f 0*g 1
    omega
  | n+1, f, g => by
    rw [cq, oa n, cq]
    show f 0*g (n+1+1)+(f (n+1+1)*g 0+(tl f*tl g) n)=f (n+1+1)*g 0+(f 0*g (n+1+1)+(tl f*tl g) n)
    omega
theorem pd : ∀ (n : Nat) (f g : PS), (f*g) n=(g*f) n
  | 0, f, g => Int.mul_comm _ _
  | n+1, f, g => by
    rw [cq, oa, pd n (tl f) g, Int.mul_comm]
theorem pe : ∀ (n : Nat) (f g h : PS), (f*(g+h)) n=(f*g) n+(f*h) n
  | 0, f, g, h => yU _ _ _
  | n+1, f, g, h => by
    rw [cq, cq, cq, pe n, bE, yU]
    omega
theorem pf (n : Nat)(f g h : PS) : ((f+g)*h) n=(f*h) n+(g*h) n := by rw [pd, pe, pd n h f, pd n h g]
theorem bf (a : Int)(f : PS) : ∀ n, (cst a*f) n=a*f n
  | 0 => rfl
  | n+1 => by
    rw [cq]
    have : ∀ (m : Nat) (z : PS), (∀ k, z k=0) → (z*f) m=0 := fun m => by
      induction m with
      | zero => intro z hz;rw [fh, hz, zp]
      | succ m ih => intro z hz;rw [cq, hz, ih (tl z) fun k => hz _];omega
    rw [this n (tl (cst a)) fun k => rfl]
    show a*_+0=_
    omega
theorem rE (f g : PS) : tl (f*g)=cst (f 0)*tl g+tl f*g := by
  funext n
  rw [bE, bf]
  rfl
theorem rF : ∀ (n : Nat) (f g h : PS), (f*g*h) n=(f*(g*h)) n
  | 0, f, g, h => yV _ _ _
  | n+1, f, g, h => by
    have sm : ∀ (a : Int) (x : PS) (m : Nat), (cst a*x*h) m=a*(x*h) m := fun a x m => by
      induction m generalizing x with
      | zero => rw [fh, fh, fh];exact yV _ _ _
      | succ m ih =>
        rw [cq, cq]
        have : tl (cst a*x)=cst a*tl x := by
          funext k
          show (cst a*x) (k+1)=_
          rw [bf, bf]
          rfl
        rw [this, ih, bf, yU, yV]
    rw [cq, cq, rE, pf, sm, rF n (tl f), fh, cq, yU, yV]
    omega
instance : NatCast PS := ⟨fun n => cst n⟩
instance : IntCast PS := ⟨cst⟩
instance (n : Nat) : OfNat PS n := ⟨cst n⟩
def npw (f : PS) : Nat → PS
  | 0 => 1
  | n+1 => npw f n*f
instance : HPow PS Nat PS := ⟨npw⟩
instance : SMul Nat PS := ⟨fun n f => (n : PS)*f⟩
instance : SMul Int PS := ⟨fun n f => (n : PS)*f⟩
theorem cu (n : Nat) : (0 : PS) n=0 := by show (if n=0 then (0 : Int) else 0)=0; split <;> rfl
theorem iM (f : PS) : (1 : PS)*f=f := by
  funext n
  show (cst 1*f) n=_
  rw [bf]
  omega
instance : Lean.Grind.Semiring PS where
  add_zero f := by funext n;rw [bE, cu];omega
  add_comm f g := by funext n;rw [bE, bE];omega
  add_assoc f g h := by funext n;rw [bE, bE, bE, bE];omega
  mul_assoc f g h := funext fun n => rF n f g h
  mul_one f := by funext n;rw [pd, iM]
  one_mul f := iM f
  left_distrib f g h := funext fun n => pe n f g h
  right_distrib f g h := funext fun n => pf n f g h
  zero_mul f := by funext n;show (cst 0*f) n=_;rw [bf, cu];omega
  mul_zero f := by funext n;rw [pd];show (cst 0*f) n=_;rw [bf, cu];omega
  pow_zero f := rfl
  pow_succ f n := rfl
  ofNat_succ n := by
    funext k
    show cst ((n+1 : Nat) : Int) k=cst (n : Int) k+cst 1 k
    unfold cst
    split <;> omega
instance : Lean.Grind.Ring PS where
  neg_add_cancel f := by funext n;rw [bE, rD, cu];omega
  sub_eq_add_neg f g := by funext n;show f n - g n=f n + -g n;omega
  neg_zsmul i f := by
    funext n
    show (cst (-i)*f) n = -(cst i*f) n
    rw [bf, bf, Int.neg_mul]
  zsmul_natCast_eq_nsmul n f := rfl
  intCast_ofNat n := rfl
  intCast_neg i := by
    funext n
    show cst (-i) n = -cst i n
    unfold cst
    split <;> omega
instance : Lean.Grind.CommRing PS where
  mul_comm f g := funext fun n => pd n f g
def lin (a b : Int) : PS := fun n => if n=0 then a else if n=1 then b else 0
theorem tP (a b : Int)(f : PS) : (lin a b*f) 0=a*f 0 := rfl
theorem tQ (a b : Int)(f : PS)(n : Nat) : (lin a b*f) (n+1)=a*f (n+1)+b*f n := by
  rw [cq]
  have : tl (lin a b)=cst b := by
    funext k
    unfold tl lin cst
    cases k with
    | zero => rfl
    | succ k => rw [if_neg (by omega), if_neg (by omega), if_neg (by omega)]
  rw [this, bf]
  rfl
theorem gu (f : Nat → PS)(k : Nat) : ∀ n, (sR f n) k=sR (fun i => f i k) n
  | 0 => cu k
  | n+1 => by
    show (sR f n+f n) k=sR (fun i => f i k) n+f n k
    rw [bE, gu f k n]
def dr (f : PS) : PS := fun n => ((n : Int)+1)*f (n+1)
theorem der : Der dr := by
  refine ⟨fun a b => ?_, fun a b => ?_⟩
  · funext n
    show ((n : Int)+1)*(a (n+1)+b (n+1))=((n : Int)+1)*a (n+1)+((n : Int)+1)*b (n+1)
    exact yU _ _ _
  · funext n
    induction n generalizing a with
    | zero =>
      show ((0 : Int)+1)*(a 0*b 1+a 1*b 0)=((0+1)*a 1)*b 0+a 0*((0+1)*b 1)
      grind
    | succ n ih =>
      have h1 := ih (tl a)
      have h2 : dr (a*b) (n+1)=((n : Int)+2)*(a*b) (n+2) := by
        show (((n+1 : Nat) : Int)+1)*(a*b) (n+2)=_
        rw [show (((n+1 : Nat) : Int)+1)=(n : Int)+2 by omega]
      have h3 : (a*b) (n+2)=a 0*b (n+2)+(tl a*b) (n+1) := rfl
      have h4 : dr (tl a*b) n=((n : Int)+1)*(tl a*b) (n+1) := rfl
      have h5 : (dr a*b) (n+1)=a 1*b (n+1)+(tl (dr a)*b) n := by
        rw [cq]
        show ((0 : Int)+1)*a 1*b (n+1)+_=_
        rw [xC, yW]
      have h6 : (a*dr b) (n+1)=a 0*(((n : Int)+2)*b (n+2))+(tl a*dr b) n := by
        rw [cq]
        have : dr b (n+1)=((n : Int)+2)*b (n+2) := by
          show (((n+1 : Nat) : Int)+1)*b (n+2)=_
          rw [show (((n+1 : Nat) : Int)+1)=(n : Int)+2 by omega]
        rw [this]
      have h7 : tl (dr a)=dr (tl a)+tl (tl a) := by
        funext k
        show (((k+1 : Nat) : Int)+1)*a (k+2)=((k : Int)+1)*a (k+2)+a (k+2)
        rw [show (((k+1 : Nat) : Int)+1)=((k : Int)+1)+1 by omega, Int.add_mul, yW]
      have h8 : (tl a*b) (n+1)=a 1*b (n+1)+(tl (tl a)*b) n := rfl
      rw [bE] at h1
      rw [bE, h2, h3, h5, h6, h7, pf]
      grind
def dg (f : PS)(d : Nat) : Prop := ∀ k, d < k → f k=0
theorem kN : ∀ {a b : Nat} {f g : PS}, dg f a → dg g b → dg (f*g) (a+b)
  | 0, b, f, g, hf, hg => fun k hk => by
    have e : f=cst (f 0) := by
      funext m
      unfold cst
      split
      · rename_i h;rw [h]
      · exact hf m (by omega)
    rw [e, bf, hg k (by omega)]
    exact zq _
  | a+1, b, f, g, hf, hg => fun k hk => by
    obtain ⟨m, rfl⟩ : ∃ m, k=m+1 := ⟨k - 1, by omega⟩
    rw [cq, hg (m+1) (by omega), kN (a := a) (f := tl f) (fun k hk => hf (k+1) (by omega)) hg m (by omega)]
    omega
theorem og {f : Nat → PS}{d : Nat} : ∀ {n : Nat}, (∀ i, i < n → dg (f i) d) → dg (sR f n) d
  | 0, _ => fun k _ => cu k
  | n+1, h => fun k hk => by
    show (sR f n+f n) k=0
    rw [bE, og (n := n) (fun i hi => h i (by omega)) k hk, h n (by omega) k hk]
    rfl
theorem rG : ∀ i, dg (sg i) 0
  | 0 => fun k hk => by show cst 1 k=0;unfold cst;rw [if_neg (by omega)]
  | i+1 => fun k hk => by show -(sg i : PS) k=0;rw [rG i k hk];rfl
def sN (d : Nat → Nat) : Nat → Nat
  | 0 => 0
  | n+1 => sN d n+d n
theorem g9 (f : Nat → Nat) : ∀ {n i : Nat}, i≤n → sN f (n+1)=f i+sN (fun k => f (sk i k)) n
  | 0, i, h => by
    obtain rfl : i=0 := by omega
    show 0+f 0=f 0+0
    omega
  | n+1, i, h => by
    show sN f (n+1)+f (n+1)=f i+(sN (fun k => f (sk i k)) n+f (sk i n))
    by_cases c : i=n+1
    · subst c
      have e1 : ∀ m, m≤n+1 → sN (fun k => f (sk (n+1) k)) m=sN f m := fun m hm => by
        induction m with
        | zero => rfl
        | succ m ih =>
          show sN _ m+f (sk (n+1) m)=sN f m+f m
          rw [ih (by omega)]
          unfold sk
          rw [if_pos (by omega)]
      have := e1 (n+1) (vd _)
      have e2 : sN (fun k => f (sk (n+1) k)) (n+1)=sN (fun k => f (sk (n+1) k)) n+f (sk (n+1) n) := rfl
      omega
    · rw [g9 f (n := n) (i := i) (by omega)]
      have : sk i n=n+1 := by unfold sk;rw [if_neg (by omega)]
      rw [this]
      omega
theorem oh : ∀ {n : Nat} {M : Nat → Nat → PS} {d : Nat → Nat}, (∀ i c, i < n → dg (M i c) (d i)) → dg (det n M) (sN d n)
  | 0, _, _, _ => fun k hk => by show cst 1 k=0;unfold cst;rw [if_neg (by omega)]
  | n+1, M, d, h => by
    refine og fun i hi => ?_
    rw [g9 d (show i≤n by omega)]
    have h1 := kN (kN (rG i) (h i 0 hi)) (oh (n := n) (M := fun r c => M (sk i r) (c+1)) (d := fun k => d (sk i k)) fun r c hr => h _ _ (by unfold sk;split <;> omega))
    rw [zo] at h1
    exact h1
theorem gw : ∀ {n : Nat} {M : Nat → Nat → PS}, (∀ i c, M i c 0=if i=c then 1 else 0) → (det n M) 0=1
  | 0, _, _ => rfl
  | n+1, M, h => by
    show (sR _ (n+1) : PS) 0=1
    rw [gu, sR_skip _ (vR n), sR_zero fun k hk => by
      have e : sk 0 k=k+1 := rfl
      rw [e, fh, fh, h, if_neg (by omega)]
      grind]
    rw [fh, fh, h, if_pos rfl, gw (n := n) fun i c => by
      show M (sk 0 i) (c+1) 0=_
      have e : sk 0 i=i+1 := rfl
      rw [e, h]
      by_cases z : i=c
      · rw [if_pos z, if_pos (by omega)]
      · rw [if_neg z, if_neg (by omega)]]
    show (1 : Int)*1*1+0=1
    rfl
end PS
open PS
theorem fad (n : Nat)(n1 : 1≤n)(A : Nat → Nat → Int) : ∃ (q : Nat → Int) (B : Nat → Nat → Nat → Int), q 0=1 ∧ (∀ k i, k < n → i < n → B 0 k i=if k=i then 1 else 0) ∧
    (∀ m k i, k < n → i < n → B (m+1) k i=sR (fun j => A k j*B m j i) n+if k=i then q (m+1) else 0) ∧
    (∀ m : Nat, ((m : Int)+1)*q (m+1) = -sR (fun i => sR (fun c => A i c*B m c i) n) n) ∧ ∀ k i, k < n → i < n → B n k i=0 := by
  let M : Nat → Nat → PS := fun i c => lin (if i=c then 1 else 0) (-A i c)
  have q0 : (det n M) 0=1 := gw fun i c => rfl
  have cr : ∀ k i, k < n → i < n → ∀ m, sR (fun j => (M k j*cf n M i j) m) n=if k=i then (det n M) m else 0 := fun k i hk hi m => by
    have this : (sR (fun j => M k j*cf n M i j) n : PS) m=(if k=i then det n M else 0 : PS) m := v5 (fun f : PS => f m) (rB (M := M) hi hk)
    rw [gu] at this
    rw [this]
    split
    · rfl
    · exact cu m
  have pick : ∀ (f : Nat → Int) (k : Nat), k < n → sR (fun j => (if k=j then 1 else 0)*f j) n=f k := fun f k hk => by
    have := sum_ei (R := Int) f hk
    rw [← this]
    refine sR_congr fun j _ => ?_
    unfold ei
    split <;> grind
  refine ⟨fun m => (det n M) m, fun m k i => (cf n M i k) m, q0, fun k i hk hi => ?_, fun m k i hk hi => ?_, fun m => ?_, fun k i hk hi => ?_⟩
  · have h := cr k i hk hi 0
    have e : sR (fun j => (M k j*cf n M i j) 0) n=sR (fun j => (if k=j then 1 else 0)*(cf n M i j) 0) n := sR_congr fun j _ => tP _ _ _
    rw [e, pick (fun j => (cf n M i j) 0) k hk, q0] at h
    exact h
  · have h := cr k i hk hi (m+1)
    have e : sR (fun j => (M k j*cf n M i j) (m+1)) n=sR (fun j => 1*((if k=j then 1 else 0)*(cf n M i j) (m+1)) + -1*(A k j*(cf n M i j) m)) n := sR_congr fun j _ => by
      rw [tQ]
      grind
    rw [e, sR_lin (1 : Int) (-1) (fun j => (if k=j then 1 else 0)*(cf n M i j) (m+1)) (fun j => A k j*(cf n M i j) m), pick (fun j => (cf n M i j) (m+1)) k hk] at h
    show (cf n M i k) (m+1)=sR (fun j => A k j*(cf n M i j) m) n+_
    grind
  · have h : dr (det n M) m=(sR (fun i => det n (up M i fun c => dr (M i c))) n : PS) m := v5 (fun f : PS => f m) (kM der n M)
    rw [gu] at h
    have e0 : dr (det n M) m=((m : Int)+1)*(det n M) (m+1) := rfl
    rw [← e0, h]
    have e1 : sR (fun i => (det n (up M i fun c => dr (M i c))) m) n=sR (fun i => (-1)*sR (fun c => A i c*(cf n M i c) m) n+0*0) n := sR_congr fun i hi => by
      rw [iL hi, gu]
      have e2 : sR (fun j => (dr (M i j)*cf n M i j) m) n=sR (fun j => (-1)*(A i j*(cf n M i j) m)+0*0) n := sR_congr fun j _ => by
        have : dr (M i j)=cst (-A i j) := by
          funext k
          show ((k : Int)+1)*lin _ (-A i j) (k+1)=_
          unfold lin cst
          rw [if_neg (by omega)]
          cases k with
          | zero => rw [if_pos rfl, if_pos rfl];omega
          | succ k => rw [if_neg (by omega), if_neg (by omega), zq]
        rw [this, bf]
        grind
      rw [e2, sR_lin (-1 : Int) 0 (fun j => A i j*(cf n M i j) m) (fun _ => 0)]
      grind
    rw [e1, sR_lin (-1 : Int) 0 (fun i => sR (fun c => A i c*(cf n M i c) m) n) (fun _ => 0)]
    grind
  · show (cf n M i k) n=0
    have d := oh (n := n) (M := up M i (ei k)) (d := fun r => if r=i then 0 else 1) fun r c hr => by
      unfold up
      by_cases e : r=i
      · rw [if_pos e, if_pos e]
        intro m hm
        unfold ei
        split
        · show cst 1 m=0;unfold cst;rw [if_neg (by omega)]
        · exact cu m
      · rw [if_neg e, if_neg e]
        intro m hm
        show lin _ _ m=0
        unfold lin
        rw [if_neg (by omega), if_neg (by omega)]
    refine d n ?_
    obtain ⟨m, rfl⟩ : ∃ m, n=m+1 := ⟨n - 1, by omega⟩
    rw [g9 _ (show i≤m by omega)]
    show (if i=i then 0 else 1)+sN (fun k => if sk i k=i then 0 else 1) m < m+1
    rw [if_pos rfl]
    have : ∀ l, sN (fun k => if sk i k=i then 0 else 1) l≤l := fun l => by
      induction l with
      | zero => exact vd _
      | succ l ih =>
        show sN _ l+(if sk i l=i then 0 else 1)≤l+1
        split <;> omega
    have := this m
    omega
end Dm
namespace PySem
open Sem (wp)
section
variable {prog : Program} {w : World} {K : Type} [DecidableEq K] {knd : KeyKind prog w K} {A : Around} {E : Value → Shared → Prop} {s : Shared}
theorem kO {S : Addr}{Q : Bool → Shared → Prop}(hT : s.TypeIs (.ref S) "dict")(q : Q false s) : wpAny (model prog w) A (Builtin.List.listLengthHint (.ref S)) Q E s := by
  unfold Builtin.List.listLengthHint
  refine va (yd hT F.slot_dict_len.lookup ?_)
  generalize hid : ("dict.__len__" : String)=id0
  wp_delta
  rw [show splitId id0=some ("dict", "__len__") from by subst hid;decide +kernel]
  subst hid
  refine va (xU (T := "dict") (b := true) hT (by rw [xQ];kernel_rfl) ?_)
  refine y_ (fun no => absurd no (by decide)) fun _ => ?_
  refine y_ (fun _ => ?_) fun no => absurd (by decide +kernel) no
  refine va (wpAny_typeOf hT ?_)
  exact vE q
theorem g_ {R : Result → Shared → Prop}{S L : Addr}{kvs : List (K × Value)}{ep c0 : Nat}(hh : A.handled=none)(hd : (S == sysModules)=false)(b : s.heap.DictAt knd S kvs ep)(hz : kvs.length≤sizeLine)(res : Value)
    (hL : s.heap.get? L=some { cls := .type "list", data := .seq #[] c0 }) 
    (hR : ∀ h' tk acc c', (∀ b o, b≠L → s.heap.get? b=some o → h'.get? b=some o) → h'.get? L=some { cls := .type "list", dict := none, data := .seq acc c', slots := #[] } →
      ItemsOf (fun i v => ∃ k x, kvs[i]? = some (k, x) ∧ knd.is k v=true) acc kvs.length → R (.ok (.ret res)) { s with heap := h', toks := tk }) :
    wpAny (model prog w) A.in1 (Builtin.List.listExtendWith (.ref L) (.ref S) res)
      (fun fin s' => match fin with | .done f => R (.ok f) s' | .again c' => c'.quiet=true ∧ codeAny (model prog w) A c' R s') (fun e s' => R (.error e) s') s := by
  obtain ⟨o, es, e, x, d, r⟩ := id b
  have hT : s.TypeIs (.ref S) "dict" := ⟨o, e, x.1⟩
  have nLS : L≠S := fun z => by
    rw [z, e] at hL
    have := vp hL
    rw [this] at d
    cases d
  have lL := ve hL
  have lS := ve e
  unfold Builtin.List.listExtendWith
  refine va (wpAny_typeOf hT ?_)
  have n1 : Builtin.List.listSameRef (.ref L) (.ref S)=false := by simp [Builtin.List.listSameRef, nLS]
  have n2 : (Value.type "dict" == Value.type "list")=false := by decide
  have n3 : (Value.type "dict" == Value.type "tuple")=false := by decide
  simp only [n1, n2, n3, zh, yt, zi]
  refine va (yK hd b ?_)
  have nf : L∉[s.heap.objs.size, S] := fun hm => by
    simp only [vt, vA, xw] at hm
    rcases hm with z | z
    · rw [z] at lL;exact vO _ lL
    · exact nLS z
  have W := (Walks.dictKeys (knd := knd) (A := A.in1) hh s.heap.objs.size S (vG lS) kvs ep)
  have WS := W.toS
  generalize hob : ({ cls := .type "dict_keyiterator", data := _ } : Obj)=ob
  have k : ∀ b o, s.heap.get? b=some o → (s.heap.push ob).get? b=some o := fun b o q => u_ _ q
  have st0 : (s.heap.push ob).IsKeyIter s.heap.objs.size S 0 kvs.length ep ∧ (s.heap.push ob).DictAt knd S kvs ep := ⟨⟨_, vi _ (by rw [← hob];rfl), by rw [← hob], by rw [← hob];rfl⟩, b.at' fun o q => k S o q⟩
  generalize s.heap.push ob=h' at k st0 ⊢
  have go : ∀ (h2 : Heap) (c1 tk : Nat), (h2.IsKeyIter s.heap.objs.size S 0 kvs.length ep ∧ h2.DictAt knd S kvs ep) → (∀ b o, b≠L → h'.get? b=some o → h2.get? b=some o) → h2.get? L=some { cls := .type "list", data := .seq #[] c1 } →
      codeAny (model prog w) A (.builtin "list.extend.loop" ⟨[.ref L, .ref s.heap.objs.size, res], []⟩) R { s with heap := h2, toks := tk } := fun h2 c1 tk st2 k2 hL2 => by
    refine codeAny_extend_loopS WS hz L nf res kvs.length 0 _ #[] c1 (by omega) (vR _) st2 hL2 (ItemsOf.nil _) fun s2 acc c2 mv hL3 hI => ?_
    rw [Moved.eq_with mv]
    refine hR s2.heap s2.toks acc c2 (fun b o hb eb => mv.heap b o (fun hm => ?_) (k2 b o hb (k b o eb))) hL3 hI
    rcases vt.mp hm with z | z
    · exact hb z
    · rw [vf.mp z] at eb
      exact absurd (ve eb) (vO _)
  have hL1 := k L _ hL
  have hT1 : Shared.TypeIs { s with heap := h' } (.ref S) "dict" := ⟨o, k S o e, x.1⟩
  refine va (wpAny_holding (kO hT1 ?_))
  refine y_ (fun _ => ?_) fun _ => vE ⟨plainId_quiet F.plain_extend_loop _, go h' c0 _ st0 (fun _ _ _ eb => eb) hL1⟩
  refine va (zb ?_)
  refine va ?_
  show wpAny _ _ (updateSeq L (·.push .none) >>= fun _ => updateSeq L (·.pop)) _ _ _
  refine va (za hL1 rfl ?_)
  have hL2 := wu (Obj.mapSeq (·.push Value.none)) hL1 rfl
  refine za (hz := by seq_fits) hL2 rfl ?_
  have hL3 := wu (Obj.mapSeq (·.pop)) hL2 rfl
  have up : ∀ b o, b≠L → h'.get? b=some o → ((h'.update L (Obj.mapSeq (·.push Value.none))).update L (Obj.mapSeq (·.pop))).get? b=some o := fun b o hb eb =>
    (vQ _ _ (Ne.symm hb)).trans ((vQ _ _ (Ne.symm hb)).trans eb)
  exact vE ⟨plainId_quiet F.plain_extend_loop _, go _ _ _ (W.frame 0 h' _ st0 fun b hb o eb => up b o (fun z => nf (z ▸ hb)) eb) up hL3⟩
theorem d6 {R : Result → Shared → Prop}{r S : Addr}{kvs : List (K × Value)}{ep : Nat}(hh : A.handled=none)(hd : (r == sysModules)=false)(b : s.heap.DictAt knd r kvs ep)(hz : kvs.length≤sizeLine)
    (hS : s.heap.get? S=some { cls := .type "list", data := .seq #[] })
    (hR : ∀ h' tk acc' c', (∀ b o, b≠S → s.heap.get? b=some o → h'.get? b=some o) → h'.get? S=some { cls := .type "list", dict := none, data := .seq acc' c', slots := #[] } →
      ItemsOf (fun i v => ∃ k x, kvs[i]? = some (k, x) ∧ knd.is k v=true) acc' kvs.length → R (.ok (.ret .none)) { s with heap := h', toks := tk }) :
    wpAny (model prog w) A.in1 (Builtin.«list.__init__» ⟨[.ref S, .ref r], []⟩)
      (fun fin s' => match fin with | .done f => R (.ok f) s' | .again c' => c'.quiet=true ∧ codeAny (model prog w) A c' R s') (fun e s' => R (.error e) s') s := by
  obtain ⟨o, es, e, x, d, _⟩ := id b
  have hSr : S≠r := fun z => by
    rw [z, e] at hS
    have := vp hS
    rw [this] at d
    cases d
  show wpAny _ _ (do let old ← Builtin.List.listItems (.ref S);Builtin.List.listUpdate (.ref S) (fun _ => #[]);letGo old.toList.reverse;Builtin.List.listExtendWith (.ref S) (.ref r) .none) _ _ s
  refine va ?_
  unfold Builtin.List.listItems
  refine va (wI hS rfl (vE ?_))
  show wpAny _ _ (updateSeq S (fun _ => #[]) >>= fun _ => letGo (#[] : Array Value).toList.reverse >>= fun _ => Builtin.List.listExtendWith (.ref S) (.ref r) .none) _ _ s
  refine va (za hS rfl ?_)
  have hS₂ := wu (Obj.mapSeq (fun _ => (#[] : Array Value))) hS rfl
  have oth : ∀ b o, b≠S → s.heap.get? b=some o → (s.heap.update S (Obj.mapSeq (fun _ => (#[] : Array Value)))).get? b=some o :=
    fun b o hb e => (vQ _ _ (Ne.symm hb)).trans e
  refine va (zg ?_)
  refine g_ (s := { s with heap := s.heap.update S (Obj.mapSeq (fun _ => (#[] : Array Value))) }) hh hd (b.at' fun o q => oth r o (Ne.symm hSr) q) hz .none hS₂ fun h' tk acc' c' hk hS' hacc => ?_
  exact hR h' tk acc' c' (fun b o hb e => hk b o hb (oth b o hb e)) hS' hacc
theorem dN {Q : Value → Shared → Prop}{r : Addr}{kvs : List (K × Value)}{ep : Nat}(hh : A.handled=none)(hd : (r == sysModules)=false)(b : s.heap.DictAt knd r kvs ep)(hz : kvs.length≤sizeLine)
    (hQ : ∀ h' tk acc' c', (∀ b o, s.heap.get? b=some o → h'.get? b=some o) →
      h'.get? s.heap.objs.size=some { cls := .type "list", dict := none, data := .seq acc' c', slots := #[] } → ItemsOf (fun i v => ∃ k x, kvs[i]? = some (k, x) ∧ knd.is k v=true) acc' kvs.length → Q (.ref s.heap.objs.size) { s with heap := h', toks := tk }) :
    wpAny (model prog w) A (call (.type "list") [.ref r]) Q E s := by
  refine callType_codes (Q₁ := fun obj s₁ => obj = .ref s.heap.objs.size ∧ s₁ = { s with heap := s.heap.push { cls := .type "list", data := .seq #[] } }) F.called_list (F.typeCall_list_1 _) F.entry_list_init
    (code_list_new _ ⟨rfl, rfl⟩) fun obj s₁ h₁ => ?_
  obtain ⟨rfl, rfl⟩ := h₁
  have hS : (s.heap.push { cls := .type "list", data := .seq #[] }).get? s.heap.objs.size=some { cls := .type "list", data := .seq #[] } := vi _ rfl
  refine ⟨⟨_, hS, rfl⟩, F.args_list_init_2 _ _, d6 (A := A.in1) (s := { s with heap := s.heap.push { cls := .type "list", data := .seq #[] } }) hh hd (b.at' fun o q => u_ _ q) hz hS fun h' tk acc' c' hk hS' hacc => ?_⟩
  exact ⟨rfl, hQ h' tk acc' c' (fun b o e => hk b o (vG (ve e)) (u_ _ e)) hS' hacc⟩
end
end PySem
namespace L2
open PySem PySem.Spec PyProof.Rows Wd
section
variable {X : Cx}
inductive cE (xs : List V)(H : Hp)(Q : VK) : Prop
  | mk : ∀ (d : Addr) (kvs : List (Key × V)), (xs=[.ref d]) → (Rd H d (.dK kvs)) → (∀ l, H l=none → Q (.ref l) (upd H l (.lst (kvs.map fun p => kV p.1)))) → cE xs H Q
theorem gx (hc : X.calm=true) : bW X (.type "list") cE := by
  intro pins s σ H xs us Q I r h
  obtain ⟨d, kvs, rfl, e, q⟩ := h
  obtain ⟨u, rfl, rx⟩ := bZ r
  cases rx
  obtain ⟨z, hd, vs, rel, ep, hm⟩ : kvs.length≤sizeLine ∧ (d == sysModules)=false ∧ ∃ vs, KV kvs vs ∧ ∃ ep, s.heap.DictAt (aH X.prog X.w) d vs ep := by
    rcases e with e | ⟨o, e⟩
    · obtain ⟨z, hd, vs, rel, o, es, ep, g, ex, he, r⟩ := me I.hok e
      exact ⟨z, hd, vs, rel, ep, o, es, g, ex, he, r⟩
    · obtain ⟨g, z, hd, vs, rel, o', es, ep, g', ex, he, r⟩ := I.hok d _ e
      exact ⟨z, hd, vs, rel, ep, o', es, g', ex, he, r⟩
  have hl := wV rel
  refine dN (I.ok.hd hc) hd hm (by omega) fun h' tk acc' c' kp e' hI => ?_
  have hv : aI (kvs.map fun p => kV p.1) acc'.toList := by
    have all : ∀ {l : List (Key × V)} {us : List Value}, us.length=l.length → (∀ (j : Nat) (p : Key × V) (v : Value), l[j]? = some p → us[j]? = some v → aM (kV p.1) v) → aI (l.map fun p => kV p.1) us := by
      intro l
      induction l with
      | nil =>
        intro us hu _
        have : us=[] := w_ hu
        subst this
        exact .nil
      | cons a l ih =>
        intro us hu hj
        cases us with
        | nil => cases hu
        | cons b us => exact .cons (hj 0 a b rfl rfl) (ih (by simpa using hu) fun j p v e1 e2 => hj (j+1) p v (by simpa using e1) (by simpa using e2))
    refine all (by rw [wK, hI.1, hl]) fun j p v e1 e2 => ?_
    obtain ⟨p', hp', ek, rv⟩ := cQ rel e1
    obtain ⟨k, x, hk, his⟩ := hI.2 j v (by simpa using e2)
    rw [hp'] at hk
    cases hk
    rw [ek]
    exact qZ his
  refine ⟨.ref s.heap.objs.size, _, I.laid kp (vd _) (show aW X.prog X.w _ h' _ (.lst _) from ⟨?_, acc'.toList, c', hv, by simpa using e'⟩), rfl, q _ (I.hok.fresh (vd _))⟩
  rw [fu]
  exact z
inductive kP (x : V)(vs : List V)(H : Hp)(Q : VK) : Prop
  | mk : ∀ (l : Addr) (ss : List Str) (z : Str), (x = .ref l) → (vs=[.str z]) → (H l=some (.lst (ss.map V.str))) → (Q (.int ((ss.countP (fun y => decide (y=z)) : Nat) : Int)) H) → kP x vs H Q
def isZ (z : Str) : Value → Bool
  | .str a _ => a == z
  | _ => false
theorem gy (z : Str) : ∀ {ss : List Str} {us : List Value}, aI (ss.map V.str) us → us.countP (isZ z)=ss.countP (fun y => decide (y=z)) ∧ ∀ u∈us, ∃ a t, u = .str a t
  | [], us, h => by
    cases h
    exact ⟨rfl, fun u hu => by cases hu⟩
  | a::r, us, h => by
    rw [vn] at h
    cases h with
    | cons h1 h2 =>
      obtain ⟨t, rfl⟩ := h1
      obtain ⟨e1, e2⟩ := gy z h2
      refine ⟨?_, fun u hu => ?_⟩
      · rw [List.countP_cons, List.countP_cons, e1]
        refine v5 (fun n : Nat => List.countP (fun y => decide (y=z)) r+n) ?_
        show (if (a == z)=true then 1 else 0)=_
        by_cases c : a=z
        · rw [if_pos (zk.mpr c), if_pos (wg c)]
        · rw [if_neg (fun q => c (zk.mp q)), if_neg (by simpa using c)]
      · rcases vt.mp hu with rfl | hu
        · exact ⟨a, t, rfl⟩
        · exact e2 u hu
theorem kQ : MtR X "list.count" kP := by
  intro pins s σ H x vs v us Q I rx rv h
  obtain ⟨l, ss, z, rfl, rfl, hH, q⟩ := h
  cases rx
  obtain ⟨u, rfl, t, rfl⟩ := bZ rv
  obtain ⟨its, n, r, e, _⟩ := I.lst hH
  obtain ⟨e1, e2⟩ := gy z r
  refine xB F.slot_list_count ⟨_, e, rfl⟩ F.entry_list_count (F.args_list_count_2 _ _) (SeqAt.list_countAt l _ _ _ _ (.str z t) (isZ z)) ⟨e, fun y hy => ?_, ?_⟩
  · have hy : y∈its := by rw [← List.mem_toArray];exact hy
    obtain ⟨a, t', rfl⟩ := e2 y hy
    exact SeqAt.EqAt.str_str a t' z t
  · have ec : its.toArray.toList.countP (isZ z)=ss.countP (fun y => decide (y=z)) := by
      simp only [List.toList_toArray]
      exact e1
    rw [ec]
    exact ⟨.int _, H, I.tok _, ⟨_, rfl⟩, q⟩
inductive rH (x : V)(y : V)(H : Hp)(Q : VK) : Prop
  | mk : ∀ p xs (j : Nat) v, (x = .ref p) → (y = .int (j : Int)) → (H p=some (.lst xs)) → (xs[j]? = some v) → (Q v H) → rH x y H Q
theorem m4 : ub X rH := by
  intro pins s σ H o i ov iv Q I ro ri h
  obtain ⟨p, xs, j, z, rfl, rfl, hq, he, q⟩ := h
  cases ro
  obtain ⟨t, rfl⟩ := ri
  obtain ⟨its, r, pl, hz⟩ := I.list (SqL.of (K := X.K) hq)
  obtain ⟨w, ew, rw'⟩ := r.get he
  have hl := r.length
  have hn := cI
  have hj := (vc.mp he).1
  exact wpAny_getItem_list pl.isList (by omega) (by omega) (by simpa using ew) ⟨z, H, I, rw', q⟩
def ph (i j : Int) : Prop := i.natAbs < 2 ^ 4000 ∧ j.natAbs < 2 ^ 4000
theorem kR {k : Int}(h : k.natAbs < 2 ^ 4000) : Builtin.Int.intBits k≤4000 := by
  unfold Builtin.Int.intBits
  split
  · exact vR _
  · rename_i h0
    have hn : k.natAbs≠0 := fun z => h0 (by simpa using z)
    have : k.natAbs.log2 < 4000 := (Nat.log2_lt hn).mpr h
    omega
theorem ph.ok {i j : Int}(h : ph i j) : IntMulOk i j := by
  have h1 := kR h.1
  have h2 := kR h.2
  unfold IntMulOk Builtin.Int.intTooBig
  have : ¬ ((Builtin.Int.intBits i : Int)+(Builtin.Int.intBits j : Int) > ((bitsLine : Nat) : Int)) := by
    have e : bitsLine=134217728 := by decide
    rw [e]
    omega
  rw [vS this]
  simp
theorem kT : OpR X (binaryOp .Mult) (rI ph fun i j => .int (i*j)) := opI fun _ _ _ _ _ _ _ hc q => mul_int q hc.ok
end
end L2
namespace PySem
abbrev zl1 (h : Heap)(p : Addr) : Heap := h.push { cls := .type "list_iterator", data := .fields #[.ref p, .int 0 0] }
abbrev zl2 (h : Heap)(p q : Addr) : Heap := (zl1 h p).push { cls := .type "list_iterator", data := .fields #[.ref q, .int 0 0] }
abbrev zl3 (h : Heap)(p q : Addr) : Heap := (zl2 h p q).push { cls := .type "tuple", data := .seq #[.ref h.objs.size, .ref (zl1 h p).objs.size] }
abbrev zl4 (h : Heap)(p q : Addr) : Heap := (zl3 h p q).push { cls := .type "tuple", data := .seq #[.none, .none] }
abbrev zl5 (h : Heap)(p q : Addr) : Heap := (zl4 h p q).push { cls := .type "zip", data := .fields #[.none, .bool false, .bool false, .ref (zl2 h p q).objs.size, .ref (zl3 h p q).objs.size] }
set_option maxHeartbeats 2000000 in
theorem hG (p q : Addr)(xs ys : Array Value) : Meets (Builtin.«zip.__new__» ⟨[.type "zip", .ref p, .ref q], []⟩) (fun _ R s => s.heap.IsList p xs ∧ s.heap.IsList q ys ∧ R (.ok (.ret (.ref (zl4 s.heap p q).objs.size))) { s with heap := zl5 s.heap p q }) :=
  .of_wp fun prog w A R s h => by
    obtain ⟨hp, gg, dd, tk, os⟩ := s
    obtain ⟨t1, t2, h⟩ := h
    have hsub := sub_zip
    have T1 : Heap.IsList (Shared.heap ⟨hp, gg, dd, tk, os⟩) p xs := t1
    have T2 : Heap.IsList (Shared.heap ⟨hp.push { cls := .type "list_iterator", data := .fields #[.ref p, .int 0 0] }, gg, dd, tk, os⟩) q ys := Heap.IsList.push t2 _
    wp_walk using xn T1, xn T2
    exact ⟨_, rfl, h⟩
theorem ja {prog : Program}{w : World}{A : Around}{E : Value → Shared → Prop}{s : Shared}{p q : Addr}{xs ys : Array Value}{Q : Value → Shared → Prop}(hx : s.heap.IsList p xs)(hy : s.heap.IsList q ys)
    (h : ∀ h', IsZip h' (s.heap.objs.size+4) (s.heap.objs.size+2) (s.heap.objs.size+3) .none → IsPair h' (s.heap.objs.size+2) (.ref s.heap.objs.size) (.ref (s.heap.objs.size+1)) → IsPair h' (s.heap.objs.size+3) .none .none →
      h'.IsListIter s.heap.objs.size p 0 → h'.IsListIter (s.heap.objs.size+1) q 0 → (∀ c o, s.heap.get? c=some o → h'.get? c=some o) → Q (.ref (s.heap.objs.size+4)) { s with heap := h' }) :
    wpAny (model prog w) A (call (.type "zip") [.ref p, .ref q]) Q E s := by
  refine callType_new F.called_zip (by decide) (F.typeCall_zip_2 _ _) (F.newCall_zip_2 _ _) (fun obj => F.args_object_init_3 obj _ _) F.entry_zip_new (hG p q xs ys) ⟨hx, hy, ?_⟩
  have n1 : (zl1 s.heap p).objs.size=s.heap.objs.size+1 := wF ..
  have n2 : (zl2 s.heap p q).objs.size=s.heap.objs.size+2 := by rw [wF, n1]
  have n3 : (zl3 s.heap p q).objs.size=s.heap.objs.size+3 := by rw [wF, n2]
  have n4 : (zl4 s.heap p q).objs.size=s.heap.objs.size+4 := by rw [wF, n3]
  have g5 : (zl5 s.heap p q).get? (zl4 s.heap p q).objs.size=some _ := vi _ rfl
  have g4 : (zl5 s.heap p q).get? (zl3 s.heap p q).objs.size=some _ := u_ _ (vi _ rfl)
  have g3 : (zl5 s.heap p q).get? (zl2 s.heap p q).objs.size=some _ := u_ _ (u_ _ (vi _ rfl))
  have g2 : (zl5 s.heap p q).get? (zl1 s.heap p).objs.size=some _ := u_ _ (u_ _ (u_ _ (vi _ rfl)))
  have g1 : (zl5 s.heap p q).get? s.heap.objs.size=some _ := u_ _ (u_ _ (u_ _ (u_ _ (vi _ rfl))))
  show _ ∧ _
  rw [n2, n3, n4] at g5
  rw [n1, n2] at g3
  rw [n3] at g4
  rw [n1] at g2
  rw [n4]
  exact ⟨⟨_, g5, rfl⟩, h _ g5 g3 g4 ⟨_, g1, rfl, rfl⟩ ⟨_, g2, rfl, rfl⟩ fun c o q => u_ _ (u_ _ (u_ _ (u_ _ (u_ _ q))))⟩
end PySem
namespace L2
open PySem PySem.Spec PyProof.Rows Wd
def pj (K : PySem.W.Frag)(p q : Addr) : It := ⟨fun i H => ∃ xs ys x y, SqL K H p xs ∧ SqL K H q ys ∧ xs[i]? = some x ∧ ys[i]? = some y,
  fun i H v H' => ∃ (T : Addr) (x y : V), H T=none ∧ v = .ref T ∧ (∀ xs, SqL K H p xs → xs[i]? = some x) ∧ (∀ ys, SqL K H q ys → ys[i]? = some y) ∧ H'=upd H T (.tup [x, y]),
  fun i H => ∃ xs ys, SqL K H p xs ∧ SqL K H q ys ∧ i=min xs.length ys.length⟩
theorem uy {s : Shared}{z TI TO i1 i2 p q : Addr}{a c : Value}{i : Nat}{xs ys : Array Value}(D : Ap5 z TI TO i1 i2)(s1 : IsZip s.heap z TI TO .none)(s2 : IsPair s.heap TI (.ref i1) (.ref i2))(s3 : IsPair s.heap TO a c)(s4 : s.heap.IsListIter i1 p i)(s5 : s.heap.IsListIter i2 q i)
    (p1 : s.heap.IsList p xs) (p2 : s.heap.IsList q ys) (hTO : p≠TO) : (p≠i1 ∧ q≠i2) ∧ Ap2 z TO i1 i2 [i1, p] [i2, q] := by
  obtain ⟨o1, g1, c1, _⟩ := s4
  obtain ⟨o2, g2, c2, _⟩ := s5
  obtain ⟨o3, g3, c3, _⟩ := p1
  obtain ⟨o4, g4, c4, _⟩ := p2
  have n1 : p≠i1 := fun e => by rw [e, g1] at g3;cases g3;rw [c1] at c3;simp at c3
  have n2 : q≠i2 := fun e => by rw [e, g2] at g4;cases g4;rw [c2] at c4;simp at c4
  have n3 : p≠z := fun e => by rw [e, s1] at g3;cases g3;simp at c3
  have n4 : q≠z := fun e => by rw [e, s1] at g4;cases g4;simp at c4
  have n5 : q≠TO := fun e => by rw [e, s3] at g4;cases g4;simp at c4
  have n6 : q≠i1 := fun e => by rw [e, g1] at g4;cases g4;rw [c1] at c4;simp at c4
  have n7 : p≠i2 := fun e => by rw [e, g2] at g3;cases g3;rw [c2] at c3;simp at c3
  refine ⟨⟨n1, n2⟩, ?_, ?_, ?_, ?_, ?_, ?_⟩ <;> simp only [vt, vA, xw, not_or]
  · exact ⟨D.i1z.symm, n3.symm⟩
  · exact ⟨D.i2z.symm, n4.symm⟩
  · exact ⟨D.TOi1, hTO.symm⟩
  · exact ⟨D.TOi2, n5.symm⟩
  · exact ⟨D.i12, n6.symm⟩
  · exact ⟨D.i12.symm, n7.symm⟩
theorem jb {P : Program}{w : World}{K : PySem.W.Frag}{elts : List Expr}{k : Nat}{pos : Pos}{z TI TO i1 i2 : Addr}{p q : Addr}(D : Ap5 z TI TO i1 i2)(hTO : p≠TO) :
    nJ P w K (.Tuple elts k pos) (pj K p q) [z, TI, TO, i1, i2] z (fun i h => IsZip h z TI TO .none ∧ IsPair h TI (.ref i1) (.ref i2) ∧ (∃ a b, IsPair h TO a b) ∧ h.IsListIter i1 p i ∧ h.IsListIter i2 q i) where
  mem := by simp
  obj := fun i h st b hb => by
    obtain ⟨s1, s2, ⟨a, c, s3⟩, ⟨o1, s4, _, d4⟩, ⟨o2, s5, _, d5⟩⟩ := st
    simp only [vt, vA, xw] at hb
    rcases hb with rfl | rfl | rfl | rfl | rfl
    · exact ⟨_, s1, fun v q => by cases q⟩
    · exact ⟨_, s2, fun v q => by cases q⟩
    · exact ⟨_, s3, fun v q => by cases q⟩
    · exact ⟨_, s4, fun v q => by rw [d4] at q;cases q⟩
    · exact ⟨_, s5, fun v q => by rw [d5] at q;cases q⟩
  keep := fun i h h' st kk => by
    obtain ⟨s1, s2, ⟨a, c, s3⟩, ⟨o1, s4, r4⟩, ⟨o2, s5, r5⟩⟩ := st
    exact ⟨kk z (by simp) _ s1, kk TI (by simp) _ s2, ⟨a, c, kk TO (by simp) _ s3⟩, ⟨o1, kk i1 (by simp) _ s4, r4⟩, ⟨o2, kk i2 (by simp) _ s5, r5⟩⟩
  item := by
    intro X hP hw hK hc i pins s σ H E I hf st hg
    subst hP hw hK
    obtain ⟨xs, ys, vx, vy, hq1, hq2, hx, hy⟩ := hg
    obtain ⟨its1, rv1, p1, hz1⟩ := I.list hq1
    obtain ⟨its2, rv2, p2, hz2⟩ := I.list hq2
    obtain ⟨u1, hu1, ru1⟩ := rv1.get hx
    obtain ⟨u2, hu2, ru2⟩ := rv2.get hy
    obtain ⟨s1, s2, ⟨a, c, s3⟩, s4, s5⟩ := st
    have hu1' : its1.toArray[i]? = some u1 := by simpa using hu1
    have hu2' : its2.toArray[i]? = some u2 := by simpa using hu2
    obtain ⟨np1, np2⟩ := uy D s1 s2 s3 s4 s5 p1.isList p2.isList hTO
    refine i9 (zl (by exact I.ok.hd hc) i1 p np1.1 its1.toArray) (zl (by exact I.ok.hd hc) i2 q np1.2 its2.toArray) D np2 s1 s2 s3 ⟨s4, p1.isList⟩ ⟨s5, p2.isList⟩ (wM.mp hu1').1 (wM.mp hu2').1 fun h' tk v1 v2 w1 w2 b1 b2 b3 b4 b5 b6 => ⟨_, rfl, ?_⟩
    obtain rfl : u1=v1 := by rw [show its1.toArray[i]? = some v1 from w1] at hu1';exact (vp hu1').symm
    obtain rfl : u2=v2 := by rw [show its2.toArray[i]? = some v2 from w2] at hu2';exact (vp hu2').symm
    refine wpAny_letOwnedTupleGo_zip b1 fun h2 c1' e2 => ?_
    have there : ∀ b∈[z, TI, TO, i1, i2], ∃ o, s.heap.get? b=some o := fun b hb => by
      obtain ⟨o1, q4, _⟩ := s4
      obtain ⟨o2, q5, _⟩ := s5
      simp only [vt, vA, xw] at hb
      rcases hb with rfl | rfl | rfl | rfl | rfl
      · exact ⟨_, s1⟩
      · exact ⟨_, s2⟩
      · exact ⟨_, s3⟩
      · exact ⟨_, q4⟩
      · exact ⟨_, q5⟩
    have kk : ∀ b o, b∉[z, TI, TO, i1, i2] → s.heap.get? b=some o → h2.get? b=some o := fun b o hb e => by
      simp only [vt, vA, xw, not_or] at hb
      exact e2.extBut _ _ hb.1 (b6 b o hb.1 hb.2.2.1 hb.2.2.2.1 hb.2.2.2.2 e)
    have hTz : s.heap.objs.size≠z := yo (ve s1)
    have I2 : Inv X pins σ (upd H s.heap.objs.size (.tup [vx, vy])) { s with heap := h2, toks := tk } :=
      I.stepT (ch := [z, TI, TO, i1, i2]) (its := [u1, u2]) hf kk (vd _) (by show 2≤sizeLine;decide) (.cons ru1 (.cons ru2 .nil)) ⟨_, e2.extBut _ _ hTz b5, rfl, _, rfl⟩ ⟨_, e2.extBut _ _ hTz b5, rfl⟩ there
    have hnT : H s.heap.objs.size=none := I.hok.fresh (vd _)
    have sTI : IsPair h2 TI (.ref i1) (.ref i2) := e2.extBut _ _ D.TIz (b6 _ _ D.TIz D.TITO D.TIi1 D.TIi2 s2)
    refine ⟨.ref s.heap.objs.size, _, I2, rfl, ⟨s.heap.objs.size, vx, vy, hnT, rfl, fun zs hz => by rw [I.list_inj hz hq1];exact hx, fun zs hz => by rw [I.list_inj hz hq2];exact hy, rfl⟩,
      ⟨c1', sTI, ⟨_, _, e2.extBut _ _ D.TOz b2⟩, b3.1.at fun o q => e2.extBut _ _ D.i1z q, b4.1.at fun o q => e2.extBut _ _ D.i2z q⟩, fun b hb => ?_⟩
    obtain ⟨o, q⟩ := there b hb
    rw [aj (vG (ve q))]
    exact (hf b hb).1
  done := by
    intro X hP hw hK hc i pins s σ H E I hf st hg
    subst hP hw hK
    obtain ⟨xs, ys, hq1, hq2, hi⟩ := hg
    obtain ⟨its1, rv1, p1, hz1⟩ := I.list hq1
    obtain ⟨its2, rv2, p2, hz2⟩ := I.list hq2
    have hl1 := rv1.length
    have hl2 := rv2.length
    obtain ⟨s1, s2, ⟨a, c, s3⟩, s4, s5⟩ := st
    obtain ⟨np1, np2⟩ := uy D s1 s2 s3 s4 s5 p1.isList p2.isList hTO
    refine kh (zl (by exact I.ok.hd hc) i1 p np1.1 its1.toArray) (zl (by exact I.ok.hd hc) i2 q np1.2 its2.toArray) D np2 s1 s2 s3 ⟨s4, p1.isList⟩ ⟨s5, p2.isList⟩ ?_ fun h' tk kk => ⟨rfl, ?_⟩
    · simp only [vj]
      omega
    · have nch : ∀ {b u}, H b=some u → b∉[z, TI, TO, i1, i2] := fun e q => by rw [(hf _ q).1] at e;cases e
      have k2 : ∀ b o, b∉[z, TI, TO, i1, i2] → s.heap.get? b=some o → h'.get? b=some o := fun b o hb e => by
        simp only [vt, vA, xw, not_or] at hb
        exact kk b o hb.1 hb.2.2.1 hb.2.2.2.1 hb.2.2.2.2 e
      refine I.step (g' := s.gens) (d' := s.drawn) (ch := [z, TI, TO, i1, i2]) (fun b hb => ?_) (fun b o _ _ hc e _ => k2 b o hc e) (fun b o _ _ hc e _ => ⟨o.slots, k2 b o hc e⟩) (fun _ _ _ _ n => n) (fun b o hc e => ⟨o, k2 b o hc e⟩)
        (fun _ _ e => e) (fun _ _ _ e => e) (fun b ps e => ⟨#[], by rw [e];simp⟩) (fun m hm => ?_) (fun b u e => ?_) I.bare
      · obtain ⟨_, f1, _, f3, f4, f5⟩ := hf b hb
        exact ⟨f3, f1, f4, f5⟩
      · obtain ⟨o, es, ep, ho, r⟩ := hm
        exact ⟨o, es, ep, k2 _ o (fun q => (hf _ q).2.1 rfl) ho, r⟩
      · refine (I.hok b u e).stay (fun c v hc q => k2 c v ?_ q) (fun _ q => q) fun _ _ q => q
        rcases hc with q | q
        · rw [q];exact nch e
        · exact nch q
  self := fun _ _ _ _ _ st h => wpAny_pyIter_zip st.1 h
section
variable {X : Cx}
def rJ (K : PySem.W.Frag)(ta : TA) : TI := fun σ H R => ta σ H fun vs H1 => ∃ p q, vs=[.ref p, .ref q] ∧ (∃ xs, SqL K H1 p xs) ∧ (∃ ys, SqL K H1 q ys) ∧ R (pj K p q) H1
theorem iN {K : PySem.W.Frag}(hK : X.K=K){a b : Expr}{ta : TA}{p pos tp : Pos}{elts : List Expr}{k : Nat}(hg : Gl X "zip")(hm : X.mg "zip" = none)(hb : bootBuiltins "zip" = some (.type "zip"))(ha : PA X [a, b] ta)(hs : starEach [a, b] X.env=(false, eval a X.env)::starEach [b] X.env := by rfl)(hs2 : (backTo pos (starEach [b] X.env)).any (·.1)=false := by rfl) :
    PI X (.Tuple elts k tp) (.Call (.Name "zip" p) [a, b] [] pos) (rJ K ta) := by
  subst hK
  intro pins s σ H R I h
  refine Call_ (cT I hg hm hb (v9 (thn (ha pos pins s σ H _ I h) fun us s1 zq1 => ?_) hs hs2))
  obtain ⟨vs, H1, I1, r1, q1⟩ := zq1
  obtain ⟨l1, l2, rfl, ⟨xs, hx⟩, ⟨ys, hy⟩, q⟩ := q1
  obtain ⟨u1, u2, rfl, r3, r4⟩ := l7 r1
  cases r3
  cases r4
  obtain ⟨its1, rv1, p1, hz1⟩ := I1.list hx
  obtain ⟨its2, rv2, p2, hz2⟩ := I1.list hy
  refine ja p1.isList p2.isList fun h' b1 b2 b3 b4 b5 b6 => ?_
  have I2 : Inv X pins σ H1 { s1 with heap := h', toks := s1.toks } := I1.kept b6
  have hlt : l1 < s1.heap.objs.size := by obtain ⟨o, e, _⟩   := p1.isList;exact ve e
  refine wpAny_pyIter_zip (s := { s1 with heap := h', toks := s1.toks }) b1 ?_
  refine ⟨s1.heap.objs.size+4, [s1.heap.objs.size+4, s1.heap.objs.size+2, s1.heap.objs.size+3, s1.heap.objs.size, s1.heap.objs.size+1], _, pj X.K l1 l2, H1, rfl, I2,
    jb (qS s1.heap.objs.size) (vG (vk hlt (Nat.le_add_right _ _))), ⟨b1, b2, ⟨_, _, b3⟩, b4, b5⟩, fun b hb => ?_, q⟩
  have hge : s1.heap.objs.size≤b := by
    simp only [vt, vA, xw] at hb
    rcases hb with rfl | rfl | rfl | rfl | rfl <;> omega
  exact I1.fpOk hge (I1.hok.fresh hge)
end
theorem kU {K : PySem.W.Frag}{p q : Addr}{xs ys : List V}{g : TG}{tb : TS}{D : fq}{σ : St}{H : Hp}(Pv : Nat → St → Hp → Prop)(h0 : Pv 0 σ H)(hl : ∀ i σ H, Pv i σ H → SqL K H p xs ∧ SqL K H q ys)
    (hs : ∀ i x y σ H T, xs[i]? = some x → ys[i]? = some y → Pv i σ H → H T=none → g (.ref T) σ (upd H T (.tup [x, y])) fun σ2 H2 => tb { D with nx := Pv (i+1), ct := Pv (i+1), bk := D.nx } σ2 H2) (hd : ∀ σ H, Pv (min xs.length ys.length) σ H → D.nx σ H) :
    ∃ W : Nat → Nat → St → Hp → Prop, (∃ m, W 0 m σ H) ∧ ∀ i m σ H, W i m σ H →
      ((pj K p q).stop i H ∧ D.nx σ H) ∨ ((pj K p q).go i H ∧ ∃ N : St → Hp → Prop, (∀ σ' H', N σ' H' → ∃ m', m' < m ∧ W (i+1) m' σ' H') ∧ ∀ x H', (pj K p q).yld i H x H' → g x σ H' fun σ2 H2 => tb { D with nx := N, ct := N, bk := D.nx } σ2 H2) := by
  refine ⟨fun i m σ H => m=min xs.length ys.length - i ∧ i≤min xs.length ys.length ∧ Pv i σ H, ⟨min xs.length ys.length, by simp, vR _, h0⟩, ?_⟩
  rintro i m σ H ⟨rfl, hi, pv⟩
  obtain ⟨q1, q2⟩ := hl i σ H pv
  by_cases hlt : i < min xs.length ys.length
  · refine .inr ⟨⟨xs, ys, xs[i], ys[i], q1, q2, vh (by omega), vh (by omega)⟩, Pv (i+1), fun σ' H' p' => ⟨min xs.length ys.length - (i+1), by omega, rfl, hlt, p'⟩, ?_⟩
    rintro v H' ⟨T, x, y, hT, rfl, hx, hy, rfl⟩
    exact hs i x y σ _ T (hx xs q1) (hy ys q2) pv hT
  · obtain rfl : i=min xs.length ys.length := by omega
    exact .inl ⟨⟨xs, ys, q1, q2, rfl⟩, hd σ H pv⟩
end L2
namespace Kx
open PySem PySem.Spec PyProof.Rows L2 Wd
open Dm (sR)
abbrev Mx := Nat → Nat → Int
def a6 (n : Nat)(a : Nat → Int) : List L2.V := (List.range n).map fun j => .int (a j)
theorem av (n : Nat)(a : Nat → Int) : (a6 n a).length=n := by unfold a6; rw [fu, xq]
theorem a7 {n : Nat}{a : Nat → Int}{j : Nat}(h : j < n) : (a6 n a)[j]? = some (.int (a j)) := by unfold a6; rw [vo, List.getElem?_range h]; rfl
theorem bO {n : Nat}{a b : Nat → Int}(h : ∀ j, j < n → a j=b j) : a6 n a=a6 n b := by
  unfold a6
  exact wL fun j hj => by rw [h j (xP.mp hj)]
theorem cy {n : Nat}{a : Nat → Int}{j : Nat}{v : L2.V}(h : (a6 n a)[j]? = some v) : j < n ∧ v = .int (a j) := by
  have hj : j < n := by have := (vc.mp h).1;rwa [av] at this
  rw [a7 hj] at h
  exact ⟨hj, (vp h).symm⟩
theorem m5 {n : Nat}{a : Nat → Int}{k : Nat}(z : Int) : (a6 n a).set k (.int z)=a6 n fun j => if j=k then z else a j := by
  refine yL fun j => ?_
  rw [List.getElem?_set, av]
  by_cases c : k=j
  · subst c
    rw [if_pos rfl]
    by_cases hk : k < n
    · rw [if_pos hk, a7 hk, if_pos rfl]
    · rw [if_neg hk, we (by rw [av];omega)]
  · rw [if_neg c]
    by_cases hj : j < n
    · rw [a7 hj, a7 hj, if_neg (fun q => c q.symm)]
    · rw [we (by rw [av];omega), we (by rw [av];omega)]
theorem iO (n : Nat) : List.replicate n (L2.V.int 0)=a6 n fun _ => 0 := by
  refine yL fun j => ?_
  by_cases hj : j < n
  · rw [a7 hj, yP, if_pos hj]
  · rw [we (by rw [xg];omega), we (by rw [av];omega)]
theorem iP (n : Nat)(a : Nat → Int) : a6 n a=((List.range n).map a).map L2.V.int := by unfold a6; rw [wx]; rfl
theorem kW (n : Nat)(a : Nat → Int) : a6 (n+1) a = .int (a 0)::a6 n fun k => a (k+1) := by
  unfold a6
  rw [List.range_succ_eq_map, vn, wx]
  rfl
theorem dO (a : Nat → Int) : ∀ n, ((List.range n).map a).sum=sR a n
  | 0 => rfl
  | n+1 => by
    rw [xl, vw, List.sum_append, dO a n]
    show _+(a n+0)=sR a n+a n
    omega
structure SqM (H : Hp) (l : Addr) (n : Nat) (M : Mx) (rs : List Addr) : Prop where
  len : rs.length=n
  nd : rs.Nodup
  at' : H l=some (.lst (rs.map L2.V.ref))
  row : ∀ i r, rs[i]? = some r → H r=some (.lst (a6 n (M i)))
theorem SqM.mono {H H' : Hp}{l : Addr}{n : Nat}{M : Mx}{rs : List Addr}(q : SqM H l n M rs)(s : ∀ b o, (b=l ∨ b∈rs) → H b=some o → H' b=some o) : SqM H' l n M rs :=
  ⟨q.len, q.nd, s _ _ (.inl rfl) q.at', fun i r h => s _ _ (.inr (vD h)) (q.row i r h)⟩
theorem SqM.same {H H' : Hp}{l : Addr}{n : Nat}{M : Mx}{rs : List Addr}(q : SqM H l n M rs)(s : aw H H') : SqM H' l n M rs := q.mono fun b o _ e => s b o e
theorem SqM.get {H : Hp}{l : Addr}{n : Nat}{M : Mx}{rs : List Addr}(q : SqM H l n M rs){i : Nat}(h : i < n) : ∃ r, rs[i]? = some r ∧ H r=some (.lst (a6 n (M i))) ∧ (rs.map L2.V.ref)[i]? = some (.ref r) := by
  have hi : i < rs.length := by rw [q.len];exact h
  have e := vh hi
  exact ⟨_, e, q.row _ _ e, by rw [vo, e];rfl⟩
theorem SqM.ne {H : Hp}{l : Addr}{n : Nat}{M : Mx}{rs : List Addr}(q : SqM H l n M rs) : l∉rs := fun hl => by
  obtain ⟨i, hi⟩ := v8 hl
  have e := q.row i l hi
  rw [q.at'] at e
  have hi2 := (vc.mp hi).1
  have e2 : rs.map L2.V.ref=a6 n (M i) := by injection (vp e)
  have e3 := v5 (fun z => z[i]?) e2
  simp only [vo, hi] at e3
  rw [a7 (by rw [← q.len];exact hi2)] at e3
  injection (vp e3)
abbrev big : Nat := 2 ^ 4000
inductive dP (vs : List L2.V)(H : Hp)(Q : VK)(E : XK) : Prop
  | mk : ∀ (a b : Addr) (ts bs : List (List L)), vs=[.ref a, .ref b] → H a=some (.lst (ts.map tx)) → H b=some (.lst (bs.map tx)) → ts.length≤100 → (∀ r H', H r=none → H' r=some (.lst (ts.map fun t => L2.V.int ((bs.count t : Nat) : Int))) → aw H H' → Q (.ref r) H') → dP vs H Q E
def fo (f : List L → List (List L))(ts : List (List L)) : Mx := fun i j => (((f (ts.getD i [])).count (ts.getD j []) : Nat) : Int)
theorem pk (f : List L → List (List L))(ts : List (List L))(i : Nat) : (ts.map fun t => L2.V.int (((f (ts.getD i [])).count t : Nat) : Int))=a6 ts.length (fo f ts i) := by
  refine yL fun j => ?_
  by_cases hj : j < ts.length
  · rw [a7 hj, vo, vh hj]
    unfold fo
    rw [show ts.getD j []=ts[j] from by rw [vB, vh hj];rfl]
    rfl
  · rw [we (by rw [fu];omega), we (by rw [av];omega)]
inductive hJ (vs : List L2.V)(H : Hp)(Q : VK)(E : XK) : Prop
  | mk : ∀ (d : Addr) (kvs : List (Key × L2.V)) (ts : List (List L)) (f : List L → List (List L)), vs=[.ref d] → H d=some (.dK kvs) → kvs.map Prod.fst=ts.map (fun t => Sum.inr (toS t)) → ts.length≤100 →
    (∀ t∈ts, ∃ r, bP kvs (.inr (toS t))=some (.ref r) ∧ H r=some (.lst ((f t).map tx))) → (∀ l rs H', H l=none → SqM H' l ts.length (fo f ts) rs → bT d H H' → Q (.ref l) H') → hJ vs H Q E
inductive kX (vs : List L2.V)(H : Hp)(Q : VK)(E : XK) : Prop
  | mk : ∀ (n : Nat) (a l : Addr) (u : Nat → Int) (M : Mx) (rs : List Addr), vs=[.ref a, .ref l] → n≤100 → H a=some (.lst (a6 n u)) → SqM H l n M rs → (∀ k, k < n → (u k).natAbs < big) → (∀ k j, k < n → j < n → (M k j).natAbs < big) →
    (∀ r H', H r=none → H' r=some (.lst (a6 n fun j => sR (fun k => u k*M k j) n)) → aw H H' → Q (.ref r) H') → kX vs H Q E
inductive kY (vs : List L2.V)(H : Hp)(Q : VK)(E : XK) : Prop
  | mk : ∀ (n : Nat) (a b : Addr) (A B : Mx) (ra rb : List Addr), vs=[.ref a, .ref b] → n≤100 → SqM H a n A ra → SqM H b n B rb → (∀ k j, k < n → j < n → (A k j).natAbs < big) → (∀ k j, k < n → j < n → (B k j).natAbs < big) →
    (∀ c rc H', H c=none → (∀ r∈rc, H r=none) → SqM H' c n (fun i j => sR (fun k => A i k*B k j) n) rc → aw H H' → Q (.ref c) H') → kY vs H Q E
inductive hU (vs : List L2.V)(H : Hp)(Q : VK)(E : XK) : Prop
  | mk : ∀ (n : Nat) (a : Addr) (M : Mx) (rs : List Addr), vs=[.ref a] → n≤100 → SqM H a n M rs → (∀ H', aw H H' → Q (.int (sR (fun i => M i i) n)) H') → hU vs H Q E
structure Fad (n : Nat) (A : Mx) (q : Nat → Int) (B : Nat → Mx) : Prop where
  q0 : q 0=1
  b0 : ∀ k i, k < n → i < n → B 0 k i=if k=i then 1 else 0
  bs : ∀ m k i, k < n → i < n → B (m+1) k i=sR (fun j => A k j*B m j i) n+if k=i then q (m+1) else 0
  tr : ∀ m : Nat, ((m : Int)+1)*q (m+1) = -sR (fun i => sR (fun c => A i c*B m c i) n) n
  z : ∀ k i, k < n → i < n → B n k i=0
theorem rK {n : Nat}(n1 : 1≤n)(A : Mx) : ∃ q B, Fad n A q B := by
  obtain ⟨q, B, h1, h2, h3, h4, h5⟩ := Dm.fad n n1 A
  exact ⟨q, B, h1, h2, h3, h4, h5⟩
theorem kZ {f : Nat → Int}{b : Nat} : ∀ {n : Nat}, (∀ i, i < n → (f i).natAbs≤b) → (sR f n).natAbs≤n*b
  | 0, _ => by show (0 : Int).natAbs≤_;simp
  | n+1, h => by
    have h1 := kZ (n := n) fun i hi => h i (by omega)
    have h2 := h n (by omega)
    have e : sR f (n+1)=sR f n+f n := rfl
    rw [e, zm]
    omega
theorem px {a b : Int}{x y : Nat}(h1 : a.natAbs≤x)(h2 : b.natAbs≤y) : (a*b).natAbs≤x*y := by
  rw [Int.natAbs_mul]
  exact Nat.mul_le_mul h1 h2
theorem Fad.bound {n : Nat}{A : Mx}{q : Nat → Int}{B : Nat → Mx}(F : Fad n A q B)(hn : n≤60)(hA : ∀ i j, i < n → j < n → (A i j).natAbs≤12) : ∀ m, (q m).natAbs≤50000 ^ m ∧ ∀ k i, k < n → i < n → (B m k i).natAbs≤50000 ^ m
  | 0 => by
    refine ⟨by rw [F.q0];decide, fun k i hk hi => ?_⟩
    rw [F.b0 k i hk hi]
    split <;> decide
  | m+1 => by
    obtain ⟨h1, h2⟩ := F.bound hn hA m
    have hp : ∀ i j, i < n → j < n → (sR (fun c => A i c*B m c j) n).natAbs≤720*50000 ^ m := fun i j hi hj => by
      have h3 := kZ (f := fun c => A i c*B m c j) (b := 12*50000 ^ m) (n := n) fun c hc => px (hA i c hi hc) (h2 c j hc hj)
      refine vI h3 ?_
      have := xr (12*50000 ^ m) hn
      omega
    have ht : (sR (fun i => sR (fun c => A i c*B m c i) n) n).natAbs≤43200*50000 ^ m := by
      have h3 := kZ (f := fun i => sR (fun c => A i c*B m c i) n) (b := 720*50000 ^ m) (n := n) fun i hi => hp i i hi hi
      refine vI h3 ?_
      have := xr (720*50000 ^ m) hn
      omega
    have hq : (q (m+1)).natAbs≤43200*50000 ^ m := by
      have e := F.tr m
      have e2 : (((m : Int)+1)*q (m+1)).natAbs≤43200*50000 ^ m := by rw [e, Int.natAbs_neg];exact ht
      rw [Int.natAbs_mul] at e2
      have : 1*(q (m+1)).natAbs≤((m : Int)+1).natAbs*(q (m+1)).natAbs := xr _ (by omega)
      omega
    have e5 : 50000 ^ (m+1)=50000*50000 ^ m := by rw [Nat.pow_succ, Nat.mul_comm]
    refine ⟨by omega, fun k i hk hi => ?_⟩
    rw [F.bs m k i hk hi]
    have := hp k i hk hi
    split <;> omega
theorem fi {m : Nat}(h : m≤61) : 50000 ^ m < big := by
  have h1 : 50000 ^ m≤50000 ^ 61 := Nat.pow_le_pow_right (by decide) h
  have h2 : (50000 : Nat) ^ 61 < big := by
    have : (50000 : Nat) ^ 61≤(2 ^ 16) ^ 61 := Nat.pow_le_pow_left (by decide) 61
    rw [← Nat.pow_mul] at this
    exact wm this (Nat.pow_lt_pow_right (by decide) (by decide))
  exact wm h1 h2
def Bp (B : Nat → Mx) : Nat → Mx
  | 0 => fun _ _ => 0
  | i+1 => B i
theorem Fad.bp {n : Nat}{A : Mx}{q : Nat → Int}{B : Nat → Mx}(F : Fad n A q B)(i k l : Nat)(hk : k < n)(hl : l < n) : sR (fun j => A k j*Bp B i j l) n+(if k=l then q i else 0)=Bp B (i+1) k l := by
  cases i with
  | zero =>
    show _=B 0 k l
    have z : sR (fun j => A k j*Bp B 0 j l) n=0 := Dm.sR_zero fun j _ => zq (A k j)
    rw [F.b0 k l hk hl, F.q0, z, xC]
  | succ i => exact (F.bs i k l hk hl).symm
theorem Fad.bpb {n : Nat}{A : Mx}{q : Nat → Int}{B : Nat → Mx}(F : Fad n A q B)(hn : n≤60)(hA : ∀ i j, i < n → j < n → (A i j).natAbs≤12){i k l : Nat}(hi : i≤61)(hk : k < n)(hl : l < n) : (Bp B i k l).natAbs < big := by
  cases i with
  | zero => exact fi (m := 0) (by omega) |> wm (by show (0 : Int).natAbs≤_;simp)
  | succ i => exact wm ((F.bound hn hA i).2 k l hk hl) (fi (by omega))
inductive k4 (vs : List L2.V)(H : Hp)(Q : VK)(E : XK) : Prop
  | mk : ∀ (n : Nat) (a : Addr) (A : Mx) (rs : List Addr) (q : Nat → Int) (B : Nat → Mx), vs=[.ref a] → 1≤n → n≤60 → SqM H a n A rs → (∀ i j, i < n → j < n → (A i j).natAbs≤12) → Fad n A q B →
    (∀ l H', H l=none → H' l=some (.lst (a6 n fun k => q (n - k))) → aw H H' → Q (.ref l) H') → k4 vs H Q E
def bX (f : List L → List (List L)) : Nat → List L → Int
  | 0, _ => 1
  | N+1, s => ((f s).map (bX f N)).sum
theorem gz {ts : List (List L)}(nd : ts.Nodup)(g : List L → Int) : ∀ {bs : List (List L)}, (∀ b∈bs, b∈ts) → (bs.map g).sum=sR (fun j => ((bs.count (ts.getD j []) : Nat) : Int)*g (ts.getD j [])) ts.length
  | [], _ => by
    rw [Dm.sR_zero fun j _ => by rw [List.count_nil];exact zp _]
    rfl
  | b::bs, h => by
    rw [vn, xp, gz nd g fun b' hb => h b' (vq _ hb)]
    obtain ⟨i, hi⟩ := v8 (h b vz)
    have hl := (vc.mp hi).1
    have gi : ts.getD i []=b := by rw [vB, hi];rfl
    have e : ∀ j, j < ts.length → (((b::bs).count (ts.getD j []) : Nat) : Int)*g (ts.getD j [])=(1 : Int)*(((bs.count (ts.getD j []) : Nat) : Int)*g (ts.getD j []))+1*(g (ts.getD j [])*Dm.ei i j) := fun j hj => by
      rw [List.count_cons]
      unfold Dm.ei
      by_cases c : j=i
      · subst c
        rw [gi, if_pos rfl, xu, if_pos rfl]
        grind
      · have hne : ¬ (b == ts.getD j [])=true := fun q => c (by
          have q := zk.mp q
          have gj : ts.getD j []=ts[j] := by rw [vB, vh hj];rfl
          have gi2 : b=ts[i] := by have := (vc.mp hi).2;exact this.symm
          rw [gj, gi2] at q
          have pw := yy.mp nd
          rcases Nat.lt_trichotomy i j with z | z | z
          · exact absurd q (pw i j hl hj z)
          · exact z.symm
          · exact absurd q.symm (pw j i hj hl z))
        rw [if_neg hne, if_neg c]
        grind
    have ex := Dm.sR_lin (1 : Int) 1 (fun j => (((bs.count (ts.getD j []) : Nat) : Int)*g (ts.getD j []))) (fun j => g (ts.getD j [])*Dm.ei i j) ts.length
    rw [Dm.sR_congr e, ex]
    have e3 : sR (fun j => g (ts.getD j [])*Dm.ei (R := Int) i j) ts.length=g (ts.getD i []) := by
      have := Dm.sum_ei (R := Int) (fun j => g (ts.getD j [])) hl
      rw [← this]
      refine Dm.sR_congr fun j _ => ?_
      unfold Dm.ei
      by_cases c : j=i
      · rw [if_pos c, if_pos c.symm]
      · rw [if_neg c, if_neg fun q => c q.symm]
    rw [e3, gi]
    omega
theorem k_ {f : List L → List (List L)}{ts : List (List L)}(nd : ts.Nodup)(cl : ∀ s∈ts, ∀ b∈f s, b∈ts)(N i : Nat)(hi : i < ts.length) : bX f (N+1) (ts.getD i [])=sR (fun j => fo f ts i j*bX f N (ts.getD j [])) ts.length := by
  have hm : ts.getD i []∈ts := by rw [vB, vh hi];exact xV hi
  exact gz nd _ (cl _ hm)
theorem Fad.vec {f : List L → List (List L)}{ts : List (List L)}{q : Nat → Int}{B : Nat → Mx}(nd : ts.Nodup)(cl : ∀ s∈ts, ∀ b∈f s, b∈ts)(F : Fad ts.length (fo f ts) q B)(N : Nat) :
    ∀ m i, i < ts.length → sR (fun j => B m i j*bX f N (ts.getD j [])) ts.length=sR (fun k => q k*bX f (N+m - k) (ts.getD i [])) (m+1)
  | 0, i, hi => by
    have e1 : sR (fun j => B 0 i j*bX f N (ts.getD j [])) ts.length=sR (fun j => bX f N (ts.getD j [])*Dm.ei (R := Int) j i) ts.length := Dm.sR_congr fun j hj => by
      rw [F.b0 i j hi hj]
      unfold Dm.ei
      split <;> grind
    rw [e1, Dm.sum_ei (R := Int) (fun j => bX f N (ts.getD j [])) hi]
    show _=0+q 0*bX f (N+0 - 0) (ts.getD i [])
    rw [F.q0, yW, xC]
    rfl
  | m+1, i, hi => by
    have e1 : sR (fun j => B (m+1) i j*bX f N (ts.getD j [])) ts.length=sR (fun j => (1 : Int)*sR (fun c => fo f ts i c*(B m c j*bX f N (ts.getD j []))) ts.length+q (m+1)*(bX f N (ts.getD j [])*Dm.ei (R := Int) j i)) ts.length := Dm.sR_congr fun j hj => by
      rw [F.bs m i j hi hj]
      have e2 : sR (fun c => fo f ts i c*(B m c j*bX f N (ts.getD j []))) ts.length=sR (fun c => bX f N (ts.getD j [])*(fo f ts i c*B m c j)+0*0) ts.length := Dm.sR_congr fun c _ => by grind
      rw [e2, Dm.sR_lin (bX f N (ts.getD j [])) 0 (fun c => fo f ts i c*B m c j) (fun _ => 0)]
      unfold Dm.ei
      split <;> grind
    rw [e1, Dm.sR_lin (1 : Int) (q (m+1)) (fun j => sR (fun c => fo f ts i c*(B m c j*bX f N (ts.getD j []))) ts.length) (fun j => bX f N (ts.getD j [])*Dm.ei (R := Int) j i), Dm.sum_ei (R := Int) (fun j => bX f N (ts.getD j [])) hi, Dm.sR_swap]
    have e3 : sR (fun c => sR (fun j => fo f ts i c*(B m c j*bX f N (ts.getD j []))) ts.length) ts.length=sR (fun c => sR (fun k => fo f ts i c*(q k*bX f (N+m - k) (ts.getD c []))) (m+1)) ts.length := Dm.sR_congr fun c hc => by
      have e4 : ∀ (g : Nat → Int) (a : Int) n, sR (fun j => a*g j) n=a*sR g n := fun g a n => by
        have := Dm.sR_lin a 0 g (fun _ => 0) n
        have e5 : sR (fun j => a*g j) n=sR (fun i => a*g i+0*(fun _ => (0 : Int)) i) n := Dm.sR_congr fun j _ => by grind
        rw [e5, this]
        grind
      rw [e4, e4, F.vec nd cl N m c hc]
    rw [e3, Dm.sR_swap]
    have e6 : sR (fun k => sR (fun c => fo f ts i c*(q k*bX f (N+m - k) (ts.getD c []))) ts.length) (m+1)=sR (fun k => q k*bX f (N+(m+1) - k) (ts.getD i [])) (m+1) := Dm.sR_congr fun k hk => by
      have e7 : N+(m+1) - k=(N+m - k)+1 := by omega
      rw [e7, k_ nd cl _ i hi]
      have e4 : ∀ (g : Nat → Int) (a : Int) n, sR (fun j => a*g j) n=a*sR g n := fun g a n => by
        have := Dm.sR_lin a 0 g (fun _ => 0) n
        have e5 : sR (fun j => a*g j) n=sR (fun i => a*g i+0*(fun _ => (0 : Int)) i) n := Dm.sR_congr fun j _ => by grind
        rw [e5, this]
        grind
      rw [← e4]
      exact Dm.sR_congr fun c _ => by grind
    rw [e6]
    show (1 : Int)*sR _ (m+1)+q (m+1)*_=sR _ (m+1)+q (m+1)*_
    rw [yW]
    congr 3
    omega
theorem iQ (f : List L → List (List L)) : ∀ (N : Nat) (l : List (List L)) (S : Nat → List (List L)), (∀ k, S (k+1)=(S k).flatMap f) → ∀ k, (((S (k+N)).length : Nat) : Int)=((S k).map (bX f N)).sum
  | 0, l, S, hS, k => by
    have : ∀ (z : List (List L)), (z.map (bX f 0)).sum=((z.length : Nat) : Int) := fun z => by
      induction z with
      | nil => rfl
      | cons a z ih => rw [vn, xp, ih, vN];show (1 : Int)+_=_;omega
    rw [this]
    rfl
  | N+1, l, S, hS, k => by
    have e : k+(N+1)=(k+1)+N := by omega
    rw [e, iQ f N l S hS (k+1), hS]
    have : ∀ (z : List (List L)), ((z.flatMap f).map (bX f N)).sum=(z.map (bX f (N+1))).sum := fun z => by
      induction z with
      | nil => rfl
      | cons a z ih => rw [vT, vw, List.sum_append, ih, vn, xp];rfl
    rw [this]
theorem lh {sg : List L}{bar : List (List L)}(ne : []∉bar)(h0 : bc bar []=true)(N : Nat) : (((avs sg bar N).length : Nat) : Int)=bX (dlt sg bar) N [] := by
  have := iQ (dlt sg bar) N [] (fun n => (avs sg bar n).map (lng bar)) (fun k => (mM ne h0 k).symm) 0
  rw [zo] at this
  simp only [fu] at this
  rw [this]
  show ((([[]] : List (List L)).map (lng bar)).map (bX (dlt sg bar) N)).sum=_
  show bX (dlt sg bar) N []+0=_
  omega
theorem u5 {m : Nat}{W ts : List (List L)}{q : Nat → Int}{B : Nat → Mx}(ne : []∉W)(m1 : 1≤m)(nd : ts.Nodup)(cl : ∀ s∈ts, ∀ b∈dlt (sgP m) (barP m W) s, b∈ts)(h0 : []∈ts)(F : Fad ts.length (fo (dlt (sgP m) (barP m W)) ts) q B)(N : Nat) :
    (((avs (sgP m) (barP m W) (N+ts.length)).length : Nat) : Int)=sR (fun k => -q (ts.length - k)*(((avs (sgP m) (barP m W) (N+k)).length : Nat) : Int)) ts.length := by
  obtain ⟨i, hi⟩ := v8 h0
  have hl := (vc.mp hi).1
  have gi : ts.getD i []=[] := by rw [vB, hi];rfl
  have v := F.vec nd cl N ts.length i hl
  rw [Dm.sR_zero fun j hj => by rw [F.z i j hl hj];exact zp _, gi] at v
  have b0 := rp (m := m) (W := W) m1
  have bne := kE (m := m) ne
  rw [lh bne b0]
  have e1 : sR (fun k => -q (ts.length - k)*(((avs (sgP m) (barP m W) (N+k)).length : Nat) : Int)) ts.length=sR (fun k => -q (ts.length - k)*bX (dlt (sgP m) (barP m W)) (N+k) []) ts.length := Dm.sR_congr fun k _ => by rw [lh bne b0]
  rw [e1]
  rw [Dm.sR_skip _ (vR ts.length)] at v
  have e2 : q 0*bX (dlt (sgP m) (barP m W)) (N+ts.length - 0) []=bX (dlt (sgP m) (barP m W)) (N+ts.length) [] := by rw [F.q0, yW];rfl
  rw [e2] at v
  have rev : ∀ (g : Nat → Int) (n : Nat), sR g n=sR (fun k => g (n - 1 - k)) n := fun g n => by
    induction n with
    | zero => rfl
    | succ n ih =>
      rw [Dm.sR_skip (fun k => g (n+1 - 1 - k)) (vR n)]
      show sR g n+g n=g (n+1 - 1 - 0)+_
      rw [ih]
      have e3 : sR (fun k => g (n+1 - 1 - Dm.sk 0 k)) n=sR (fun k => g (n - 1 - k)) n := Dm.sR_congr fun k hk => by
        show g (n+1 - 1 - (k+1))=_
        congr 1
        omega
      rw [e3]
      show _=g n+_
      omega
  have e4 : sR (fun k => (fun i => q i*bX (dlt (sgP m) (barP m W)) (N+ts.length - i) []) (Dm.sk 0 k)) ts.length=sR (fun k => -1*(-q (ts.length - k)*bX (dlt (sgP m) (barP m W)) (N+k) [])+0*0) ts.length := by
    rw [rev]
    refine Dm.sR_congr fun k hk => ?_
    show q (ts.length - 1 - k+1)*bX _ (N+ts.length - (ts.length - 1 - k+1)) []=_
    have a1 : ts.length - 1 - k+1=ts.length - k := by omega
    have a2 : N+ts.length - (ts.length - k)=N+k := by omega
    rw [a1, a2]
    grind
  have e5 := Dm.sR_lin (-1 : Int) 0 (fun k => -q (ts.length - k)*bX (dlt (sgP m) (barP m W)) (N+k) []) (fun _ => 0) ts.length
  rw [e5] at e4
  rw [e4] at v
  omega
theorem dQ {α : Type}[DecidableEq α] : ∀ {A B : List α}, A.Nodup → (∀ x∈A, x∈B) → B.length≤A.length → B.Perm A
  | [], B, _, _, h => by
    have : B=[] := w_ (by simpa using h)
    subst this
    exact .nil
  | a::A, B, nd, h, hl => by
    have ha := h a vz
    have p := List.perm_cons_erase ha
    have nd2 := vZ.mp nd
    refine p.trans (.cons a (dQ nd2.2 (fun x hx => ?_) ?_))
    · have := p.mem_iff.mp (h x (vq _ hx))
      rcases vt.mp this with e | e
      · rw [e] at hx;exact absurd hx nd2.1
      · exact e
    · have := p.length_eq
      rw [vN] at this hl
      omega
theorem m7 {H : Hp}{kvs : List (Key × L2.V)}{m : Nat}{bar : List (List L)}{wa : Addr}{ss : List (List L)}(F : gU H kvs m bar wa ss []) : ∃ ts : List (List L), kvs.map Prod.fst=ts.map (fun t => Sum.inr (toS t)) ∧ ts.Nodup ∧ ∀ t, t∈ts ↔ t∈ss := by
  have inj : ∀ a b : List L, (Sum.inr (toS a) : Key)=Sum.inr (toS b) → a=b := fun a b e => bb (by injection e)
  have nd : (ss.map fun t => (Sum.inr (toS t) : Key)).Nodup := by
    have := F.nd
    clear F
    induction ss with
    | nil => exact xa
    | cons a ss ih =>
      rw [vZ] at this
      rw [vn, vZ]
      refine ⟨fun hm => ?_, ih this.2⟩
      obtain ⟨b, hb, e⟩ := vH.mp hm
      rw [← inj _ _ e] at this
      exact this.1 (by rw [inj _ _ e] at hb ⊢;exact hb)
  have sub : ∀ x∈(ss.map fun t => (Sum.inr (toS t) : Key)), x∈kvs.map Prod.fst := fun x hx => by
    obtain ⟨t, ht, rfl⟩ := vH.mp hx
    have := F.key t
    rw [wg ht] at this
    rw [← cK, wA] at this
    obtain ⟨p, hp, e⟩ := this
    exact vH.mpr ⟨p, hp, xN e⟩
  have p := dQ nd sub (by rw [fu, fu];exact F.kl)
  have ex : ∀ (ks : List Key), (∀ k∈ks, ∃ t, t∈ss ∧ k=Sum.inr (toS t)) → ∃ ts : List (List L), ks=ts.map (fun t => Sum.inr (toS t)) := fun ks => by
    induction ks with
    | nil => exact fun _ => ⟨[], rfl⟩
    | cons k ks ih =>
      intro h
      obtain ⟨ts, e⟩ := ih fun k' hk => h k' (vq _ hk)
      obtain ⟨t, _, e2⟩ := h k vz
      exact ⟨t::ts, by rw [e2, e];rfl⟩
  obtain ⟨ts, e⟩ := ex (kvs.map Prod.fst) fun k hk => by
    obtain ⟨t, ht, e⟩ := vH.mp (p.mem_iff.mp hk)
    exact ⟨t, ht, e.symm⟩
  rw [e] at p
  refine ⟨ts, e, ?_, fun t => ?_⟩
  · have h2 := p.nodup_iff.mpr nd
    clear p e
    induction ts with
    | nil => exact xa
    | cons a ts ih =>
      rw [vn, vZ] at h2
      exact vZ.mpr ⟨fun hm => h2.1 (xA (f := fun t => (Sum.inr (toS t) : Key)) hm), ih h2.2⟩
  · constructor
    · intro ht
      obtain ⟨s, hs, e2⟩ := vH.mp (p.mem_iff.mp (xA (f := fun t => (Sum.inr (toS t) : Key)) ht))
      rw [← inj _ _ e2]
      exact hs
    · intro ht
      obtain ⟨s, hs, e2⟩ := vH.mp (p.mem_iff.mpr (xA (f := fun t => (Sum.inr (toS t) : Key)) ht))
      rw [← inj _ _ e2]
      exact hs
inductive pz (vs : List L2.V)(H : Hp)(Q : VK)(E : XK) : Prop
  | mk : ∀ (m : Nat) (a : Addr) (W : List (List L)), vs=[.int (m : Int), .ref a] → 1≤m → m≤3 → H a=some (.lst (W.map tx)) → []∉W → W.length≤6 → (∀ w∈W, w.length≤3) →
    (∀ t H' n (c : Nat → Int), 1≤n → n≤60 → H t=none → H' t=some (.tup (a6 n c)) → (∀ k, k < n → (c k).natAbs < big) → (∀ N, (((avs (sgP m) (barP m W) (N+n)).length : Nat) : Int)=sR (fun k => c k*(((avs (sgP m) (barP m W) (N+k)).length : Nat) : Int)) n) → aw H H' → Q (.ref t) H') → pz vs H Q E
inductive fj (vs : List L2.V)(H : Hp)(Q : VK)(E : XK) : Prop
  | mk : ∀ (t l : Addr) (n Z : Nat) (c x : Nat → Int), vs=[.ref t, .ref l] → H t=some (.tup (a6 n c)) → H l=some (.lst (a6 Z x)) → n≤100 → Z≤200 → (∀ k, k < n → (c k).natAbs < big) → (∀ k, k < Z → (x k).natAbs < big) → (∀ N, N+n < Z → x (N+n)=sR (fun k => c k*x (N+k)) n) → (∀ H', aw H H' → Q (.bl true) H') → fj vs H Q E
inductive dR (vs : List L2.V)(H : Hp)(Q : VK)(E : XK) : Prop
  | mk : ∀ (d : Addr) (m : Nat), vs=[.ref d, .int (m : Int)] → Fd H d → 1≤m → m≤3 → (∀ (l : Addr) (W : List (List L)) (H' : Hp), H l=none → H' l=some (.lst (W.map tx)) → []∉W → W.length≤6 → (∀ w∈W, w.length≤3) → Fd H' d → bT d H H' → Q (.ref l) H') → dR vs H Q E
inductive dS (vs : List L2.V)(H : Hp)(Q : VK)(E : XK) : Prop
  | mk : ∀ (m : Nat) (a : Addr) (W : List (List L)), vs=[.int (m : Int), .ref a] → 1≤m → m≤3 → H a=some (.lst (W.map tx)) → []∉W → W.length≤6 → (∀ w∈W, w.length≤3) → (∀ H', aw H H' → Q (.bl true) H') → dS vs H Q E
end Kx
namespace Kx
open PySem PySem.Spec PyProof.Rows L2 Wd
def top (i : Nat) : Stmt := PySem.Challenge.pw_ringwords_k75_recurrences.main.body.getD i (.Pass ⟨0, 0, 0, 0⟩)
theorem pA {α : Type}{us : List α}(h : us.length=1) : ∃ a0, us=[a0] := by
  cases us with
  | nil => cases h
  | cons a0 us =>
    cases us with
    | nil => exact ⟨a0, rfl⟩
    | cons b us => cases h
theorem lO {α : Type}{us : List α}(h : us.length=2) : ∃ a0 a1, us=[a0, a1] := by
  cases us with
  | nil => cases h
  | cons a0 us =>
    cases us with
    | nil => cases h
    | cons a1 us =>
      cases us with
      | nil => exact ⟨a0, a1, rfl⟩
      | cons b us => cases h
theorem u6 {α : Type}{us : List α}(h : us.length=3) : ∃ a0 a1 a2, us=[a0, a1, a2] := by
  cases us with
  | nil => cases h
  | cons a0 us =>
    cases us with
    | nil => cases h
    | cons a1 us =>
      cases us with
      | nil => cases h
      | cons a2 us =>
        cases us with
        | nil => exact ⟨a0, a1, a2, rfl⟩
        | cons b us => cases h
theorem uz {α : Type}{us : List α}(h : us.length=4) : ∃ a0 a1 a2 a3, us=[a0, a1, a2, a3] := by
  cases us with
  | nil => cases h
  | cons a0 us =>
    cases us with
    | nil => cases h
    | cons a1 us =>
      cases us with
      | nil => cases h
      | cons a2 us =>
        cases us with
        | nil => cases h
        | cons a3 us =>
          cases us with
          | nil => exact ⟨a0, a1, a2, a3, rfl⟩
          | cons b us => cases h
end Kx
namespace Kx
open PySem PySem.Spec PyProof.Rows L2 Wd
section
variable {P : Program} {w : World} {K : PySem.W.Frag} {mg : Str → Option Value} {base : Heap} {aB : Addr}
abbrev lj : Stmt := top 19
theorem pB : aC ["_law_feed_here", "_law_many", "_law_cell", "_law_mixed", "_law_found"] ["_law_feed_here", "_law_many"] (ao lj) := ⟨rfl, rfl, rfl, by decide +kernel, rfl, by decide +kernel, by decide +kernel⟩
theorem rL (D : Df K mg "_law_draw" lj)(T : Bt K w mg aB) : Fnc P w K mg base "_law_draw" ["_law_feed_here", "_law_many"] 1 fW := by
  have sc := pB
  refine D.ok sc (fun _ _ _ _ _ _ us hl => by obtain ⟨_, _, rfl⟩ := lO hl;rfl) (fun vs H Q E h => ?_) (fun f cdv A outer s H vs Q E hr h => ?_)
  · obtain ⟨d, m, rfl, _⟩ := h
    rfl
  · obtain ⟨d, m, rfl, F, m0, m1, k⟩ := h
    have hu := dY hr
    refine ⟨_, (@ag _ _ _ _ _ (@cF _ _ _ _ _ _ _ _ _ hu (pv 0) aD (@aA _ _ _ _ _ _ _ _ bJ (@aX _ _ _ _ _ _ hu (pv 0) aD (fun _ _ => rfl)) aq) rfl) (@ag _ _ _ _ _ (@dW _ _ _ _ _ _ _ _ (@a_ _ _ _ _ _ _ _ _ lX (@aX _ _ _ _ _ _ hu (pv 0) aD (fun _ _ => rfl)) aq (bY _)) (@ag _ _ _ _ _ (@ax _ _ (2) _ _ _ _ sc.nd rfl (Or.inl rfl) (@eF _ _ _ _ _ _ _ dq (@aX _ _ _ _ _ _ hu (pv 0) aD (fun _ _ => rfl)) (@aA _ _ _ _ _ _ _ _ d8 (@aX _ _ _ _ _ _ hu (pv 0) aD (fun _ _ => rfl)) (@au _ _ _ _ _ _ _ _ _ az (by rfl) T.len vV (@aa _ _ _ _ _ (@aX _ _ _ _ _ _ hu (pv 0) aD (fun _ _ => rfl)) af (by rfl)) (by decide) (by decide) (by rfl) (by rfl))) (fun _ _ => rfl)) (by rfl) (by first | exact .inl rfl | exact .inr rfl | assumption)) (@ag _ _ _ _ _ (@cF _ _ _ _ _ _ _ _ _ hu (pv 0) aD (@aA _ _ _ _ _ _ _ _ bJ (@aX _ _ _ _ _ _ hu (pv 0) aD (fun _ _ => rfl)) aq) rfl) (@ag _ _ _ _ _ (@dW _ _ _ _ _ _ _ _ (@a_ _ _ _ _ _ _ _ _ sJ (pv 2) (@aA _ _ _ _ _ _ _ _ ql aq aq) (bY _)) (@ag _ _ _ _ _ (@ax _ _ (3) _ _ _ _ sc.nd rfl (Or.inl rfl) (@aA _ _ _ _ _ _ _ _ d8 (@aA _ _ _ _ _ _ _ _ dj (@aA _ _ _ _ _ _ _ _ bJ (@aA _ _ _ _ _ _ _ _ d8 (pv 2) aq) (@aA _ _ _ _ _ _ _ _ dj aq (@aX _ _ _ _ _ _ hu (pv 0) aD (fun _ _ => rfl)))) aq) aq) (by rfl) (by first | exact .inl rfl | exact .inr rfl | assumption)) (@ag _ _ _ _ _ (@ax _ _ (3) _ _ _ _ sc.nd rfl (Or.inl rfl) (@aA _ _ _ _ _ _ _ _ d8 (@aA _ _ _ _ _ _ _ _ dj (@aA _ _ _ _ _ _ _ _ bJ (@aA _ _ _ _ _ _ _ _ eC (pv 3) aq) (@aA _ _ _ _ _ _ _ _ dj aq (@aX _ _ _ _ _ _ hu (pv 0) aD (fun _ _ => rfl)))) aq) aq) (by rfl) (by first | exact .inl rfl | exact .inr rfl | assumption)) (@ak _ _ _ (@aJ _ _ _ _ (@aA _ _ _ _ _ _ _ _ d8 (@aA _ _ _ _ _ _ _ _ eC (pv 3) aq) (pv 1)))))) bF) (@ak _ _ _ (@cF _ _ _ _ _ _ _ _ _ hu (pv 0) aD (pv 2) rfl))))) bF) (@ag _ _ _ _ _ (@ax _ _ (4) _ _ _ _ sc.nd rfl (Or.inl rfl) (@aA _ _ _ _ _ _ _ _ d8 (@aX _ _ _ _ _ _ hu (pv 0) aD (fun _ _ => rfl)) (pv 1)) (by rfl) (by first | exact .inl rfl | exact .inr rfl | assumption)) (@ag _ _ _ _ _ (@cF _ _ _ _ _ _ _ _ _ hu (pv 0) aD (@aA _ _ _ _ _ _ _ _ eC (@aX _ _ _ _ _ _ hu (pv 0) aD (fun _ _ => rfl)) (pv 1)) rfl) (@ak _ _ _ (@aJ _ _ _ _ (pv 4))))))), ?_⟩
    obtain ⟨c, i, l, t, ns, hd, hc, hne, h64⟩ := F.ex
    have dc : c≠d := oj hc hd (by intro z;cases z)
    have fin : ∀ (r i' l' t' : Int), 0≤r → r < m → Q (.int r) (upd H d (.dK (fkv c i' l' t'))) := fun r i' l' t' h0 h1 =>
      k r _ h0 h1 ⟨c, i', l', t', ns, ab, by rw [aj dc];exact hc, hne, h64⟩ bT.upd
    have c1 : ∀ o, (upd H d o) c=some (.lst (ns.map V.int)) := fun o => by rw [aj dc];exact hc
    have hl0 : (0 : Int) < ((ns.map V.int).length : Int) := by
      rw [fu]
      have := xy.mpr hne
      omega
    refine ⟨_, rfl, d, _, rfl, dg hd (j0 c i l t), _, _, rfl, rfl, _, rfl, d, _, rfl, dp hd (dz c i l t) (qN c i l t _), ?_⟩
    refine ⟨_, rfl, d, _, rfl, dg ab (fV c i l _), rfl, _, rfl, ?_⟩
    refine tf (fun _ => ?_) (fun _ => ?_)
    rotate_left
    · refine ⟨_, rfl, d, _, rfl, dg ab (fV c _ _ _), _, rfl, _, _, rfl, rfl, m0, ?_⟩
      refine ⟨_, rfl, d, _, rfl, dg ab (fV c _ _ _), _, rfl, _, _, rfl, rfl, ⟨m0, by omega⟩, _, rfl, d, _, rfl, dp ab (dz c _ _ _) (j3 c _ _ _ _), ?_⟩
      refine ⟨_, rfl, ?_⟩
      rw [ej]
      exact fin _ _ _ _ (yi _ (by omega)) (xG _ m0)
    obtain ⟨n, hn⟩ := oR hne i
    refine ⟨_, rfl, d, _, rfl, dg ab (jZ c i l _), _, rfl, d, _, rfl, dg ab (uu c i l _), _, rfl, d, _, rfl, dg ab (jZ c i l _), c, _, rfl, .inl (SqL.of (c1 _)), _, _, rfl, rfl, hl0, c, _, _, _, rfl, rfl, SqL.of (c1 _), hn, ?_⟩
    refine ⟨_, rfl, d, _, rfl, dg ab (uu c i l _), _, _, rfl, rfl, _, rfl, d, _, rfl, dp ab (dz c i l _) (u0 c i l _ _), ?_⟩
    rw [ej]
    refine ⟨_, rfl, _, _, rfl, rfl, ⟨by decide, by decide, by decide⟩, _, _, rfl, rfl, _, rfl, ?_⟩
    refine tf (fun _ => ?_) (fun _ => ?_)
    · refine ⟨_, rfl, _, _, rfl, rfl, (by show (0 : Int) < 2147483629;decide), _, rfl, d, _, rfl, dg ab (j0 c _ l _), _, _, rfl, rfl, .inl ⟨by decide, by decide⟩, _, _, rfl, rfl, _, _, rfl, rfl, .inr ⟨by decide, by decide⟩, _, _, rfl, rfl, (by show (0 : Int) < 2147483647;decide), ?_⟩
      refine ⟨_, rfl, _, _, rfl, rfl, ⟨by decide, by decide⟩, _, rfl, d, _, rfl, dg ab (j0 c _ l _), _, _, rfl, rfl, .inl ⟨by decide, by decide⟩, _, _, rfl, rfl, _, _, rfl, rfl, .inr ⟨by decide, by decide⟩, _, _, rfl, rfl, (by show (0 : Int) < 2147483587;decide), ?_⟩
      refine ⟨_, rfl, _, _, rfl, rfl, ⟨by decide, by decide⟩, _, rfl, _, _, rfl, rfl, m0, ?_⟩
      exact fin _ _ _ _ (yi _ (by omega)) (xG _ m0)
    · refine ⟨_, rfl, _, rfl, d, _, rfl, dp ab (dz c _ l _) (j3 c _ l _ _), ?_⟩
      rw [ej]
      refine ⟨_, rfl, d, _, rfl, dg ab (fV c _ _ _), _, rfl, _, _, rfl, rfl, m0, ?_⟩
      refine ⟨_, rfl, d, _, rfl, dg ab (fV c _ _ _), _, rfl, _, _, rfl, rfl, ⟨m0, by omega⟩, _, rfl, d, _, rfl, dp ab (dz c _ _ _) (j3 c _ _ _ _), ?_⟩
      refine ⟨_, rfl, ?_⟩
      rw [ej]
      exact fin _ _ _ _ (yi _ (by omega)) (xG _ m0)
abbrev lq : Stmt := top 18
theorem pD : aC ["_law_script"] ["_law_script"] (ao lq) := ⟨rfl, rfl, rfl, by decide +kernel, rfl, by decide +kernel, by decide +kernel⟩
theorem rM (D : Df K mg "_law_feed" lq)(T : Bt K w mg aB) : Fnc P w K mg base "_law_feed" ["_law_script"] 1 (j4 K) := by
  have sc := pD
  refine D.ok sc (fun _ _ _ _ _ _ us hl => by obtain ⟨_, rfl⟩ := pA hl;rfl) (fun vs H Q E h => ?_) (fun f cdv A outer s H vs Q E hr h => ?_)
  · obtain ⟨a, ns, rfl, _⟩ := h
    rfl
  · obtain ⟨a, ns, rfl, hS, hlen, k⟩ := h
    have hu := dY hr
    refine ⟨_, (@ak _ _ _ (@aJ _ _ _ _ (@jM _ _ _ _ _ (@cL _ _ _ _ _ _ _ _ _ aD (@aA _ _ _ _ _ _ _ _ qD (@bu _ _ _ _ _ _ _ _ _ cb (by rfl) T.list fX (@aa _ _ _ _ _ (@aF _ _ _ _ _ _ _ _ _ _ oG (pv 0) aO (@aP _ _ _ aq)) af (by rfl)) (by decide) (by decide) (by rfl) (by rfl)) (@aA _ _ _ _ _ _ _ _ jF (@bC _ _ _ _ (@aa _ _ _ _ _ aq af (by rfl))) (@bu _ _ _ _ _ _ _ _ _ jt (by rfl) T.int qO (@aa _ _ _ _ _ (@jr _ _ _ _ _ _ _ _ lX (@au _ _ _ _ _ _ _ _ _ az (by rfl) T.len vV (@aa _ _ _ _ _ (pv 0) af (by rfl)) (by decide) (by decide) (by rfl) (by rfl)) aq (bY _)) af (by rfl)) (by decide) (by decide) (by rfl) (by rfl)))) (@cL _ _ _ _ _ _ _ _ _ aD aq (@cL _ _ _ _ _ _ _ _ _ aD aq (@cL _ _ _ _ _ _ _ _ _ aD aq jL)))) rfl rfl (by simp) (by decide)))), ?_⟩
    intro p hp
    have s1 : aw H (upd H p (.dK [])) := aw.new hp
    have p1 : (upd H p (.dK [])) p=some (.dK []) := ab
    generalize upd H p (.dK [])=H1 at s1 p1
    refine ⟨_, rfl, _, rfl, a, _, rfl, s1.seq hS, fun q1 hq1 => ?_⟩
    rw [tI hlen]
    have s2 : aw H1 (upd H1 q1 (.lst (ns.map V.int))) := aw.new hq1
    have l2 : (upd H1 q1 (.lst (ns.map V.int))) q1=some (.lst (ns.map V.int)) := ab
    generalize upd H1 q1 (.lst (ns.map V.int))=H2 at s2 l2 ⊢
    refine ⟨q1, _, rfl, .inl (SqL.of l2), fun q2 hq2 => ?_⟩
    have s3 : aw H2 (upd H2 q2 (.lst (ns.map V.int))) := aw.new hq2
    have l3 : (upd H2 q2 (.lst (ns.map V.int))) q2=some (.lst (ns.map V.int)) := ab
    generalize upd H2 q2 (.lst (ns.map V.int))=H3 at s3 l3 ⊢
    refine ⟨(by show 1≤sizeLine;decide), fun q4 hq4 => ?_⟩
    have s4 : aw H3 (upd H3 q4 (.lst [V.int 0])) := aw.new hq4
    have l4 : (upd H3 q4 (.lst [V.int 0])) q4=some (.lst [V.int 0]) := ab
    generalize upd H3 q4 (.lst [V.int 0])=H4 at s4 l4 ⊢
    have s14 : aw H H4 := ((s1.trans s2).trans s3).trans s4
    refine ⟨_, rfl, a, _, rfl, .inl (s14.seq hS), rfl, .inr ⟨_, rfl, q4, _, _, rfl, rfl, l4, ?_, ?_, ?_, fun q5 hq5 => ?_⟩⟩
    · split <;> decide
    · split <;> decide
    · split <;> decide
    have s5 : aw H4 (upd H4 q5 (.lst (List.replicate ((if decide (V.int ((ns.map V.int).length : Int)=V.int 0)=true then 1 else 0 : Int)).toNat [V.int 0]).flatten)) := aw.new hq5
    have l5 : (upd H4 q5 (.lst (List.replicate ((if decide (V.int ((ns.map V.int).length : Int)=V.int 0)=true then 1 else 0 : Int)).toNat [V.int 0]).flatten)) q5=_ := ab
    generalize upd H4 q5 (.lst (List.replicate ((if decide (V.int ((ns.map V.int).length : Int)=V.int 0)=true then 1 else 0 : Int)).toNat [V.int 0]).flatten)=H5 at s5 l5 ⊢
    refine ⟨q2, q5, _, _, rfl, rfl, s5 _ _ (s4 _ _ l3), l5, ?_, fun q6 hq6 => ?_⟩
    · have e : (List.replicate ((if decide (V.int ((ns.map V.int).length : Int)=V.int 0)=true then 1 else 0 : Int)).toNat [V.int 0]).flatten.length≤1 := by split <;> decide
      have e2 : sizeLine=16777216 := x9
      have e3 : (ns.map V.int).length=ns.length := fu ..
      omega
    have el : ns.map V.int++(List.replicate ((if decide (V.int ((ns.map V.int).length : Int)=V.int 0)=true then 1 else 0 : Int)).toNat [V.int 0]).flatten=(if ns=[] then [0] else ns).map V.int := by
      cases ns with
      | nil => rfl
      | cons n r =>
        have en : ¬ (decide (V.int (((n::r).map V.int).length : Int)=V.int 0)=true) := by
          rw [fu, vN]
          simp only [V.int.injEq, yI]
          omega
        rw [if_neg en, if_neg (by simp)]
        simp
    rw [el]
    have s6 : aw H5 (upd H5 q6 (.lst ((if ns=[] then [0] else ns).map V.int))) := aw.new hq6
    have l6 : (upd H5 q6 (.lst ((if ns=[] then [0] else ns).map V.int))) q6=_ := ab
    generalize upd H5 q6 (.lst ((if ns=[] then [0] else ns).map V.int))=H6 at s6 l6 ⊢
    have p6 : H6 p=some (.dK []) := s6 _ _ (s5 _ _ (s4 _ _ (s3 _ _ (s2 _ _ p1))))
    have pq : q6≠p := oj l6 p6 (by intro z;cases z)
    refine ⟨p6, fkv q6 0 0 0, rfl, (by show 4≤15;decide), ?_⟩
    rw [tH]
    refine k p _ hp ⟨q6, 0, 0, 0, (if ns=[] then [0] else ns), ab, by rw [aj pq];exact l6, ?_, ?_⟩ fun b o e => ?_
    · split
      · simp
      · assumption
    · split
      · decide
      · omega
    · rw [aj (ae e hp)]
      exact s6 _ _ (s5 _ _ (s14 _ _ e))
end
end Kx
namespace Kx
open PySem PySem.Spec PyProof.Rows L2 Wd
section
variable {P : Program} {w : World} {K : PySem.W.Frag} {mg : Str → Option Value} {base : Heap} {aB : Addr}
abbrev lr : Stmt := top 3
theorem pE : aC ["word"] ["word"] (ao lr) := ⟨rfl, rfl, rfl, by decide +kernel, rfl, by decide +kernel, by decide +kernel⟩
theorem rN (D : Df K mg "back" lr)(T : Bt K w mg aB) : Fnc P w K mg base "back" ["word"] 1 pW := by
  have sc := pE
  refine D.ok sc (fun _ _ _ _ _ _ us hl => by obtain ⟨_, rfl⟩ := pA hl;rfl) (fun vs H Q E h => ?_) (fun f cdv A outer s H vs Q E hr h => ?_)
  · obtain ⟨u, rfl, _⟩ := h
    rfl
  · obtain ⟨u, rfl, hu, k⟩ := h
    have l16 := aV
    refine ⟨_, (@ak _ _ _ (@aJ _ _ _ _ (@fH _ _ _ _ _ _ _ _ _ _ _ _ wD PySem.F.slot_str_join PySem.F.type_str_join jS aD (@aa _ _ _ _ _ (@aY _ _ _ _ _ _ _ (["letter"]) (["letter"]) ([]) _ _ _ _ (@a9 _ _ _ _ _ _ rfl (by kernel_rfl)) rfl (@oM _ _ _ _ _ _ rfl T.reversed i4 (@aa _ _ _ _ _ (pv 0) af (by rfl)) (by rfl)) (fun _ _ _ _ => @ar _ _ (0) _ (show (["letter"] : List Str).Nodup from by decide +kernel) rfl (Or.inl rfl) (by first | exact .inl rfl | exact .inr rfl | assumption)) (fun _ _ _ _ => aL) (fun _ _ _ _ => by (exact (@oN _ _ _ _ _ _ _ _ _ T.dB rfl rfl rfl T.mgB (pv 0) (fun _ _ => rfl) (by decide)))) (by intro _ ;rfl)) af (by rfl)) (by rfl) (by rfl) (by rfl) (by rfl) (by rfl)))), ?_⟩
    refine ⟨rfl, _, rfl, _, rfl, (by rw [ah];omega), ?_⟩
    refine bI (own := ["letter"]) (cap := []) (J := tj (toS u)) u.length (fun i ys σ H' => H'=H ∧ ys=mz ((bk u).take i) ∧ ∃ v, σ = [v]) ⟨rfl, rfl, none, rfl⟩ (fun i ys σ H' hi ⟨_, e, _⟩ => ?_) (by omega) (fun i ys σ H' hi _ => ?_) (fun ys σ H' _ => ?_) ?_ ?_
    · rw [e, dA, vC];omega
    · show i < (toS u).cps.size;rw [bD];exact hi
    · show _=(toS u).cps.size;rw [bD]
    · rintro i ys σ H1 x H2 N hi ⟨rfl, rfl, v, rfl⟩ ⟨rfl, c, hc, rfl⟩ hN
      rw [bD] at hc
      obtain ⟨y, hy, e⟩ := dy hc
      obtain ⟨t, ht⟩ := T.gB y
      refine ⟨_, rfl, toS [y], toS [inv y], t, by rw [e], ht, hN _ _ _ ⟨rfl, ?_, _, rfl⟩⟩
      rw [gf (qR u hi hy), ← fY]
      rfl
    · rintro ys σ H1 l ⟨rfl, rfl, v, rfl⟩ hl
      rw [wC (by rw [bK];exact vd _)]
      refine ⟨_, l, (bk u).map fun x => toS [x], rfl, rfl, SqL.of (by rw [ab, iB]), gb _ (by rw [bK];omega), ?_⟩
      rw [f_]
      exact k _ (aw.new hl)
end
end Kx
namespace Kx
open PySem PySem.Spec PyProof.Rows L2 Wd
section
variable {P : Program} {w : World} {K : PySem.W.Frag} {mg : Str → Option Value} {base : Heap} {aB : Addr}
abbrev hV : Stmt := top 20
theorem m8 : aC ["_law_word", "_law_found", "_law_sign"] ["_law_word"] (ao hV) := ⟨rfl, rfl, rfl, by decide +kernel, rfl, by decide +kernel, by decide +kernel⟩
theorem pF (D : Df K mg "_law_back" hV) : Fnc P w K mg base "_law_back" ["_law_word"] 1 pW := by
  have sc := m8
  refine D.ok sc (fun _ _ _ _ _ _ us hl => by obtain ⟨_, rfl⟩ := pA hl;rfl) (fun vs H Q E h => ?_) (fun f cdv A outer s H vs Q E hr h => ?_)
  · obtain ⟨u, rfl, _⟩ := h
    rfl
  · obtain ⟨u, rfl, hu, k⟩ := h
    have l16 := aV
    refine ⟨_, (@ag _ _ _ _ _ (@ax _ _ (1) _ _ _ _ sc.nd rfl (Or.inl rfl) aD (by rfl) (by first | exact .inl rfl | exact .inr rfl | assumption)) (@ag _ _ _ _ _ (@bB _ _ _ _ _ _ _ _ vU rfl (@iz _ _ _ _ (pv 0)) (@ar _ _ (2) _ sc.nd rfl (Or.inl rfl) (by first | exact .inl rfl | exact .inr rfl | assumption)) (@ak _ _ _ (@ax _ _ (1) _ _ _ _ sc.nd rfl (Or.inl rfl) (@aA _ _ _ _ _ _ _ _ aK (@ij _ _ _ _ _ _ _ _ (@a_ _ _ _ _ _ _ _ _ jq (pv 2) aD rfl) (@jC _ _ _ _ _ _ _ _ _ wD PySem.F.slot_str_upper PySem.F.type_str_upper mm (pv 2) (by rfl) (by rfl)) (@jC _ _ _ _ _ _ _ _ _ wD PySem.F.slot_str_lower PySem.F.type_str_lower mn (pv 2) (by rfl) (by rfl))) (pv 1)) (by rfl) (by first | exact .inl rfl | exact .inr rfl | assumption))) (by intro _ ;rfl)) (@ak _ _ _ (@aJ _ _ _ _ (pv 1))))), ?_⟩
    refine ⟨_, rfl, _, rfl, gP (z := toS u) (fun i σ H' => ∃ v, σ = [some (tx u), some (tx (bk (u.take i))), v] ∧ H'=H) ⟨none, (by rw [List.take_zero];show _=[some (tx u), some (tx []), none];rw [iA];rfl), rfl⟩ ?_ ?_⟩
    · rintro i c σ H1 hc ⟨v, rfl, rfl⟩
      obtain ⟨x, hx, e⟩ := dy hc
      rw [e]
      have hi : i < u.length := (vc.mp hx).1
      have fin : ∀ z, z=toS [inv x] → ∃ v', [some (tx u), some (V.str (z++toS (bk (u.take i)))), some (V.str (toS [x]))]=[some (tx u), some (tx (bk (u.take (i+1)))), v'] ∧ H1=H1 := fun z ez => by
        refine ⟨some (V.str (toS [x])), ?_, rfl⟩
        rw [ez, cW, gf hx, jV]
        rfl
      have room : ∀ z, z=toS [inv x] → z.length+(toS (bk (u.take i))).length≤sizeLine := fun z ez => by
        rw [ez, ah, ah, bK, vC]
        simp only [vv]
        omega
      refine ⟨_, rfl, _, _, rfl, rfl, _, rfl, ?_⟩
      rw [mx]
      refine tf (fun h => ?_) (fun h => ?_)
      · have h : x.val < 6 := by simpa using h
        exact ⟨_, rfl, rfl, _, rfl, rfl, (by rw [ah];show 1≤5592405;decide), _, rfl, _, _, rfl, rfl, room _ (fT h), fin _ (fT h)⟩
      · have h : ¬ x.val < 6 := by simpa using h
        exact ⟨_, rfl, rfl, _, rfl, rfl, (by rw [ah];show 1≤5592405;decide), _, rfl, _, _, rfl, rfl, room _ (fU h), fin _ (fU h)⟩
    · rintro σ H1 ⟨v, rfl, rfl⟩
      rw [bD, vY]
      exact ⟨_, rfl, k _ (aw.refl _)⟩
end
end Kx
namespace Kx
open PySem PySem.Spec PyProof.Rows L2 Wd
section
variable {P : Program} {w : World} {K : PySem.W.Frag} {mg : Str → Option Value} {base : Heap} {aB : Addr}
abbrev lz : Stmt := top 6
theorem pG : aC ["barred", "found", "word", "size"] ["barred"] (ao lz) := ⟨rfl, rfl, rfl, by decide +kernel, rfl, by decide +kernel, by decide +kernel⟩
theorem rO (D : Df K mg "beginnings" lz)(T : Bt K w mg aB) : Fnc P w K mg base "beginnings" ["barred"] 1 kz := by
  have sc := pG
  refine D.ok sc (fun _ _ _ _ _ _ us hl => by obtain ⟨_, rfl⟩ := pA hl;rfl) (fun vs H Q E h => ?_) (fun f cdv A outer s H vs Q E hr h => ?_)
  · obtain ⟨a, bar, rfl, _⟩ := h
    rfl
  · obtain ⟨a, bar, rfl, ha, bl, bw, k⟩ := h
    have l16 := aV
    have hu := dY hr
    refine ⟨_, (@ag _ _ _ _ _ (@ax _ _ (1) _ _ _ _ sc.nd rfl (Or.inl rfl) eK (by rfl) (by first | exact .inl rfl | exact .inr rfl | assumption)) (@ag _ _ _ _ _ (@bB _ _ _ _ _ _ _ _ vU rfl (@br _ _ _ _ (pv 0)) (@ar _ _ (2) _ sc.nd rfl (Or.inl rfl) (by first | exact .inl rfl | exact .inr rfl | assumption)) (@ak _ _ _ (@bB _ _ _ _ _ _ _ _ vU rfl (@a8 _ _ _ _ _ _ rfl T.range (@aa _ _ _ _ _ (@au _ _ _ _ _ _ _ _ _ b_ (by rfl) T.len vV (@aa _ _ _ _ _ (pv 2) af (by rfl)) (by decide) (by decide) (by rfl) (by rfl)) af (by rfl)) (by rfl)) (@ar _ _ (3) _ sc.nd rfl (Or.inl rfl) (by first | exact .inl rfl | exact .inr rfl | assumption)) (@ak _ _ _ (@cF _ _ _ _ _ _ _ _ _ hu (pv 1) (@aF _ _ _ _ _ _ _ _ _ _ bh (pv 2) aO (@aP _ _ _ (pv 3))) gE rfl)) (by intro _ ;rfl))) (by intro _ ;rfl)) (@ak _ _ _ (@aJ _ _ _ _ (pv 1))))), ?_⟩
    intro d hd
    have s1 := aw.new (o := .dK []) hd
    have f1 : (upd H d (.dK [])) d=some (.dK []) := ab
    generalize upd H d (.dK [])=H1 at s1 f1 ⊢
    refine ⟨_, rfl, a, rfl, ⟨_, SqL.of (s1 _ _ ha)⟩, ?_⟩
    refine iq (xs := bar.map tx) (fun i σ H' => ∃ (b2 b3 : Option V) (kvs : List (Key × V)), σ = [some (.ref a), some (.ref d), b2, b3] ∧ H' d=some (.dK kvs) ∧ kvs.length≤i*10 ∧ sr kvs (bar.take i) ∧ aw H H') ⟨none, none, [], rfl, f1, vR _, fun t => rfl, s1⟩ (fun i σ H' _ ⟨_, _, _, _, _, _, _, e⟩ => SqL.of (e _ _ ha)) ?_ ?_
    · rintro i x σ H2 hx ⟨b2, b3, kvs, rfl, f2, kl, bg, s2⟩
      rw [vo] at hx
      obtain ⟨v, hv, rfl⟩ := vL.mp hx
      have vl := bw v (vD hv)
      have lv := ah v
      have il := (vc.mp hv).1
      refine ⟨_, rfl, toS v, rfl, by omega, ?_⟩
      rw [lv]
      refine ⟨_, rfl, by omega, by omega, ?_⟩
      rw [vJ]
      refine bt (lo := 0) (n := v.length) (fun j σ H' => ∃ (b3 : Option V) (kvs : List (Key × V)), σ = [some (.ref a), some (.ref d), some (tx v), b3] ∧ H' d=some (.dK kvs) ∧ kvs.length≤i*10+j ∧ (∀ t : List L, (bP kvs (.inr (toS t))).isSome=(bc (bar.take i) t || (decide (t.length < j) && t.isPrefixOf v))) ∧ aw H H') ⟨_, kvs, rfl, f2, kl, fun t => by rw [bg t];simp, s2⟩ ?_ ?_
      · rintro j σ H3 hj ⟨b3, kvs, rfl, f3, kl, bg, s3⟩
        rw [xC]
        refine ⟨_, rfl, _, rfl, _, rfl, _, rfl, toS v, rfl, by omega, ?_⟩
        rw [aU, eg _ (by omega), vJ]
        refine ⟨d, _, rfl, mf.k (k := .inr (toS (v.take j))) f3 (by omega), ?_⟩
        refine ⟨_, _, rfl, ab, vI (bx _ _ _) (by omega), fun t => ?_, fun b o e => by rw [aj (ae e hd)];exact s3 _ _ e⟩
        rw [cX]
        by_cases e : t=v.take j
        · rw [if_pos (by rw [e])]
          have h1 : (v.take j).length=j := by rw [vC];omega
          have h2 : (v.take j).isPrefixOf v=true := wO.mpr (List.take_prefix j v)
          rw [e, h1, h2, wg (xv j)]
          simp
        · rw [if_neg (fun z => e (bb (xx z))), bg t]
          congr 1
          rw [v_, v3, v3, wy, wy, wO]
          constructor
          · rintro ⟨a1, a2⟩;exact ⟨by omega, a2⟩
          · rintro ⟨a1, a2⟩
            refine ⟨?_, a2⟩
            rcases yu t.length j with q | q
            · exact q
            · have : t.length=j := by omega
              exact absurd (by rw [← this];exact yT.mp a2) e
      · rintro σ H3 ⟨b3, kvs, rfl, f3, kl, bg, s3⟩
        refine ⟨_, _, kvs, rfl, f3, by omega, fun t => ?_, s3⟩
        rw [bg t, vP, hv]
        exact (mR _ _ _).symm
    · rintro σ H2 ⟨b2, b3, kvs, rfl, f2, kl, bg, s2⟩
      rw [fu, vY] at bg
      exact ⟨_, rfl, k d kvs H2 hd f2 bg s2⟩
abbrev dU : Stmt := top 8
theorem jc : aC ["begins", "text", "place"] ["begins", "text"] (ao dU) := ⟨rfl, rfl, rfl, by decide +kernel, rfl, by decide +kernel, by decide +kernel⟩
theorem lA (D : Df K mg "longest_end" dU)(T : Bt K w mg aB) : Fnc P w K mg base "longest_end" ["begins", "text"] 1 dI := by
  have sc := jc
  refine D.ok sc (fun _ _ _ _ _ _ us hl => by obtain ⟨_, _, rfl⟩ := lO hl;rfl) (fun vs H Q E h => ?_) (fun f cdv A outer s H vs Q E hr h => ?_)
  · obtain ⟨d, kvs, bar, t, rfl, _⟩ := h
    rfl
  · obtain ⟨d, kvs, bar, t, rfl, hd, bg, b0, tl, k⟩ := h
    have l16 := aV
    have hu := dY hr
    have lt := ah t
    refine ⟨_, (@ag _ _ _ _ _ (@ax _ _ (2) _ _ _ _ sc.nd rfl (Or.inl rfl) aq (by rfl) (by first | exact .inl rfl | exact .inr rfl | assumption)) (@ag _ _ _ _ _ (@ik _ _ _ _ _ _ vU (@kc _ _ _ _ _ _ hu (@aF _ _ _ _ _ _ _ _ _ _ bh (pv 1) (@aP _ _ _ (pv 2)) aO) (pv 0) rfl) (@ak _ _ _ (@qe _ _ (2) _ _ _ _ _ _ sc.nd rfl (Or.inl rfl) aq nG (by first | exact .inl rfl | exact .inr rfl | assumption)))) (@ak _ _ _ (@aJ _ _ _ _ (@aF _ _ _ _ _ _ _ _ _ _ bh (pv 1) (@aP _ _ _ (pv 2)) aO))))), ?_⟩
    refine iE (fun n σ H' => ∃ p : Nat, σ = [some (.ref d), some (tx t), some (.int (p : Int))] ∧ H'=H ∧ p+n=t.length ∧ lng bar (t.drop p)=lng bar t)
      (fun σ H' => ∃ p : Nat, σ = [some (.ref d), some (tx t), some (.int (p : Int))] ∧ H'=H ∧ p≤t.length ∧ t.drop p=lng bar t) ⟨t.length, 0, rfl, rfl, by omega, rfl⟩ ?_ ?_
    · rintro nx hnx n σ H' ⟨p, rfl, rfl, hp, e⟩
      have g := dX.k (k := .inr (toS (t.drop p))) hd
      refine ⟨_, rfl, _, rfl, _, rfl, toS t, rfl, by omega, ?_⟩
      rw [aU, c9 _ (by omega), vJ]
      refine ⟨_, rfl, d, _, rfl, g, _, rfl, ?_⟩
      rw [bg]
      cases hb : bc bar (t.drop p) with
      | true =>
        refine oS rfl (hnx _ _ ⟨p, rfl, rfl, by omega, ?_⟩)
        rw [← e]
        cases ht : t.drop p with
        | nil => rfl
        | cons x r => rw [ht] at hb;rw [lng, if_pos hb]
      | false =>
        have ht : t.drop p≠[] := fun z => by rw [z, b0] at hb;cases hb
        have pl : p < t.length := by
          rcases yu p t.length with q | q
          · exact q
          · exact absurd (List.drop_of_length_le q) ht
        refine pX rfl ⟨_, fun σ' H' q => q, ?_⟩
        refine ⟨_, rfl, _, _, rfl, rfl, n - 1, by omega, p+1, ?_, rfl, by omega, ?_⟩
        · rw [show ((p+1 : Nat) : Int)=(p : Int)+1 by omega];rfl
        · rw [← e, yz pl]
          rw [yz pl] at hb
          rw [lng, if_neg (by rw [hb];exact vm)]
    · rintro σ H' ⟨p, rfl, rfl, hp, e⟩
      refine ⟨_, rfl, _, rfl, _, rfl, toS t, rfl, by omega, ?_⟩
      rw [aU, c9 _ (by omega), vJ, e]
      exact k
end
end Kx
namespace Kx
open PySem PySem.Spec PyProof.Rows L2 Wd
section
variable {P : Program} {w : World} {K : PySem.W.Frag} {mg : Str → Option Value} {base : Heap} {aB : Addr}
theorem nk2 {Q : Bool → Hp → Prop}{H : Hp}{b : Bool}(h : Q (!b) H) : eB Q b H := h
abbrev fk : Stmt := top 7
theorem lC : aC ["many", "barred", "begins", "state", "read"] ["many", "barred", "begins", "state"] (ao fk) := ⟨rfl, rfl, rfl, by decide +kernel, rfl, by decide +kernel, by decide +kernel⟩
theorem m9 (D : Df K mg "states_behind" fk)(T : Bt K w mg aB)(S : ∃ t, mg "SMALL" = some (.str "abcdef" t))(Tany : mg "any" = none)(F_back : Fnc P w K mg base "back" ["word"] 1 pW)(F_longest : Fnc P w K mg base "longest_end" ["begins", "text"] 1 dI) : Fnc P w K mg base "states_behind" ["many", "barred", "begins", "state"] 2 e9 := by
  obtain ⟨_, mgS⟩ := S
  have sc := lC
  refine D.ok sc (fun _ _ _ _ _ _ us hl => by obtain ⟨_, _, _, _, rfl⟩ := uz hl;rfl) (fun vs H Q E h => ?_) (fun f cdv A outer s H vs Q E hr h => ?_)
  · obtain ⟨m, a, d, kvs, bar, st, rfl, _⟩ := h
    rfl
  · obtain ⟨m, a, d, kvs, bar, st, rfl, m6, ha, hd, bg, b0, bl, bw, sl, k⟩ := h
    have l16 := aV
    have hu := dY hr
    have ls := ah st
    have sm := eZ m
    have lsm := ah (smN m)
    refine ⟨_, (@ag _ _ _ _ _ (@gT _ (4) _ _ _ _ _ _ _ _ _ (["letter", "state"]) (["letter"]) ([3]) _ _ _ _ sc.nd rfl (Or.inl rfl) (@a9 _ _ _ _ _ _ rfl (by kernel_rfl)) rfl (@iz _ _ _ _ (@aA _ _ _ _ _ _ _ _ aK (@aF _ _ _ _ _ _ _ _ _ _ bh (@gG _ _ (.str "abcdef") _ _ rfl mgS ⟨_, rfl⟩ (by decide)) aO (@aP _ _ _ (pv 0))) (@aT _ _ _ _ _ _ _ _ _ _ _ F_back hr (by decide) rfl (@aa _ _ _ _ _ (@aF _ _ _ _ _ _ _ _ _ _ bh (@gG _ _ (.str "abcdef") _ _ rfl mgS ⟨_, rfl⟩ (by decide)) aO (@aP _ _ _ (pv 0))) af (by rfl)) (by decide) (by rfl) (by rfl)))) (fun _ _ _ _ => @ar _ _ (0) _ (show (["letter", "state"] : List Str).Nodup from by decide +kernel) rfl (Or.inl rfl) (by first | exact .inl rfl | exact .inr rfl | assumption)) (fun _ _ _ _ => aL) (fun _ _ _ _ => by (exact @aA _ _ _ _ _ _ _ _ aK (by (exact (pv 1))) (by (exact (pv 0))))) (by intro _ ;rfl) (by rfl) (by first | exact .inl rfl | exact .inr rfl | assumption)) (@ak _ _ _ (@aJ _ _ _ _ (@mL _ _ _ _ _ _ _ (["text", "begins", "barred"]) (["text"]) ([2, 1]) ("text") _ _ _ _ (@oW _ _ _ _ _ _ _ rfl (by kernel_rfl)) rfl (@br _ _ _ _ (pv 4)) (fun _ _ _ _ _ => @ar _ _ (0) _ (show (["text", "begins", "barred"] : List Str).Nodup from by decide +kernel) rfl (Or.inr rfl) (by first | exact .inl rfl | exact .inr rfl | assumption)) (fun _ _ _ _ _ => (@eN _ _ _ (by exact (@ft _ _ _ _ (@mD _ _ _ (@au _ _ _ _ _ _ _ _ _ (@i_ _ (K) rfl rfl) (by rfl) Tany tN (@aa _ _ _ _ _ (@aY _ _ _ _ _ _ _ (["word", "text"]) (["word"]) ([0]) _ _ _ _ (@a9 _ _ _ _ _ _ rfl (by kernel_rfl)) rfl (@mH _ _ (K) rfl _ _ (pv 2)) (fun _ _ _ _ => @ar _ _ (0) _ (show (["word", "text"] : List Str).Nodup from by decide +kernel) rfl (Or.inl rfl) (by first | exact .inl rfl | exact .inr rfl | assumption)) (fun _ _ _ _ => aL) (fun _ _ _ _ => by (exact (@j7 _ _ _ _ _ _ _ _ _ _ _ _ (K) rfl wD yA yB km (pv 1) (@aa _ _ _ _ _ (pv 0) af (by rfl)) (by rfl) (by rfl) (by rfl) (by rfl) (by rfl)))) (by intro _ ;rfl)) af (by rfl)) (by decide) (by decide) (by rfl) (by rfl)) (fun _ => rfl)))))) (fun _ _ _ _ _ => by (exact (@aT _ _ _ _ _ _ _ _ _ _ _ F_longest hr (by decide) rfl (@aa _ _ _ _ _ (pv 1) (@aa _ _ _ _ _ (pv 0) af (by rfl)) (by rfl)) (by decide) (by rfl) (by rfl)))) (by intro _ ;rfl))))), ?_⟩
    refine ⟨_, rfl, _, rfl, _, rfl, (aN (n := 6) (by decide)), _, rfl, _, rfl, _, rfl, (aN (n := 6) (by decide)), ?_⟩
    rw [iI]
    refine ⟨smN m, rfl, by omega, fun H0 s0 => ?_⟩
    have lbk := ah (bk (smN m))
    rw [bK] at lbk
    refine ⟨_, _, rfl, rfl, by omega, ?_⟩
    rw [cP]
    show ∃ z, V.str (toS (sgP m))=V.str z ∧ _
    have lsg := kA m
    refine ⟨_, rfl, ?_⟩
    refine bI (own := ["letter"]) (cap := [3]) (J := Its (toS (sgP m))) (sgP m).length (fun j ys σ H' => ∃ b : Option V, σ = [b, some (tx st)] ∧ ys=(((sgP m).take j).map fun x => st++[x]).map tx ∧ H'=H0) ⟨none, rfl, rfl, rfl⟩ (fun j ys σ H' hj ⟨_, _, e, _⟩ => by rw [e, fu, fu, vC];omega) (by omega) (fun j ys σ H' hj _ => ?_) (fun ys σ H' _ => ?_) ?_ ?_
    · show j < (toS _).cps.size;rw [bD];exact hj
    · show _=(toS _).cps.size;rw [bD]
    · rintro j ys σ' H7 z H8 N hj ⟨b, rfl, rfl, rfl⟩ ⟨rfl, c, hc, rfl⟩ hN
      obtain ⟨x, hx, e⟩ := dy hc
      rw [e]
      have lx := ah [x]
      have ls1 : [x].length=1 := rfl
      refine ⟨_, rfl, _, rfl, _, _, rfl, rfl, by omega, ?_⟩
      rw [cW]
      refine hN _ _ _ ⟨_, rfl, ?_, rfl⟩
      rw [vP, hx, vw, vw]
      rfl
    rintro ys σ' H1 l0 ⟨b, rfl, rfl, rfl⟩ hl0
    rw [vY]
    have s1 := s0.then (o := .lst (((sgP m).map fun x => st++[x]).map tx)) hl0
    have f1 : (upd H1 l0 (.lst (((sgP m).map fun x => st++[x]).map tx))) l0=some (.lst (((sgP m).map fun x => st++[x]).map tx)) := ab
    generalize upd H1 l0 (.lst (((sgP m).map fun x => st++[x]).map tx))=H2 at s1 f1 ⊢
    refine ⟨_, rfl, l0, rfl, ⟨_, SqL.of f1⟩, ?_⟩
    refine aZ (xs := ((sgP m).map fun x => st++[x]).map tx) (own := ["text"]) (cap := [2, 1]) (fun j ys σ H' => ∃ b : Option V, σ = [b, some (.ref d), some (.ref a)] ∧ ys=(((sgP m).take j).filter fun x => okB bar (st++[x])).map (fun x => tx (lng bar (st++[x]))) ∧ aw H2 H') ⟨none, rfl, rfl, aw.refl _⟩ (fun j ys σ H' hj ⟨_, _, e, _⟩ => by rw [e, fu];exact vI (xk _ _) (by rw [vC];omega)) (by rw [fu, fu];omega) (fun j ys σ H' ⟨_, _, _, e⟩ => SqL.of (e _ _ f1)) ?_ ?_
    · rintro j ys σ H3 z N hz ⟨b, rfl, rfl, s3⟩ hN
      rw [vo, vo] at hz
      obtain ⟨t0, ht0, rfl⟩ := vL.mp hz
      obtain ⟨x, hx, rfl⟩ := vL.mp ht0
      have ha3 := s3 _ _ (s1 _ _ ha)
      have hd3 := s3 _ _ (s1 _ _ hd)
      have lt := ah (st++[x])
      rw [vb, vv] at lt
      refine ⟨_, rfl, a, rfl, ⟨_, SqL.of ha3⟩, ?_⟩
      refine aZ (xs := bar.map tx) (own := ["word"]) (cap := [0]) (fun i ys σ H' => ∃ b : Option V, σ = [b, some (tx (st++[x]))] ∧ ys=((bar.take i).map fun w => w.isSuffixOf (st++[x])).map V.bl ∧ H'=H3) ⟨none, rfl, rfl, rfl⟩ (fun i ys σ H' hi ⟨_, _, e, _⟩ => by rw [e, fu, fu, vC];omega) (by rw [fu];omega) (fun i ys σ H' ⟨_, _, _, e⟩ => by rw [e];exact SqL.of ha3) ?_ ?_
      · rintro i ys σ H4 z N hz ⟨b, rfl, rfl, rfl⟩ hN
        rw [vo] at hz
        obtain ⟨w1, hw1, rfl⟩ := vL.mp hz
        refine ⟨_, rfl, rfl, _, rfl, _, _, rfl, rfl, ?_⟩
        rw [iJ]
        refine hN _ _ _ ⟨_, rfl, ?_, rfl⟩
        rw [vP, hw1, vw, vw]
        rfl
      rintro ys σ H4 q ⟨b, rfl, rfl, rfl⟩ hq
      rw [fu, vY]
      have s5 := s3.then (o := .lst ((bar.map fun w => w.isSuffixOf (st++[x])).map V.bl)) hq
      have f5 : (upd H4 q (.lst ((bar.map fun w => w.isSuffixOf (st++[x])).map V.bl))) q=some (.lst ((bar.map fun w => w.isSuffixOf (st++[x])).map V.bl)) := ab
      have hd5 := aw.new (o := .lst ((bar.map fun w => w.isSuffixOf (st++[x])).map V.bl)) hq _ _ hd3
      generalize upd H4 q (.lst ((bar.map fun w => w.isSuffixOf (st++[x])).map V.bl))=H5 at s5 f5 hd5 ⊢
      refine ⟨q, _, rfl, SqL.of f5, _, rfl, ?_⟩
      have eo : ((bar.map fun w => w.isSuffixOf (st++[x])).any id)=!(okB bar (st++[x])) := by
        unfold okB
        rw [Bool.not_not, List.any_map]
        rfl
      rw [eo]
      cases ho : okB bar (st++[x]) with
      | true =>
        refine nk2 (b := false) (pX rfl ?_)
        refine ⟨_, rfl, _, rfl, d, kvs, bar, st++[x], rfl, hd5, bg, b0, by rw [vb, vv];omega, hN _ _ _ ⟨_, rfl, ?_, s5⟩⟩
        rw [vP, hx, wZ, vw]
        simp [ho]
      | false =>
        refine nk2 (b := true) (oS rfl ?_)
        refine hN _ _ _ ⟨_, rfl, ?_, s5⟩
        rw [vP, hx, wZ]
        simp [ho]
    rintro ys σ H3 l ⟨b, rfl, rfl, s3⟩ hl
    rw [fu, fu, vY]
    refine k l _ ((s1.trans s3).free hl) ?_ ((s1.trans s3).then hl)
    rw [ab]
    unfold dlt
    rw [wx]
    rfl
end
end Kx
namespace Kx
open PySem PySem.Spec PyProof.Rows L2 Wd
section
variable {P : Program} {w : World} {K : PySem.W.Frag} {mg : Str → Option Value} {base : Heap} {aB : Addr}
abbrev pH : Stmt := top 5
theorem rP : aC ["many", "words", "barred", "letter", "begins", "found", "waiting", "state"] ["many", "words"] (ao pH) := ⟨rfl, rfl, rfl, by decide +kernel, rfl, by decide +kernel, by decide +kernel⟩
theorem tR (D : Df K mg "followed" pH)(T : Bt K w mg aB)(S : ∃ t, mg "SMALL" = some (.str "abcdef" t))(F_back : Fnc P w K mg base "back" ["word"] 1 pW)(F_begs : Fnc P w K mg base "beginnings" ["barred"] 1 kz)(F_behind : Fnc P w K mg base "states_behind" ["many", "barred", "begins", "state"] 2 e9) : Fnc P w K mg base "followed" ["many", "words"] 3 o8 := by
  obtain ⟨_, mgS⟩ := S
  have sc := rP
  refine D.ok sc (fun _ _ _ _ _ _ us hl => by obtain ⟨_, _, rfl⟩ := lO hl;rfl) (fun vs H Q E h => ?_) (fun f cdv A outer s H vs Q E hr h => ?_)
  · obtain ⟨m, a, W, rfl, _⟩ := h
    rfl
  · obtain ⟨m, a, W, rfl, m1, m6, ha, wne, wl, ww, k⟩ := h
    have l16 := aV
    have hu := dY hr
    have sm := eZ m
    refine ⟨_, (@ag _ _ _ _ _ (@ax _ _ (2) _ _ _ _ sc.nd rfl (Or.inl rfl) (@bu _ _ _ _ _ _ _ _ _ cb (by rfl) T.list fX (@aa _ _ _ _ _ (pv 1) af (by rfl)) (by decide) (by decide) (by rfl) (by rfl)) (by rfl) (by first | exact .inl rfl | exact .inr rfl | assumption)) (@ag _ _ _ _ _ (@bB _ _ _ _ _ _ _ _ vU rfl (@iz _ _ _ _ (@aF _ _ _ _ _ _ _ _ _ _ bh (@gG _ _ (.str "abcdef") _ _ rfl mgS ⟨_, rfl⟩ (by decide)) aO (@aP _ _ _ (pv 0)))) (@ar _ _ (3) _ sc.nd rfl (Or.inl rfl) (by first | exact .inl rfl | exact .inr rfl | assumption)) (@ak _ _ _ (@dh _ _ _ _ (@fH _ _ _ _ _ _ _ _ _ _ _ _ wk yM yN fL (pv 2) (@aa _ _ _ _ _ (@bC _ _ _ _ (@aa _ _ _ _ _ (@aA _ _ _ _ _ _ _ _ aK (pv 3) (@aT _ _ _ _ _ _ _ _ _ _ _ F_back hr (by decide) rfl (@aa _ _ _ _ _ (pv 3) af (by rfl)) (by decide) (by rfl) (by rfl))) (@aa _ _ _ _ _ (@aA _ _ _ _ _ _ _ _ aK (@aT _ _ _ _ _ _ _ _ _ _ _ F_back hr (by decide) rfl (@aa _ _ _ _ _ (pv 3) af (by rfl)) (by decide) (by rfl) (by rfl)) (pv 3)) af (by rfl)) (by rfl))) af (by rfl)) (by rfl) (by rfl) (by rfl) (by rfl) (by rfl)) (by rfl))) (by intro _ ;rfl)) (@ag _ _ _ _ _ (@ax _ _ (4) _ _ _ _ sc.nd rfl (Or.inl rfl) (@aT _ _ _ _ _ _ _ _ _ _ _ F_begs hr (by decide) rfl (@aa _ _ _ _ _ (pv 2) af (by rfl)) (by decide) (by rfl) (by rfl)) (by rfl) (by first | exact .inl rfl | exact .inr rfl | assumption)) (@ag _ _ _ _ _ (@ax _ _ (5) _ _ _ _ sc.nd rfl (Or.inl rfl) eK (by rfl) (by first | exact .inl rfl | exact .inr rfl | assumption)) (@ag _ _ _ _ _ (@ax _ _ (6) _ _ _ _ sc.nd rfl (Or.inl rfl) (@ij _ _ _ _ _ _ _ _ (@a_ _ _ _ _ _ _ _ _ jB aD (pv 2) rfl) (@bC _ _ _ _ af) (@bC _ _ _ _ (@aa _ _ _ _ _ aD af (by rfl)))) (by rfl) (by first | exact .inl rfl | exact .inr rfl | assumption)) (@ag _ _ _ _ _ (@ik _ _ _ _ _ _ vU (@eD _ _ _ (pv 6) (fun _ => rfl)) (@ag _ _ _ _ _ (@ax _ _ (7) _ _ _ _ sc.nd rfl (Or.inl rfl) (@jC _ _ _ _ _ _ _ _ _ wk PySem.F.slot_list_pop PySem.F.type_list_pop qC (pv 6) (by rfl) (by rfl)) (by rfl) (by first | exact .inl rfl | exact .inr rfl | assumption)) (@ak _ _ _ (@dW _ _ _ _ _ _ _ _ (@kc _ _ _ _ _ _ hu (pv 7) (pv 5) rfl) (@ag _ _ _ _ _ (@cF _ _ _ _ _ _ _ _ _ hu (pv 5) (pv 7) (@aT _ _ _ _ _ _ _ _ _ _ _ F_behind hr (by decide) rfl (@aa _ _ _ _ _ (pv 0) (@aa _ _ _ _ _ (pv 2) (@aa _ _ _ _ _ (pv 4) (@aa _ _ _ _ _ (pv 7) af (by rfl)) (by rfl)) (by rfl)) (by rfl)) (by decide) (by rfl) (by rfl)) rfl) (@ak _ _ _ (@dh _ _ _ _ (@fH _ _ _ _ _ _ _ _ _ _ _ _ wk yM yN fL (pv 6) (@aa _ _ _ _ _ (@aX _ _ _ _ _ _ hu (pv 5) (pv 7) (fun _ _ => rfl)) af (by rfl)) (by rfl) (by rfl) (by rfl) (by rfl) (by rfl)) (by rfl)))) bF)))) (@ak _ _ _ (@aJ _ _ _ _ (pv 5))))))))), ?_⟩
    refine ⟨_, rfl, a, _, rfl, .inl (SqL.of ha), fun b hb => ?_⟩
    have s1 := aw.new (o := .lst (W.map tx)) hb
    have f1 : (upd H b (.lst (W.map tx))) b=some (.lst (W.map tx)) := ab
    show bq _ _ _ _ (upd H b (.lst (W.map tx)))
    generalize upd H b (.lst (W.map tx))=H1 at s1 f1 ⊢
    refine ⟨_, rfl, _, rfl, _, rfl, (aN (n := 6) (by decide)), ?_⟩
    rw [iI]
    refine ⟨toS (smN m), rfl, gP (z := toS (smN m)) (fun i σ H' => ∃ (b3 : Option V), σ = [some (.int (m : Int)), some (.ref a), some (.ref b), b3, none, none, none, none] ∧ H' b=some (.lst ((W++((smN m).take i).flatMap fun x => [[x, inv x], [inv x, x]]).map tx)) ∧ aw H H') ⟨none, rfl, by simpa using f1, s1⟩ ?_ ?_⟩
    · rintro i c σ H2 hc ⟨b3, rfl, f2, s2⟩
      obtain ⟨x, hx, e⟩ := dy hc
      rw [e]
      have lx := ah [x]
      have ls1 : [x].length=1 := rfl
      have lb := ah (bk [x])
      rw [bK] at lb
      have i6 := (vc.mp hx).1
      refine ⟨_, rfl, .inl ⟨rfl, _, SqL.of f2⟩, _, rfl, _, rfl, [x], rfl, (by omega), fun H3 s3 => ⟨_, _, rfl, rfl, by omega, ?_⟩⟩
      refine ⟨_, rfl, [x], rfl, (by omega), fun H4 s4 => ⟨_, rfl, _, _, rfl, rfl, by omega, ?_⟩⟩
      rw [cW, cW]
      refine ⟨(aN (n := 2) (by decide)), fun q hq => ?_⟩
      have f4 := aw.new (o := .lst [tx ([x]++bk [x]), tx (bk [x]++[x])]) hq _ _ (s4 _ _ (s3 _ _ f2))
      have fl : ∀ l : List L, (l.flatMap fun x => [[x, inv x], [inv x, x]]).length=2*l.length := fun l => by
        induction l with
        | nil => rfl
        | cons x r ih => rw [vT, vb, ih];simp;omega
      have ln : (W++((smN m).take i).flatMap fun x => [[x, inv x], [inv x, x]]).length≤200 := by rw [vb, fl, vC];omega
      refine ⟨b, q, _, _, rfl, rfl, f4, ab, (by rw [fu];show _+2≤_;omega), ?_⟩
      refine ⟨_, rfl, ?_, fun b' o z => ?_⟩
      · rw [ab, vP, hx, xJ, List.flatMap_append, List.flatMap_singleton, ← v7, vw (l₂ := [[x, inv x], [inv x, x]])]
        rfl
      · rw [aj (ae z hb)]
        exact aw.new hq _ _ (s4 _ _ (s3 _ _ (s2 _ _ z)))
    · rintro σ H2 ⟨b3, rfl, f2, s2⟩
      rw [bD, vY] at f2
      have f2 : H2 b=some (.lst ((barP m W).map tx)) := f2
      have bl := kF m W
      have bw := o7 (m := m) (k := 10) (by decide) ww
      have b0 := rp (m := m) (W := W) m1
      have bne := kE (m := m) wne
      generalize barP m W=bar at f2 bl bw b0 bne k
      refine ⟨_, rfl, b, bar, rfl, f2, by omega, bw, fun g gv H3 hg f3 bg s3 => ?_⟩
      intro fd hfd
      have s4 := (s2.trans s3).then (o := .dK []) hfd
      have t4 := aw.new (o := .dK []) hfd
      have f4 : (upd H3 fd (.dK [])) fd=some (.dK []) := ab
      have fb4 := t4 _ _ (s3 _ _ f2)
      have fg4 := t4 _ _ f3
      have hfd0 : H fd=none := (s2.trans s3).free hfd
      generalize upd H3 fd (.dK [])=H4 at s4 f4 fb4 fg4 ⊢
      clear t4
      refine ⟨_, rfl, b, _, rfl, .inl (SqL.of fb4), rfl, ?_, _, rfl, ?_⟩
      · rw [List.all_map, wU];intro x _;rfl
      have nin : inV (V.str (Str.ofString "")) (bar.map tx)=false := by
        unfold inV
        rw [List.any_map, yC]
        intro w1 hw1 z
        have z : (toS w1 == Str.ofString "")=true := z
        have z := eq_of_beq z
        have e0 : toS w1=toS [] := z.trans (V.str.inj iA).symm
        rw [bb e0] at hw1
        exact bne hw1
      refine oS nin ⟨(aN (n := 1) (by decide)), fun wa hwa => ?_⟩
      have t5 := aw.new (o := .lst [V.str (Str.ofString "")]) hwa
      have s5 := s4.trans t5
      have f5 : (upd H4 wa (.lst [V.str (Str.ofString "")])) wa=some (.lst (([[]] : List (List L)).map tx)) := by rw [ab];exact v5 (fun z => some (HO.lst [z])) iA.symm
      have fb5 := t5 _ _ fb4
      have fg5 := t5 _ _ fg4
      have ff5 := t5 _ _ f4
      have hwa0 : H wa=none := s4.free hwa
      show bq _ _ _ _ (upd H4 wa (.lst [V.str (Str.ofString "")]))
      generalize upd H4 wa (.lst [V.str (Str.ofString "")])=H5 at s5 f5 fb5 fg5 ff5 ⊢
      have nbw : b≠wa := ae fb4 hwa
      have ngw : g≠wa := ae fg4 hwa
      have nfw : fd≠wa := ae f4 hwa
      have nbf : b≠fd := fun z => by rw [z, f4] at fb4;cases fb4
      have ngf : g≠fd := ae f3 hfd
      clear t5
      refine iE (fun n σ H' => ∃ (b7 : Option V) (kvs : List (Key × V)) (ss wt : List (List L)), σ = [some (.int (m : Int)), some (.ref a), some (.ref b), b3, some (.ref g), some (.ref fd), some (.ref wa), b7] ∧ H' b=some (.lst (bar.map tx)) ∧ H' g=some (.dK gv) ∧ H' fd=some (.dK kvs) ∧ H' wa=some (.lst (wt.map tx)) ∧ gU H' kvs m bar wa ss wt ∧ ([]∈ss ∨ []∈wt) ∧ (∀ u∈wt, bc bar u=true) ∧ 13*(2000 - ss.length)+wt.length≤n ∧ wt.length≤13*ss.length+1 ∧ aw H H')
        (fun σ H' => ∃ (b7 : Option V) (kvs : List (Key × V)) (ss : List (List L)), σ = [some (.int (m : Int)), some (.ref a), some (.ref b), b3, some (.ref g), some (.ref fd), some (.ref wa), b7] ∧ H' fd=some (.dK kvs) ∧ gU H' kvs m bar wa ss [] ∧ []∈ss ∧ aw H H')
        ⟨26001, none, [], [], [[]], rfl, fb5, fg5, ff5, f5, ⟨xa, fun s hs => absurd hs vA, vR _, fun t => rfl, fun s hs => absurd hs vA⟩, .inr (by simp), (fun u hu => by rw [vf.mp hu];exact b0), by simp, by simp, s5⟩ ?_ ?_
      · rintro nx hnx n σ H6 ⟨b7, kvs, ss, wt, rfl, fb, fg, ff, fw, F, h0, hbeg, hn, hwl, s6⟩
        have sl : ss.length≤1200 := by
          have := mT F.nd fun x hx => kD (F.beg x hx)
          have := mS bw
          omega
        refine ⟨_, rfl, _, .inl ⟨_, SqL.of fw, rfl⟩, ?_⟩
        rcases List.eq_nil_or_concat wt with rfl | ⟨ws, u, ewt⟩
        · exact oS rfl (hnx _ _ ⟨_, kvs, ss, rfl, ff, F, h0.resolve_right (by simp), s6⟩)
        · rw [List.concat_eq_append] at ewt
          subst ewt
          have hub := hbeg u (by simp)
          have ul : u.length≤10 := by
            obtain ⟨w1, hw1, h1, _⟩ := bN.mp hub
            have := bw w1 hw1
            omega
          refine pX (by simp) ⟨_, fun σ' H' q => q, ?_⟩
          refine ⟨_, rfl, .inl ⟨rfl, _, SqL.of fw⟩, wa, _, tx u, rfl, rfl, fw, by simp, ?_⟩
          have ew : ((ws++[u]).map tx).dropLast=ws.map tx := by rw [vw];simp
          rw [ew]
          have fw7 : (upd H6 wa (.lst (ws.map tx))) wa=some (.lst (ws.map tx)) := ab
          have k7 : ∀ c o, c≠wa → H6 c=some o → (upd H6 wa (.lst (ws.map tx))) c=some o := fun c o nc e => by rw [aj nc];exact e
          have fb7 := k7 _ _ nbw fb
          have fg7 := k7 _ _ ngw fg
          have ff7 := k7 _ _ nfw ff
          have F7 := F.mono (H' := upd H6 wa (.lst (ws.map tx))) fun r xs nr e => k7 _ _ nr e
          have s7 : aw H (upd H6 wa (.lst (ws.map tx))) := fun c o e => by rw [aj (ae e hwa0)];exact s6 _ _ e
          show bq _ _ _ _ (upd H6 wa (.lst (ws.map tx)))
          generalize upd H6 wa (.lst (ws.map tx))=H7 at fw7 fb7 fg7 ff7 F7 s7 ⊢
          clear k7
          rw [vb, vv] at hn hwl
          have gt := dX.k (k := .inr (toS u)) ff7
          refine ⟨_, rfl, _, rfl, fd, _, rfl, gt, _, rfl, ?_⟩
          rw [F7.key u]
          by_cases hus : u∈ss
          · rw [wg hus]
            refine mI ⟨n - 1, by omega, _, kvs, ss, ws, rfl, fb7, fg7, ff7, fw7, F7.pop hus, ?_, fun x hx => hbeg x (vM _ hx), by omega, by omega, s7⟩
            rcases h0 with q | q
            · exact .inl q
            · rcases vK.mp q with q | q
              · exact .inr q
              · rw [← vf.mp q] at hus;exact .inl hus
          · rw [vS hus]
            refine tK ?_
            refine ⟨_, rfl, _, rfl, _, rfl, _, rfl, m, b, g, gv, bar, u, rfl, m6, fb7, fg7, bg, b0, by omega, bw, ul, fun l H8 hl fl s8 => ?_⟩
            have dl := kC m bar u
            have kl := F7.kl
            refine ⟨_, rfl, _, rfl, fd, _, rfl, mf.k (k := .inr (toS u)) (s8 _ _ ff7) (by omega), ?_⟩
            have nlw : l≠wa := (ae fw7 hl).symm
            have nlf : l≠fd := (ae ff7 hl).symm
            have k9 : ∀ c o, c≠fd → H8 c=some o → (upd H8 fd (.dK (bQ kvs (.inr (toS u)) (.ref l)))) c=some o := fun c o nc e => by rw [aj nc];exact e
            have ff9 : (upd H8 fd (.dK (bQ kvs (.inr (toS u)) (.ref l)))) fd=some (.dK (bQ kvs (.inr (toS u)) (.ref l))) := ab
            have fb9 := k9 _ _ nbf (s8 _ _ fb7)
            have fg9 := k9 _ _ ngf (s8 _ _ fg7)
            have fw9 := k9 _ _ nfw.symm (s8 _ _ fw7)
            have fl9 := k9 _ _ nlf fl
            have F9 := ((F7.mono (H' := H8) fun r xs _ e => s8 _ _ e).mono (H' := upd H8 fd (.dK (bQ kvs (.inr (toS u)) (.ref l)))) fun r xs _ e => k9 _ _ (fun z => by rw [z, s8 _ _ ff7] at e;cases e) e).put hus hub fl9 nlw
            have s9 : aw H (upd H8 fd (.dK (bQ kvs (.inr (toS u)) (.ref l)))) := fun c o e => by rw [aj (ae e hfd0)];exact s8 _ _ (s7 _ _ e)
            generalize upd H8 fd (.dK (bQ kvs (.inr (toS u)) (.ref l)))=H9 at ff9 fb9 fg9 fw9 fl9 F9 s9 ⊢
            clear k9
            have gl := dX.k (k := .inr (toS u)) ff9
            rw [cX, if_pos rfl] at gl
            refine ⟨_, rfl, .inl ⟨rfl, _, SqL.of fw9⟩, _, rfl, _, rfl, fd, _, rfl, gl, wa, l, _, _, rfl, rfl, fw9, fl9, (by rw [fu, fu];omega), ?_⟩
            have k10 : ∀ c o, c≠wa → H9 c=some o → (upd H9 wa (.lst (ws.map tx++(dlt (sgP m) bar u).map tx))) c=some o := fun c o nc e => by rw [aj nc];exact e
            refine ⟨n - 1, by omega, _, _, ss++[u], ws++dlt (sgP m) bar u, rfl, k10 _ _ nbw fb9, k10 _ _ ngw fg9, k10 _ _ nfw ff9, by rw [ab, vw], F9.mono fun r xs nr e => k10 _ _ nr e, ?_, fun x hx => ?_, ?_, ?_, fun c o e => by rw [aj (ae e hwa0)];exact s9 _ _ e⟩
            · rcases h0 with q | q
              · exact .inl (vM _ q)
              · rcases vK.mp q with q | q
                · exact .inr (vM _ q)
                · exact .inl (vg _ q)
            · rcases vK.mp hx with q | q
              · exact hbeg x (vM _ q)
              · unfold dlt at q
                obtain ⟨y, _, rfl⟩ := vH.mp q
                exact dE b0 _
            · rw [vb, vb, vv];omega
            · rw [vb, vb, vv];omega
      · rintro σ H6 ⟨b7, kvs, ss, rfl, ff, F, h0, s6⟩
        exact ⟨_, rfl, k fd wa kvs ss H6 hfd0 ff F h0 s6⟩
end
end Kx
namespace Kx
open PySem PySem.Spec PyProof.Rows L2 Wd
section
variable {P : Program} {w : World} {K : PySem.W.Frag} {mg : Str → Option Value} {base : Heap} {aB : Addr}
theorem m_ {d : Addr}{o : Obj}{kvs : List (Key × V)}{g : TG}{tb : TS}{D : fq}{σ : L2.St}{H : Hp}(Pv : Nat → L2.St → Hp → Prop)(h0 : Pv 0 σ H)(hl : ∀ i σ H, i≤kvs.length → Pv i σ H → H d=some (.frz o (.dK kvs)))
    (hs : ∀ i k v σ H, kvs[i]? = some (k, v) → Pv i σ H → g (kV k) σ H fun σ2 H2 => tb { D with nx := Pv (i+1), ct := Pv (i+1), bk := D.nx } σ2 H2) (hd : ∀ σ H, Pv kvs.length σ H → D.nx σ H) :
    ∃ W : Nat → Nat → L2.St → Hp → Prop, (∃ m, W 0 m σ H) ∧ ∀ i m σ H, W i m σ H →
      ((Itk d o kvs).stop i H ∧ D.nx σ H) ∨ ((Itk d o kvs).go i H ∧ ∃ N : L2.St → Hp → Prop, (∀ σ' H', N σ' H' → ∃ m', m' < m ∧ W (i+1) m' σ' H') ∧ ∀ x H', (Itk d o kvs).yld i H x H' → g x σ H' fun σ2 H2 => tb { D with nx := N, ct := N, bk := D.nx } σ2 H2) := by
  refine ⟨fun i m σ H => m=kvs.length - i ∧ i≤kvs.length ∧ Pv i σ H, ⟨kvs.length, by simp, vR _, h0⟩, ?_⟩
  rintro i m σ H ⟨rfl, hi, p⟩
  have q := hl i σ H hi p
  by_cases hlt : i < kvs.length
  · refine .inr ⟨⟨hlt, q⟩, Pv (i+1), fun σ' H' p' => ⟨kvs.length - (i+1), by omega, rfl, hlt, p'⟩, ?_⟩
    rintro v H' ⟨rfl, key, val, hkv, rfl⟩
    exact hs i key val σ _ hkv p
  · obtain rfl : i=kvs.length := by omega
    exact .inl ⟨⟨rfl, q⟩, hd σ H p⟩
theorem iR {l : Cts}{i : Nat}{key : Key}{val : V}(h : (l.map cD)[i]? = some (key, val)) : ∃ p, l[i]? = some p ∧ key = .inr (toS p.1) ∧ val = .int (p.2 : Int) := by
  rw [vo] at h
  obtain ⟨p, h1, h2⟩ := vL.mp h
  cases h2
  exact ⟨p, h1, rfl, rfl⟩
theorem ng (v : List L) : jd v (some ((v.length : Int) - 1)) none=v.drop (v.length - 1) := by
  cases v with
  | nil => unfold jd;simp
  | cons x r => rw [c9 _ (by rw [vN];omega), show (((x::r).length : Int) - 1).toNat=(x::r).length - 1 by omega]
abbrev fm : Stmt := top 22
theorem lD : aC ["_law_many", "_law_words_here", "_law_keep", "_law_most", "_law_signs", "_law_now", "_law_found", "_law_length", "_law_later", "_law_last", "_law_back_again", "_law_sign", "_law_text"] ["_law_many", "_law_words_here", "_law_keep", "_law_most"] (ao fm) := ⟨rfl, rfl, rfl, by decide +kernel, rfl, by decide +kernel, by decide +kernel⟩
theorem nh (D : Df K mg "_law_counts" fm)(T : Bt K w mg aB)(Tsum : mg "sum" = none)(F_lback : Fnc P w K mg base "_law_back" ["_law_word"] 1 pW) : Fnc P w K mg base "_law_counts" ["_law_many", "_law_words_here", "_law_keep", "_law_most"] 2 fe := by
  have sc := lD
  refine D.ok sc (fun _ _ _ _ _ _ us hl => by obtain ⟨_, _, _, _, rfl⟩ := uz hl;rfl) (fun vs H Q E h => ?_) (fun f cdv A outer s H vs Q E hr h => ?_)
  · obtain ⟨m, kk, N, a, W, rfl, _⟩ := h
    rfl
  · obtain ⟨m, kk, N, a, W, rfl, m1, m6, k1, k20, ha, wne, wl, ww, hN, hup, k⟩ := h
    have l16 := aV
    have hu := dY hr
    rw [← kH] at hup
    refine ⟨_, (@ag _ _ _ _ _ (@ax _ _ (4) _ _ _ _ sc.nd rfl (Or.inl rfl) (@aA _ _ _ _ _ _ _ _ aK (@aF _ _ _ _ _ _ _ _ _ _ bh aD aO (@aP _ _ _ (pv 0))) (@aF _ _ _ _ _ _ _ _ _ _ bh aD aO (@aP _ _ _ (pv 0)))) (by rfl) (by first | exact .inl rfl | exact .inr rfl | assumption)) (@ag _ _ _ _ _ (@ax _ _ (5) _ _ _ _ sc.nd rfl (Or.inr rfl) (@jM _ _ _ _ _ (@cL _ _ _ _ _ _ _ _ _ aD aq jL) rfl rfl (by simp) (by decide)) (by rfl) (by first | exact .inl rfl | exact .inr rfl | assumption)) (@ag _ _ _ _ _ (@ax _ _ (6) _ _ _ _ sc.nd rfl (Or.inl rfl) (@bC _ _ _ _ (@aa _ _ _ _ _ aq af (by rfl))) (by rfl) (by first | exact .inl rfl | exact .inr rfl | assumption)) (@ag _ _ _ _ _ (@bB _ _ _ _ _ _ _ _ vU rfl (@a8 _ _ _ _ _ _ rfl T.range (@aa _ _ _ _ _ (pv 3) af (by rfl)) (by rfl)) (@ar _ _ (7) _ sc.nd rfl (Or.inl rfl) (by first | exact .inl rfl | exact .inr rfl | assumption)) (@ag _ _ _ _ _ (@ax _ _ (8) _ _ _ _ sc.nd rfl (Or.inl rfl) eK (by rfl) (by first | exact .inl rfl | exact .inr rfl | assumption)) (@ag _ _ _ _ _ (@bB _ _ _ _ _ _ _ _ vU rfl (@eX _ _ _ _ (pv 5)) (@ar _ _ (9) _ sc.nd rfl (Or.inl rfl) (by first | exact .inl rfl | exact .inr rfl | assumption)) (@ag _ _ _ _ _ (@ax _ _ (10) _ _ _ _ sc.nd rfl (Or.inl rfl) (@aT _ _ _ _ _ _ _ _ _ _ _ F_lback hr (by decide) rfl (@aa _ _ _ _ _ (@aF _ _ _ _ _ _ _ _ _ _ bh (pv 9) (@aP _ _ _ (@aA _ _ _ _ _ _ _ _ jm (@au _ _ _ _ _ _ _ _ _ b_ (by rfl) T.len vV (@aa _ _ _ _ _ (pv 9) af (by rfl)) (by decide) (by decide) (by rfl) (by rfl)) aq)) aO) af (by rfl)) (by decide) (by rfl) (by rfl)) (by rfl) (by first | exact .inl rfl | exact .inr rfl | assumption)) (@ak _ _ _ (@bB _ _ _ _ _ _ _ _ vU rfl (@iz _ _ _ _ (pv 4)) (@ar _ _ (11) _ sc.nd rfl (Or.inl rfl) (by first | exact .inl rfl | exact .inr rfl | assumption)) (@ag _ _ _ _ _ (@ax _ _ (12) _ _ _ _ sc.nd rfl (Or.inr rfl) (@aA _ _ _ _ _ _ _ _ aK (pv 9) (pv 11)) (by rfl) (by first | exact .inl rfl | exact .inr rfl | assumption)) (@ak _ _ _ (@dW _ _ _ _ _ _ _ _ (@PW.pt _ _ _ (@nE _ _ _ _ _ _ _ (@a_ _ _ _ _ _ _ _ _ qm (pv 11) (pv 10) (bY _)) (@ji _ _ _ _ (@a_ _ _ _ _ _ _ _ _ (@j8 _ (by exact hr.units)) (@aY _ _ _ _ _ _ _ (["_law_word", "_law_text"]) (["_law_word"]) ([12]) _ _ _ _ (@a9 _ _ _ _ _ _ rfl (by kernel_rfl)) rfl (@br _ _ _ _ (pv 1)) (fun _ _ _ _ => @ar _ _ (0) _ (show (["_law_word", "_law_text"] : List Str).Nodup from by decide +kernel) rfl (Or.inl rfl) (by first | exact .inl rfl | exact .inr rfl | assumption)) (fun _ _ _ _ => (@eN _ _ _ (by exact (@mD _ _ _ (@j7 _ _ _ _ _ _ _ _ _ _ _ _ (K) rfl wD yA yB km (pv 1) (@aa _ _ _ _ _ (pv 0) af (by rfl)) (by rfl) (by rfl) (by rfl) (by rfl) (by rfl)) (fun _ => rfl))))) (fun _ _ _ _ => by (exact (pv 0))) (by intro _ ;rfl)) (@bC _ _ _ _ af) (bY _))))) (@ag _ _ _ _ _ (@ax _ _ (12) _ _ _ _ sc.nd rfl (Or.inr rfl) (@aF _ _ _ _ _ _ _ _ _ _ bh (pv 12) (@aP _ _ _ (@au _ _ _ _ _ _ _ _ _ (@js _ rfl) (by rfl) T.max qP (@aa _ _ _ _ _ aq (@aa _ _ _ _ _ (@aA _ _ _ _ _ _ _ _ jm (@au _ _ _ _ _ _ _ _ _ b_ (by rfl) T.len vV (@aa _ _ _ _ _ (pv 12) af (by rfl)) (by decide) (by decide) (by rfl) (by rfl)) (pv 2)) af (by rfl)) (by rfl)) (by decide) (by decide) (by rfl) (by rfl))) aO) (by rfl) (by first | exact .inl rfl | exact .inr rfl | assumption)) (@ak _ _ _ (@cF _ _ _ _ _ _ _ _ _ hu (pv 8) (pv 12) (@aA _ _ _ _ _ _ _ _ bJ (@mh _ _ _ _ _ _ _ _ _ hu (pv 8) (pv 12) aq ⟨rfl, rfl, rfl, rfl⟩) (@aX _ _ _ _ _ _ hu (pv 5) (pv 9) (fun _ _ => rfl))) rfl))) bF))) (by intro _ ;rfl)))) (by intro _ ;rfl)) (@ag _ _ _ _ _ (@ax _ _ (5) _ _ _ _ sc.nd rfl (Or.inr rfl) (pv 8) (by rfl) (by first | exact .inl rfl | exact .inr rfl | assumption)) (@ak _ _ _ (@dh _ _ _ _ (@fH _ _ _ _ _ _ _ _ _ _ _ _ wk w4 yO fK (pv 6) (@aa _ _ _ _ _ (@au _ _ _ _ _ _ _ _ _ (@eV _ rfl) (by rfl) Tsum oV (@aa _ _ _ _ _ (@aY _ _ _ _ _ _ _ (["_law_last", "_law_now"]) (["_law_last"]) ([5]) _ _ _ _ (@a9 _ _ _ _ _ _ rfl (by kernel_rfl)) rfl (@eX _ _ _ _ (pv 5)) (fun _ _ _ _ => @ar _ _ (0) _ (show (["_law_last", "_law_now"] : List Str).Nodup from by decide +kernel) rfl (Or.inl rfl) (by first | exact .inl rfl | exact .inr rfl | assumption)) (fun _ _ _ _ => aL) (fun _ _ _ _ => by (exact (@aX _ _ _ _ _ _ hu (pv 1) (pv 0) (fun _ _ => rfl)))) (by intro _ ;rfl)) af (by rfl)) (by decide) (by decide) (by rfl) (by rfl)) af (by rfl)) (by rfl) (by rfl) (by rfl) (by rfl) (by rfl)) (by rfl)))))) (by intro _ ;rfl)) (@ak _ _ _ (@aJ _ _ _ _ (pv 6))))))), ?_⟩
    have lg : (sgN m).length≤12 := by unfold sgN;rw [vb, vC, vC];show min m 6+min m 6≤12;omega
    have bne := kE (m := m) wne
    have bw := o7 (m := m) (k := kk+1) (by omega) ww
    refine ⟨_, rfl, _, rfl, _, rfl, (aN (n := 6) (by decide)), _, rfl, _, rfl, _, rfl, (aN (n := 6) (by decide)), _, _, rfl, rfl, ?_, ?_⟩
    · have h1 := wW ("abcdef" : Str) none (some (m : Int))
      have h2 := wW ("ABCDEF" : Str) none (some (m : Int))
      have e1 : ("abcdef" : Str).length=6 := by decide +kernel
      have e2 : ("ABCDEF" : Str).length=6 := by decide +kernel
      omega
    rw [eS (m := (m : Int)) (by omega), n9]
    refine fun nd0 hnd0 => ⟨ab, [(.inr (Str.ofString ""), .int 1)], rfl, by decide, ?_⟩
    have e1 : cV ([] : List (Key × V)) [(.inr (Str.ofString ""), .int 1)]=([([], 1)] : Cts).map cD := by
      rw [show Str.ofString "" = toS [] from (V.str.inj iA).symm]
      rfl
    rw [e1]
    have f2 : (upd (upd H nd0 (.dK [])) nd0 (.dK (([([], 1)] : Cts).map cD))) nd0=some (.dK (([([], 1)] : Cts).map cD)) := ab
    have s2 : aw H (upd (upd H nd0 (.dK [])) nd0 (.dK (([([], 1)] : Cts).map cD))) := fun b o e => by rw [aj (ae e hnd0), aj (ae e hnd0)];exact e
    show bq _ _ _ _ (upd (upd H nd0 (.dK [])) nd0 (.dK (([([], 1)] : Cts).map cD)))
    generalize upd (upd H nd0 (.dK [])) nd0 (.dK (([([], 1)] : Cts).map cD))=H2 at f2 s2 ⊢
    refine ⟨(aN (n := 1) (by decide)), fun tl htl => ?_⟩
    have t3 := aw.new (o := .lst [V.int 1]) htl
    have s3 : aw H (upd H2 tl (.lst [V.int 1])) := s2.trans t3
    have f3 : (upd H2 tl (.lst [V.int 1])) tl=some (.lst ((gq m W 1).map V.int)) := ab
    have fn3 := t3 _ _ f2
    have htlH : H tl=none := s2.free htl
    have nnt0 : nd0≠tl := ae f2 htl
    show bq _ _ _ _ (upd H2 tl (.lst [V.int 1]))
    generalize upd H2 tl (.lst [V.int 1])=H3 at s3 f3 fn3 ⊢
    clear t3
    refine ⟨_, rfl, _, rfl, by omega, by omega, ?_⟩
    rw [vJ]
    refine bt (lo := 0) (n := N) (fun i σ H' => ∃ (b7 b8 b9 b10 b11 b12 : Option V) (nd : Addr) (l : Cts), σ = [some (.int (m : Int)), some (.ref a), some (.int (kk : Int)), some (.int (N : Int)), some (tx (sgN m)), some (.ref nd), some (.ref tl), b7, b8, b9, b10, b11, b12] ∧ Rd H' nd (.dK (l.map cD)) ∧ H nd=none ∧ nd≠tl ∧ CtD l (upW (sgN m) kk) ∧ (mul l).Perm ((avs (sgN m) (barP m W) i).map (tlK kk)) ∧ H' tl=some (.lst ((gq m W (i+1)).map V.int)) ∧ aw H H') ⟨none, none, none, none, none, none, nd0, [([], 1)], rfl, .inl fn3, hnd0, nnt0, ⟨by simp, fun t ht => by simp at ht;rw [ht];exact gW (vR _) fun x hx => absurd hx vA⟩, (by simp [mul, avs, tlK]), f3, s3⟩ ?_ ?_
    · rintro i σ H4 hi ⟨b7, b8, b9, b10, b11, b12, nd, l, rfl, fn4, hnd, nnt, c, pm, ft4, s4⟩
      intro ld hld
      have s5 := s4.then (o := .dK []) hld
      have t5 := aw.new (o := .dK []) hld
      have f5 : (upd H4 ld (.dK [])) ld=some (.dK []) := ab
      have fn5 : Rd (upd H4 ld (.dK [])) nd (.dK (l.map cD)) := by
        rcases fn4 with e | ⟨o, e⟩
        · exact .inl (t5 _ _ e)
        · exact .inr ⟨o, t5 _ _ e⟩
      have ft5 := t5 _ _ ft4
      have hldH : H ld=none := s4.free hld
      have nln : ld≠nd := fun z => by
        rcases fn4 with e | ⟨o, e⟩
        · rw [← z, hld] at e;cases e
        · rw [← z, hld] at e;cases e
      have nlt : ld≠tl := (ae ft4 hld).symm
      generalize upd H4 ld (.dK [])=H5 at s5 f5 fn5 ft5 ⊢
      clear t5
      refine ⟨_, rfl, nd, _, rfl, fn5, fun o H6 fz6 k6 => ?_⟩
      have f6 : H6 ld=some (.dK ((stC (dtl (sgN m) (barP m W) kk) (l.take 0)).map cD)) := by rw [k6 _ nln];exact f5
      have ft6 : H6 tl=some (.lst ((gq m W (i+1)).map V.int)) := by rw [k6 _ nnt.symm];exact ft5
      have s6 : aw H H6 := fun b o e => by rw [k6 _ (ae e hnd)];exact s5 _ _ e
      clear k6 fn5 f5 ft5 s5
      refine m_ (fun j σ H' => ∃ (b9 b10 b11 b12 : Option V), σ = [some (.int (m : Int)), some (.ref a), some (.int (kk : Int)), some (.int (N : Int)), some (tx (sgN m)), some (.ref nd), some (.ref tl), some (.int (0+(i : Int))), some (.ref ld), b9, b10, b11, b12] ∧ H' nd=some (.frz o (.dK (l.map cD))) ∧ H' ld=some (.dK ((stC (dtl (sgN m) (barP m W) kk) (l.take j)).map cD)) ∧ H' tl=some (.lst ((gq m W (i+1)).map V.int)) ∧ aw H H') ⟨_, _, _, _, rfl, fz6, f6, ft6, s6⟩ (fun j σ H' _ ⟨_, _, _, _, _, e, _⟩ => e) ?_ ?_
      · rintro j key val σ H7 hkv ⟨b9, b10, b11, b12, rfl, fz7, f7, ft7, s7⟩
        obtain ⟨p, hp, rfl, rfl⟩ := iR hkv
        have pm' := vD hp
        have pu := c.sub p.1 (vH.mpr ⟨p, pm', rfl⟩)
        have pl := (gX pu).1
        have lp := ah p.1
        have cA : CtD (stC (dtl (sgN m) (barP m W) kk) (l.take j)) (upW (sgN m) kk) := CtD.step fun q hq b hb => kI (c.sub q.1 (vH.mpr ⟨q, List.mem_of_mem_take hq, rfl⟩)) hb
        refine ⟨_, rfl, _, rfl, toS p.1, rfl, by omega, _, _, rfl, rfl, _, rfl, toS p.1, rfl, by omega, ?_⟩
        rw [aU, lp, ng]
        refine ⟨p.1.drop (p.1.length - 1), rfl, (by rw [wz];omega), fun H8 s8 => ?_⟩
        refine ⟨_, rfl, toS (sgN m), rfl, ?_⟩
        refine gP (z := toS (sgN m)) (fun q σ H' => ∃ (b11 b12 : Option V), σ = [some (.int (m : Int)), some (.ref a), some (.int (kk : Int)), some (.int (N : Int)), some (tx (sgN m)), some (.ref nd), some (.ref tl), some (.int (0+(i : Int))), some (.ref ld), some (tx p.1), some (tx (bk (p.1.drop (p.1.length - 1)))), b11, b12] ∧ H' nd=some (.frz o (.dK (l.map cD))) ∧ H' ld=some (.dK ((inC (stC (dtl (sgN m) (barP m W) kk) (l.take j)) p.2 ((((sgN m).take q).filter fun x => okB (barP m W) (p.1++[x])).map fun x => tlK kk (p.1++[x]))).map cD)) ∧ H' tl=some (.lst ((gq m W (i+1)).map V.int)) ∧ aw H H') ⟨_, _, rfl, s8 _ _ fz7, s8 _ _ f7, s8 _ _ ft7, s7.trans s8⟩ ?_ ?_
        · rintro q ch σ H9 hc ⟨b11, b12, rfl, fz9, f9, ft9, s9⟩
          obtain ⟨x, hx, e⟩ := dy hc
          rw [e]
          have xm := vD hx
          have lx := ah [x]
          have ls1 : [x].length=1 := rfl
          refine ⟨_, rfl, _, rfl, _, _, rfl, rfl, by omega, ?_⟩
          rw [cW]
          refine ⟨_, rfl, _, rfl, rfl, _, rfl, ?_⟩
          have okl := rq (W := W) xm p.1
          have next : ∀ (c12 : Option V) (H10 : Hp), H10 nd=some (.frz o (.dK (l.map cD))) → H10 ld=some (.dK ((inC (stC (dtl (sgN m) (barP m W) kk) (l.take j)) p.2 ((((sgN m).take q).filter fun x => okB (barP m W) (p.1++[x])).map fun x => tlK kk (p.1++[x]))).map cD)) → H10 tl=some (.lst ((gq m W (i+1)).map V.int)) → aw H H10 → okB (barP m W) (p.1++[x])=false → ∃ (b11 b12 : Option V), [some (V.int (m : Int)), some (.ref a), some (.int (kk : Int)), some (.int (N : Int)), some (tx (sgN m)), some (.ref nd), some (.ref tl), some (.int (0+(i : Int))), some (.ref ld), some (tx p.1), some (tx (bk (p.1.drop (p.1.length - 1)))), some (.str (toS [x])), c12]=[some (.int (m : Int)), some (.ref a), some (.int (kk : Int)), some (.int (N : Int)), some (tx (sgN m)), some (.ref nd), some (.ref tl), some (.int (0+(i : Int))), some (.ref ld), some (tx p.1), some (tx (bk (p.1.drop (p.1.length - 1)))), b11, b12] ∧ H10 nd=some (.frz o (.dK (l.map cD))) ∧ H10 ld=some (.dK ((inC (stC (dtl (sgN m) (barP m W) kk) (l.take j)) p.2 ((((sgN m).take (q+1)).filter fun x => okB (barP m W) (p.1++[x])).map fun x => tlK kk (p.1++[x]))).map cD)) ∧ H10 tl=some (.lst ((gq m W (i+1)).map V.int)) ∧ aw H H10 := fun c12 H10 a1 a2 a3 a4 no => by
            refine ⟨_, _, rfl, a1, ?_, a3, a4⟩
            rw [vP, hx, xJ, wZ, xI (by rw [no];exact vm), List.filter_nil, List.append_nil]
            exact a2
          have ltx := ah (p.1++[x])
          rw [vb, vv] at ltx
          cases hd : decide (V.str (toS [x])=tx (bk (p.1.drop (p.1.length - 1)))) with
          | true =>
            rw [hd] at okl
            exact qY (mI (next _ H9 fz9 f9 ft9 s9 okl))
          | false =>
            rw [hd] at okl
            have okl : okB (barP m W) (p.1++[x])=okB W (p.1++[x]) := by rw [okl];rfl
            have ha9 := s9 _ _ ha
            refine qX ⟨_, rfl, a, rfl, ⟨_, SqL.of ha9⟩, ?_⟩
            refine aZ (xs := W.map tx) (own := ["_law_word"]) (cap := [12]) (fun r ys σ H' => ∃ b : Option V, σ = [b, some (tx (p.1++[x]))] ∧ ys=((W.take r).filter fun w => w.isSuffixOf (p.1++[x])).map tx ∧ H'=H9) ⟨none, rfl, rfl, rfl⟩ (fun r ys σ H' hi ⟨_, _, e, _⟩ => by rw [e, fu];exact vI (xk _ _) (by rw [vC];omega)) (by rw [fu];omega) (fun r ys σ H' ⟨_, _, _, e⟩ => by rw [e];exact SqL.of ha9) ?_ ?_
            · rintro r ys σ H10 z N hz ⟨b, rfl, rfl, rfl⟩ hN
              rw [vo] at hz
              obtain ⟨w1, hw1, rfl⟩ := vL.mp hz
              refine ⟨_, rfl, rfl, _, rfl, _, _, rfl, rfl, _, rfl, ?_⟩
              rw [iJ]
              cases hs : w1.isSuffixOf (p.1++[x]) with
              | true =>
                refine pX rfl ⟨_, rfl, hN _ _ _ ⟨_, rfl, ?_, rfl⟩⟩
                rw [vP, hw1, wZ]
                simp [hs]
              | false =>
                refine oS rfl (hN _ _ _ ⟨_, rfl, ?_, rfl⟩)
                rw [vP, hw1, wZ]
                simp [hs]
            rintro ys σ H10 q1 ⟨b, rfl, rfl, rfl⟩ hq1
            rw [fu, vY]
            have t11 := aw.new (o := .lst ((W.filter fun w => w.isSuffixOf (p.1++[x])).map tx)) hq1
            have f11 : (upd H10 q1 (.lst ((W.filter fun w => w.isSuffixOf (p.1++[x])).map tx))) q1=some (.lst ((W.filter fun w => w.isSuffixOf (p.1++[x])).map tx)) := ab
            generalize upd H10 q1 (.lst ((W.filter fun w => w.isSuffixOf (p.1++[x])).map tx))=H11 at t11 f11 ⊢
            refine ⟨(aN (n := 0) (by decide)), fun q2 hq2 => ?_⟩
            have t12 := t11.then (o := .lst []) hq2
            have f12 := aw.new (o := .lst []) hq2 _ _ f11
            refine ⟨q1, q2, _, rfl, rfl, f12, ab, _, rfl, ?_⟩
            generalize upd H11 q2 (.lst [])=H12 at t12 f12 ⊢
            have em : ((W.filter fun w => w.isSuffixOf (p.1++[x])).map tx).isEmpty=okB W (p.1++[x]) := by
              unfold okB
              rw [v_, List.isEmpty_iff, List.map_eq_nil_iff, List.filter_eq_nil_iff, Bool.not_eq_true', yC]
            rw [em]
            have fz12 := t12 _ _ fz9
            have fl12 := t12 _ _ f9
            have ft12 := t12 _ _ ft9
            have s12 := s9.trans t12
            cases ho : okB W (p.1++[x]) with
            | false =>
              rw [ho] at okl
              exact mI (next _ H12 fz12 fl12 ft12 s12 okl)
            | true =>
              rw [ho] at okl
              refine tK ⟨_, rfl, _, rfl, toS (p.1++[x]), rfl, by omega, _, rfl, _, _, rfl, rfl, _, _, rfl, _, rfl, toS (p.1++[x]), rfl, by omega, ?_⟩
              rw [ltx]
              have ecut : jd (p.1++[x]) (some (if ((p.1.length+1 : Nat) : Int) - (kk : Int) > 0 then ((p.1.length+1 : Nat) : Int) - (kk : Int) else 0)) none=tlK kk (p.1++[x]) := by
                rw [c9 _ (by split <;> omega)]
                unfold tlK
                congr 1
                rw [vb, vv]
                split <;> omega
              rw [aU, ecut]
              have cB := cA.ins p.2 (bs := (((sgN m).take q).filter fun x => okB (barP m W) (p.1++[x])).map fun x => tlK kk (p.1++[x])) fun b hb => by
                obtain ⟨y, hy, rfl⟩ := vH.mp hb
                obtain ⟨h1, h2⟩ := xf.mp hy
                exact kI pu (vH.mpr ⟨y, xf.mpr ⟨List.mem_of_mem_take h1, h2⟩, rfl⟩)
              generalize hacc : inC (stC (dtl (sgN m) (barP m W) kk) (l.take j)) p.2 ((((sgN m).take q).filter fun x => okB (barP m W) (p.1++[x])).map fun x => tlK kk (p.1++[x]))=acc at fl12 cB
              have g1 := dX.k (k := .inr (toS (tlK kk (p.1++[x])))) fl12
              have g2 := dX.f (k := .inr (toS p.1)) fz12
              rw [kx c.nd pm'] at g2
              have al := cB.len
              refine ⟨_, rfl, ld, rfl, .inl ⟨_, .inl fl12⟩, _, rfl, _, g1, _, rfl, _, rfl, nd, _, rfl, g2, _, _, mN acc (tlK kk (p.1++[x])), rfl, ?_⟩
              refine ⟨_, rfl, _, rfl, ld, _, rfl, mf.k (k := .inr (toS (tlK kk (p.1++[x])))) fl12 (by rw [fu];omega), ?_⟩
              rw [iG acc _ p.2 cB.nd, ← hacc, ← mU]
              refine ⟨_, _, rfl, by rw [aj nln.symm];exact fz12, ?_, by rw [aj nlt.symm];exact ft12, fun b o e => ?_⟩
              · rw [ab, vP, hx, xJ, wZ, xH (p := fun x => okB (barP m W) (p.1++[x])) okl, List.filter_nil, vw]
                rfl
              · rw [aj (ae e hldH)];exact s12 b o e
        · rintro σ H9 ⟨b11, b12, rfl, fz9, f9, ft9, s9⟩
          rw [bD, vY] at f9
          refine ⟨_, _, _, _, rfl, fz9, ?_, ft9, s9⟩
          rw [vP, hp, xJ, mV]
          exact f9
      · rintro σ H7 ⟨b9, b10, b11, b12, rfl, fz7, f7, ft7, s7⟩
        rw [fu, vY] at f7
        have cS : CtD (stC (dtl (sgN m) (barP m W) kk) l) (upW (sgN m) kk) := CtD.step fun q hq b hb => kI (c.sub q.1 (vH.mpr ⟨q, hq, rfl⟩)) hb
        have pS : (mul (stC (dtl (sgN m) (barP m W) kk) l)).Perm ((avs (sgN m) (barP m W) (i+1)).map (tlK kk)) := by
          rw [← rg bne bw]
          exact (ky _ l).trans (pm.flatMap_right _)
        generalize stC (dtl (sgN m) (barP m W) kk) l=l2 at f7 cS pS
        have l2l := cS.len
        refine ⟨_, rfl, ?_⟩
        refine ⟨_, rfl, .inl ⟨rfl, _, SqL.of ft7⟩, _, rfl, ld, _, rfl, .inl f7, fun o2 H8 fz8 k8 => ?_⟩
        have ft8 : H8 tl=some (.lst ((gq m W (i+1)).map V.int)) := by rw [k8 _ nlt.symm];exact ft7
        have s8 : aw H H8 := fun b o e => by rw [k8 _ (ae e hldH)];exact s7 _ _ e
        have el : (l2.map cD).length=l2.length := fu ..
        refine bI (own := ["_law_last"]) (cap := [5]) (J := Itk ld o2 (l2.map cD)) (l2.map cD).length (fun r ys σ H' => ∃ b : Option V, σ = [b, some (.ref ld)] ∧ ys=((l2.take r).map fun p => (p.2 : Int)).map V.int ∧ H'=H8) ⟨none, rfl, rfl, rfl⟩ (fun r ys σ H' hi ⟨_, _, e, _⟩ => by rw [e, fu, fu, vC];omega) (by omega) (fun r ys σ H' hi ⟨_, _, _, e⟩ => by rw [e];exact ⟨hi, fz8⟩) (fun ys σ H' ⟨_, _, _, e⟩ => by rw [e];exact ⟨rfl, fz8⟩) ?_ ?_
        · rintro r ys σ H9 x H10 N hi ⟨_, rfl, rfl, rfl⟩ ⟨rfl, key, val, hkv, rfl⟩ hN
          obtain ⟨p, hp, rfl, rfl⟩ := iR hkv
          have g := dX.f (k := .inr (toS p.1)) fz8
          rw [kx cS.nd (vD hp)] at g
          refine ⟨_, rfl, _, rfl, ld, _, rfl, g, hN _ _ _ ⟨_, rfl, ?_, rfl⟩⟩
          rw [vP, hp, vw, vw]
          rfl
        rintro ys σ H9 q1 ⟨b, rfl, rfl, rfl⟩ hq1
        rw [el, vY]
        have t10 := aw.new (o := .lst ((l2.map fun p => (p.2 : Int)).map V.int)) hq1
        have ft10 := t10 _ _ ft8
        have fz10 := t10 _ _ fz8
        have s10 := s8.trans t10
        refine ⟨q1, _, rfl, SqL.of ab, ?_⟩
        generalize upd H9 q1 (.lst ((l2.map fun p => (p.2 : Int)).map V.int))=H10 at ft10 fz10 s10 ⊢
        have tll : (gq m W (i+1)).length=i+1 := by unfold gq;rw [fu, xq]
        rw [o9, pS.length_eq, fu]
        refine ⟨tl, _, _, rfl, rfl, ft10, (by rw [fu, tll];omega), ?_⟩
        refine ⟨_, _, _, _, _, _, ld, l2, rfl, .inr ⟨o2, by rw [aj nlt];exact fz10⟩, hldH, nlt, cS, pS, ?_, fun b o e => ?_⟩
        · rw [ab, kJ m W (i+1), vw];rfl
        · rw [aj (ae e htlH)];exact s10 _ _ e
    · rintro σ H4 ⟨b7, b8, b9, b10, b11, b12, nd, l, rfl, fn4, hnd, nnt, c, pm, ft4, s4⟩
      exact ⟨_, rfl, k tl H4 htlH ft4 s4⟩
end
end Kx
namespace Kx
open PySem PySem.Spec PyProof.Rows L2 Wd
section
variable {P : Program} {w : World} {K : PySem.W.Frag} {mg : Str → Option Value} {base : Heap} {aB : Addr}
abbrev lE : Stmt := top 21
theorem pI : aC ["_law_feed_here", "_law_many", "_law_most", "_law_signs"] ["_law_feed_here", "_law_many", "_law_most"] (ao lE) := ⟨rfl, rfl, rfl, by decide +kernel, rfl, by decide +kernel, by decide +kernel⟩
theorem rQ (D : Df K mg "_law_some" lE)(T : Bt K w mg aB)(F_draw : Fnc P w K mg base "_law_draw" ["_law_feed_here", "_law_many"] 1 fW) : Fnc P w K mg base "_law_some" ["_law_feed_here", "_law_many", "_law_most"] 2 j6 := by
  have sc := pI
  refine D.ok sc (fun _ _ _ _ _ _ us hl => by obtain ⟨_, _, _, rfl⟩ := u6 hl;rfl) (fun vs H Q E h => ?_) (fun f cdv A outer s H vs Q E hr h => ?_)
  · obtain ⟨d, m, n, rfl, _⟩ := h
    rfl
  · obtain ⟨d, m, n, rfl, F, m1, m2, n1, n2, k⟩ := h
    have l16 := aV
    refine ⟨_, (@ag _ _ _ _ _ (@ax _ _ (3) _ _ _ _ sc.nd rfl (Or.inr rfl) (@aA _ _ _ _ _ _ _ _ aK (@aF _ _ _ _ _ _ _ _ _ _ bh aD aO (@aP _ _ _ (pv 1))) (@aF _ _ _ _ _ _ _ _ _ _ bh aD aO (@aP _ _ _ (pv 1)))) (by rfl) (by first | exact .inl rfl | exact .inr rfl | assumption)) (@ak _ _ _ (@aJ _ _ _ _ (@fH _ _ _ _ _ _ _ _ _ _ _ _ wD PySem.F.slot_str_join PySem.F.type_str_join jS aD (@aa _ _ _ _ _ (@aY _ _ _ _ _ _ _ (["_law_k", "_law_signs", "_law_feed_here", "_law_many"]) (["_law_k"]) ([3, 0, 1]) _ _ _ _ (@a9 _ _ _ _ _ _ rfl (by kernel_rfl)) rfl (@a8 _ _ _ _ _ _ rfl T.range (@aa _ _ _ _ _ (@aT _ _ _ _ _ _ _ _ _ _ _ F_draw hr (by decide) rfl (@aa _ _ _ _ _ (pv 0) (@aa _ _ _ _ _ (@aA _ _ _ _ _ _ _ _ bJ (pv 2) aq) af (by rfl)) (by rfl)) (by decide) (by rfl) (by rfl)) af (by rfl)) (by rfl)) (fun _ _ _ _ => @ar _ _ (0) _ (show (["_law_k", "_law_signs", "_law_feed_here", "_law_many"] : List Str).Nodup from by decide +kernel) rfl (Or.inl rfl) (by first | exact .inl rfl | exact .inr rfl | assumption)) (fun _ _ _ _ => aL) (fun _ _ _ _ => by (exact (@eF _ _ _ _ _ _ _ nP (pv 1) (@aT _ _ _ _ _ _ _ _ _ _ _ F_draw hr (by decide) rfl (@aa _ _ _ _ _ (pv 2) (@aa _ _ _ _ _ (@aA _ _ _ _ _ _ _ _ dj aq (pv 3)) af (by rfl)) (by rfl)) (by decide) (by rfl) (by rfl)) (fun _ _ => rfl)))) (by intro _ ;rfl)) af (by rfl)) (by rfl) (by rfl) (by rfl) (by rfl) (by rfl))))), ?_⟩
    refine ⟨_, rfl, _, rfl, _, rfl, (by rw [nW];omega), _, rfl, _, rfl, _, rfl, (by rw [nX];omega), _, _, rfl, rfl, ?_, ?_⟩
    · have h1 := wW ("abcdef" : Str) none (some m)
      have h2 := wW ("ABCDEF" : Str) none (some m)
      rw [nW] at h1
      rw [nX] at h2
      omega
    rw [eS m1]
    refine ⟨rfl, _, rfl, _, rfl, _, _, rfl, rfl, d, _, rfl, F, by omega, by omega, fun r H1 r0 r1 F1 sb1 => ?_⟩
    refine ⟨_, rfl, by omega, by omega, ?_⟩
    refine bI (own := ["_law_k"]) (cap := [3, 0, 1]) (J := Itr 0 r.toNat) r.toNat (fun i ys σ H' => ∃ (v : Option V) (W : List L), σ = [v, some (tx (sg m)), some (.ref d), some (.int m)] ∧ ys=mz W ∧ W.length=i ∧ Fd H' d ∧ bT d H H')
      ⟨none, [], rfl, rfl, rfl, F1, sb1⟩ (fun i ys σ H' hi ⟨v, W, _, e, e2, _⟩ => by rw [e, dA, e2];exact vd _) (by omega) (fun i ys σ H' hi _ => hi) (fun ys σ H' _ => vd _) ?_ ?_
    · rintro i ys σ H2 x H3 N hi ⟨v, W, rfl, rfl, hW, F2, sb2⟩ ⟨rfl, rfl⟩ hN
      refine ⟨_, rfl, _, rfl, _, rfl, _, _, rfl, rfl, .inl ⟨by decide, by decide⟩, d, _, rfl, F2, by omega, by omega, fun q H4 q0 q1 F4 sb4 => ?_⟩
      have hq : q.toNat < (sg m).length := by rw [gc m1 m2];omega
      refine ⟨_, _, cp (sg m)[q.toNat], rfl, rfl, (by rw [ah, gc m1 m2];omega), jW (k := q.toNat) (by omega) (vh hq), hN _ _ _ ⟨_, W++[(sg m)[q.toNat]], rfl, (fY _ _), by rw [vb, hW];rfl, F4, sb2.trans sb4⟩⟩
    · rintro ys σ H2 l ⟨v, W, rfl, rfl, hW, F2, sb2⟩ hl
      refine ⟨_, l, W.map fun x => toS [x], rfl, rfl, SqL.of (by rw [ab, iB]), gb _ (by omega), ?_⟩
      rw [f_]
      exact k _ _ (by omega) (F2.new hl) (sb2.trans (aw.new hl).b)
end
end Kx
namespace Kx
open PySem PySem.Spec PyProof.Rows L2 Wd
section
variable {P : Program} {w : World} {K : PySem.W.Frag} {mg : Str → Option Value} {base : Heap} {aB : Addr}
abbrev pJ : Stmt := top 12
theorem rR : aC ["states", "behind"] ["states", "behind"] (ao pJ) := ⟨rfl, rfl, rfl, by decide +kernel, rfl, by decide +kernel, by decide +kernel⟩
theorem rS (bs : List (List L))(t : List L) : (bs.map toS).countP (fun y => decide (y=toS t))=bs.count t := by
  rw [List.countP_map]
  unfold List.count
  refine List.countP_congr fun a _ => ?_
  show decide (toS a=toS t)=true ↔ _
  rw [wy, zk]
  exact ⟨bb, fun e => by rw [e]⟩
theorem tT (D : Df K mg "counted" pJ)(T : Bt K w mg aB) : Fnc P w K mg base "counted" ["states", "behind"] 1 dP := by
  have sc := rR
  refine D.ok sc (fun _ _ _ _ _ _ us hl => by obtain ⟨_, _, rfl⟩ := lO hl;rfl) (fun vs H Q E h => ?_) (fun f cdv A outer s H vs Q E hr h => ?_)
  · obtain ⟨a, b, ts, bs, rfl, _⟩ := h
    rfl
  · obtain ⟨a, b, ts, bs, rfl, ha, hb, tl, k⟩ := h
    have l16 := aV
    refine ⟨_, (@ak _ _ _ (@aJ _ _ _ _ (@aY _ _ _ _ _ _ _ (["state", "behind"]) (["state"]) ([1]) _ _ _ _ (@a9 _ _ _ _ _ _ rfl (by kernel_rfl)) rfl (@br _ _ _ _ (pv 0)) (fun _ _ _ _ => @ar _ _ (0) _ (show (["state", "behind"] : List Str).Nodup from by decide +kernel) rfl (Or.inl rfl) (by first | exact .inl rfl | exact .inr rfl | assumption)) (fun _ _ _ _ => aL) (fun _ _ _ _ => by (exact (@j7 _ _ _ _ _ _ _ _ _ _ _ _ (K) rfl wk PySem.F.slot_list_count PySem.F.type_list_count kQ (pv 1) (@aa _ _ _ _ _ (pv 0) af (by rfl)) (by rfl) (by rfl) (by rfl) (by rfl) (by rfl)))) (by intro _ ;rfl)))), ?_⟩
    refine ⟨_, rfl, a, rfl, ⟨_, SqL.of ha⟩, ?_⟩
    refine aZ (xs := ts.map tx) (own := ["state"]) (cap := [1]) (fun j ys σ H' => ∃ z : Option L2.V, σ = [z, some (.ref b)] ∧ ys=(ts.take j).map (fun t => L2.V.int ((bs.count t : Nat) : Int)) ∧ H'=H) ⟨none, rfl, rfl, rfl⟩ (fun j ys σ H' hj ⟨_, _, e, _⟩ => by rw [e, fu, vC];omega) (by rw [fu];omega) (fun j ys σ H' ⟨_, _, _, e⟩ => by rw [e];exact SqL.of ha) ?_ ?_
    · rintro j ys σ H3 z N hz ⟨_, rfl, rfl, rfl⟩ hN
      rw [vo] at hz
      obtain ⟨t, ht, rfl⟩ := vL.mp hz
      refine ⟨_, rfl, .inl ⟨rfl, _, SqL.of hb⟩, _, rfl, b, bs.map toS, toS t, rfl, rfl, ?_, ?_⟩
      · rw [wx];exact hb
      rw [rS]
      refine hN _ _ _ ⟨_, rfl, ?_, rfl⟩
      rw [vP, ht, vw]
      rfl
    rintro ys σ H3 l ⟨_, rfl, rfl, rfl⟩ hl
    rw [fu, vY]
    exact k l _ hl ab (aw.new hl)
end
end Kx
namespace Kx
open PySem PySem.Spec PyProof.Rows L2 Wd
section
variable {P : Program} {w : World} {K : PySem.W.Frag} {mg : Str → Option Value} {base : Heap} {aB : Addr}
abbrev hX : Stmt := top 11
theorem ni : aC ["states"] ["states"] (ao hX) := ⟨rfl, rfl, rfl, by decide +kernel, rfl, by decide +kernel, by decide +kernel⟩
theorem pK (D : Df K mg "steps_between" hX)(T : Bt K w mg aB)(F_cnt : Fnc P w K mg base "counted" ["states", "behind"] 1 dP) : Fnc P w K mg base "steps_between" ["states"] 2 hJ := by
  have sc := ni
  refine D.ok sc (fun _ _ _ _ _ _ us hl => by obtain ⟨_, rfl⟩ := pA hl;rfl) (fun vs H Q E h => ?_) (fun f cdv A outer s H vs Q E hr h => ?_)
  · obtain ⟨d, kvs, ts, g, rfl, _⟩ := h
    rfl
  · obtain ⟨d, kvs, ts, g, rfl, hd, ek, tl, hv, k⟩ := h
    have l16 := aV
    have hu := dY hr
    refine ⟨_, (@ak _ _ _ (@aJ _ _ _ _ (@aY _ _ _ _ _ _ _ (["state", "states"]) (["state"]) ([0]) _ _ _ _ (@a9 _ _ _ _ _ _ rfl (by kernel_rfl)) rfl (@eX _ _ _ _ (pv 0)) (fun _ _ _ _ => @ar _ _ (0) _ (show (["state", "states"] : List Str).Nodup from by decide +kernel) rfl (Or.inl rfl) (by first | exact .inl rfl | exact .inr rfl | assumption)) (fun _ _ _ _ => aL) (fun _ _ _ _ => by (exact (@aT _ _ _ _ _ _ _ _ _ _ _ F_cnt hr (by decide) rfl (@aa _ _ _ _ _ (@bu _ _ _ _ _ _ _ _ _ (@gx _ rfl) (by rfl) T.list fX (@aa _ _ _ _ _ (pv 1) af (by rfl)) (by decide) (by decide) (by rfl) (by rfl)) (@aa _ _ _ _ _ (@aX _ _ _ _ _ _ hu (pv 1) (pv 0) (fun _ _ => rfl)) af (by rfl)) (by rfl)) (by decide) (by rfl) (by rfl)))) (by intro _ ;rfl)))), ?_⟩
    refine ⟨_, rfl, d, _, rfl, .inl hd, fun o H2 f2 k2 => ?_⟩
    have b2 : bT d H H2 := fun b o n e => by rw [k2 _ n];exact e
    have kl : kvs.length=ts.length := by have := v5 List.length ek;rwa [fu, fu] at this
    refine bI (own := ["state"]) (cap := [0]) (J := Itk d o kvs) kvs.length (fun j ys σ H' => ∃ (z : Option L2.V) (rc : List Addr), σ = [z, some (.ref d)] ∧ ys=rc.map L2.V.ref ∧ rc.length=j ∧ rc.Nodup ∧ (∀ r∈rc, H2 r=none) ∧ (∀ i r, rc[i]? = some r → H' r=some (.lst (a6 ts.length (fo g ts i)))) ∧ aw H2 H') ⟨none, [], rfl, rfl, rfl, xa, (fun r hr => absurd hr vA), (fun i r h => by cases h), aw.refl _⟩ (fun j ys σ H' hj ⟨_, rc, _, e, e2, _⟩ => by rw [e, fu, e2];omega) (by omega) (fun j ys σ H' hj ⟨_, _, _, _, _, _, _, _, e⟩ => ⟨hj, e _ _ f2⟩) (fun ys σ H' ⟨_, _, _, _, _, _, _, _, e⟩ => ⟨rfl, e _ _ f2⟩) ?_ ?_
    · rintro j ys σ H3 x H4 N hj ⟨_, rc, rfl, rfl, rl, rnd, rn, rv, s3⟩ ⟨rfl, key, val, hkv, rfl⟩ hN
      have hjt : j < ts.length := by omega
      have hk : key = .inr (toS ts[j]) := by
        have e1 : (kvs.map Prod.fst)[j]? = some key := by rw [vo, hkv];rfl
        rw [ek, vo, vh hjt] at e1
        exact (vp e1).symm
      subst hk
      obtain ⟨r, hv1, hr1⟩ := hv ts[j] (xV hjt)
      have nrd : r≠d := fun z => by rw [z, hd] at hr1;cases hr1
      have g2 := dX.f (k := .inr (toS ts[j])) (s3 _ _ f2)
      rw [hv1] at g2
      refine ⟨_, rfl, d, kvs, rfl, .inr ⟨o, s3 _ _ f2⟩, fun l hl => ?_⟩
      have s5 := aw.new (o := .lst (kvs.map fun p => kV p.1)) hl
      have f5 : (upd H4 l (.lst (kvs.map fun p => kV p.1))) l=some (.lst (kvs.map fun p => kV p.1)) := ab
      have g5 := dX.f (k := .inr (toS ts[j])) (s5 _ _ (s3 _ _ f2))
      rw [hv1] at g5
      generalize upd H4 l (.lst (kvs.map fun p => kV p.1))=H5 at s5 f5 g5 ⊢
      have ek2 : (kvs.map fun p => kV p.1)=ts.map tx := by
        have := v5 (List.map kV) ek
        rw [wx, wx] at this
        exact this
      rw [ek2] at f5
      have gd : ts.getD j []=ts[j] := by rw [vB, vh hjt];rfl
      refine ⟨_, rfl, _, rfl, d, _, rfl, g5, l, r, ts, g ts[j], rfl, f5, s5 _ _ (s3 _ _ (b2 _ _ nrd hr1)), tl, fun r6 H6 h6 f6 s6 => ?_⟩
      refine hN _ _ _ ⟨_, rc++[r6], rfl, by rw [vw];rfl, by rw [vb, rl];rfl, ?_, ?_, ?_, s3.trans (s5.trans s6)⟩
      · rw [xO]
        refine ⟨rnd, by simp, fun x hx y hy e => ?_⟩
        rw [vf] at hy
        obtain ⟨i, hi⟩ := v8 hx
        have := s5 _ _ (rv i x hi)
        rw [e, hy, h6] at this
        cases this
      · intro x hx
        rcases vK.mp hx with hx | hx
        · exact rn x hx
        · rw [vf.mp hx];exact (s3.trans s5).free h6
      · intro i x hi
        rcases yu i rc.length with c | c
        · rw [wq c] at hi
          exact s6 _ _ (s5 _ _ (rv i x hi))
        · rw [vW c] at hi
          have e0 : i - rc.length=0 := by
            have := (vc.mp hi).1
            rw [vv] at this
            omega
          rw [e0] at hi
          cases hi
          have : i=j := by omega
          rw [this, ← pk, gd]
          exact f6
    rintro ys σ H3 c ⟨_, rc, rfl, rfl, rl, rnd, rn, rv, s3⟩ hc
    have nc : c∉rc := fun hm => by
      obtain ⟨i, hi⟩ := v8 hm
      rw [rv i c hi] at hc
      cases hc
    have hcH : H c=none := by
      cases e : H c with
      | none => rfl
      | some o' =>
        by_cases n : c=d
        · rw [n, s3 _ _ f2] at hc;cases hc
        · rw [s3 _ _ (b2 _ _ n e)] at hc;cases hc
    refine k c rc _ hcH ⟨by rw [rl, kl], rnd, ab, fun i r hr => ?_⟩ fun b o n e => ?_
    · rw [aj fun e => nc (by rw [← e];exact vD hr)]
      exact rv i r hr
    · rw [aj (ae e hcH)]
      exact s3 _ _ (b2 _ _ n e)
end
end Kx
namespace Kx
open PySem PySem.Spec PyProof.Rows L2 Wd
section
variable {P : Program} {w : World} {K : PySem.W.Frag} {mg : Str → Option Value} {base : Heap} {aB : Addr}
abbrev lF : Stmt := top 15
theorem pL : aC ["row", "square", "told", "number", "part"] ["row", "square"] (ao lF) := ⟨rfl, rfl, rfl, by decide +kernel, rfl, by decide +kernel, by decide +kernel⟩
theorem rT (D : Df K mg "row_times" lF)(T : Bt K w mg aB) : Fnc P w K mg base "row_times" ["row", "square"] 1 kX := by
  have sc := pL
  refine D.ok sc (fun _ _ _ _ _ _ us hl => by obtain ⟨_, _, rfl⟩ := lO hl;rfl) (fun vs H Q E h => ?_) (fun f cdv A outer s H vs Q E hr h => ?_)
  · obtain ⟨n, a, l, u, M, rs, rfl, _⟩ := h
    rfl
  · obtain ⟨n, a, l, u, M, rs, rfl, hn, ha, q, hu1, hM, k⟩ := h
    have l16 := aV
    refine ⟨_, (@ag _ _ _ _ _ (@ax _ _ (2) _ _ _ _ sc.nd rfl (Or.inl rfl) (@aA _ _ _ _ _ _ _ _ jF (@bC _ _ _ _ (@aa _ _ _ _ _ aq af (by rfl))) (@au _ _ _ _ _ _ _ _ _ az (by rfl) T.len vV (@aa _ _ _ _ _ (pv 1) af (by rfl)) (by decide) (by decide) (by rfl) (by rfl))) (by rfl) (by first | exact .inl rfl | exact .inr rfl | assumption)) (@ag _ _ _ _ _ (@bB _ _ _ _ _ _ _ _ vU rfl (@iN _ (K) rfl _ _ _ _ _ _ _ _ rfl T.zip qQ (@aa _ _ _ _ _ (pv 0) (@aa _ _ _ _ _ (pv 1) af (by rfl)) (by rfl)) (by rfl) (by rfl)) (@nF _ _ _ _ _ _ rfl (@cv _ _ _ _ _ (@ar _ _ (3) _ sc.nd rfl (Or.inr rfl) (by first | exact .inl rfl | exact .inr rfl | assumption)) (@cv _ _ _ _ _ (@ar _ _ (4) _ sc.nd rfl (Or.inl rfl) (by first | exact .inl rfl | exact .inr rfl | assumption)) gK (by rfl)) (by rfl)) (by rfl) (by rfl)) (@ak _ _ _ (@gT _ (2) _ _ _ _ _ _ _ _ _ (["one", "other", "number"]) (["one", "other"]) ([3]) _ _ _ _ sc.nd rfl (Or.inl rfl) (@a9 _ _ _ _ _ _ rfl (by kernel_rfl)) rfl (@iN _ (K) rfl _ _ _ _ _ _ _ _ rfl T.zip qQ (@aa _ _ _ _ _ (pv 2) (@aa _ _ _ _ _ (pv 4) af (by rfl)) (by rfl)) (by rfl) (by rfl)) (fun _ _ _ _ => @j9 _ (K) _ _ _ (2) _ rfl rfl (@cv _ _ _ _ _ (@ar _ _ (0) _ (show (["one", "other", "number"] : List Str).Nodup from by decide +kernel) rfl (Or.inl rfl) (by first | exact .inl rfl | exact .inr rfl | assumption)) (@cv _ _ _ _ _ (@ar _ _ (1) _ (show (["one", "other", "number"] : List Str).Nodup from by decide +kernel) rfl (Or.inl rfl) (by first | exact .inl rfl | exact .inr rfl | assumption)) gK (by rfl)) (by rfl)) (by rfl) (by rfl)) (fun _ _ _ _ => aL) (fun _ _ _ _ => by (exact @aA _ _ _ _ _ _ _ _ bJ (by (exact (pv 0))) (by (exact @aA _ _ _ _ _ _ _ _ kT (by (exact (pv 2))) (by (exact (pv 1))))))) (by intro _ ;rfl) (by rfl) (by first | exact .inl rfl | exact .inr rfl | assumption))) (by intro _ ;rfl)) (@ak _ _ _ (@aJ _ _ _ _ (pv 2))))), ?_⟩
    refine ⟨(aN (n := 1) (by decide)), fun z hz => ?_⟩
    have s1 := aw.new (o := .lst [L2.V.int 0]) hz
    have f1 : (upd H z (.lst [L2.V.int 0])) z=some (.lst [L2.V.int 0]) := ab
    generalize upd H z (.lst [L2.V.int 0])=H1 at s1 f1 ⊢
    refine ⟨_, rfl, l, _, rfl, .inl (SqL.of (s1 _ _ q.at')), z, _, _, rfl, rfl, f1, by omega, by rw [fu, q.len];omega, by rw [fu, q.len];simp;omega, fun t ht => ?_⟩
    have e0 : (List.replicate ((rs.map L2.V.ref).length : Int).toNat [L2.V.int 0]).flatten=a6 n fun j => Dm.sR (fun k => u k*M k j) 0 := by
      rw [fu, q.len, vJ]
      have : ∀ m, (List.replicate m [L2.V.int 0]).flatten=List.replicate m (L2.V.int 0) := fun m => by
        induction m with
        | zero => rfl
        | succ m ih => rw [wc, w6, ih];rfl
      rw [this, iO]
      rfl
    rw [e0]
    have s2 := s1.then (o := .lst (a6 n fun j => Dm.sR (fun k => u k*M k j) 0)) ht
    have f2 : (upd H1 t (.lst (a6 n fun j => Dm.sR (fun k => u k*M k j) 0))) t=some (.lst (a6 n fun j => Dm.sR (fun k => u k*M k j) 0)) := ab
    have htH : H t=none := s1.free ht
    show bq _ _ _ _ (upd H1 t _)
    generalize upd H1 t (.lst (a6 n fun j => Dm.sR (fun k => u k*M k j) 0))=H2 at s2 f2 ⊢
    refine ⟨_, rfl, _, rfl, a, l, rfl, ⟨_, SqL.of (s2 _ _ ha)⟩, ⟨_, SqL.of (s2 _ _ q.at')⟩, ?_⟩
    refine kU (K := K) (p := a) (q := l) (xs := a6 n u) (ys := rs.map L2.V.ref) (fun i σ H' => ∃ (b3 b4 : Option L2.V) (t : Addr), σ = [some (.ref a), some (.ref l), some (.ref t), b3, b4] ∧ H t=none ∧ H' t=some (.lst (a6 n fun j => Dm.sR (fun k => u k*M k j) i)) ∧ aw H H') ⟨none, none, t, rfl, htH, f2, s2⟩ (fun i σ H' ⟨_, _, _, _, _, _, e⟩ => ⟨SqL.of (e _ _ ha), SqL.of (e _ _ q.at')⟩) ?_ ?_
    · rintro i x y σ H3 Z hx hy ⟨b3, b4, t3, rfl, t0, f3, s3⟩ hZ
      obtain ⟨hi, rfl⟩ := cy hx
      obtain ⟨r, er, hr, hv⟩ := q.get hi
      rw [hv] at hy
      obtain rfl := vp hy
      have sZ : aw H3 (upd H3 Z (.tup [L2.V.int (u i), .ref r])) := aw.new hZ
      have fZ : (upd H3 Z (.tup [L2.V.int (u i), .ref r])) Z=some (.tup [L2.V.int (u i), .ref r]) := ab
      have f4 := sZ _ _ f3
      have h4 := (s3.trans sZ)
      generalize upd H3 Z (.tup [L2.V.int (u i), .ref r])=H4 at sZ fZ f4 h4 ⊢
      refine ⟨Z, _, rfl, SqT.of fZ, rfl, _, _, rfl, _, _, rfl, rfl, ?_⟩
      have hr4 := h4 _ _ hr
      refine ⟨_, rfl, _, rfl, t3, r, rfl, ⟨_, SqL.of f4⟩, ⟨_, SqL.of hr4⟩, ?_⟩
      refine bI (own := ["one", "other"]) (cap := [3]) (J := L2.pj K t3 r) n (fun j ys σ H' => ∃ z1 z2 : Option L2.V, σ = [z1, z2, some (.int (u i))] ∧ ys=a6 j (fun j => Dm.sR (fun k => u k*M k j) (i+1)) ∧ aw H4 H') ⟨none, none, rfl, rfl, aw.refl _⟩ (fun j ys σ H' hj ⟨_, _, _, e, _⟩ => by rw [e, av];omega) (by omega) (fun j ys σ H' hj ⟨_, _, _, _, e⟩ => ⟨_, _, _, _, SqL.of (e _ _ f4), SqL.of (e _ _ hr4), a7 hj, a7 hj⟩) (fun ys σ H' ⟨_, _, _, _, e⟩ => ⟨_, _, SqL.of (e _ _ f4), SqL.of (e _ _ hr4), by rw [av, av, Nat.min_self]⟩) ?_ ?_
      · rintro j ys σ H5 x H6 N hj ⟨_, _, rfl, rfl, s5⟩ ⟨Y, x1, y1, hY, rfl, hx1, hy1, rfl⟩ hN
        have ex1 := hx1 _ (SqL.of (s5 _ _ f4))
        have ey1 := hy1 _ (SqL.of (s5 _ _ hr4))
        obtain ⟨_, rfl⟩ := cy ex1
        obtain ⟨_, rfl⟩ := cy ey1
        have hi2 : i < n := by omega
        refine ⟨Y, _, rfl, SqT.of ab, rfl, _, _, rfl, _, _, rfl, rfl, ?_⟩
        have sY := aw.new (o := .tup [L2.V.int (Dm.sR (fun k => u k*M k j) i), L2.V.int (M i j)]) hY
        generalize upd H5 Y (.tup [L2.V.int (Dm.sR (fun k => u k*M k j) i), L2.V.int (M i j)])=H6 at sY ⊢
        refine ⟨_, rfl, _, rfl, _, rfl, _, _, rfl, rfl, ⟨hu1 i hi2, hM i j hi2 hj⟩, _, _, rfl, rfl, ?_⟩
        refine hN _ _ _ ⟨_, _, rfl, ?_, s5.trans sY⟩
        unfold a6
        rw [xl, vw]
        rfl
      rintro ys σ H5 c ⟨_, _, rfl, rfl, s5⟩ hc
      refine ⟨_, _, _, rfl, (h4.trans s5).free hc, ab, (h4.trans s5).then hc⟩
    · rintro σ H3 ⟨b3, b4, t3, rfl, t0, f3, s3⟩
      rw [av, fu, q.len, Nat.min_self] at f3
      exact ⟨_, rfl, k t3 H3 t0 f3 s3⟩
end
end Kx
namespace Kx
open PySem PySem.Spec PyProof.Rows L2 Wd
section
variable {P : Program} {w : World} {K : PySem.W.Frag} {mg : Str → Option Value} {base : Heap} {aB : Addr}
abbrev lG : Stmt := top 14
theorem pM : aC ["one", "other"] ["one", "other"] (ao lG) := ⟨rfl, rfl, rfl, by decide +kernel, rfl, by decide +kernel, by decide +kernel⟩
theorem rV (D : Df K mg "product" lG)(T : Bt K w mg aB)(F_rowt : Fnc P w K mg base "row_times" ["row", "square"] 1 kX) : Fnc P w K mg base "product" ["one", "other"] 2 kY := by
  have sc := pM
  refine D.ok sc (fun _ _ _ _ _ _ us hl => by obtain ⟨_, _, rfl⟩ := lO hl;rfl) (fun vs H Q E h => ?_) (fun f cdv A outer s H vs Q E hr h => ?_)
  · obtain ⟨n, a, b, A, B, ra, rb, rfl, _⟩ := h
    rfl
  · obtain ⟨n, a, b, M, B, ra, rb, rfl, hn, qa, qb, hA, hB, k⟩ := h
    have l16 := aV
    refine ⟨_, (@ak _ _ _ (@aJ _ _ _ _ (@aY _ _ _ _ _ _ _ (["row", "other"]) (["row"]) ([1]) _ _ _ _ (@a9 _ _ _ _ _ _ rfl (by kernel_rfl)) rfl (@br _ _ _ _ (pv 0)) (fun _ _ _ _ => @ar _ _ (0) _ (show (["row", "other"] : List Str).Nodup from by decide +kernel) rfl (Or.inl rfl) (by first | exact .inl rfl | exact .inr rfl | assumption)) (fun _ _ _ _ => aL) (fun _ _ _ _ => by (exact (@aT _ _ _ _ _ _ _ _ _ _ _ F_rowt hr (by decide) rfl (@aa _ _ _ _ _ (pv 0) (@aa _ _ _ _ _ (pv 1) af (by rfl)) (by rfl)) (by decide) (by rfl) (by rfl)))) (by intro _ ;rfl)))), ?_⟩
    refine ⟨_, rfl, a, rfl, ⟨_, SqL.of qa.at'⟩, ?_⟩
    refine aZ (xs := ra.map L2.V.ref) (own := ["row"]) (cap := [1]) (fun j ys σ H' => ∃ (z : Option L2.V) (rc : List Addr), σ = [z, some (.ref b)] ∧ ys=rc.map L2.V.ref ∧ rc.length=j ∧ rc.Nodup ∧ (∀ r∈rc, H r=none) ∧ (∀ i r, rc[i]? = some r → H' r=some (.lst (a6 n fun c => Dm.sR (fun k => M i k*B k c) n))) ∧ aw H H') ⟨none, [], rfl, rfl, rfl, xa, fun r hr => absurd hr vA, fun i r h => (by cases h), aw.refl _⟩ (fun j ys σ H' hj ⟨_, rc, _, e, e2, _⟩ => by rw [e, fu, e2];omega) (by rw [fu, qa.len];omega) (fun j ys σ H' ⟨_, _, _, _, _, _, _, _, e⟩ => SqL.of (e _ _ qa.at')) ?_ ?_
    · rintro j ys σ H3 z N hz ⟨_, rc, rfl, rfl, rl, rnd, rn, rv, s3⟩ hN
      rw [vo] at hz
      obtain ⟨t, ht, rfl⟩ := vL.mp hz
      have hj : j < n := by rw [← qa.len];exact (vc.mp ht).1
      refine ⟨_, rfl, _, rfl, n, t, b, M j, B, rb, rfl, hn, s3 _ _ (qa.row j t ht), qb.same s3, fun k hk => hA j k hj hk, hB, fun r H4 hr f4 s4 => ?_⟩
      refine hN _ _ _ ⟨_, rc++[r], rfl, by rw [vw];rfl, by rw [vb, rl];rfl, ?_, ?_, ?_, s3.trans s4⟩
      · rw [xO]
        refine ⟨rnd, by simp, fun x hx y hy e => ?_⟩
        rw [vf] at hy
        obtain ⟨i, hi⟩ := v8 hx
        have := rv i x hi
        rw [e, hy, hr] at this
        cases this
      · intro x hx
        rcases vK.mp hx with hx | hx
        · exact rn x hx
        · rw [vf.mp hx];exact s3.free hr
      · intro i x hi
        rcases yu i rc.length with c | c
        · rw [wq c] at hi
          exact s4 _ _ (rv i x hi)
        · rw [vW c] at hi
          have e0 : i - rc.length=0 := by
            have := (vc.mp hi).1
            rw [vv] at this
            omega
          rw [e0] at hi
          cases hi
          have : i=j := by omega
          rw [this]
          exact f4
    rintro ys σ H3 c ⟨_, rc, rfl, rfl, rl, rnd, rn, rv, s3⟩ hc
    rw [fu] at rl
    have nc : c∉rc := fun hm => by
      obtain ⟨i, hi⟩ := v8 hm
      rw [rv i c hi] at hc
      cases hc
    refine k c rc _ (s3.free hc) rn ⟨by rw [rl, qa.len], rnd, ab, fun i r hr => ?_⟩ (s3.then hc)
    rw [aj fun e => nc (by rw [← e];exact vD hr)]
    exact rv i r hr
end
end Kx
namespace Kx
open PySem PySem.Spec PyProof.Rows L2 Wd
section
variable {P : Program} {w : World} {K : PySem.W.Frag} {mg : Str → Option Value} {base : Heap} {aB : Addr}
abbrev h_ : Stmt := top 16
theorem nj : aC ["square"] ["square"] (ao h_) := ⟨rfl, rfl, rfl, by decide +kernel, rfl, by decide +kernel, by decide +kernel⟩
theorem pN (D : Df K mg "traced" h_)(T : Bt K w mg aB)(Tsum : mg "sum" = none) : Fnc P w K mg base "traced" ["square"] 1 hU := by
  have sc := nj
  refine D.ok sc (fun _ _ _ _ _ _ us hl => by obtain ⟨_, rfl⟩ := pA hl;rfl) (fun vs H Q E h => ?_) (fun f cdv A outer s H vs Q E hr h => ?_)
  · obtain ⟨n, a, M, rs, rfl, _⟩ := h
    rfl
  · obtain ⟨n, a, M, rs, rfl, hn, q, k⟩ := h
    have l16 := aV
    refine ⟨_, (@ak _ _ _ (@aJ _ _ _ _ (@au _ _ _ _ _ _ _ _ _ (@eV _ rfl) (by rfl) Tsum oV (@aa _ _ _ _ _ (@aY _ _ _ _ _ _ _ (["number", "square"]) (["number"]) ([0]) _ _ _ _ (@a9 _ _ _ _ _ _ rfl (by kernel_rfl)) rfl (@a8 _ _ _ _ _ _ rfl T.range (@aa _ _ _ _ _ (@au _ _ _ _ _ _ _ _ _ az (by rfl) T.len vV (@aa _ _ _ _ _ (pv 0) af (by rfl)) (by decide) (by decide) (by rfl) (by rfl)) af (by rfl)) (by rfl)) (fun _ _ _ _ => @ar _ _ (0) _ (show (["number", "square"] : List Str).Nodup from by decide +kernel) rfl (Or.inl rfl) (by first | exact .inl rfl | exact .inr rfl | assumption)) (fun _ _ _ _ => aL) (fun _ _ _ _ => by (exact (@eF _ _ _ _ _ _ _ (@eU _ (K) rfl) (@eF _ _ _ _ _ _ _ (@eU _ (K) rfl) (pv 1) (pv 0) (fun _ _ => rfl)) (pv 0) (fun _ _ => rfl)))) (by intro _ ;rfl)) af (by rfl)) (by decide) (by decide) (by rfl) (by rfl)))), ?_⟩
    refine ⟨_, rfl, _, _, rfl, .inl (SqL.of q.at'), (n : Int), by rw [fu, q.len], by omega, by omega, ?_⟩
    refine bI (own := ["number"]) (cap := [0]) (J := Itr 0 n) n (fun j ys σ H' => ∃ z : Option L2.V, σ = [z, some (.ref a)] ∧ ys=((List.range j).map fun i => M i i).map L2.V.int ∧ H'=H) ⟨none, rfl, rfl, rfl⟩ (fun j ys σ H' hj ⟨_, _, e, _⟩ => by rw [e, fu, fu, xq];omega) (by omega) (fun j ys σ H' hj _ => hj) (fun ys σ H' _ => vd n) ?_ ?_
    · rintro j ys σ H3 x H4 N hj ⟨_, rfl, rfl, rfl⟩ ⟨rfl, rfl⟩ hN
      rw [xC]
      obtain ⟨r, hr, e, hv⟩ := q.get hj
      refine ⟨_, rfl, _, rfl, a, _, j, _, rfl, rfl, SqL.of q.at', dn hv, _, rfl, r, _, j, _, rfl, rfl, SqL.of e, dn (a7 hj), ?_⟩
      refine hN _ _ _ ⟨_, rfl, ?_, rfl⟩
      rw [xl, vw, vw]
      rfl
    rintro ys σ H3 l ⟨_, rfl, rfl, rfl⟩ hl
    refine ⟨l, _, rfl, SqL.of ab, ?_⟩
    rw [dO]
    exact k _ (aw.new hl)
end
end Kx
namespace Kx
open PySem PySem.Spec PyProof.Rows L2 Wd
section
variable {P : Program} {w : World} {K : PySem.W.Frag} {mg : Str → Option Value} {base : Heap} {aB : Addr}
abbrev lH : Stmt := top 13
theorem pO : aC ["square", "told", "last", "made", "power", "number"] ["square"] (ao lH) := ⟨rfl, rfl, rfl, by decide +kernel, rfl, by decide +kernel, by decide +kernel⟩
theorem rW (D : Df K mg "polynomial" lH)(T : Bt K w mg aB)(F_prod : Fnc P w K mg base "product" ["one", "other"] 2 kY)(F_trace : Fnc P w K mg base "traced" ["square"] 1 hU) : Fnc P w K mg base "polynomial" ["square"] 3 k4 := by
  have sc := pO
  refine D.ok sc (fun _ _ _ _ _ _ us hl => by obtain ⟨_, rfl⟩ := pA hl;rfl) (fun vs H Q E h => ?_) (fun f cdv A outer s H vs Q E hr h => ?_)
  · obtain ⟨n, a, A, rs, q, B, rfl, _⟩ := h
    rfl
  · obtain ⟨n, a, M, rs, q, B, rfl, n1, hn, qa, hA, F, k⟩ := h
    have l16 := aV
    refine ⟨_, (@ag _ _ _ _ _ (@ax _ _ (1) _ _ _ _ sc.nd rfl (Or.inl rfl) (@bC _ _ _ _ af) (by rfl) (by first | exact .inl rfl | exact .inr rfl | assumption)) (@ag _ _ _ _ _ (@ax _ _ (2) _ _ _ _ sc.nd rfl (Or.inl rfl) aq (by rfl) (by first | exact .inl rfl | exact .inr rfl | assumption)) (@ag _ _ _ _ _ (@gT _ (3) _ _ _ _ _ _ _ _ _ (["row", "square"]) (["row"]) ([0]) _ _ _ _ sc.nd rfl (Or.inl rfl) (@a9 _ _ _ _ _ _ rfl (by kernel_rfl)) rfl (@br _ _ _ _ (pv 0)) (fun _ _ _ _ => @ar _ _ (0) _ (show (["row", "square"] : List Str).Nodup from by decide +kernel) rfl (Or.inl rfl) (by first | exact .inl rfl | exact .inr rfl | assumption)) (fun _ _ _ _ => aL) (fun _ _ _ _ => by (exact @aA _ _ _ _ _ _ _ _ jF (by (exact (@bC _ _ _ _ (@aa _ _ _ _ _ aq af (by rfl))))) (by (exact (@au _ _ _ _ _ _ _ _ _ (@cO _ (K) rfl) (by rfl) T.len vV (@aa _ _ _ _ _ (pv 1) af (by rfl)) (by decide) (by decide) (by rfl) (by rfl)))))) (by intro _ ;rfl) (by rfl) (by first | exact .inl rfl | exact .inr rfl | assumption)) (@ag _ _ _ _ _ (@bB _ _ _ _ _ _ _ _ vU rfl (@jk _ _ _ _ _ _ _ rfl T.range (@aa _ _ _ _ _ aq (@aa _ _ _ _ _ (@aA _ _ _ _ _ _ _ _ bJ (@au _ _ _ _ _ _ _ _ _ az (by rfl) T.len vV (@aa _ _ _ _ _ (pv 0) af (by rfl)) (by decide) (by decide) (by rfl) (by rfl)) aq) af (by rfl)) (by rfl)) (by rfl) (by rfl)) (@ar _ _ (4) _ sc.nd rfl (Or.inl rfl) (by first | exact .inl rfl | exact .inr rfl | assumption)) (@ag _ _ _ _ _ (@ax _ _ (3) _ _ _ _ sc.nd rfl (Or.inl rfl) (@aT _ _ _ _ _ _ _ _ _ _ _ F_prod hr (by decide) rfl (@aa _ _ _ _ _ (pv 0) (@aa _ _ _ _ _ (pv 3) af (by rfl)) (by rfl)) (by decide) (by rfl) (by rfl)) (by rfl) (by first | exact .inl rfl | exact .inr rfl | assumption)) (@ag _ _ _ _ _ (@bB _ _ _ _ _ _ _ _ vU rfl (@a8 _ _ _ _ _ _ rfl T.range (@aa _ _ _ _ _ (@au _ _ _ _ _ _ _ _ _ az (by rfl) T.len vV (@aa _ _ _ _ _ (pv 0) af (by rfl)) (by decide) (by decide) (by rfl) (by rfl)) af (by rfl)) (by rfl)) (@ar _ _ (5) _ sc.nd rfl (Or.inl rfl) (by first | exact .inl rfl | exact .inr rfl | assumption)) (@ak _ _ _ (@ou _ _ _ _ _ _ _ _ _ _ _ _ _ (@eF _ _ _ _ _ _ _ dq (pv 3) (pv 5) (fun _ _ => rfl)) (pv 5) m4 (pv 2) nG md (by intros ;rfl))) (by intro _ ;rfl)) (@ag _ _ _ _ _ (@ax _ _ (2) _ _ _ _ sc.nd rfl (Or.inl rfl) (@aA _ _ _ _ _ _ _ _ eC (@qk _ _ _ _ _ _ nK (@aT _ _ _ _ _ _ _ _ _ _ _ F_trace hr (by decide) rfl (@aa _ _ _ _ _ (@aT _ _ _ _ _ _ _ _ _ _ _ F_prod hr (by decide) rfl (@aa _ _ _ _ _ (pv 0) (@aa _ _ _ _ _ (pv 3) af (by rfl)) (by rfl)) (by decide) (by rfl) (by rfl)) af (by rfl)) (by decide) (by rfl) (by rfl))) (pv 4)) (by rfl) (by first | exact .inl rfl | exact .inr rfl | assumption)) (@ak _ _ _ (@dh _ _ _ _ (@fH _ _ _ _ _ _ _ _ _ _ _ _ wk yJ PySem.F.type_list_insert ka (pv 1) (@aa _ _ _ _ _ aq (@aa _ _ _ _ _ (pv 2) af (by rfl)) (by rfl)) (by rfl) (by rfl) (by rfl) (by rfl) (by rfl)) (by rfl)))))) (by intro _ ;rfl)) (@ak _ _ _ (@aJ _ _ _ _ (pv 1))))))), ?_⟩
    refine ⟨vR _, fun z hz => ?_⟩
    have s1 := aw.new (o := .lst []) hz
    have f1 : (upd H z (.lst [])) z=some (.lst (a6 0 fun k => q (0 - k))) := ab
    show bq _ _ _ _ (upd H z (.lst []))
    generalize upd H z (.lst [])=H1 at s1 f1 ⊢
    refine ⟨_, rfl, ?_⟩
    refine ⟨_, rfl, ?_⟩
    refine ⟨⟨_, SqL.of (s1 _ _ qa.at')⟩, ?_⟩
    refine aZ (xs := rs.map L2.V.ref) (own := ["row"]) (cap := [0]) (fun j ys σ H' => ∃ (z : Option L2.V) (rc : List Addr), σ = [z, some (.ref a)] ∧ ys=rc.map L2.V.ref ∧ rc.length=j ∧ rc.Nodup ∧ (∀ r∈rc, H1 r=none) ∧ (∀ (i : Nat) r, rc[i]? = some r → H' r=some (.lst (a6 n fun c => 0))) ∧ aw H1 H') ⟨none, [], rfl, rfl, rfl, xa, (fun r hr => absurd hr vA), (fun i r h => by cases h), aw.refl _⟩ (fun j ys σ H' hj ⟨_, rc, _, e, e2, _⟩ => by rw [e, fu, e2];omega) (by rw [fu, qa.len];omega) (fun j ys σ H' ⟨_, _, _, _, _, _, _, _, e⟩ => SqL.of (e _ _ (s1 _ _ qa.at'))) ?_ ?_
    · rintro j ys σ H3 y N hy ⟨_, rc, rfl, rfl, rl, rnd, rn, rv, s3⟩ hN
      refine ⟨(aN (n := 1) (by decide)), fun x hx => ?_⟩
      have s4 := aw.new (o := .lst [L2.V.int 0]) hx
      have f4 : (upd H3 x (.lst [L2.V.int 0])) x=some (.lst [L2.V.int 0]) := ab
      generalize upd H3 x (.lst [L2.V.int 0])=H4 at s4 f4 ⊢
      have qa4 := (qa.same s1).same (s3.trans s4)
      refine ⟨_, rfl, a, _, rfl, .inl (SqL.of qa4.at'), x, _, _, rfl, rfl, f4, by omega, by rw [fu, qa.len];omega, by rw [fu, qa.len];simp;omega, fun r ht => ?_⟩
      have e0 : (List.replicate ((rs.map L2.V.ref).length : Int).toNat [L2.V.int 0]).flatten=a6 n fun c => 0 := by
        rw [fu, qa.len, vJ]
        have : ∀ m, (List.replicate m [L2.V.int 0]).flatten=List.replicate m (L2.V.int 0) := fun m => by
          induction m with
          | zero => rfl
          | succ m ih => rw [wc, w6, ih];rfl
        rw [this, iO]
      rw [e0]
      have s6 := aw.new (o := .lst (a6 n fun c => 0)) ht
      refine hN _ _ _ ⟨_, rc++[r], rfl, by rw [vw];rfl, by rw [vb, rl];rfl, ?_, ?_, ?_, s3.trans (s4.trans s6)⟩
      · rw [xO]
        refine ⟨rnd, by simp, fun x hx y hy e => ?_⟩
        rw [vf] at hy
        obtain ⟨i, hi⟩ := v8 hx
        have := s4 _ _ (rv i x hi)
        rw [e, hy, ht] at this
        cases this
      · intro x hx
        rcases vK.mp hx with hx | hx
        · exact rn x hx
        · rw [vf.mp hx];exact (s3.trans s4).free ht
      · intro i x hi
        rcases yu i rc.length with c | c
        · rw [wq c] at hi
          exact s6 _ _ (s4 _ _ (rv i x hi))
        · rw [vW c] at hi
          have e0 : i - rc.length=0 := by
            have := (vc.mp hi).1
            rw [vv] at this
            omega
          rw [e0] at hi
          cases hi
          exact ab
    rintro ys σ H3 c ⟨_, rc, rfl, rfl, rl, rnd, rn, rv, s3⟩ hc
    rw [fu] at rl
    have nc : c∉rc := fun hm => by
      obtain ⟨i, hi⟩ := v8 hm
      rw [rv i c hi] at hc
      cases hc
    have sq : SqM (upd H3 c (.lst (rc.map L2.V.ref))) c n (Bp B 0) rc := ⟨by rw [rl, qa.len], rnd, ab, fun i r hr => by
      rw [aj fun e => nc (by rw [← e];exact vD hr)]
      exact rv i r hr⟩
    have s4 : aw H1 (upd H3 c (.lst (rc.map L2.V.ref))) := s3.then hc
    generalize upd H3 c (.lst (rc.map L2.V.ref))=H4 at sq s4 ⊢
    have qa4 := qa.same (s1.trans s4)
    refine ⟨_, rfl, _, _, rfl, .inl (SqL.of qa4.at'), _, _, rfl, rfl, 1, (n : Int)+1, by rw [fu, qa.len], ⟨by omega, by omega, by omega, by omega⟩, ?_⟩
    rw [show ((n : Int)+1 - 1).toNat=n by omega]
    refine bt (fun i σ H' => ∃ (b4 b5 : Option L2.V) (c : Addr) (rc : List Addr), σ = [some (.ref a), some (.ref z), some (.int (q i)), some (.ref c), b4, b5] ∧ H' z=some (.lst (a6 i fun k => q (i - k))) ∧ SqM H' c n (Bp B i) rc ∧ aw H H') ⟨none, none, c, rc, by rw [F.q0];rfl, s4 _ _ f1, sq, s1.trans s4⟩ ?_ ?_
    · rintro i σ H5 hi ⟨b4, b5, c5, rc5, rfl, z5, sq5, s5⟩
      have bA : ∀ k j, k < n → j < n → (M k j).natAbs < big := fun k j hk hj => wm (hA k j hk hj) (vk (by decide : 12 < 50000 ^ 1) (y7 (fi (m := 1) (by omega))))
      refine ⟨_, rfl, _, rfl, n, a, c5, M, Bp B i, rs, rc5, rfl, by omega, qa.same s5, sq5, bA, (fun k j hk hj => F.bpb hn hA (by omega) hk hj), fun c6 rc6 H6 hc6 hr6 sq6 s6 => ?_⟩
      have nz : z∉rc6 := fun hm => by rw [hr6 z hm] at z5;cases z5
      have s06 := s5.trans s6
      have z6 := s6 _ _ z5
      have nH : ∀ b o, H b=some o → b∉rc6 := fun b o e hm => by
        have := s5 _ _ e
        rw [hr6 b hm] at this
        cases this
      refine ⟨_, rfl, _, _, rfl, .inl (SqL.of (qa.same s06).at'), (n : Int), by rw [fu, qa.len], by omega, by omega, ?_⟩
      refine bt (n := n) (fun j σ H' => ∃ (b5 : Option L2.V), σ = [some (.ref a), some (.ref z), some (.int (q i)), some (.ref c6), some (.int (1+(i : Int))), b5] ∧ SqM H' c6 n (fun k l => Dm.sR (fun j => M k j*Bp B i j l) n+if k=l ∧ k < j then q i else 0) rc6 ∧ ∀ b o, b∉rc6 → H6 b=some o → H' b=some o) ⟨_, rfl, ⟨sq6.len, sq6.nd, sq6.at', fun k r hr => ?_⟩, fun b o _ e => e⟩ ?_ ?_
      · rw [sq6.row k r hr]
        congr 2
        refine bO fun l _ => ?_
        rw [if_neg (by omega), Int.add_zero]
      · rintro j σ H7 hj ⟨b5, rfl, sq7, k7⟩
        rw [xC]
        obtain ⟨r, er, hr, hv⟩ := sq7.get hj
        refine ⟨_, rfl, _, rfl, c6, _, j, _, rfl, rfl, SqL.of sq7.at', dn hv, _, rfl, r, _, j, _, rfl, rfl, hr, a7 hj, _, rfl, _, _, rfl, rfl, r, _, _, j, rfl, rfl, hr, ?_, ?_⟩
        · exact oU (by rw [av];exact hj)
        · refine ⟨_, rfl, ?_, fun b o nb e => ?_⟩
          · have nr : c6≠r := fun e => sq7.ne (by rw [e];exact vD er)
            refine ⟨sq7.len, sq7.nd, by rw [aj nr];exact sq7.at', fun k r' hr' => ?_⟩
            by_cases c : k=j
            · subst c
              rw [er] at hr'
              obtain rfl := vp hr'
              rw [ab, m5]
              congr 2
              refine bO fun l _ => ?_
              by_cases e : l=k
              · subst e
                rw [if_pos rfl, if_neg (by omega), if_pos ⟨rfl, by omega⟩, Int.add_zero]
              · rw [if_neg e, if_neg (by omega), if_neg (by omega)]
            · have nrr : r'≠r := fun e => c (by
                rw [e] at hr'
                have i1 := (vc.mp hr').1
                have i2 := (vc.mp er).1
                have v1 := (vc.mp hr').2
                have v2 := (vc.mp er).2
                have pw := yy.mp sq7.nd
                rcases Nat.lt_trichotomy k j with y | y | y
                · exact absurd (v1.trans v2.symm) (pw k j i1 i2 y)
                · exact y
                · exact absurd (v2.trans v1.symm) (pw j k i2 i1 y))
              rw [aj nrr, sq7.row k r' hr']
              congr 2
              refine bO fun l _ => ?_
              by_cases e : k=l ∧ k < j
              · rw [if_pos e, if_pos ⟨e.1, by omega⟩]
              · rw [if_neg e, if_neg (by omega)]
          · rw [aj (fun e => nb (by rw [e];exact vD er))]
            exact k7 b o nb e
      · rintro σ H7 ⟨b5, rfl, sq7, k7⟩
        have s07 : aw H H7 := fun b o e => k7 _ _ (nH b o e) (s06 _ _ e)
        have z7 := k7 _ _ nz z6
        have sqB : SqM H7 c6 n (Bp B (i+1)) rc6 := ⟨sq7.len, sq7.nd, sq7.at', fun k r hr => by
          rw [sq7.row k r hr]
          congr 2
          refine bO fun l hl => ?_
          have hk : k < n := by rw [← sq7.len];exact (vc.mp hr).1
          rw [← F.bp i k l hk hl]
          congr 1
          by_cases e : k=l
          · rw [if_pos ⟨e, hk⟩, if_pos e]
          · rw [if_neg (fun q => e q.1), if_neg e]⟩
        refine ⟨_, rfl, _, rfl, n, a, c6, M, Bp B (i+1), rs, rc6, rfl, by omega, qa.same s07, sqB, bA, (fun k j hk hj => F.bpb hn hA (by omega) hk hj), fun c8 rc8 H8 hc8 hr8 sq8 s8 => ?_⟩
        refine ⟨n, c8, _, rc8, rfl, by omega, sq8, fun H9 s9 => ?_⟩
        have tr : -Dm.sR (fun k => Dm.sR (fun j => M k j*Bp B (i+1) j k) n) n / (1+(i : Int))=q (i+1) := by
          have := F.tr i
          show -Dm.sR (fun k => Dm.sR (fun j => M k j*B i j k) n) n / (1+(i : Int))=q (i+1)
          rw [← this, Int.add_comm (1 : Int)]
          exact Int.mul_ediv_cancel_left _ (by omega)
        refine ⟨_, rfl, _, rfl, _, _, rfl, rfl, ⟨by omega, by omega⟩, ?_⟩
        rw [tr]
        have z9 := s9 _ _ (s8 _ _ z7)
        refine ⟨_, rfl, .inl ⟨rfl, _, SqL.of z9⟩, _, rfl, z, _, 0, _, rfl, rfl, z9, by omega, by omega, by rw [av];omega, ?_⟩
        have nzc : c6≠z := fun e => by rw [e, z5] at hc6;cases hc6
        refine ⟨_, _, c6, rc6, rfl, ?_, ((sqB.same s8).same s9).mono fun b o hb e => ?_, fun b o e => ?_⟩
        · rw [ab, kW]
          show some (HO.lst (L2.V.int (q (i+1))::a6 i fun k => q (i - k)))=_
          congr 3
          refine bO fun k _ => ?_
          congr 1
          omega
        · rw [aj]
          · exact e
          · rcases hb with rfl | hb
            · exact nzc
            · exact fun e => nz (by rw [← e];exact hb)
        · rw [aj (ae e hz)]
          exact s9 _ _ (s8 _ _ (s07 _ _ e))
    · rintro σ H5 ⟨b4, b5, c5, rc5, rfl, z5, sq5, s5⟩
      exact ⟨_, rfl, k z H5 hz z5 s5⟩
end
end Kx
namespace Kx
open PySem PySem.Spec PyProof.Rows L2 Wd
section
variable {P : Program} {w : World} {K : PySem.W.Frag} {mg : Str → Option Value} {base : Heap} {aB : Addr}
theorem lI {bar : List (List L)}{k : Nat}(bw : ∀ w∈bar, w.length≤k) : (pY bar).length≤bar.length*k := by
  induction bar with
  | nil => exact vR _
  | cons a r ih =>
    have h1 := ih fun w hw => bw w (vq _ hw)
    have h2 := bw a vz
    unfold pY at h1 ⊢
    rw [vT, vb, fu, xq, vN, zm]
    omega
abbrev pP : Stmt := top 10
theorem rX : aC ["many", "words", "states"] ["many", "words"] (ao pP) := ⟨rfl, rfl, rfl, by decide +kernel, rfl, by decide +kernel, by decide +kernel⟩
theorem tU (D : Df K mg "recurrence" pP)(T : Bt K w mg aB)(F_fol : Fnc P w K mg base "followed" ["many", "words"] 3 o8)(F_steps : Fnc P w K mg base "steps_between" ["states"] 2 hJ)(F_poly : Fnc P w K mg base "polynomial" ["square"] 3 k4) : Fnc P w K mg base "recurrence" ["many", "words"] 4 pz := by
  have sc := rX
  refine D.ok sc (fun _ _ _ _ _ _ us hl => by obtain ⟨_, _, rfl⟩ := lO hl;rfl) (fun vs H Q E h => ?_) (fun f cdv A outer s H vs Q E hr h => ?_)
  · obtain ⟨m, a, W, rfl, _⟩ := h
    rfl
  · obtain ⟨m, a, W, rfl, m1, m3, ha, ne, wl, ww, k⟩ := h
    have l16 := aV
    refine ⟨_, (@ag _ _ _ _ _ (@ax _ _ (2) _ _ _ _ sc.nd rfl (Or.inl rfl) (@aT _ _ _ _ _ _ _ _ _ _ _ F_fol hr (by decide) rfl (@aa _ _ _ _ _ (pv 0) (@aa _ _ _ _ _ (pv 1) af (by rfl)) (by rfl)) (by decide) (by rfl) (by rfl)) (by rfl) (by first | exact .inl rfl | exact .inr rfl | assumption)) (@ag _ _ _ _ _ (@dW _ _ _ _ _ _ _ _ (@a_ _ _ _ _ _ _ _ _ lX (@au _ _ _ _ _ _ _ _ _ jQ (by rfl) T.len vV (@aa _ _ _ _ _ (pv 2) af (by rfl)) (by decide) (by decide) (by rfl) (by rfl)) aq (bY _)) (@ak _ _ _ (@aJ _ _ _ _ (@qq _ _ _ _ _ (@aa _ _ _ _ _ aq af (by rfl))))) bF) (@ak _ _ _ (@aJ _ _ _ _ (@bu _ _ _ _ _ _ _ _ _ eI (by rfl) T.tuple j5 (@aa _ _ _ _ _ (@aY _ _ _ _ _ _ _ (["number"]) (["number"]) ([]) _ _ _ _ (@a9 _ _ _ _ _ _ rfl (by kernel_rfl)) rfl (@br _ _ _ _ (@aT _ _ _ _ _ _ _ _ _ _ _ F_poly hr (by decide) rfl (@aa _ _ _ _ _ (@aT _ _ _ _ _ _ _ _ _ _ _ F_steps hr (by decide) rfl (@aa _ _ _ _ _ (pv 2) af (by rfl)) (by decide) (by rfl) (by rfl)) af (by rfl)) (by decide) (by rfl) (by rfl))) (fun _ _ _ _ => @ar _ _ (0) _ (show (["number"] : List Str).Nodup from by decide +kernel) rfl (Or.inl rfl) (by first | exact .inl rfl | exact .inr rfl | assumption)) (fun _ _ _ _ => aL) (fun _ _ _ _ => by (exact (@qk _ _ _ _ _ _ nK (pv 0)))) (by intro _ ;rfl)) af (by rfl)) (by decide) (by decide) (by rfl) (by rfl)))))), ?_⟩
    refine ⟨_, rfl, _, rfl, m, a, W, rfl, m1, by omega, ha, ne, by omega, (fun w hw => by have := ww w hw;omega), fun d wa kvs ss H1 hd fd FD h0 s1 => ?_⟩
    obtain ⟨ts, ek, tnd, tm⟩ := m7 FD
    have kl : kvs.length=ts.length := by have := v5 List.length ek;rwa [fu, fu] at this
    have t0 : []∈ts := (tm _).mpr h0
    have t1 : 1≤ts.length := y6 t0
    have t60 : ts.length≤60 := by
      have h1 := mT tnd (s := pY (barP m W)) fun x hx => kD (FD.beg x ((tm x).mp hx))
      have h2 := lI (o7 (m := m) (W := W) (k := 3) (by decide) ww)
      have h3 := kF m W
      omega
    obtain ⟨q, B, F⟩ := rK t1 (fo (dlt (sgP m) (barP m W)) ts)
    have hA : ∀ i j, i < ts.length → j < ts.length → (fo (dlt (sgP m) (barP m W)) ts i j).natAbs≤12 := fun i j _ _ => by
      have h1 := List.count_le_length (a := ts.getD j []) (l := dlt (sgP m) (barP m W) (ts.getD i []))
      have h2 := kC m (barP m W) (ts.getD i [])
      unfold fo
      rw [Int.natAbs_natCast]
      omega
    refine ⟨_, rfl, d, kvs, rfl, fd, rfl, _, rfl, oS (vS fun e => by have := V.int.inj e;omega) ?_⟩
    refine ⟨_, rfl, d, kvs, ts, dlt (sgP m) (barP m W), rfl, fd, ek, by omega, (fun t ht => by
      obtain ⟨r, a1, _, a3, _⟩ := FD.val t ((tm t).mp ht)
      exact ⟨r, a1, a3⟩), fun l rs H2 hl sq b2 => ?_⟩
    refine ⟨ts.length, l, _, rs, q, B, rfl, t1, t60, sq, hA, F, fun p H3 hp fp s3 => ?_⟩
    have cl : ∀ s∈ts, ∀ b∈dlt (sgP m) (barP m W) s, b∈ts := fun s hs b hb => (tm b).mpr (FD.in ((tm s).mp hs) hb)
    have ob := fun N => u5 ne m1 tnd cl t0 F N
    have s13 : aw H H3 := fun b o e => s3 _ _ (b2 _ _ (ae e hd) (s1 _ _ e))
    refine ⟨p, rfl, ⟨_, SqL.of fp⟩, ?_⟩
    refine aZ (xs := a6 ts.length fun k => q (ts.length - k)) (own := ["number"]) (cap := []) (fun j ys σ H' => ∃ z : Option L2.V, σ = [z] ∧ ys=a6 j (fun k => -q (ts.length - k)) ∧ H'=H3) ⟨none, rfl, rfl, rfl⟩ (fun j ys σ H' hj ⟨_, _, e, _⟩ => by rw [e, av];omega) (by rw [av];omega) (fun j ys σ H' ⟨_, _, _, e⟩ => by rw [e];exact SqL.of fp) ?_ ?_
    · rintro j ys σ H4 z N hz ⟨_, rfl, rfl, rfl⟩ hN
      obtain ⟨hj, rfl⟩ := cy hz
      refine ⟨_, rfl, _, rfl, ?_⟩
      refine hN _ _ _ ⟨_, rfl, ?_, rfl⟩
      unfold a6
      rw [xl, vw]
      rfl
    rintro ys σ H4 c ⟨_, rfl, rfl, rfl⟩ hc
    rw [av]
    refine ⟨c, _, rfl, .inl ⟨SqL.of ab, fun t ht => ?_⟩⟩
    have s5 : aw H (upd (upd H4 c (.lst (a6 ts.length fun k => -q (ts.length - k)))) t (.tup (a6 ts.length fun k => -q (ts.length - k)))) := (s13.then hc).then ht
    refine k t _ ts.length (fun k => -q (ts.length - k)) t1 t60 ((s13.then hc).free ht) ab (fun i hi => ?_) ob s5
    rw [Int.natAbs_neg]
    exact wm (F.bound t60 hA _).1 (fi (by omega))
theorem pQ : ∀ m, m≤6 → (sgN m).length=2*m := by decide
abbrev ia : Stmt := top 23
theorem nk : aC ["_law_feed_here", "_law_many", "_law_signs", "_law_found", "_law_k", "_law_word"] ["_law_feed_here", "_law_many"] (ao ia) := ⟨rfl, rfl, rfl, by decide +kernel, rfl, by decide +kernel, by decide +kernel⟩
theorem pR (D : Df K mg "_law_words" ia)(T : Bt K w mg aB)(F_draw : Fnc P w K mg base "_law_draw" ["_law_feed_here", "_law_many"] 1 fW)(F_some : Fnc P w K mg base "_law_some" ["_law_feed_here", "_law_many", "_law_most"] 2 j6) : Fnc P w K mg base "_law_words" ["_law_feed_here", "_law_many"] 3 dR := by
  have sc := nk
  refine D.ok sc (fun _ _ _ _ _ _ us hl => by obtain ⟨_, _, rfl⟩ := lO hl;rfl) (fun vs H Q E h => ?_) (fun f cdv A outer s H vs Q E hr h => ?_)
  · obtain ⟨d, m, rfl, _⟩ := h
    rfl
  · obtain ⟨d, m, rfl, F0, m1, m3, k⟩ := h
    have m6 : m≤6 := by omega
    have l16 := aV
    have hu := dY hr
    have s2m := pQ m m6
    have lsg := ah (sgN m)
    refine ⟨_, (@ag _ _ _ _ _ (@ax _ _ (2) _ _ _ _ sc.nd rfl (Or.inl rfl) (@aA _ _ _ _ _ _ _ _ aK (@aF _ _ _ _ _ _ _ _ _ _ bh aD aO (@aP _ _ _ (pv 1))) (@aF _ _ _ _ _ _ _ _ _ _ bh aD aO (@aP _ _ _ (pv 1)))) (by rfl) (by first | exact .inl rfl | exact .inr rfl | assumption)) (@ag _ _ _ _ _ (@ax _ _ (3) _ _ _ _ sc.nd rfl (Or.inl rfl) (@bC _ _ _ _ af) (by rfl) (by first | exact .inl rfl | exact .inr rfl | assumption)) (@ag _ _ _ _ _ (@bB _ _ _ _ _ _ _ _ vU rfl (@a8 _ _ _ _ _ _ rfl T.range (@aa _ _ _ _ _ (@aT _ _ _ _ _ _ _ _ _ _ _ F_draw hr (by decide) rfl (@aa _ _ _ _ _ (pv 0) (@aa _ _ _ _ _ aq af (by rfl)) (by rfl)) (by decide) (by rfl) (by rfl)) af (by rfl)) (by rfl)) (@ar _ _ (4) _ sc.nd rfl (Or.inl rfl) (by first | exact .inl rfl | exact .inr rfl | assumption)) (@ag _ _ _ _ _ (@ax _ _ (5) _ _ _ _ sc.nd rfl (Or.inl rfl) (@aA _ _ _ _ _ _ _ _ aK (@aT _ _ _ _ _ _ _ _ _ _ _ F_some hr (by decide) rfl (@aa _ _ _ _ _ (pv 0) (@aa _ _ _ _ _ (pv 1) (@aa _ _ _ _ _ aq af (by rfl)) (by rfl)) (by rfl)) (by decide) (by rfl) (by rfl)) (@eF _ _ _ _ _ _ _ nP (pv 2) (@aT _ _ _ _ _ _ _ _ _ _ _ F_draw hr (by decide) rfl (@aa _ _ _ _ _ (pv 0) (@aa _ _ _ _ _ (@aA _ _ _ _ _ _ _ _ dj aq (pv 1)) af (by rfl)) (by rfl)) (by decide) (by rfl) (by rfl)) (fun _ _ => rfl))) (by rfl) (by first | exact .inl rfl | exact .inr rfl | assumption)) (@ag _ _ _ _ _ (@dW _ _ _ _ _ _ _ _ (@PW.pt _ _ _ (@nE _ _ _ _ _ _ _ (@a_ _ _ _ _ _ _ _ _ (@gh _ (by exact hr.units)) (pv 3) (@bC _ _ _ _ af) (bY _)) (@ji _ _ _ _ (@a_ _ _ _ _ _ _ _ _ lX (@aT _ _ _ _ _ _ _ _ _ _ _ F_draw hr (by decide) rfl (@aa _ _ _ _ _ (pv 0) (@aa _ _ _ _ _ aq af (by rfl)) (by rfl)) (by decide) (by rfl) (by rfl)) aq (bY _))))) (@ak _ _ _ (@ax _ _ (5) _ _ _ _ sc.nd rfl (Or.inl rfl) (@aF _ _ _ _ _ _ _ _ _ _ bh (@aA _ _ _ _ _ _ _ _ aK (@eF _ _ _ _ _ _ _ dq (pv 3) (@aT _ _ _ _ _ _ _ _ _ _ _ F_draw hr (by decide) rfl (@aa _ _ _ _ _ (pv 0) (@aa _ _ _ _ _ (@au _ _ _ _ _ _ _ _ _ az (by rfl) T.len vV (@aa _ _ _ _ _ (pv 3) af (by rfl)) (by decide) (by decide) (by rfl) (by rfl)) af (by rfl)) (by rfl)) (by decide) (by rfl) (by rfl)) (fun _ _ => rfl)) (pv 5)) aO (@aP _ _ _ aq)) (by rfl) (by first | exact .inl rfl | exact .inr rfl | assumption))) bF) (@ak _ _ _ (@dh _ _ _ _ (@fH _ _ _ _ _ _ _ _ _ _ _ _ wk w4 yO fK (pv 3) (@aa _ _ _ _ _ (pv 5) af (by rfl)) (by rfl) (by rfl) (by rfl) (by rfl) (by rfl)) (by rfl))))) (by intro _ ;rfl)) (@ak _ _ _ (@aJ _ _ _ _ (pv 3)))))), ?_⟩
    refine ⟨_, rfl, _, rfl, _, rfl, (aN (n := 6) (by decide)), _, rfl, _, rfl, _, rfl, (aN (n := 6) (by decide)), _, _, rfl, rfl, ?_, ?_⟩
    · have h1 := wW ("abcdef" : Str) none (some (m : Int))
      have h2 := wW ("ABCDEF" : Str) none (some (m : Int))
      have e1 : ("abcdef" : Str).length=6 := by decide +kernel
      have e2 : ("ABCDEF" : Str).length=6 := by decide +kernel
      omega
    rw [eS (m := (m : Int)) (by omega), n9]
    refine ⟨(aN (n := 0) (by decide)), fun l hl => ?_⟩
    have F1 : Fd (upd H l (.lst [])) d := F0.new hl
    have f1 : (upd H l (.lst [])) l=some (.lst (([] : List (List L)).map tx)) := ab
    have nld : l≠d := F0.ne hl
    have b1 : bT d H (upd H l (.lst [])) := fun b o _ e => aw.new hl _ _ e
    show bq _ _ _ _ (upd H l (.lst []))
    generalize upd H l (.lst [])=H1 at F1 f1 b1 ⊢
    refine ⟨_, rfl, d, _, rfl, F1, by decide, by decide, fun r H2 r0 r1 F2 b2 => ?_⟩
    refine ⟨_, rfl, by omega, by omega, ?_⟩
    refine bt (lo := 0) (n := r.toNat) (fun i σ H' => ∃ (b6 b7 : Option V) (W : List (List L)), σ = [some (.ref d), some (.int (m : Int)), some (tx (sgN m)), some (.ref l), b6, b7] ∧ H' l=some (.lst (W.map tx)) ∧ []∉W ∧ W.length≤i ∧ (∀ w∈W, w.length≤3) ∧ Fd H' d ∧ bT d H H') ⟨none, none, [], rfl, b2 _ _ nld f1, by simp, vR _, (fun w hw => absurd hw vA), F2, b1.trans b2⟩ ?_ ?_
    · rintro i σ H3 hi ⟨b6, b7, W, rfl, f3, wne, wl, ww, F3, b3⟩
      refine ⟨_, rfl, _, rfl, d, (m : Int), _, rfl, F3, by omega, by omega, by omega, by omega, fun u H4 ul F4 b4 => ?_⟩
      refine ⟨_, rfl, _, rfl, _, rfl, _, _, rfl, rfl, .inr ⟨by omega, by omega⟩, d, _, rfl, F4, by omega, by omega, fun r2 H5 r20 r21 F5 b5 => ?_⟩
      obtain ⟨q, hq⟩ := wH r20
      have hx := vh (show q < (sgN m).length by omega)
      generalize (sgN m)[q]'(by omega)=x at hx
      have lu := ah u
      have f5 := b5 _ _ nld (b4 _ _ nld f3)
      have bb5 := (b3.trans b4).trans b5
      refine ⟨toS (sgN m), r2, cp x, rfl, rfl, by omega, jW (k := q) hq hx, ?_⟩
      have lx := ah [x]
      have ls1 : [x].length=1 := rfl
      refine ⟨_, _, rfl, rfl, (by show _+(toS [x]).length≤_;omega), ?_⟩
      have et : V.str (toS u++⟨#[cp x]⟩)=tx (u++[x]) := cW u [x]
      rw [et]
      have vne : u++[x]≠[] := by simp
      have vl : (u++[x]).length≤3 := by rw [vb, vv];omega
      generalize u++[x]=v at vne vl
      have lv := ah v
      have fin : ∀ (v : List L) (c6 c7 : Option V) (H9 : Hp), v≠[] → v.length≤3 → H9 l=some (.lst (W.map tx)) → Fd H9 d → bT d H H9 → ∃ (b6 b7 : Option V) (W' : List (List L)), [some (V.ref d), some (.int (m : Int)), some (tx (sgN m)), some (.ref l), c6, c7]=[some (.ref d), some (.int (m : Int)), some (tx (sgN m)), some (.ref l), b6, b7] ∧ (upd H9 l (.lst (W.map tx++[tx v]))) l=some (.lst (W'.map tx)) ∧ []∉W' ∧ W'.length≤i+1 ∧ (∀ w∈W', w.length≤3) ∧ Fd (upd H9 l (.lst (W.map tx++[tx v]))) d ∧ bT d H (upd H9 l (.lst (W.map tx++[tx v]))) := fun v c6 c7 H9 vne vl f9 F9 b9 => by
        refine ⟨_, _, W++[v], rfl, by rw [ab, vw];rfl, fun hm => ?_, by rw [vb, vv];omega, fun w hw => ?_, pb F9 f9 nld, fun b o n e => by rw [aj (ae e hl)];exact b9 b o n e⟩
        · rcases vK.mp hm with q | q
          · exact wne q
          · exact vne (vf.mp q).symm
        · rcases vK.mp hw with q | q
          · exact ww w q
          · rw [vf.mp q];exact vl
      have wl2 : (W.map tx).length≤100 := by rw [fu];omega
      refine ⟨_, rfl, (aN (n := 0) (by decide)), fun q1 hq1 => ?_⟩
      have t6 := aw.new (o := .lst []) hq1
      have f6 := t6 _ _ f5
      have F6 := F5.same t6
      have bb6 : bT d H (upd H5 q1 (.lst [])) := fun b o n e => t6 _ _ (bb5 b o n e)
      refine ⟨l, q1, _, rfl, rfl, f6, ab, _, rfl, ?_⟩
      generalize upd H5 q1 (.lst [])=H6 at t6 f6 F6 bb6 ⊢
      cases hW : W with
      | nil =>
        rw [hW] at fin f6 wl2
        exact qY (mI ⟨_, rfl, .inl ⟨rfl, _, SqL.of f6⟩, _, rfl, l, _, _, rfl, rfl, f6, by omega, fin v _ _ H6 vne vl f6 F6 bb6⟩)
      | cons w0 W0 =>
        rw [hW] at fin f6 wl2 ww
        refine qX ⟨_, rfl, d, _, rfl, F6, by decide, by decide, fun r3 H7 r30 r31 F7 b7 => ?_⟩
        have f7 := b7 _ _ nld f6
        have bb7 := bb6.trans b7
        refine ⟨rfl, _, rfl, ?_⟩
        cases decide (V.int r3=V.int 0) with
        | false => exact mI ⟨_, rfl, .inl ⟨rfl, _, SqL.of f7⟩, _, rfl, l, _, _, rfl, rfl, f7, by omega, fin v _ _ H7 vne vl f7 F7 bb7⟩
        | true =>
          refine tK ⟨_, rfl, _, rfl, _, rfl, l, _, rfl, .inl (SqL.of f7), d, _, rfl, F7, ?_, ?_, fun r4 H8 r40 r41 F8 b8 => ?_⟩
          · rw [fu, vN];omega
          · omega
          · have f8 := b8 _ _ nld f7
            have bb8 := bb7.trans b8
            obtain ⟨q4, hq4⟩ := wH r40
            rw [fu] at r41
            have hy := vh (show q4 < (w0::W0).length by omega)
            generalize (w0::W0)[q4]'(by omega)=y at hy
            have yl := ww y (vD hy)
            have ly := ah y
            have ay : atI ((w0::W0).map tx) r4=some (tx y) := by rw [hq4];exact dn (j := q4) (by rw [vo, hy];rfl)
            refine ⟨l, _, _, _, rfl, rfl, SqL.of f8, ay, _, rfl, _, _, rfl, rfl, by omega, ?_⟩
            rw [cW]
            have lyv := ah (y++v)
            rw [vb] at lyv
            refine ⟨_, rfl, toS (y++v), rfl, by omega, ?_⟩
            rw [aU, eg _ (by omega)]
            refine ⟨_, rfl, .inl ⟨rfl, _, SqL.of f8⟩, _, rfl, l, _, _, rfl, rfl, f8, by omega, fin ((y++v).take 3) _ _ H8 ?_ (by rw [vC];omega) f8 F8 bb8⟩
            intro e
            have := v5 List.length e
            rw [vC, vb, yc] at this
            have := xy.mpr vne
            omega
    · rintro σ H3 ⟨b6, b7, W, rfl, f3, wne, wl, ww, F3, b3⟩
      exact ⟨_, rfl, k l W H3 hl f3 wne (by omega) ww F3 b3⟩
end
end Kx
namespace Kx
open PySem PySem.Spec PyProof.Rows L2 Wd
section
variable {P : Program} {w : World} {K : PySem.W.Frag} {mg : Str → Option Value} {base : Heap} {aB : Addr}
abbrev lJ : Stmt := top 24
theorem pT : aC ["_law_found", "_law_counts_here", "_law_n"] ["_law_found", "_law_counts_here"] (ao lJ) := ⟨rfl, rfl, rfl, by decide +kernel, rfl, by decide +kernel, by decide +kernel⟩
theorem rY (D : Df K mg "_law_obeyed" lJ)(T : Bt K w mg aB)(Te : mg "enumerate" = none)(Tsum : mg "sum" = none) : Fnc P w K mg base "_law_obeyed" ["_law_found", "_law_counts_here"] 1 fj := by
  have sc := pT
  refine D.ok sc (fun _ _ _ _ _ _ us hl => by obtain ⟨_, _, rfl⟩ := lO hl;rfl) (fun vs H Q E h => ?_) (fun f cdv A outer s H vs Q E hr h => ?_)
  · obtain ⟨t, l, n, Z, c, x, rfl, _⟩ := h
    rfl
  · obtain ⟨t, l, n, Z, c, x, rfl, ht, hl, hn, hZ, hc, hx, ob, k⟩ := h
    have l16 := aV
    refine ⟨_, (@ag _ _ _ _ _ (@bB _ _ _ _ _ _ _ _ vU rfl (@a8 _ _ _ _ _ _ rfl T.range (@aa _ _ _ _ _ (@aA _ _ _ _ _ _ _ _ jm (@au _ _ _ _ _ _ _ _ _ az (by rfl) T.len vV (@aa _ _ _ _ _ (pv 1) af (by rfl)) (by decide) (by decide) (by rfl) (by rfl)) (@au _ _ _ _ _ _ _ _ _ az (by rfl) T.len vV (@aa _ _ _ _ _ (pv 0) af (by rfl)) (by decide) (by decide) (by rfl) (by rfl))) af (by rfl)) (by rfl)) (@ar _ _ (2) _ sc.nd rfl (Or.inr rfl) (by first | exact .inl rfl | exact .inr rfl | assumption)) (@ak _ _ _ (@dW _ _ _ _ _ _ _ _ (@a_ _ _ _ _ _ _ _ _ qm (@eF _ _ _ _ _ _ _ dq (pv 1) (@aA _ _ _ _ _ _ _ _ bJ (pv 2) (@au _ _ _ _ _ _ _ _ _ az (by rfl) T.len vV (@aa _ _ _ _ _ (pv 0) af (by rfl)) (by decide) (by decide) (by rfl) (by rfl))) (fun _ _ => rfl)) (@au _ _ _ _ _ _ _ _ _ (@eV _ rfl) (by rfl) Tsum oV (@aa _ _ _ _ _ (@aY _ _ _ _ _ _ _ (["_law_k", "_law_one", "_law_counts_here", "_law_n"]) (["_law_k", "_law_one"]) ([1, 2]) _ _ _ _ (@a9 _ _ _ _ _ _ rfl (by kernel_rfl)) rfl (@qU _ _ rfl _ _ _ _ _ _ _ rfl Te qW (@aa _ _ _ _ _ (pv 0) af (by rfl)) (by rfl)) (fun _ _ _ _ => @j9 _ (K) _ _ _ (2) _ rfl rfl (@cv _ _ _ _ _ (@ar _ _ (0) _ (show (["_law_k", "_law_one", "_law_counts_here", "_law_n"] : List Str).Nodup from by decide +kernel) rfl (Or.inl rfl) (by first | exact .inl rfl | exact .inr rfl | assumption)) (@cv _ _ _ _ _ (@ar _ _ (1) _ (show (["_law_k", "_law_one", "_law_counts_here", "_law_n"] : List Str).Nodup from by decide +kernel) rfl (Or.inl rfl) (by first | exact .inl rfl | exact .inr rfl | assumption)) gK (by rfl)) (by rfl)) (by rfl) (by rfl)) (fun _ _ _ _ => aL) (fun _ _ _ _ => by (exact @aA _ _ _ _ _ _ _ _ kT (by (exact (pv 1))) (by (exact (@eF _ _ _ _ _ _ _ (@eU _ (K) rfl) (pv 2) (@aA _ _ _ _ _ _ _ _ bJ (pv 3) (pv 0)) (fun _ _ => rfl)))))) (by intro _ ;rfl)) af (by rfl)) (by decide) (by decide) (by rfl) (by rfl)) (bY _)) (@ak _ _ _ (@aJ _ _ _ _ gE)) bF)) (by intro _ ;rfl)) (@ak _ _ _ (@aJ _ _ _ _ gE))), ?_⟩
    refine ⟨_, rfl, l, _, rfl, .inl (SqL.of hl), _, rfl, t, _, rfl, .inr (SqT.of ht), _, _, rfl, rfl, (Z : Int) - (n : Int), by rw [av, av], by omega, by omega, ?_⟩
    refine bt (n := ((Z : Int) - (n : Int)).toNat) (fun i σ H' => ∃ b2 : Option L2.V, σ = [some (.ref t), some (.ref l), b2] ∧ aw H H') ⟨none, rfl, aw.refl _⟩ ?_ (fun σ H' ⟨_, e, s⟩ => by rw [e];exact k H' s)
    rintro i σ H1 hi ⟨b2, rfl, s1⟩
    rw [xC]
    have hi2 : i+n < Z := by omega
    have ht1 := s1 _ _ ht
    have hl1 := s1 _ _ hl
    have ai : ∀ m, i+m < Z → atI (a6 Z x) ((i : Int)+(m : Int))=some (.int (x (i+m))) := fun m hm => by
      rw [show (i : Int)+(m : Int)=((i+m : Nat) : Int) by omega]
      exact dn (a7 hm)
    refine ⟨_, rfl, _, rfl, _, rfl, t, _, rfl, .inr (SqT.of ht1), _, _, rfl, rfl, l, _, _, _, rfl, rfl, SqL.of hl1, by rw [av];exact ai n hi2, ?_⟩
    refine ⟨_, rfl, t, rfl, ⟨_, SqT.of ht1⟩, ?_⟩
    refine bI (own := ["_law_k", "_law_one"]) (cap := [1, 2]) (J := L2.so K t) n (fun j ys σ H' => ∃ v1 v2 : Option L2.V, σ = [v1, v2, some (.ref l), some (.int (i : Int))] ∧ ys=a6 j (fun k => c k*x (i+k)) ∧ aw H1 H') ⟨none, none, rfl, rfl, aw.refl _⟩ (fun j ys σ H' hj ⟨_, _, _, e, _⟩ => by rw [e, av];omega) (by omega) (fun j ys σ H' hj ⟨_, _, _, _, e⟩ => ⟨_, _, SqT.of (e _ _ ht1), a7 hj⟩) (fun ys σ H' ⟨_, _, _, _, e⟩ => ⟨_, SqT.of (e _ _ ht1), by rw [av];exact vd _⟩) ?_ ?_
    · rintro j ys σ H5 z H6 N hj ⟨_, _, rfl, rfl, s5⟩ ⟨Y, x1, hY, rfl, hx1, rfl⟩ hN
      have ex1 := hx1 _ (SqT.of (s5 _ _ ht1))
      obtain ⟨_, rfl⟩ := cy ex1
      refine ⟨Y, _, rfl, SqT.of ab, rfl, _, _, rfl, _, _, rfl, rfl, ?_⟩
      have sY := aw.new (o := .tup [L2.V.int (j : Int), L2.V.int (c j)]) hY
      generalize upd H5 Y (.tup [L2.V.int (j : Int), L2.V.int (c j)])=H6 at sY ⊢
      refine ⟨_, rfl, _, rfl, _, rfl, _, rfl, _, _, rfl, rfl, l, _, _, _, rfl, rfl, SqL.of (sY _ _ (s5 _ _ hl1)), ai j (by omega), _, _, rfl, rfl, ⟨hc j hj, hx (i+j) (by omega)⟩, ?_⟩
      refine hN _ _ _ ⟨_, _, rfl, ?_, s5.trans sY⟩
      unfold a6
      rw [xl, vw]
      rfl
    rintro ys σ H5 y ⟨_, _, rfl, rfl, s5⟩ hy
    have s6 := (s1.trans s5).then (o := .lst (a6 n fun k => c k*x (i+k))) hy
    refine ⟨y, (List.range n).map (fun k => c k*x (i+k)), rfl, by rw [← iP];exact SqL.of ab, rfl, _, rfl, ?_⟩
    rw [dO, ← ob i hi2, wg rfl]
    exact mI ⟨_, rfl, s6⟩
structure OkT (H : Hp) (t : Addr) (m : Nat) (W : List (List L)) (n : Nat) (c : Nat → Int) : Prop where
  n1 : 1≤n
  n60 : n≤60
  at' : H t=some (.tup (a6 n c))
  bd : ∀ k, k < n → (c k).natAbs < big
  ob : ∀ N, (((avs (sgP m) (barP m W) (N+n)).length : Nat) : Int)=Dm.sR (fun k => c k*(((avs (sgP m) (barP m W) (N+k)).length : Nat) : Int)) n
theorem uA {Q : Bool → Hp → Prop}{H : Hp}{b : Bool}(h : Q (!b) H) : eB Q b H := h
theorem nq {K : PySem.W.Frag} : PySem.W.kitOne K (.type "tuple") (.type "tuple")=some true := by kernel_rfl
theorem nu {K : PySem.W.Frag} : PySem.W.kitOne K (.type "int") (.type "int")=some true := by unfold PySem.W.kitOne; rw [if_pos (by rfl)]
theorem nv {K : PySem.W.Frag} : PySem.W.kitOne K (.type "int") (.type "bool")=some false := by kernel_rfl
abbrev ib : Stmt := top 25
theorem ny : aC ["_law_many", "_law_words_here", "_law_kept", "_law_told", "_law_found", "_law_counts_here"] ["_law_many", "_law_words_here"] (ao ib) := ⟨rfl, rfl, rfl, by decide +kernel, rfl, by decide +kernel, by decide +kernel⟩
theorem pU (D : Df K mg "_law_right" ib)(T : Bt K w mg aB)(Tbool : mg "bool" = none)(F_rec : Fnc P w K mg base "recurrence" ["many", "words"] 4 pz)(F_counts : Fnc P w K mg base "_law_counts" ["_law_many", "_law_words_here", "_law_keep", "_law_most"] 2 fe)(F_obey : Fnc P w K mg base "_law_obeyed" ["_law_found", "_law_counts_here"] 1 fj) : Fnc P w K mg base "_law_right" ["_law_many", "_law_words_here"] 5 dS := by
  have sc := ny
  refine D.ok sc (fun _ _ _ _ _ _ us hl => by obtain ⟨_, _, rfl⟩ := lO hl;rfl) (fun vs H Q E h => ?_) (fun f cdv A outer s H vs Q E hr h => ?_)
  · obtain ⟨m, a, W, rfl, _⟩ := h
    rfl
  · obtain ⟨m, a, W, rfl, m1, m3, ha, ne, wl, ww, k⟩ := h
    have l16 := aV
    refine ⟨_, (@ag _ _ _ _ _ (@ax _ _ (2) _ _ _ _ sc.nd rfl (Or.inl rfl) (@bu _ _ _ _ _ _ _ _ _ cb (by rfl) T.list fX (@aa _ _ _ _ _ (pv 1) af (by rfl)) (by decide) (by decide) (by rfl) (by rfl)) (by rfl) (by first | exact .inl rfl | exact .inr rfl | assumption)) (@ag _ _ _ _ _ (@ax _ _ (3) _ _ _ _ sc.nd rfl (Or.inl rfl) (@bC _ _ _ _ (@aa _ _ _ _ _ (@aT _ _ _ _ _ _ _ _ _ _ _ F_rec hr (by decide) rfl (@aa _ _ _ _ _ (pv 0) (@aa _ _ _ _ _ (pv 1) af (by rfl)) (by rfl)) (by decide) (by rfl) (by rfl)) (@aa _ _ _ _ _ (@aT _ _ _ _ _ _ _ _ _ _ _ F_rec hr (by decide) rfl (@aa _ _ _ _ _ (pv 0) (@aa _ _ _ _ _ (pv 1) af (by rfl)) (by rfl)) (by decide) (by rfl) (by rfl)) af (by rfl)) (by rfl))) (by rfl) (by first | exact .inl rfl | exact .inr rfl | assumption)) (@ag _ _ _ _ _ (@bB _ _ _ _ _ _ _ _ vU rfl (@br _ _ _ _ (pv 3)) (@ar _ _ (4) _ sc.nd rfl (Or.inl rfl) (by first | exact .inl rfl | exact .inr rfl | assumption)) (@ag _ _ _ _ _ (@dW _ _ _ _ _ _ _ _ (@PW.pt _ _ _ (@oo _ _ _ _ _ _ _ (@ft _ _ _ _ (@eD _ _ _ (@au _ _ _ _ _ _ _ _ _ (@eT _ (K) rfl) (by rfl) T.isinstance ck (@aa _ _ _ _ _ (pv 4) (@aa _ _ _ _ _ (@gH _ _ (.ty "tuple") _ _ rfl T.tuple j5 rfl (by decide) (by decide)) af (by rfl)) (by rfl)) (by decide) (by decide) (by rfl) (by rfl)) (fun _ => rfl))) (@oo _ _ _ _ _ _ _ (@ft _ _ _ _ (@lZ _ _ _ _ _ _ _ _ _ _ _ _ qo qo aq (@au _ _ _ _ _ _ _ _ _ az (by rfl) T.len vV (@aa _ _ _ _ _ (pv 4) af (by rfl)) (by decide) (by decide) (by rfl) (by rfl)) aq (by with_unfolding_all rfl))) (@nD _ _ _ _ (@a_ _ _ _ _ _ _ _ _ (@ki _ (by exact hr.units)) (pv 1) (pv 2) (bY _)))))) (@ak _ _ _ (@aJ _ _ _ _ gE)) bF) (@ak _ _ _ (@dW _ _ _ _ _ _ _ _ (@a_ _ _ _ _ _ _ _ _ (@gh _ (by exact hr.units)) (@aY _ _ _ _ _ _ _ (["_law_one"]) (["_law_one"]) ([]) _ _ _ _ (@a9 _ _ _ _ _ _ rfl (by kernel_rfl)) rfl (@qg _ _ _ _ (pv 4)) (fun _ _ _ _ => @ar _ _ (0) _ (show (["_law_one"] : List Str).Nodup from by decide +kernel) rfl (Or.inl rfl) (by first | exact .inl rfl | exact .inr rfl | assumption)) (fun _ _ _ _ => (@eN _ _ _ (by exact (@PW.pt _ _ _ (@oo _ _ _ _ _ _ _ (@ft _ _ _ _ (@mD _ _ _ (@au _ _ _ _ _ _ _ _ _ (@eT _ (K) rfl) (by rfl) T.isinstance ck (@aa _ _ _ _ _ (pv 0) (@aa _ _ _ _ _ (@gH _ _ (.ty "int") _ _ rfl T.int qO rfl (by decide) (by decide)) af (by rfl)) (by rfl)) (by decide) (by decide) (by rfl) (by rfl)) (fun _ => rfl))) (@nD _ _ _ _ (@mD _ _ _ (@au _ _ _ _ _ _ _ _ _ (@eT _ (K) rfl) (by rfl) T.isinstance ck (@aa _ _ _ _ _ (pv 0) (@aa _ _ _ _ _ (@gH _ _ (.ty "bool") _ _ rfl Tbool qV rfl (by decide) (by decide)) af (by rfl)) (by rfl)) (by decide) (by decide) (by rfl) (by rfl)) (fun _ => rfl)))))))) (fun _ _ _ _ => by (exact (pv 0))) (by intro _ ;rfl)) (@bC _ _ _ _ af) (bY _)) (@ak _ _ _ (@aJ _ _ _ _ gE)) bF))) (by intro _ ;rfl)) (@ag _ _ _ _ _ (@ax _ _ (5) _ _ _ _ sc.nd rfl (Or.inr rfl) (@aT _ _ _ _ _ _ _ _ _ _ _ F_counts hr (by decide) rfl (@aa _ _ _ _ _ (pv 0) (@aa _ _ _ _ _ (pv 1) (@aa _ _ _ _ _ aq (@aa _ _ _ _ _ (@aA _ _ _ _ _ _ _ _ bJ aq (@au _ _ _ _ _ _ _ _ _ (eW (K := K) rfl rfl) (by rfl) T.max qP (@aa _ _ _ _ _ (@aY _ _ _ _ _ _ _ (["_law_found"]) (["_law_found"]) ([]) _ _ _ _ (@a9 _ _ _ _ _ _ rfl (by kernel_rfl)) rfl (@br _ _ _ _ (pv 3)) (fun _ _ _ _ => @ar _ _ (0) _ (show (["_law_found"] : List Str).Nodup from by decide +kernel) rfl (Or.inl rfl) (by first | exact .inl rfl | exact .inr rfl | assumption)) (fun _ _ _ _ => aL) (fun _ _ _ _ => by (exact (@au _ _ _ _ _ _ _ _ _ (@cO _ (K) rfl) (by rfl) T.len vV (@aa _ _ _ _ _ (pv 0) af (by rfl)) (by decide) (by decide) (by rfl) (by rfl)))) (by intro _ ;rfl)) af (by rfl)) (by decide) (by decide) (by rfl) (by rfl))) af (by rfl)) (by rfl)) (by rfl)) (by rfl)) (by decide) (by rfl) (by rfl)) (by rfl) (by first | exact .inl rfl | exact .inr rfl | assumption)) (@ak _ _ _ (@aJ _ _ _ _ (@jr _ _ _ _ _ _ _ _ (@i7 _ (K) rfl) gE (@aY _ _ _ _ _ _ _ (["_law_found", "_law_counts_here"]) (["_law_found"]) ([5]) _ _ _ _ (@a9 _ _ _ _ _ _ rfl (by kernel_rfl)) rfl (@br _ _ _ _ (pv 3)) (fun _ _ _ _ => @ar _ _ (0) _ (show (["_law_found", "_law_counts_here"] : List Str).Nodup from by decide +kernel) rfl (Or.inl rfl) (by first | exact .inl rfl | exact .inr rfl | assumption)) (fun _ _ _ _ => aL) (fun _ _ _ _ => by (exact (@aT _ _ _ _ _ _ _ _ _ _ _ F_obey hr (by decide) rfl (@aa _ _ _ _ _ (pv 0) (@aa _ _ _ _ _ (pv 1) af (by rfl)) (by rfl)) (by decide) (by rfl) (by rfl)))) (by intro _ ;rfl)) rfl))))))), ?_⟩
    refine ⟨_, rfl, a, _, rfl, .inl (SqL.of ha), fun b hb => ?_⟩
    have s1 := aw.new (o := .lst (W.map tx)) hb
    have f1 : (upd H b (.lst (W.map tx))) b=some (.lst (W.map tx)) := ab
    show bq _ _ _ _ (upd H b (.lst (W.map tx)))
    generalize upd H b (.lst (W.map tx))=H1 at s1 f1 ⊢
    refine ⟨_, rfl, _, rfl, m, a, W, rfl, m1, m3, s1 _ _ ha, ne, wl, ww, fun t1 H2 n1 c1 p1 q1 h1 e1 d1 o1 s2 => ?_⟩
    refine ⟨_, rfl, _, rfl, m, a, W, rfl, m1, m3, s2 _ _ (s1 _ _ ha), ne, wl, ww, fun t2 H3 n2 c2 p2 q2 h2 e2 d2 o2 s3 => ?_⟩
    refine ⟨(aN (n := 2) (by decide)), fun q hq => ?_⟩
    have hu := dY hr
    have ok : ∀ x∈[t1, t2], ∃ n c, OkT H3 x m W n c := fun x hx => by
      rcases vt.mp hx with rfl | hx
      · exact ⟨n1, c1, p1, q1, s3 _ _ e1, d1, o1⟩
      · rw [vf.mp hx]
        exact ⟨n2, c2, p2, q2, e2, d2, o2⟩
    have s4 := ((s1.trans s2).trans s3).then (o := .lst ([t1, t2].map L2.V.ref)) hq
    have f4 : (upd H3 q (.lst ([t1, t2].map L2.V.ref))) q=some (.lst ([t1, t2].map L2.V.ref)) := ab
    have ok4 : ∀ x∈[t1, t2], ∃ n c, OkT (upd H3 q (.lst ([t1, t2].map L2.V.ref))) x m W n c := fun x hx => by
      obtain ⟨n, c, o⟩ := ok x hx
      exact ⟨n, c, o.n1, o.n60, aw.new hq _ _ o.at', o.bd, o.ob⟩
    have fb4 := aw.new (o := .lst ([t1, t2].map L2.V.ref)) hq _ _ (s3 _ _ (s2 _ _ f1))
    show bq _ _ _ _ (upd H3 q (.lst ([t1, t2].map L2.V.ref)))
    generalize upd H3 q (.lst ([t1, t2].map L2.V.ref))=H4 at s4 f4 ok4 fb4 ⊢
    clear ok
    refine ⟨_, rfl, q, rfl, ⟨_, SqL.of f4⟩, ?_⟩
    refine iq (xs := [t1, t2].map L2.V.ref) (fun j σ H' => ∃ (b4 : Option L2.V), σ = [some (.int (m : Int)), some (.ref a), some (.ref b), some (.ref q), b4, none] ∧ aw H4 H') ⟨_, rfl, aw.refl _⟩ (fun j σ H' _ ⟨_, _, e⟩ => SqL.of (e _ _ f4)) ?_ ?_
    · rintro j x σ H5 hx ⟨b4, rfl, s5⟩
      obtain ⟨t, ht, rfl⟩ : ∃ t∈[t1, t2], x = .ref t := by
        rw [vo] at hx
        obtain ⟨t, ht, e⟩ := vL.mp hx
        exact ⟨t, vD ht, e.symm⟩
      obtain ⟨n, c, o⟩ := ok4 t ht
      have et := s5 _ _ o.at'
      have n1 := o.n1
      have n60 := o.n60
      refine ⟨_, rfl, _, _, _, _, rfl, .tup et, nq, _, rfl, tL ⟨_, rfl, t, _, rfl, .inr (SqT.of et), _, _, rfl, rfl, _, rfl, ?_⟩⟩
      rw [av, wg (by omega)]
      refine pX rfl ⟨_, _, rfl, rfl, _, rfl, ?_⟩
      rw [wg (by omega)]
      refine uA (b := true) (tL ?_)
      refine ⟨_, rfl, _, rfl, _, _, .lst (s5 _ _ (s4 _ _ ha)) (gQ W), .lst (s5 _ _ fb4) (gQ W), dJ W, dJ W, ?_, _, rfl, ?_⟩
      · have := (iC W).2.2.1
        show PyData.depthAll (dws W)+1≤10
        omega
      rw [SeqAt.eqv_refl _ (dJ W)]
      refine mI ?_
      refine ⟨_, rfl, t, rfl, ⟨_, SqT.of et⟩, ?_⟩
      refine mB (xs := a6 n c) (own := ["_law_one"]) (cap := []) (fun j ys σ H' => ∃ v : Option L2.V, σ = [v] ∧ ys=[] ∧ H'=H5) ⟨none, rfl, rfl, rfl⟩ (fun j ys σ H' hj ⟨_, _, e, _⟩ => by rw [e];exact vR _) (by rw [av];omega) (fun j ys σ H' ⟨_, _, _, e⟩ => by rw [e];exact SqT.of et) ?_ ?_
      · rintro j ys σ H6 x N hx ⟨_, rfl, rfl, rfl⟩ hN
        obtain ⟨_, rfl⟩ := cy hx
        refine ⟨_, rfl, _, _, _, _, rfl, .int _, nu, _, rfl, uA (b := true) (tL ⟨_, rfl, _, _, _, _, rfl, .int _, nv, _, rfl, oS rfl (hN _ _ _ ⟨_, rfl, rfl, rfl⟩)⟩)⟩
      rintro ys σ H6 l ⟨_, rfl, rfl, rfl⟩ hl
      have s7 := aw.new (o := .lst []) hl
      have f7 : (upd H6 l (.lst [])) l=some (.lst []) := ab
      generalize upd H6 l (.lst [])=H7 at s7 f7 ⊢
      refine ⟨vR _, fun z hz => ?_⟩
      have s8 := aw.new (o := .lst []) hz
      refine ⟨l, z, _, rfl, rfl, s8 _ _ f7, ab, _, rfl, ?_⟩
      exact mI ⟨_, rfl, s5.trans (s7.trans s8)⟩
    · rintro σ H5 ⟨b4, rfl, s5⟩
      have e40 : ∀ {Nn : Nat}, Nn≤101 → 12 ^ Nn < big := fun {Nn} h => by
        have h1 : (12 : Nat) ^ Nn≤12 ^ 101 := Nat.pow_le_pow_right (by decide) h
        have h2 : (12 : Nat) ^ 101≤(2 ^ 4) ^ 101 := Nat.pow_le_pow_left (by decide) 101
        rw [← Nat.pow_mul] at h2
        exact wm (vI h1 h2) (Nat.pow_lt_pow_right (by decide) (by decide))
      have m6 : m≤6 := by omega
      have okf : ∃ nn : Addr → Nat, ∀ x∈[t1, t2], ∃ c, OkT H5 x m W (nn x) c := by
        obtain ⟨n1, c1, o1⟩ := ok4 t1 vz
        obtain ⟨n2, c2, o2⟩ := ok4 t2 (vq _ vz)
        refine ⟨fun x => if x=t1 then n1 else n2, fun x hx => ?_⟩
        show ∃ c, OkT H5 x m W (if x=t1 then n1 else n2) c
        by_cases e : x=t1
        · rw [if_pos e, e]
          exact ⟨c1, o1.n1, o1.n60, s5 _ _ o1.at', o1.bd, o1.ob⟩
        · rw [if_neg e]
          rcases vt.mp hx with z | z
          · exact absurd z e
          · rw [vf.mp z]
            exact ⟨c2, o2.n1, o2.n60, s5 _ _ o2.at', o2.bd, o2.ob⟩
      obtain ⟨nn, okf⟩ := okf
      have f5 := s5 _ _ f4
      refine ⟨_, rfl, _, rfl, _, rfl, q, rfl, ⟨_, SqL.of f5⟩, ?_⟩
      refine aZ (xs := [t1, t2].map L2.V.ref) (own := ["_law_found"]) (cap := []) (fun j ys σ H' => ∃ v : Option L2.V, σ = [v] ∧ ys=(([t1, t2].take j).map fun t => ((nn t : Nat) : Int)).map L2.V.int ∧ H'=H5) ⟨none, rfl, rfl, rfl⟩ (fun j ys σ H' hj ⟨_, _, e, _⟩ => by rw [e, fu, fu, vC];omega) (aN (n := 2) (by decide)) (fun j ys σ H' ⟨_, _, _, e⟩ => by rw [e];exact SqL.of f5) ?_ ?_
      · rintro j ys σ H6 x N hx ⟨_, rfl, rfl, rfl⟩ hN
        rw [vo] at hx
        obtain ⟨t, ht, rfl⟩ := vL.mp hx
        obtain ⟨c, o⟩ := okf t (vD ht)
        refine ⟨_, rfl, t, _, rfl, .inr (SqT.of o.at'), ?_⟩
        rw [av]
        refine hN _ _ _ ⟨_, rfl, ?_, rfl⟩
        rw [vP, ht, vw, vw]
        rfl
      rintro ys σ H6 l ⟨_, rfl, ey, rfl⟩ hl
      obtain rfl : ys=(([t1, t2].take 2).map fun t => ((nn t : Nat) : Int)).map L2.V.int := ey
      have s7 := aw.new (o := .lst ((([t1, t2].take 2).map fun t => ((nn t : Nat) : Int)).map L2.V.int)) hl
      have f7 : (upd H6 l (.lst ((([t1, t2].take 2).map fun t => ((nn t : Nat) : Int)).map L2.V.int))) l=some (.lst ((([t1, t2].take 2).map fun t => ((nn t : Nat) : Int)).map L2.V.int)) := ab
      generalize upd H6 l (.lst ((([t1, t2].take 2).map fun t => ((nn t : Nat) : Int)).map L2.V.int))=H7 at s7 f7 ⊢
      refine ⟨l, _, rfl, SqL.of f7, by simp, fun M hM hMx => ?_⟩
      obtain ⟨t0, ht0, eM⟩ := vH.mp hM
      have all : ∀ t∈[t1, t2], nn t≤nn t0 := fun t ht => by
        have := hMx _ (xA (f := fun t => ((nn t : Nat) : Int)) (show t∈[t1, t2].take 2 from ht))
        omega
      subst eM
      obtain ⟨c0, o0⟩ := okf t0 ht0
      have b0 := o0.n60
      refine ⟨_, _, rfl, rfl, ?_⟩
      have up : upN (sgN m).length 2≤100000 := by
        have : m=1 ∨ m=2 ∨ m=3 := by omega
        rcases this with rfl | rfl | rfl <;> decide
      refine ⟨m, 2, 40+nn t0, a, W, by rw [show (40 : Int)+((nn t0 : Nat) : Int)=((40+nn t0 : Nat) : Int) by omega];rfl, m1, m6, by omega, by omega, s7 _ _ (s5 _ _ (s4 _ _ ha)), ne, by omega, ww, by omega, up, fun e H8 he f8 s8 => ?_⟩
      have ex : (gq m W (40+nn t0+1)).map L2.V.int=a6 (40+nn t0+1) fun N => (((avs (sgP m) (barP m W) N).length : Nat) : Int) := by
        rw [← mX m6, iP]
        rfl
      rw [ex] at f8
      have xb : ∀ k, k < 40+nn t0+1 → ((((avs (sgP m) (barP m W) k).length : Nat) : Int)).natAbs < big := fun k hk => by
        rw [Int.natAbs_natCast, (fc (iK m m6) (barP m W) k).length_eq]
        exact wm (kK m6 _ k) (e40 (by omega))
      have f58 := s8 _ _ (s7 _ _ f5)
      refine ⟨_, rfl, q, rfl, ⟨_, SqL.of f58⟩, ?_⟩
      refine aZ (xs := [t1, t2].map L2.V.ref) (own := ["_law_found"]) (cap := [5]) (fun j ys σ H' => ∃ v : Option L2.V, σ = [v, some (.ref e)] ∧ ys=List.replicate j (L2.V.bl true) ∧ aw H8 H') ⟨none, rfl, rfl, aw.refl _⟩ (fun j ys σ H' hj ⟨_, _, e, _⟩ => by rw [e, xg];omega) (aN (n := 2) (by decide)) (fun j ys σ H' ⟨_, _, _, e⟩ => SqL.of (e _ _ f58)) ?_ ?_
      · rintro j ys σ H9 x N hx ⟨_, rfl, rfl, s9⟩ hN
        rw [vo] at hx
        obtain ⟨t, ht, rfl⟩ := vL.mp hx
        have tm := vD ht
        obtain ⟨c, o⟩ := okf t tm
        have an := all t tm
        have nt := o.n60
        refine ⟨_, rfl, _, rfl, t, e, nn t, 40+nn t0+1, c, _, rfl, s9 _ _ (s8 _ _ (s7 _ _ o.at')), s9 _ _ f8, by omega, by omega, o.bd, xb, fun N _ => o.ob N, fun H10 s10 => ?_⟩
        refine hN _ _ _ ⟨_, rfl, ?_, s9.trans s10⟩
        rw [List.replicate_succ']
      rintro ys σ H9 y ⟨_, rfl, ey, s9⟩ hy
      obtain rfl : ys=[L2.V.bl true, L2.V.bl true] := ey
      refine ⟨y, _, rfl, .inl (SqL.of ab), rfl, rfl, ?_⟩
      exact k _ (((s4.trans s5).trans (s7.trans s8)).trans (s9.then hy))
end
end Kx
namespace Kx
open PySem PySem.Spec PyProof.Rows L2 Wd
inductive lK (K : PySem.W.Frag)(vs : List V)(H : Hp)(Q : VK)(u3_ : XK) : Prop
  | mk : ∀ (a : Addr) (ns : List Int), (vs=[.ref a]) → (SqL K H a (ns.map V.int)) → (ns.length≤63) → (∀ H', Q (.bl true) H') → lK K vs H Q u3_
section
variable {P : Program} {w : World} {K : PySem.W.Frag} {mg : Str → Option Value} {base : Heap} {aB : Addr}
theorem tV {Q : Bool → Hp → Prop}{H : Hp}{b : Bool}(h : Q (!b) H) : eB Q b H := h
theorem nA (u : List L) : L2.gS (toS u)=(u.map fun x => [x]).map tx := by
  unfold L2.gS
  rw [bz, wx, wx]
  rfl
theorem rZ : ("aAbBcC" : Str)=toS [0, 6, 1, 7, 2, 8] := by decide +kernel
abbrev gA : Stmt := top 26
theorem r9 : aC ["_law_script", "_law_feed_here", "_law_k", "_law_many"] ["_law_script"] (ao gA) := ⟨rfl, rfl, rfl, by decide +kernel, rfl, by decide +kernel, by decide +kernel⟩
theorem tW {f : Addr}{fd : FuncData}(D : Fun K "law" "law" gA f fd)(T : Bt K w mg aB)(F_feed : Fnc P w K mg base "_law_feed" ["_law_script"] 1 (j4 K))(F_draw : Fnc P w K mg base "_law_draw" ["_law_feed_here", "_law_many"] 1 fW)
    (F_words : Fnc P w K mg base "_law_words" ["_law_feed_here", "_law_many"] 3 dR) (F_right : Fnc P w K mg base "_law_right" ["_law_many", "_law_words_here"] 5 dS) : lM P w K mg base CX0 9 f fd ["_law_script"] (lK K) := by
  have sc := r9
  refine D.ok sc (fun vs H Q E h => ?_) (fun cdv A outer s H vs Q E hr h => ?_)
  · obtain ⟨a, ns, rfl, _⟩ := h
    rfl
  · obtain ⟨a, ns, rfl, hS, hlen, k⟩ := h
    have l16 := aV
    refine ⟨_, (@ag _ _ _ _ _ (@ax _ _ (1) _ _ _ _ sc.nd rfl (Or.inl rfl) (@aT _ _ _ _ _ _ _ _ _ _ _ F_feed hr (by decide) rfl (@aa _ _ _ _ _ (pv 0) af (by rfl)) (by decide) (by rfl) (by rfl)) (by rfl) (by first | exact .inl rfl | exact .inr rfl | assumption)) (@ag _ _ _ _ _ (@bB _ _ _ _ _ _ _ _ vU rfl (@a8 _ _ _ _ _ _ rfl T.range (@aa _ _ _ _ _ aq af (by rfl)) (by rfl)) (@ar _ _ (2) _ sc.nd rfl (Or.inl rfl) (by first | exact .inl rfl | exact .inr rfl | assumption)) (@ag _ _ _ _ _ (@ax _ _ (3) _ _ _ _ sc.nd rfl (Or.inl rfl) (@aA _ _ _ _ _ _ _ _ bJ aq (@aT _ _ _ _ _ _ _ _ _ _ _ F_draw hr (by decide) rfl (@aa _ _ _ _ _ (pv 1) (@aa _ _ _ _ _ aq af (by rfl)) (by rfl)) (by decide) (by rfl) (by rfl))) (by rfl) (by first | exact .inl rfl | exact .inr rfl | assumption)) (@ak _ _ _ (@dW _ _ _ _ _ _ _ _ (@ft _ _ _ _ (@eD _ _ _ (@aT _ _ _ _ _ _ _ _ _ _ _ F_right hr (by decide) rfl (@aa _ _ _ _ _ (pv 3) (@aa _ _ _ _ _ (@aT _ _ _ _ _ _ _ _ _ _ _ F_words hr (by decide) rfl (@aa _ _ _ _ _ (pv 1) (@aa _ _ _ _ _ (pv 3) af (by rfl)) (by rfl)) (by decide) (by rfl) (by rfl)) af (by rfl)) (by rfl)) (by decide) (by rfl) (by rfl)) (fun _ => rfl))) (@ak _ _ _ (@aJ _ _ _ _ gE)) bF))) (by intro _ ;rfl)) (@ag _ _ _ _ _ (@ax _ _ (3) _ _ _ _ sc.nd rfl (Or.inl rfl) (@aA _ _ _ _ _ _ _ _ bJ aq (@aT _ _ _ _ _ _ _ _ _ _ _ F_draw hr (by decide) rfl (@aa _ _ _ _ _ (pv 1) (@aa _ _ _ _ _ aq af (by rfl)) (by rfl)) (by decide) (by rfl) (by rfl))) (by rfl) (by first | exact .inl rfl | exact .inr rfl | assumption)) (@ak _ _ _ (@aJ _ _ _ _ (@qc _ _ _ _ _ _ _ (@aT _ _ _ _ _ _ _ _ _ _ _ F_right hr (by decide) rfl (@aa _ _ _ _ _ (pv 3) (@aa _ _ _ _ _ (@bC _ _ _ _ af) af (by rfl)) (by rfl)) (by decide) (by rfl) (by rfl)) (@p_ _ _ _ _ _ (@aT _ _ _ _ _ _ _ _ _ _ _ F_right hr (by decide) rfl (@aa _ _ _ _ _ (pv 3) (@aa _ _ _ _ _ (@bu _ _ _ _ _ _ _ _ _ (@dC _ rfl) (by rfl) T.list fX (@aa _ _ _ _ _ (@aF _ _ _ _ _ _ _ _ _ _ bh aD aO (@aP _ _ _ (@aA _ _ _ _ _ _ _ _ dj aq (pv 3)))) af (by rfl)) (by decide) (by decide) (by rfl) (by rfl)) af (by rfl)) (by rfl)) (by decide) (by rfl) (by rfl))))))))), ?_⟩
    refine ⟨_, rfl, a, ns, rfl, hS, hlen, fun d H1 _ F1 _ => ?_⟩
    refine ⟨3, rfl, by decide, by decide, ?_⟩
    refine bt (n := 3) (fun i σ H' => ∃ (b2 b3 : Option V), σ = [some (.ref a), some (.ref d), b2, b3] ∧ Fd H' d) ⟨none, none, rfl, F1⟩ ?_ ?_
    · rintro i σ H2 _ ⟨b2, b3, rfl, F2⟩
      refine ⟨_, rfl, d, _, rfl, F2, by decide, by decide, fun r1 H3 r10 r11 F3 _ => ⟨_, _, rfl, rfl, ?_⟩⟩
      obtain ⟨m, hm⟩ : ∃ m : Nat, 1+r1=(m : Int) := ⟨(1+r1).toNat, by omega⟩
      rw [hm]
      refine ⟨_, rfl, _, rfl, _, rfl, d, m, rfl, F3, by omega, by omega, fun wa W H4 hw fw wne wl ww F4 b4 => ?_⟩
      refine ⟨m, wa, W, rfl, by omega, by omega, fw, wne, wl, ww, fun H5 s5 => ⟨_, rfl, ?_⟩⟩
      exact tV (b := true) (mI ⟨_, _, rfl, F4.same s5⟩)
    · rintro σ H2 ⟨b2, b3, rfl, F2⟩
      refine ⟨_, rfl, d, _, rfl, F2, by decide, by decide, fun r1 H3 r10 r11 F3 _ => ⟨_, _, rfl, rfl, ?_⟩⟩
      obtain ⟨m, hm⟩ : ∃ m : Nat, 1+r1=(m : Int) := ⟨(1+r1).toNat, by omega⟩
      rw [hm]
      refine ⟨_, rfl, vR _, fun p hp => ?_⟩
      have fp : (upd H3 p (.lst [])) p=some (.lst (([] : List (List L)).map tx)) := ab
      refine ⟨m, p, [], rfl, by omega, by omega, fp, vA, vR _, (fun w hw => absurd hw vA), fun H4 s4 => ?_⟩
      refine ⟨true, rfl, pX rfl ?_⟩
      refine ⟨_, rfl, _, rfl, _, _, rfl, rfl, .inr ⟨by omega, by omega⟩, ?_⟩
      rw [rZ]
      refine ⟨_, rfl, toS [0, 6, 1, 7, 2, 8], rfl, (by rw [ah];show 6≤sizeLine;omega), ?_⟩
      rw [aU, eg _ (by omega)]
      have ul : (([0, 6, 1, 7, 2, 8] : List L).take ((2 : Int)*(m : Int)).toNat).length≤6 := by rw [vC];exact Nat.min_le_right _ _
      generalize (([0, 6, 1, 7, 2, 8] : List L).take ((2 : Int)*(m : Int)).toNat)=u at ul
      have lu := ah u
      refine ⟨_, rfl, by omega, fun p2 hp2 => ?_⟩
      rw [nA]
      refine ⟨m, p2, u.map fun x => [x], rfl, by omega, by omega, ab, fun hm => ?_, by rw [fu];exact ul, fun w hw => ?_, fun H5 s5 => k H5⟩
      · obtain ⟨x, _, e⟩ := vH.mp hm
        cases e
      · obtain ⟨x, _, e⟩ := vH.mp hw
        rw [← e]
        exact (by show 1≤3;decide)
end
end Kx
namespace Kx
open PySem PySem.Spec PyProof.Rows L2 Wd
theorem tX {K : PySem.W.Frag}{h : Heap}{mg : Str → Option Value}{x : Str}{st : Stmt}{f : Addr}{oc : Value}{od an : Option Addr}{osl : Array (Option Value)}{kV doc pm cdv ct : Value}(X : K.In h)(G : h.Ns mainGlobals mg)(a : PySem.W.nsIn K mainGlobals x=some (some (.ref f)))
    (l : K.lookup f=some ⟨oc, od, .func (PySem.W.fnOf x x (bH st) (ba st) (ao st) .none kV doc pm an cdv ct), osl⟩) (c : PySem.W.codeIn K cdv x=true) (k : PySem.W.keepIn K (.ref f)=true) : Df K mg x st := ⟨f, _, xY X G a, nT l c k⟩
inductive DI (K : PySem.W.Frag)(x : Str)(st : Stmt) : Prop
  | mk {f : Addr} {oc : Value} {od an : Option Addr} {osl : Array (Option Value)} {kV doc pm cdv ct : Value} (a : PySem.W.nsIn K mainGlobals x=some (some (.ref f))) (l : K.lookup f=some ⟨oc, od, .func (PySem.W.fnOf x x (bH st) (ba st) (ao st) .none kV doc pm an cdv ct), osl⟩) (c : PySem.W.codeIn K cdv x=true) (k : PySem.W.keepIn K (.ref f)=true) : DI K x st
theorem DI.df {K : PySem.W.Frag}{h : Heap}{mg : Str → Option Value}{x : Str}{st : Stmt}(d : DI K x st)(X : K.In h)(G : h.Ns mainGlobals mg) : Df K mg x st := by
  cases d with
  | mk a l c k => exact tX X G a l c k
inductive DL where
  | n
  | c (x : Str) (st : Stmt) (r : DL)
def DIs (K : PySem.W.Frag) : DL → Prop
  | .n => True
  | .c x st r => DI K x st ∧ DIs K r
theorem DIs.on {K : PySem.W.Frag}{x : Str}{st : Stmt}{r : DL}{f : Addr}{oc : Value}{od an : Option Addr}{osl : Array (Option Value)}{kV doc pm cdv ct : Value}(a : PySem.W.nsIn K mainGlobals x=some (some (.ref f)))(l : K.lookup f=some ⟨oc, od, .func (PySem.W.fnOf x x (bH st) (ba st) (ao st) .none kV doc pm an cdv ct), osl⟩)(c : PySem.W.codeIn K cdv x=true)(k : PySem.W.keepIn K (.ref f)=true)(hr : DIs K r) : DIs K (.c x st r) := ⟨.mk a l c k, hr⟩
theorem r_ {l : PySem.W.OpenLaw}{w : World}{K : PySem.W.Frag}{h : Heap}{mg : Str → Option Value}{fa : Addr}(X : K.In h)(G : h.Ns mainGlobals mg)(hfa : mg "law" = some (.ref fa))
    {f20 : Addr} {od20 an20 : Option Addr} {sl20 : Array (Option Value)} {oc20 kV20 dc20 pm20 cd20 ct20 : Value} {aB : Addr} {es : Array DictEntry} {en : Nat} {tS : Tok}     {t0 t1 t2 t3 t4 t5 t6 t7 t8 t9 t10 t11 : Tok}
    (hs : DIs K (.c "back" lr <| .c "followed" pH <| .c "beginnings" lz <| .c "states_behind" fk <| .c "longest_end" dU <| .c "recurrence" pP <| .c "steps_between" hX <| .c "counted" pJ <| .c "polynomial" lH <| .c "product" lG <| .c "row_times" lF <| .c "traced" h_ <| .c "_law_feed" lq <| .c "_law_draw" lj <| .c "_law_back" hV <| .c "_law_some" lE <| .c "_law_counts" fm <| .c "_law_words" ia <| .c "_law_obeyed" lJ <| .c "_law_right" ib <| .n))
    (a20 : PySem.W.nsIn K mainGlobals "law" = some (some (.ref f20)))
    (l20 : K.lookup f20=some ⟨oc20, od20, .func (PySem.W.fnOf "law" "law" (bH gA) (ba gA) (ao gA) .none kV20 dc20 pm20 an20 cd20 ct20), sl20⟩)
    (c20 : PySem.W.codeIn K cd20 "law" = true)
    (k20 : PySem.W.keepIn K (.ref f20)=true)
    (z_len : PySem.W.nsIn K mainGlobals "len" = some none)
    (z_repr : PySem.W.nsIn K mainGlobals "repr" = some none)
    (z_abs : PySem.W.nsIn K mainGlobals "abs" = some none)
    (z_max : PySem.W.nsIn K mainGlobals "max" = some none)
    (z_int : PySem.W.nsIn K mainGlobals "int" = some none)
    (z_list : PySem.W.nsIn K mainGlobals "list" = some none)
    (z_range : PySem.W.nsIn K mainGlobals "range" = some none)
    (z_reversed : PySem.W.nsIn K mainGlobals "reversed" = some none)
    (z_min : PySem.W.nsIn K mainGlobals "min" = some none)
    (z_sorted : PySem.W.nsIn K mainGlobals "sorted" = some none)
    (z_tuple : PySem.W.nsIn K mainGlobals "tuple" = some none)
    (z_isinstance : PySem.W.nsIn K mainGlobals "isinstance" = some none)
    (z_all : PySem.W.nsIn K mainGlobals "all" = some none)
    (z_str : PySem.W.nsIn K mainGlobals "str" = some none)
    (z_zip : PySem.W.nsIn K mainGlobals "zip" = some none)
    (aBk : PySem.W.nsIn K mainGlobals "BACKS" = some (some (.ref aB)))
    (lB : K.lookup aB=some ⟨.type "dict", none, .dict es en, #[]⟩)
    (kB : PySem.W.KeysLit w.params es.toList)
    (aS : PySem.W.nsIn K mainGlobals "SMALL" = some (some (.str "abcdef" tS)))
    (zU : PySem.W.nsIn K mainGlobals "sum" = some none)
    (zA : PySem.W.nsIn K mainGlobals "any" = some none)
    (zE : PySem.W.nsIn K mainGlobals "enumerate" = some none)
    (zBo : PySem.W.nsIn K mainGlobals "bool" = some none)
    (gl0 : PySem.W.nsIn K aB "a" = some (some (.str "A" t0)))
    (gl1 : PySem.W.nsIn K aB "b" = some (some (.str "B" t1)))
    (gl2 : PySem.W.nsIn K aB "c" = some (some (.str "C" t2)))
    (gl3 : PySem.W.nsIn K aB "d" = some (some (.str "D" t3)))
    (gl4 : PySem.W.nsIn K aB "e" = some (some (.str "E" t4)))
    (gl5 : PySem.W.nsIn K aB "f" = some (some (.str "F" t5)))
    (gl6 : PySem.W.nsIn K aB "A" = some (some (.str "a" t6)))
    (gl7 : PySem.W.nsIn K aB "B" = some (some (.str "b" t7)))
    (gl8 : PySem.W.nsIn K aB "C" = some (some (.str "c" t8)))
    (gl9 : PySem.W.nsIn K aB "D" = some (some (.str "d" t9)))
    (gl10 : PySem.W.nsIn K aB "E" = some (some (.str "e" t10)))
    (gl11 : PySem.W.nsIn K aB "F" = some (some (.str "f" t11))) :
    ∃ fd : FuncData, (∀ (s : Shared) (v : Value), BindsTo s fd ⟨[v], []⟩ [("_law_script", v)]) ∧ ∀ base : Heap, K.In base → base.Ns mainGlobals mg → lM l.prog w K mg base CX0 9 fa fd ["_law_script"] (lK K) := by
  have e := hfa.symm.trans (xY X G a20)
  cases e
  have gB : ∀ x : L, ∃ t, PySem.W.nsIn K aB (toS [x])=some (some (.str (toS [inv x]) t)) := by
    have q : ∀ (x : L) (u v : Str) (t : Tok), PySem.W.nsIn K aB u=some (some (.str v t)) → toS [x]=u → toS [inv x]=v → ∃ t, PySem.W.nsIn K aB (toS [x])=some (some (.str (toS [inv x]) t)) := fun x u v t g e1 e2 => ⟨t, by rw [e1, e2];exact g⟩
    intro x
    match x with
    | ⟨0, _⟩ => exact q 0 "a" "A" _ gl0 (by decide +kernel) (by decide +kernel)
    | ⟨1, _⟩ => exact q 1 "b" "B" _ gl1 (by decide +kernel) (by decide +kernel)
    | ⟨2, _⟩ => exact q 2 "c" "C" _ gl2 (by decide +kernel) (by decide +kernel)
    | ⟨3, _⟩ => exact q 3 "d" "D" _ gl3 (by decide +kernel) (by decide +kernel)
    | ⟨4, _⟩ => exact q 4 "e" "E" _ gl4 (by decide +kernel) (by decide +kernel)
    | ⟨5, _⟩ => exact q 5 "f" "F" _ gl5 (by decide +kernel) (by decide +kernel)
    | ⟨6, _⟩ => exact q 6 "A" "a" _ gl6 (by decide +kernel) (by decide +kernel)
    | ⟨7, _⟩ => exact q 7 "B" "b" _ gl7 (by decide +kernel) (by decide +kernel)
    | ⟨8, _⟩ => exact q 8 "C" "c" _ gl8 (by decide +kernel) (by decide +kernel)
    | ⟨9, _⟩ => exact q 9 "D" "d" _ gl9 (by decide +kernel) (by decide +kernel)
    | ⟨10, _⟩ => exact q 10 "E" "e" _ gl10 (by decide +kernel) (by decide +kernel)
    | ⟨11, _⟩ => exact q 11 "F" "f" _ gl11 (by decide +kernel) (by decide +kernel)
  have T : Bt K w mg aB := ⟨vF X G z_len, vF X G z_repr, vF X G z_abs, vF X G z_max, vF X G z_int, vF X G z_list, vF X G z_range, vF X G z_reversed, vF X G z_min, vF X G z_sorted, vF X G z_tuple, vF X G z_isinstance, vF X G z_all, vF X G z_str, vF X G z_zip, xY X G aBk, ⟨es, en, lB, kB⟩, gB⟩
  have S : ∃ t, mg "SMALL" = some (.str "abcdef" t) := ⟨_, xY X G aS⟩
  have Tsum : mg "sum" = none := vF X G zU
  have Tany : mg "any" = none := vF X G zA
  have Te : mg "enumerate" = none := vF X G zE
  have Tbool : mg "bool" = none := vF X G zBo
  refine ⟨PySem.W.fnOf "law" "law" (bH gA) (ba gA) (ao gA) .none kV20 dc20 pm20 an20 cd20 ct20, fun s v => .of_eq rfl, fun base _ _ => ?_⟩
  obtain ⟨h0, h1, h2, h3, h4, h5, h6, h7, h8, h9, h10, h11, h12, h13, h14, h15, h16, h17, h18, h19, _⟩ := hs
  have F_back := rN (P := l.prog) (w := w) (base := base) (h0.df X G) T
  have F_begs := rO (P := l.prog) (w := w) (base := base) (h2.df X G) T
  have F_longest := lA (P := l.prog) (w := w) (base := base) (h4.df X G) T
  have F_behind := m9 (P := l.prog) (w := w) (base := base) (h3.df X G) T S Tany F_back F_longest
  have F_fol := tR (P := l.prog) (w := w) (base := base) (h1.df X G) T S F_back F_begs F_behind
  have F_cnt := tT (P := l.prog) (w := w) (base := base) (h7.df X G) T
  have F_steps := pK (P := l.prog) (w := w) (base := base) (h6.df X G) T F_cnt
  have F_rowt := rT (P := l.prog) (w := w) (base := base) (h10.df X G) T
  have F_prod := rV (P := l.prog) (w := w) (base := base) (h9.df X G) T F_rowt
  have F_trace := pN (P := l.prog) (w := w) (base := base) (h11.df X G) T Tsum
  have F_poly := rW (P := l.prog) (w := w) (base := base) (h8.df X G) T F_prod F_trace
  have F_rec := tU (P := l.prog) (w := w) (base := base) (h5.df X G) T F_fol F_steps F_poly
  have F_feed := rM (P := l.prog) (w := w) (base := base) (h12.df X G) T
  have F_draw := rL (P := l.prog) (w := w) (base := base) (h13.df X G) T
  have F_lback := pF (P := l.prog) (w := w) (base := base) (h14.df X G) 
  have F_some := rQ (P := l.prog) (w := w) (base := base) (h15.df X G) T F_draw
  have F_counts := nh (P := l.prog) (w := w) (base := base) (h16.df X G) T Tsum F_lback
  have F_words := pR (P := l.prog) (w := w) (base := base) (h17.df X G) T F_draw F_some
  have F_obey := rY (P := l.prog) (w := w) (base := base) (h18.df X G) T Te Tsum
  have F_right := pU (P := l.prog) (w := w) (base := base) (h19.df X G) T Tbool F_rec F_counts F_obey
  exact tW (nT l20 c20 k20) T F_feed F_draw F_words F_right
theorem u7 {l : PySem.W.OpenLaw}{q : Program}{loose : List Str}{XP : (Str → Option Value) → Heap → Prop}{YP : World → Heap → Prop}{d : DefRec}{K : Params → PySem.W.Frag}(hn : l.most=some 63)(hdf : d.params.defaults=[])
    (hY : ∀ (w : World) (h : Heap), YP w h → (K w.params).In h)
    (F : ∀ (w : World) (mg : Str → Option Value) (fa : Addr) (h : Heap), (K w.params).In h → h.Ns mainGlobals mg → mg d.name=some (.ref fa) →
      ∃ fd : FuncData, (∀ (s : Shared) (u : Value), BindsTo s fd ⟨[u], []⟩ [("_law_script", u)]) ∧ ∀ base : Heap, (K w.params).In base → base.Ns mainGlobals mg → lM l.prog w (K w.params) mg base CX0 9 fa fd ["_law_script"] (lK (K w.params))) :
    PySem.W.WalkO q loose XP YP l.row.toRowW d [] (fun f vs => PySem.call f vs) :=
  L2.jP (n := 63) (k := 9) (x := "_law_script") (CX := fun _ => CX0) (sp := fun w => lK (K w.params)) hn (by decide) hdf ⟨rfl, by decide, by decide, rfl⟩ hY F (fun _ _ a ns hl _ hS => ⟨a, ns, rfl, hS, hl, fun _ => rfl⟩) fun _ _ _ _ _ z => z
end Kx
namespace Kx
open PySem
def sd (s : String) : Str := ⟨⟨PySem.W.R.mapR Char.toNat (PySem.W.S.toListS s)⟩⟩
theorem nB : Str.ofString=sd := by
  funext s
  rw [Str.ofString_eq_toList, PySem.W.S.toListS_eq]
  show _=(⟨⟨PySem.W.R.mapR Char.toNat (PySem.W.S.toListS s)⟩⟩ : Str)
  rw [← PySem.W.R.mapR_eq]
def apG (G : (String → Str) → Program)(x : String → Str) : Program := G x
def Gs : { G : (String → Str) → Program // apG G Str.ofString=PySem.Challenge.pw_ringwords_k75_recurrences } := by
  refine ⟨?G, ?h⟩
  case h =>
    delta PySem.Challenge.pw_ringwords_k75_recurrences
    generalize Str.ofString=x
    exact rfl
end Kx
def PySem.W.Fast.tw5613218957869774039 : PySem.Program := Kx.Gs.1 Kx.sd
theorem PySem.W.Fast.te5613218957869774039 : PySem.Challenge.pw_ringwords_k75_recurrences=PySem.W.Fast.tw5613218957869774039 := Kx.Gs.2.symm.trans (v5 (Kx.apG Kx.Gs.1) Kx.nB)
theorem PySem.W.Fast.te6779671870323844720 : True := trivial
theorem PySem.W.Fast.tw8621525243359761767 : True := trivial
theorem PySem.W.Fast.tw5389245403221590387 : True := trivial
theorem PySem.W.Fast.tw17597148262866770552 : True := trivial
theorem PySem.W.Fast.tw3628827033119443335 : True := trivial
theorem PySem.W.Fast.tw16177493822498797563 : True := trivial
theorem PySem.W.Fast.tw4782640789383053184 : True := trivial
theorem PySem.W.Fast.tw15913964013145137774 : True := trivial
theorem PySem.W.Fast.tw6186724139169091094 : True := trivial
theorem PySem.W.Fast.tw16654836183037843815 : True := trivial
theorem PySem.W.Fast.tw2971183657633121486 : True := trivial
theorem PySem.W.Fast.tw11379908182221357994 : True := trivial
theorem PySem.W.Fast.tw2422223755560814722 : True := trivial
theorem PySem.W.Fast.tw1156619958351780400 : True := trivial
theorem PySem.W.Fast.tw13582852136944311053 : True := trivial
theorem PySem.W.Fast.tw479823714232297991 : True := trivial
theorem PySem.W.Fast.tw1503477470129243692 : True := trivial
theorem PySem.W.Fast.tw17866643360057040064 : True := trivial
theorem PySem.W.Fast.tw12462849545102429309 : True := trivial
theorem PySem.W.Fast.tw11756896657100918949 : True := trivial
theorem PySem.W.Fast.tw10523246226091529896 : True := trivial
theorem PySem.W.Fast.tw9750211572440594648 : True := trivial
theorem PySem.W.Fast.tw17426024434331902765 : True := trivial
theorem PySem.W.Fast.tw96217974073577955 : True := trivial
theorem PySem.W.Fast.tw16420367893738826710 : True := trivial
theorem PySem.W.Fast.tw6071879674229491557 : True := trivial
theorem PySem.W.Fast.tw10391691358558017229 : True := trivial
theorem PySem.W.Fast.tw1217808806751240692 : True := trivial
theorem PySem.W.Fast.tw17623785510155914723 : True := trivial
theorem PySem.W.Fast.tw4858214320775694216 : True := trivial
theorem PySem.W.Fast.tw3061507882064046748 : True := trivial
theorem PySem.W.Fast.tw13924488358939362057 : True := trivial
theorem PySem.W.Fast.tw11869827021893751937 : True := trivial
theorem PySem.W.Fast.tw8386237006522595093 : True := trivial
theorem PySem.W.Fast.tw15983517874767346435 : True := trivial
theorem PySem.W.Fast.tw6498134443211786569 : True := trivial
theorem PySem.W.Fast.tw9892786876439582614 : True := trivial
theorem PySem.W.Fast.tw823206679698731009 : True := trivial
theorem PySem.W.Fast.tw17505553838576145005 : True := trivial
theorem PySem.W.Fast.tw16280922550644470572 : True := trivial
theorem PySem.W.Fast.tw5302352680047899160 : True := trivial
theorem PySem.W.Fast.tw3110194053070935764 : True := trivial
theorem PySem.W.Fast.tw9687978281844411730 : True := trivial
theorem PySem.W.Fast.tw6590368252031867303 : True := trivial
theorem PySem.W.Fast.tw5185639523007859616 : True := trivial
theorem PySem.W.Fast.tw17647286283404597623 : True := trivial
theorem PySem.W.Fast.tw5504542035198619251 : True := trivial
theorem PySem.W.Fast.tw744672615003741683 : True := trivial
theorem PySem.W.Fast.tw12752358547277362176 : True := trivial
theorem PySem.W.Fast.tw1051844230697314739 : True := trivial
theorem PySem.W.Fast.tw1443146395326062475 : True := trivial
theorem PySem.W.Fast.tw14580016174404392466 : True := trivial
theorem PySem.W.Fast.tw14917647073513949017 : True := trivial
theorem PySem.W.Fast.tw2901086330157860283 : True := trivial
theorem PySem.W.Fast.tw18042841531139817954 : True := trivial
theorem PySem.W.Fast.tw4943443659946078003 : True := trivial
theorem PySem.W.Fast.tw6853583993112502175 : True := trivial
theorem PySem.W.Fast.tw18306591202701682954 : True := trivial
theorem PySem.W.Fast.tw18374413499660280769 : True := trivial
open PySem PySem.W PyProof.Rows
set_option maxRecDepth 100000 in
set_option maxHeartbeats 0 in
theorem PySem.Challenge.cw_ringwords_k75_recurrences_holds : PySem.Challenge.rw_ringwords_k75_recurrences.Holds := by
  w_on; o_law; k_head; (case hw => w_witness2)
  k_fill
  refine Kx.u7 (l := PySem.Challenge.rw_ringwords_k75_recurrences) rfl rfl (fun w h Y => PySem.W.kIn_of Y) ?F
  case F =>
    intro w mg fa h KX G hmg
    refine' Kx.r_ KX G hmg ?hs ?a20 ?l20 ?c20 ?k20 ?z_len ?z_repr ?z_abs ?z_max ?z_int ?z_list ?z_range ?z_reversed ?z_min ?z_sorted ?z_tuple ?z_isinstance ?z_all ?z_str ?z_zip ?aBk ?lB ?kB ?aS ?zU ?zA ?zE ?zBo ?gl0 ?gl1 ?gl2 ?gl3 ?gl4 ?gl5 ?gl6 ?gl7 ?gl8 ?gl9 ?gl10 ?gl11
    (case hs => (iterate 20 (refine' Kx.DIs.on ?_ ?_ ?_ ?_ ?_; rotate_left 10; k_is; k_is; k_is; k_is)); exact trivial)
    (case a20 | l20 | c20 | k20 | z_len | z_repr | z_abs | z_max | z_int | z_list | z_range | z_reversed | z_min | z_sorted | z_tuple | z_isinstance | z_all | z_str | z_zip | aBk | lB => k_is)
    (case kB => exact ⟨⟨_, _, rfl, rfl⟩, ⟨_, _, rfl, rfl⟩, ⟨_, _, rfl, rfl⟩, ⟨_, _, rfl, rfl⟩, ⟨_, _, rfl, rfl⟩, ⟨_, _, rfl, rfl⟩, ⟨_, _, rfl, rfl⟩, ⟨_, _, rfl, rfl⟩, ⟨_, _, rfl, rfl⟩, ⟨_, _, rfl, rfl⟩, ⟨_, _, rfl, rfl⟩, ⟨_, _, rfl, rfl⟩, trivial⟩)
    (case aS | zU | zA | zE | zBo | gl0 | gl1 | gl2 | gl3 | gl4 | gl5 | gl6 | gl7 | gl8 | gl9 | gl10 | gl11 => k_is)
end
