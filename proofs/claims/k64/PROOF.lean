import PyProof.Rows.All
import Wide.All
import OpenK.AllK
import Wide.FinOn
import Lean
import PyProof.EqAt
import PyProof.EqKinds
import PyProof.TupleCall
import KE.KRevIter
import PyProof.ExcInit
import PyProof.InstStoreFacts
import PyProof.NsDelKeeps
import KE.KLam
import PyProof.FString5
import PyProof.NeData
import PyProof.TupleOfStr
import PyProof.IsRules
import PyProof.Rows.SortShellK
import PyProof.ListRange
import PyProof.FactsAll.tuple_3
import PyProof.Rows.StrStrike
import PySem.Challenge.RW_ringwords_k64_rows_of_slides
set_option Elab.async false
set_option linter.all false
set_option maxRecDepth 100000
set_option maxHeartbeats 0
noncomputable section
def fu:=@PySem.wpAny_bind
def wU:=@PySem.Heap.get?_push_of_some
def wV:=@List.length_map
def wW:=@List.getElem?_eq_some_iff
def wX:=@Nat.le_refl
def wY:=@List.length_append
def wZ:=@PySem.Heap.lt_size
def w4:=@Option.some.inj
def w5:=@List.size_toArray
def w6:=@PySem.Heap.get?_push_size
def w9:=@Nat.lt_of_lt_of_le
def w_:=@List.length_take
def xb:=@PySem.wpAny_pure
def xf:=@List.getElem?_eq_getElem
def xg:=@Bool.false_ne_true
def xh:=@Int.toNat_natCast
def xi:=@decide_eq_false
def xj:=@List.mem_of_getElem?
def xk:=@List.getD_eq_getElem?_getD
def xl:=@List.mem_append_right
def xm:=@List.mem_cons_of_mem
def xn:=@List.mem_cons
def xo:=@PySem.boot_len
def xq:=@List.getElem?_map
def xr:=@PySem.F.plainAttrs_str
def xt:=@decide_eq_true
def xu:=@List.length_cons
def xv:=@List.mem_cons_self
def xw:=@PySem.W.mg_none_of
def xx:=@Nat.ne_of_lt
def xy:=@List.map_append
def xA:=@Array.getElem?_eq_some_iff
def xB:=@List.mem_singleton
def xD:=@PySem.Heap.get?_update_other
def xE:=@List.take_of_length_le
def xF:=@List.not_mem_nil
def xG:=@Nat.le_trans
def xH:=@congrArg
def xI:=@List.getElem?_append_right
def xJ:=@PySem.wpAny_field
def xK:=@Nat.lt_irrefl
def xM:=@List.map_cons
def xN:=@List.reverse_cons
def xO:=@PySem.Heap.get?_update_self
def xP:=@List.length_singleton
def xQ:=@Nat.zero_le
def xS:=@PySem.W.mg_of
def xU:=@List.length_pos_iff
def xV:=@PySem.F.plainAttrs_list
def xW:=@List.mem_append_left
def xX:=@PySem.Obj.data_mapFields
def xY:=@PySem.wpAny_mono
def xZ:=@PyProof.Rows.callWith_type1
def x3:=@PySem.mem_of_lookup
def x4:=@List.map_map
def x5:=@PySem.PassesOwn.never
def x6:=@PySem.wpAny_callSpecial?_slot
def x8:=@Int.eq_ofNat_of_zero_le
def x9:=@PySem.wpAny_loadPart_at
def x_:=@List.append_nil
def ya:=@List.getElem?_append_left
def yb:=@List.length_drop
def yc:=@PySem.Obj.isFreed_of_fields
def yd:=@PySem.wpAny_holding
def ye:=@PySem.Calls.spliced_cons
def yf:=@List.nodup_cons
def yg:=@List.getElem?_set_ne
def yh:=@List.lookup_cons
def yi:=@List.take_length
def yj:=@List.getElem?_set_self
def yk:=@List.length_reverse
def yl:=@PySem.wpAny_call_entry
def ym:=@PySem.wpAny_setField
def yn:=@PySem.wpAny_truthy_bool
def yo:=@Array.length_toList
def yp:=@Int.emod_nonneg
def yq:=@PySem.F.slot_tuple_iterator_next
def yr:=@beq_self_eq_true
def yt:=@List.getElem_mem
def yu:=@PySem.wpAny_Call_Name_kw
def yw:=@PySem.wpAny_setField_rec
def yy:=@PySem.sizeLine_eq
def yz:=@PySem.Heap.size_push
def yA:=@Array.getElem?_eq_getElem
def yB:=@PySem.wpAny_seqItems
def yC:=@List.drop_eq_getElem_cons
def yD:=@PySem.wpAny_loadName_local
def yE:=@List.mem_append
def yF:=@List.flatten_cons
def yG:=@Array.getElem?_setIfInBounds_ne
def yH:=@PySem.F.slot_list_append
def yI:=@PySem.F.type_list_append
def yJ:=@List.replicate_succ
def yK:=@PySem.wpAny_getItem_str_slice
def yL:=@PySem.wpAny_attempt
def yM:=@or_false
def yN:=@PySem.wpAny_isSubtype_exc
def yO:=@Bool.and_eq_true
def yP:=@PySem.F.slot_str_lower
def yQ:=@PySem.F.type_str_lower
def yR:=@PySem.wpAny_pyIter_tuple
def yS:=@Bool.false_eq_true
def yT:=@Int.emod_lt_of_pos
def yU:=@List.find?_cons
def yV:=@List.length_nil
def yW:=@PySem.builtinLookup_eq_fast
def yX:=@List.mem_map
def yY:=@List.getElem?_eq_none
def yZ:=@PySem.F.slot_str_join
def y0:=@PySem.F.type_str_join
def y1:=@PySem.Calls.spliced_nil
def y2:=@PySem.wpAny_pyIter_enum
def y3:=@PySem.W.looks_findIn
def y4:=@Nat.mul_le_mul_right
def y6:=@Nat.pow_le_pow_right
def y7:=@PySem.wpAny_execs_cons
def y8:=@List.flatMap_append
def y9:=@Nat.ne_of_gt
def y_:=@PySem.codeAny_mono
def za:=@Option.isSome_iff_exists
def zb:=@List.getElem?_take_of_lt
def zc:=@PySem.F.args_tuple_add_2
def zd:=@PySem.wpAny_execs_nil
def ze:=@PySem.wpAny_passesOwn
def zf:=@Bool.eq_iff_iff
def zg:=@PySem.F.entry_tuple_add
def zh:=@List.eraseIdx_cons_succ
def zi:=@List.contains_cons
def zj:=@PySem.W.cellsFrom_some
def zl:=@PySem.F.slot_tuple_add
def zm:=@PyProof.Rows.subscriptTail_builtinR
def zo:=@PySem.Calls.callWith_builtin
def zp:=@PySem.wpAny_Name
def zq:=@PySem.wpAny_Assign_Name
def zr:=@PySem.wpAny_call
def zt:=@PySem.typeIs_str
def zu:=@if_true
def zw:=@PySem.call_meets
def zy:=@List.eraseIdxIfInBounds_toArray
def zA:=@PySem.Obj.cls_mapFields
def zB:=@List.take_add_one
def zC:=@PySem.wpAny_newObj_type
def zD:=@List.flatMap_cons
def zF:=@List.drop_zero
def zG:=@PyProof.Rows.callWith_builtin1
def zH:=@PySem.Txt.slice_le
def zI:=@List.all_eq_true
def zJ:=@List.eq_nil_of_length_eq_zero
def zK:=@Nat.min_eq_right
def zL:=@PySem.wpAny_updateSeq_pair
def zM:=@PySem.codeAny_call_builtin
def zN:=@PySem.wpAny_standAt
def zO:=@List.any_cons
def zP:=@List.map_take
def zQ:=@PySem.F.args_tuple_iterator_next_1
def zR:=@PySem.wpAny_onRaise
def zS:=@beq_eq_false_iff_ne
def zT:=@List.filterMap_cons
def zU:=@PySem.wpAny_loadName_cell
def zW:=@List.of_mem_zip
def zX:=@Option.map_some
def zY:=@PySem.wpAny_specialOf
def zZ:=@PySem.post_val_or_str
def z0:=@PySem.typeLookup_type
def z3:=@PySem.wpAny_of_eq
def z9:=@PySem.Heap.SameBut.update
def z_:=@List.map_congr_left
def Aa:=@Nat.min_eq_left
def Ab:=@PySem.F.entry_tuple_iterator_next
def Ac:=@PySem.F.slot_zip_next
def Ad:=@PySem.Calls.Name_function_global
def Ae:=@PySem.wpAny_newFunctionEnv_cells
def Af:=@PySem.F.excBase_ValueError
def Ag:=@PySem.W.callWith_K
def Ah:=@Nat.le_of_eq
def Ai:=@PySem.isSubtype_type
def Aj:=@Nat.mul_le_mul
def Ak:=@PyProof.Rows.Subscript_
def Al:=@List.append_assoc
def Am:=@PySem.PyData.shown_fits
def An:=@PySem.F.store_ValueError
def Ao:=@decide_eq_true_eq
def Ap:=@PySem.F.slot_list_insert
def Aq:=@Int.emod_eq_of_lt
def Ar:=@PySem.Paired.length
def As:=@if_false
def Au:=@List.filter_cons_of_neg
def Av:=@PySem.noFill_tuple_add
def Aw:=@PySem.wpAny_isInstance
def Ax:=@List.drop_length
def Ay:=@Nat.succ_ne_self
def Az:=@Nat.mod_eq_of_lt
def AA:=@List.perm_middle
def AB:=@PySem.F.slot_str_index
def AC:=@PySem.F.type_str_index
def AD:=@List.mem_filter
def AE:=@Nat.le_of_lt
def AF:=@Nat.succ_mul
def AG:=@List.nil_append
def AH:=@List.map_nil
def AI:=@List.forIn_cons
def AJ:=@Bool.or_true
def AK:=@List.map_set
def AL:=@beq_iff_eq
def AM:=@Bool.and_false
def AN:=@PySem.isSubtype_stop
def AO:=@PySem.seqIndex_of
def AQ:=@PySem.wpAny_letGo
def AR:=@Bool.or_false
def AS:=@List.map_drop
def AU:=@Bool.and_true
def AV:=@List.cons.inj
def AW:=@PySem.wpAny_rule
def AX:=@Nat.sub_zero
def AY:=@Nat.sub_self
def AZ:=@Nat.add_zero
namespace L2
open PySem PySem.Spec PyProof.Rows
abbrev Key := Sum Int Str
def jA : Key → Value → Bool
  | .inl k, v => Value.isInt k v
  | .inr x, v => Value.isStrOf x v
def vV (w : World) : Key → Int
  | .inl k => hashInt k
  | .inr x => hashStr w x
theorem aW : ∀ {k : Key} {v : Value}, jA k v=true → (∃ i t, k=Sum.inl i ∧ v=Value.int i t) ∨ (∃ x t, k=Sum.inr x ∧ v=Value.str x t)
  | .inl i, v, h => by
    obtain ⟨t, e⟩ := Value.isInt_shape (k := i) (v := v) h
    exact .inl ⟨i, t, rfl, e⟩
  | .inr x, v, h => by
    obtain ⟨t, e⟩ := Value.isStrOf_shape (x := x) (v := v) h
    exact .inr ⟨x, t, rfl, e⟩
theorem j4 (i : Int)(t : Tok) : jA (.inl i) (.int i t)=true := by simp [jA, Value.isInt]
theorem j5 (x : Str)(t : Tok) : jA (.inr x) (.str x t)=true := by simp [jA, Value.isStrOf]
theorem rJ (a b : Int) : decide ((Sum.inl a : Key)=Sum.inl b)=(a == b) := by
  by_cases e : a=b
  · subst e;simp
  · have h : ¬ (Sum.inl a : Key)=Sum.inl b := fun q => e (Sum.inl.inj q)
    rw [xi h]
    exact (zS.mpr e).symm
theorem rK (a b : Str) : decide ((Sum.inr a : Key)=Sum.inr b)=decide (a=b) := by
  by_cases e : a=b
  · subst e;simp
  · have h : ¬ (Sum.inr a : Key)=Sum.inr b := fun q => e (Sum.inr.inj q)
    rw [xi h, xi e]
theorem rL (a : Int)(b : Str) : decide ((Sum.inl a : Key)=Sum.inr b)=false := xi (fun q => nomatch q)
theorem rM (a : Str)(b : Int) : decide ((Sum.inr a : Key)=Sum.inl b)=false := xi (fun q => nomatch q)
def a_ (prog : Program)(w : World) : PySem.KeyKind prog w Key where
  is := jA
  hash := vV w
  inj := fun v a b ha hb => by
    rcases aW ha with ⟨i, t, rfl, rfl⟩ | ⟨x, t, rfl, rfl⟩
    · rcases aW hb with ⟨j, u, rfl, e⟩ | ⟨y, u, rfl, e⟩
      · injection e with e1 _;rw [e1]
      · exact nomatch e
    · rcases aW hb with ⟨j, u, rfl, e⟩ | ⟨y, u, rfl, e⟩
      · exact nomatch e
      · injection e with e1 _;rw [e1]
  byValue := fun k v h => by
    rcases aW h with ⟨i, t, rfl, rfl⟩ | ⟨x, t, rfl, rfl⟩ <;> rfl
  pyHash := fun hv h => by
    rcases aW hv with ⟨i, t, rfl, rfl⟩ | ⟨x, t, rfl, rfl⟩
    · exact wpAny_pyHash_int h
    · exact wpAny_pyHash_str h
  eqBool := fun hu hv h => by
    rcases aW hu with ⟨i, t, rfl, rfl⟩ | ⟨x, t, rfl, rfl⟩
    · rcases aW hv with ⟨j, u, rfl, rfl⟩ | ⟨y, u, rfl, rfl⟩
      · rw [rJ] at h;exact wpAny_eqBool_int h
      · rw [rL] at h;exact SeqAt.EqAt.int_str i t y u _ _ _ _ h
    · rcases aW hv with ⟨j, u, rfl, rfl⟩ | ⟨y, u, rfl, rfl⟩
      · rw [rM] at h;exact SeqAt.EqAt.str_int x t j u _ _ _ _ h
      · rw [rK] at h;exact wpAny_eqBool_str h
  «strs» := fun k x t v h => by
    rcases aW h with ⟨i, u, rfl, e⟩ | ⟨y, u, rfl, e⟩
    · exact nomatch e
    · injection e with e1 _
      subst e1
      cases v <;> rfl
theorem ib (prog : Program)(w : World)(i : Int)(t : Tok) : (a_ prog w).is (.inl i) (.int i t)=true := j4 i t
theorem ie (prog : Program)(w : World)(x : Str)(t : Tok) : (a_ prog w).is (.inr x) (.str x t)=true := j5 x t
inductive V where
  | non | bl (b : Bool) | int (i : Int) | str (x : Str) | byt (b : Array UInt8) | flt (b : UInt64) | ref (a : Addr) | ty (n : String)
  deriving DecidableEq
def a7 : V → Value → Prop
  | .non, u => u=Value.none
  | .bl b, u => u=Value.bool b
  | .int i, u => ∃ t, u=Value.int i t
  | .str x, u => ∃ t, u=Value.str x t
  | .byt b, u => ∃ t, u=Value.bytes b t
  | .flt b, u => ∃ t, u=Value.float b t
  | .ref a, u => u=Value.ref a
  | .ty n, u => u=Value.type n
abbrev aR : List V → List Value → Prop := Paired a7
theorem aR.length {xs : List V}{us : List Value}(r : aR xs us) : xs.length=us.length := Ar r
theorem aR.get : ∀ {xs : List V} {us : List Value} {i : Nat} {x : V}, aR xs us → xs[i]? = some x → ∃ u, us[i]? = some u ∧ a7 x u
  | _, _, _, _, .nil, e => by simp at e
  | _, _, 0, _, .cons r _, e => by simp at e;subst e;exact ⟨_, rfl, r⟩
  | _, _, i+1, x, .cons _ t, e => by
    obtain ⟨u, h1, h2⟩ := aR.get (i := i) (x := x) t (by simpa using e)
    exact ⟨u, by simpa using h1, h2⟩
theorem aR.set {x : V}{u : Value}(r : a7 x u) : ∀ {xs : List V} {us : List Value} (i : Nat), aR xs us → aR (xs.set i x) (us.set i u)
  | _, _, _, .nil => .nil
  | _, _, 0, .cons _ t => .cons r t
  | _, _, i+1, .cons q t => .cons q (aR.set r i t)
theorem aR.append : ∀ {xs ys : List V} {us ws : List Value}, aR xs us → aR ys ws → aR (xs++ys) (us++ws)
  | _, _, _, _, .nil, s => s
  | _, _, _, _, .cons r t, s => .cons r (aR.append t s)
theorem aR.take : ∀ {xs : List V} {us : List Value} (n : Nat), aR xs us → aR (xs.take n) (us.take n)
  | _, _, 0, _ => .nil
  | _, _, _+1, .nil => .nil
  | _, _, n+1, .cons r t => .cons r (aR.take n t)
theorem aR.drop : ∀ {xs : List V} {us : List Value} (n : Nat), aR xs us → aR (xs.drop n) (us.drop n)
  | _, _, 0, r => r
  | _, _, _+1, .nil => .nil
  | _, _, n+1, .cons _ t => aR.drop n t
def i5 : Option V → Option Value → Prop
  | some v, some u => a7 v u
  | none, none => True
  | _, _ => False
def KV {κ : Type} : List (κ × V) → List (κ × Value) → Prop := Paired fun (p : κ × V) (q : κ × Value) => p.1=q.1 ∧ a7 p.2 q.2
def kV : Key → V
  | .inl i => .int i
  | .inr x => .str x
inductive HO where
  | lst (xs : List V)
  | tup (xs : List V)
  | dK (kvs : List (Key × V)) | dT (kvs : List (List Key × V))
  | set (S : Int → Bool) (n : Nat)
  | ins (C dx : Addr) (fs : List (Str × V))
  | own (x : Addr)
  | xd (fs : List (Str × V))
  | met (f x : Addr)
  | rng (lo hi : Int)
  | frz (o : Obj) (u : HO)
  | tbl (ps : Array Value)
  | ext (φ : Heap → Prop)
abbrev Hp := Addr → Option HO
def upd (H : Hp)(a : Addr)(o : HO) : Hp := fun b => if b=a then some o else H b
theorem ag {H : Hp}{a : Addr}{o : HO} : upd H a o a=some o := by unfold upd; rw [if_pos rfl]
theorem ao {H : Hp}{a b : Addr}{o : HO}(h : b≠a) : upd H a o b=H b := by unfold upd; rw [if_neg h]
theorem dZ {H : Hp}{a : Addr}{o u : HO} : upd (upd H a o) a u=upd H a u := by
  funext b;unfold upd;split <;> rfl
theorem dI {H : Hp}{a b : Addr}{o u : HO}(h : H a=some o)(h' : H b=some u)(d : o≠u) : a≠b := by
  intro e;subst e;rw [h] at h';exact d (w4 h')
theorem aq {H : Hp}{a b : Addr}{o : HO}(h : H a=some o)(h' : H b=none) : a≠b := by
  intro e;subst e;rw [h] at h';cases h'
section
variable (P : Program) (w : World)
def NoD (h : Heap)(a : Addr) : Prop := ∃ o, h.get? a=some o ∧ o.dict=none
theorem NoD.new (h : Heap)(o : Obj)(e : o.dict=none)(hf : o.isFreed=false := by rfl) : NoD (h.push o) h.objs.size := ⟨o, w6 _ hf, e⟩
def bu (H : Hp)(h : Heap)(a : Addr) : HO → Prop
  | .lst xs => xs.length≤sizeLine ∧ ∃ (its : List Value) (n : Nat), aR xs its ∧ h.get? a=some { cls := .type "list", data := .seq its.toArray n }
  | .tup xs => xs.length≤sizeLine ∧ ∃ its : List Value, aR xs its ∧ IsTup h a its.toArray ∧ NoD h a
  | .dK kvs => kvs.length≤sizeLine ∧ (a == sysModules)=false ∧ ∃ vs, KV kvs vs ∧ h.DictOf (a_ P w) a vs
  | .dT kvs => kvs.length≤sizeLine ∧ (a == sysModules)=false ∧ ∃ xs : List (List Key × Addr × Value),
      Paired (fun (p : List Key × V) (q : List Key × Addr × Value) => p.1=q.1 ∧ H q.2.1=some (.tup (p.1.map kV)) ∧ a7 p.2 q.2.2) kvs xs ∧
      ∃ o es ep, h.get? a=some o ∧ o.ExactDict ∧ o.data = .dict es ep ∧ es.toList=xs.map (entryOfKey (tupleKind (a_ P w))) ∧ (xs.map (·.1)).Nodup
  | .set S n => h.SetOf (intKind P w) a S n
  | .ins C dx fs => H dx=some (.own a) ∧ fs.length≤1000 ∧ dx≠a ∧ h.get? a=some (PySem.W.instObj C dx) ∧
      ∃ mA, h.Ns1 dx mA ∧ (∀ f, i5 (fs.lookup f) (mA f)) ∧ PySem.Within mA (fs.map (·.1))
  | .own _ => ∃ o, h.get? a=some o
  | .xd fs => ∃ mA, h.Ns1 a mA ∧ ∀ f, i5 (fs.lookup f) (mA f)
  | .rng lo hi => ∃ t u v, h.get? a=some { cls := .type "range", data := .fields #[.int lo t, .int hi u, .int 1 v] }
  | .frz o u => h.get? a=some o ∧ bu H h a u
  | .tbl ps => h.get? a=some { cls := .none, data := .fields ps }
  | .met f x => h.get? a=some (PySem.W.methodObj (.ref f) (.ref x))
  | .ext φ => φ h ∧ (∃ o, h.get? a=some o) ∧ ∀ h1 h2 : Heap, φ h1 → (∀ o, h1.get? a=some o → h2.get? a=some o) → φ h2
def HOk (H : Hp)(h : Heap) : Prop := ∀ a o, H a=some o → bu P w H h a o
end
section
variable {P : Program} {w : World} {H H' : Hp} {h h' : Heap} {a : Addr} {o : HO}
theorem bu.lt (x : bu P w H h a o) : a < h.objs.size := by
  cases o with
  | lst xs => obtain ⟨_, _, _, _, e⟩ := x;exact wZ e
  | tup xs => obtain ⟨_, _, _, p, _⟩ := x;exact p.lt
  | dK kvs => obtain ⟨_, _, _, _, o, _, _, e, _⟩ := x;exact wZ e
  | dT kvs => obtain ⟨_, _, _, _, o, _, _, e, _⟩ := x;exact wZ e
  | set S n => obtain ⟨o, _, _, _, e, _⟩ := x;exact wZ e
  | ins C dx fs => obtain ⟨_, _, _, e, _⟩ := x;exact wZ e
  | own y => obtain ⟨_, e⟩ := x;exact wZ e
  | xd fs => obtain ⟨_, ⟨_, _, _, e, _⟩, _⟩ := x;exact wZ e
  | rng lo hi => obtain ⟨_, _, _, e⟩ := x;exact wZ e
  | frz ob u => obtain ⟨e, _⟩ := x;exact wZ e
  | tbl ps => exact wZ (show h.get? a=some _ from x)
  | met f y => exact wZ (show h.get? a=some _ from x)
  | ext φ => obtain ⟨_, ⟨_, e⟩, _⟩ := x;exact wZ e
theorem Paired.mapP {α β : Type}{F G : α → β → Prop} : ∀ {l₁ : List α} {l₂ : List β}, Paired F l₁ l₂ → (∀ a b, F a b → G a b) → Paired G l₁ l₂
  | _, _, .nil, _ => .nil
  | _, _, .cons r t, f => .cons (f _ _ r) (Paired.mapP t f)
theorem bu.stay (x : bu P w H h a o)(k : ∀ b u, (b=a ∨ H b=some (.own a)) → h.get? b=some u → h'.get? b=some u)
    (ho : ∀ b, H b=some (.own a) → H' b=some (.own a)) (ht : ∀ b xs, H b=some (.tup xs) → H' b=some (.tup xs)) : bu P w H' h' a o := by
  induction o with
  | lst xs => obtain ⟨z, its, n, r, e⟩ := x;exact ⟨z, its, n, r, k _ _ (.inl rfl) e⟩
  | tup xs => obtain ⟨z, its, r, ⟨ob, e, c⟩, o2, e2, c2⟩ := x;exact ⟨z, its, r, ⟨ob, k _ _ (.inl rfl) e, c⟩, o2, k _ _ (.inl rfl) e2, c2⟩
  | dK kvs => obtain ⟨z, y, vs, r, ob, es, ep, e, c⟩ := x;exact ⟨z, y, vs, r, ob, es, ep, k _ _ (.inl rfl) e, c⟩
  | dT kvs =>
    obtain ⟨z, y, xs, r, ob, es, ep, e, c⟩ := x
    exact ⟨z, y, xs, Paired.mapP r fun p q z => ⟨z.1, ht _ _ z.2.1, z.2.2⟩, ob, es, ep, k _ _ (.inl rfl) e, c⟩
  | set S n => obtain ⟨ob, es, ep, t, e, c⟩ := x;exact ⟨ob, es, ep, t, k _ _ (.inl rfl) e, c⟩
  | ins C dx fs =>
    obtain ⟨d, z, ne, e, mA, ⟨od, es, ep, e2, c⟩, r⟩ := x
    exact ⟨ho _ d, z, ne, k _ _ (.inl rfl) e, mA, ⟨od, es, ep, k _ _ (.inr d) e2, c⟩, r⟩
  | own y => obtain ⟨ob, e⟩ := x;exact ⟨ob, k _ _ (.inl rfl) e⟩
  | xd fs => obtain ⟨mA, ⟨od, es, ep, e, c⟩, r⟩ := x;exact ⟨mA, ⟨od, es, ep, k _ _ (.inl rfl) e, c⟩, r⟩
  | rng lo hi => obtain ⟨t, u, v, e⟩ := x;exact ⟨t, u, v, k _ _ (.inl rfl) e⟩
  | frz ob u ih => obtain ⟨e, q⟩ := x;exact ⟨k _ _ (.inl rfl) e, ih q⟩
  | tbl ps =>
    have e : h.get? a=some { cls := .none, data := .fields ps } := x
    show h'.get? a=some { cls := .none, data := .fields ps }
    exact k a _ (.inl rfl) e
  | met f y =>
    have e : h.get? a=some (PySem.W.methodObj (.ref f) (.ref y)) := x
    show h'.get? a=some (PySem.W.methodObj (.ref f) (.ref y))
    exact k a _ (.inl rfl) e
  | ext φ => obtain ⟨p, ⟨o, e⟩, st⟩ := x;exact ⟨st _ _ p fun o q => k _ _ (.inl rfl) q, ⟨o, k _ _ (.inl rfl) e⟩, st⟩
theorem HOk.lt (x : HOk P w H h)(e : H a=some o) : a < h.objs.size := (x a o e).lt
theorem HOk.fresh (x : HOk P w H h)(e : h.objs.size≤a) : H a=none := by
  cases q : H a with
  | none => rfl
  | some u => exact absurd (w9 (x.lt q) e) (xK _)
theorem HOk.kept (x : HOk P w H h)(k : ∀ b u, h.get? b=some u → h'.get? b=some u) : HOk P w H h' := fun a o e =>
  (x a o e).stay (fun b u _ q => k b u q) (fun _ q => q) fun _ _ q => q
theorem HOk.laid (x : HOk P w H h)(k : ∀ b u, h.get? b=some u → h'.get? b=some u)(hp : h.objs.size≤a)(new : bu P w (upd H a o) h' a o) : HOk P w (upd H a o) h' := fun b u e => by
  have hn := x.fresh hp
  by_cases hb : b=a
  · subst hb;rw [ag] at e;cases e;exact new
  · rw [ao hb] at e
    exact (x b u e).stay (fun c v _ q => k c v q) (fun c q => by rw [ao (aq q hn)];exact q) fun c xs q => by rw [ao (aq q hn)];exact q
end
def Rd (H : Hp)(a : Addr)(u : HO) : Prop := H a=some u ∨ ∃ o, H a=some (.frz o u)
theorem Rd.ok {P : Program}{w : World}{H : Hp}{h : Heap}{a : Addr}{u : HO}(r : Rd H a u)(x : HOk P w H h) : bu P w H h a u := by
  rcases r with r | ⟨o, r⟩
  · exact x a u r
  · obtain ⟨_, q⟩ := x a _ r
    exact q
def Mut : Option HO → Prop
  | some (.lst _) => True
  | some (.dK _) => True
  | some (.dT _) => True
  | some (.set _ _) => True
  | some (.ins _ _ _) => True
  | some (.ext _) => True
  | _ => False
section
variable {P : Program} {w : World} {H : Hp} {h h' : Heap} {x e : Addr} {o' : HO}
theorem HOk.write (ok : HOk P w H h)(mu : Mut (H x))(he : e=x ∨ H e=some (.own x))(k : ∀ b u, b≠e → h.get? b=some u → h'.get? b=some u)(heo : ∃ u, h'.get? e=some u)
    (new : bu P w (upd H x o') h' x o') : HOk P w (upd H x o') h' := fun b u q => by
  have nown : ∀ c y, H c=some (.own y) → c≠x := fun c y r z => by subst z;rw [r] at mu;exact mu
  have ntup : ∀ c xs, H c=some (.tup xs) → c≠x := fun c xs r z => by subst z;rw [r] at mu;exact mu
  by_cases hb : b=x
  · subst hb;rw [ag] at q;cases q;exact new
  · rw [ao hb] at q
    by_cases hbe : b=e
    · have q' : H b=some (.own x) := by
        rcases he with z | z
        · exact absurd (hbe.trans z) hb
        · rw [hbe];exact z
      rw [q] at q';cases q'
      obtain ⟨v, hv⟩ := heo
      exact ⟨v, by rw [hbe];exact hv⟩
    · refine (ok b u q).stay (fun c v hc r => k c v ?_ r) (fun c r => by rw [ao (nown c b r)];exact r) fun c xs r => by rw [ao (ntup c xs r)];exact r
      rcases hc with rfl | hc
      · exact hbe
      · rintro rfl
        rcases he with z | z
        · exact nown c b hc z
        · rw [hc] at z;cases z;exact hb rfl
end
structure Un (fs ex : List Addr) (H H' : Hp) (h h' : Heap) : Prop where
  keep : ∀ b o, h.get? b=some o → H b=none → b∉fs → b∉ex → h'.get? b=some o
  slot : ∀ b o, h.get? b=some o → H b=none → b∈fs → b∉ex → ∃ sl, h'.get? b=some { o with slots := sl }
  free : ∀ b o, h.get? b=some o → H b=none → b∉ex → H' b=none
  there : ∀ b o, h.get? b=some o → b∉ex → ∃ o', h'.get? b=some o'
  tups : ∀ b xs, H b=some (.tup xs) → H' b=some (.tup xs)
  frzs : ∀ b o u, H b=some (.frz o u) → H' b=some (.frz o u)
  tbls : ∀ b ps, H b=some (.tbl ps) → ∃ more, H' b=some (.tbl (ps++more))
section
variable {fs fs' ex ex' : List Addr} {H H1 H2 : Hp} {h h1 h2 h' : Heap} {a x e : Addr} {o : HO}
theorem Un.any (u : Un fs ex H H1 h h1){b : Addr}{ob : Obj}(q : h.get? b=some ob)(n : H b=none)(hx : b∉ex) : ∃ sl, h1.get? b=some { ob with slots := sl } := by
  by_cases hb : b∈fs
  · exact u.slot b ob q n hb hx
  · exact ⟨ob.slots, u.keep b ob q n hb hx⟩
theorem Un.kept (k : ∀ b u, h.get? b=some u → h'.get? b=some u) : Un fs ex H H h h' :=
  ⟨fun b ob q _ _ _ => k b ob q, fun b ob q _ _ _ => ⟨ob.slots, k b ob q⟩, fun _ _ _ n _ => n, fun b ob q _ => ⟨ob, k b ob q⟩, fun _ _ q => q, fun _ _ _ q => q, fun _ ps q => ⟨#[], by rw [q];simp⟩⟩
theorem Un.refl : Un fs ex H H h h := Un.kept fun _ _ q => q
theorem Un.laid (k : ∀ b u, h.get? b=some u → h'.get? b=some u)(hp : h.objs.size≤a)(hn : H a=none) : Un fs ex H (upd H a o) h h' where
  keep := fun b u q _ _ _ => k b u q
  slot := fun b u q _ _ _ => ⟨u.slots, k b u q⟩
  free := fun b u q n _ => by rw [ao (xx (w9 (wZ q) hp))];exact n
  there := fun b u q _ => ⟨u, k b u q⟩
  tups := fun b xs q => by rw [ao (aq q hn)];exact q
  frzs := fun b u xs q => by rw [ao (aq q hn)];exact q
  tbls := fun b ps q => ⟨#[], by rw [ao (aq q hn), q];simp⟩
theorem Un.write (mu : Mut (H x))(he : e=x ∨ H e=some (.own x))(k : ∀ b u, b≠e → h.get? b=some u → h'.get? b=some u)(heo : ∃ u, h'.get? e=some u) : Un fs ex H (upd H x o) h h' := by
  have hx : ∀ b, H b=none → b≠x := fun b n z => by subst z;rw [n] at mu;exact mu
  have hb : ∀ b, H b=none → b≠e := fun b n z => by
    subst z
    rcases he with r | r
    · exact hx b n r
    · rw [n] at r;cases r
  have hm : ∀ b u, H b=some u → ¬ Mut (some u) → b≠x := fun b u q nm z => by subst z;rw [q] at mu;exact nm mu
  refine ⟨fun b u q n _ _ => k b u (hb b n) q, fun b u q n _ _ => ⟨u.slots, k b u (hb b n) q⟩, fun b u q n _ => by rw [ao (hx b n)];exact n, fun b u q _ => ?_,
    fun b xs q => by rw [ao (hm b _ q fun z => z)];exact q, fun b u xs q => by rw [ao (hm b _ q fun z => z)];exact q, fun b ps q => ⟨#[], by rw [ao (hm b _ q fun z => z), q];simp⟩⟩
  by_cases hbe : b=e
  · subst hbe;exact heo
  · exact ⟨u, k b u hbe q⟩
end
def trk (h : Heap)(H : Hp) : List Addr := (List.range h.objs.size).filter fun a => (H a).isSome
def mB (h : Heap)(H : Hp) : Heap := PySem.W.hideAll h (trk h H)
theorem j6 (h : Heap)(H : Hp) : (mB h H).objs.size=h.objs.size := PySem.W.hideAll_size _ _
theorem mH {h : Heap}{H : Hp}{b : Addr}{o : Obj}(e : h.get? b=some o)(n : H b=none) : (mB h H).get? b=some o :=
  PySem.W.hideAll_get _ e fun hm => by
    have q : (H b).isSome=true := (AD.mp hm).2
    rw [n] at q;simp at q
theorem px {h : Heap}{H : Hp}{b : Addr}{o : Obj}(e : (mB h H).get? b=some o) : h.get? b=some o ∧ H b=none := by
  have e' : h.get? b=some o := PySem.W.of_hideAll (trk h H) e
  refine ⟨e', ?_⟩
  cases q : H b with
  | none => rfl
  | some x =>
    have hm : b∈trk h H := AD.mpr ⟨List.mem_range.mpr (wZ e'), by simp [q]⟩
    have z : (mB h H).get? b=none := PySem.W.hideAll_none (trk h H) hm
    rw [z] at e;cases e
structure Mod (K : PySem.W.Frag) (mg : Str → Option Value) (base : Heap) : Prop where
  kin : K.In base
  glob : base.Ns mainGlobals mg
  blt : ∃ mb, base.Ns builtinsNs mb ∧ ∀ x : Str, x ≠ "__name__" → mb x=bootBuiltins x
  nolimit : base.NoLimit
/-- the context: a def's body (or a comprehension's block) running. base: fixed through the whole law;s₀, H₀: the entry;outer: the frames whose slots others may change (a def's callers);stack: all frames that run;
   ex: iterators that were made ahead of the entry and are walked here (a comprehension's);fn: the names whose cells were made at the entry (a def: all;a comprehension's block: its own);calm: not within an except suite;pn: pins that every state bears;xe: what is wanted of an exception that leaves the code -/
structure Cx where
  prog : Program
  w : World
  K : PySem.W.Frag
  mg : Str → Option Value
  base : Heap
  A : Around
  N : List Str
  s₀ : Shared
  H₀ : Hp
  env : Env
  outer : List Env
  stack : List Env
  ex : List Addr
  fn : Str → Bool
  calm : Bool
  pn : List (Addr × Obj)
  xe : Value → Shared → Prop
def frs (l : List Env) : List Addr := l.filterMap (·.frame)
abbrev Cx.fs (X : Cx) : List Addr := frs X.outer
def Vis (sc : Scope)(x : Str) : Prop := sc.names.lookup x=some .local ∨ sc.names.lookup x=some .cell ∨ sc.names.lookup x=some .free
def Loc (sc : Scope)(x : Str) : Prop := sc.names.lookup x=some .local ∨ sc.names.lookup x=some .cell
def vW (env : Env)(h : Heap)(m : Str → Option Value)(x : Str)(u : Value) : Prop :=
  (env.kindOf x=some .local ∧ m x=some u) ∨ ((env.kindOf x=some .cell ∨ env.kindOf x=some .free) ∧ ∃ c, env.cells.lookup x=some c ∧ h.IsCell c (some u))
structure Cx.Ok (X : Cx) : Prop where
  mod : Mod X.K X.mg X.base
  kind : X.env.scope.kind = .function
  glob : X.env.globals=mainGlobals
  blt : X.env.builtins=builtinsNs
  above : X.s₀.heap.objs.size≤X.env.locals
  inj : ∀ x y c, X.env.cells.lookup x=some c → X.env.cells.lookup y=some c → x=y
  has : ∀ x, (X.env.kindOf x=some .cell ∨ X.env.kindOf x=some .free) → ∃ c, X.env.cells.lookup x=some c
  cab : ∀ x c, X.fn x=true → X.env.cells.lookup x=some c → X.s₀.heap.objs.size≤c
  hd : X.calm=true → X.A.handled=none
  frames : X.A.frames=some X.stack
  stk : X.stack=X.outer ∨ (X.stack=X.env::X.outer ∧ X.env.frame=some X.env.locals)
  exf : ∀ b∈X.ex, b≠X.env.locals ∧ ∀ x c, X.env.cells.lookup x=some c → c≠b
  bs : ∀ b o, X.base.get? b=some o → X.s₀.heap.get? b=some o ∧ X.H₀ b=none
  bsz : X.base.objs.size≤X.s₀.heap.objs.size
  noex : ∀ b o, X.base.get? b=some o → b∉X.ex
  exfs : ∀ b∈X.ex, b∉X.fs
  funs : X.s₀.heap.FunFrames X.base X.outer
  frf : ∀ b∈X.fs, X.H₀ b=none
structure Inv (X : Cx) (pins : List (Addr × Obj)) (σ : List (Option V)) (H : Hp) (s : Shared) : Prop where
  ok : X.Ok
  os : s.os=X.s₀.os
  bare : AllBare s.gens
  base : Un X.fs X.ex X.H₀ H X.s₀.heap s.heap
  loc : ∃ m, s.heap.Ns X.env.locals m ∧ ∀ (i : Nat) (x : Str) (v : V), X.N[i]? = some x → σ[i]? = some (some v) → Vis X.env.scope x → ∃ u, a7 v u ∧ vW X.env s.heap m x u
  cell : ∀ x c, X.env.cells.lookup x=some c → ∃ v, s.heap.IsCell c v
  free : H X.env.locals=none
  freeC : ∀ x c, X.env.cells.lookup x=some c → H c=none
  pin : ∀ p∈X.pn++pins, s.heap.get? p.1=some p.2 ∧ H p.1=none ∧ p.1≠X.env.locals ∧ p.1∉X.fs ∧ ∀ v, p.2.data ≠ .cell v
  hok : HOk X.prog X.w H s.heap
  len : σ.length=X.N.length
section
variable {X : Cx} {pins : List (Addr × Obj)} {σ : List (Option V)} {H H' : Hp} {s : Shared} {h' : Heap}
theorem Cx.Ok.nofr (ok : X.Ok){b : Addr}{o : Obj}(e : X.base.get? b=some o) : b∉X.fs := fun hb => by
  have := (ok.funs.mem hb).1
  rw [e] at this;cases this
theorem Inv.bs (I : Inv X pins σ H s) : ∀ b o, X.base.get? b=some o → s.heap.get? b=some o ∧ H b=none := fun b o e =>
  ⟨I.base.keep b o (I.ok.bs b o e).1 (I.ok.bs b o e).2 (I.ok.nofr e) (I.ok.noex b o e), I.base.free b o (I.ok.bs b o e).1 (I.ok.bs b o e).2 (I.ok.noex b o e)⟩
theorem Inv.bk (I : Inv X pins σ H s) : ∀ b o, X.base.get? b=some o → s.heap.get? b=some o := fun b o e => (I.bs b o e).1
theorem Inv.mod (I : Inv X pins σ H s) : Mod X.K X.mg X.base := I.ok.mod
theorem Inv.kIn (I : Inv X pins σ H s) : X.K.In s.heap := I.ok.mod.kin.keeps I.bk
theorem Inv.fr (I : Inv X pins σ H s) : ∃ m, Fr X.base X.env.locals s.heap m :=
  let ⟨m, hn, _⟩ := I.loc
  ⟨m, hn, I.bk, xG I.ok.bsz I.ok.above⟩
theorem Inv.lt (I : Inv X pins σ H s) : X.env.locals < s.heap.objs.size := let ⟨_, hn, _⟩ := I.loc; hn.lt
theorem Inv.sz (I : Inv X pins σ H s) : X.s₀.heap.objs.size≤s.heap.objs.size := xG I.ok.above (AE I.lt)
theorem Inv.nofs (I : Inv X pins σ H s){a : Addr}(h : s.heap.objs.size≤a) : a∉X.fs := fun hb => by
  obtain ⟨_, o, ho, _⟩ := I.ok.funs.mem hb
  exact absurd (w9 (wZ ho) (xG I.sz h)) (xK _)
theorem Inv.cne (I : Inv X pins σ H s) : ∀ x c, X.env.cells.lookup x=some c → c≠X.env.locals := fun x c e z => by
  obtain ⟨v, o, ho, hd⟩ := I.cell x c e
  obtain ⟨m, ⟨o', es, ep, ho', hd', _⟩, _⟩ := I.loc
  rw [z, ho'] at ho;cases ho;rw [hd'] at hd;cases hd
theorem Inv.funs (I : Inv X pins σ H s) : s.heap.FunFrames X.base X.outer := by
  have all : ∀ (l : List Env), (∀ b∈frs l, b∈X.fs) → X.s₀.heap.FunFrames X.base l → s.heap.FunFrames X.base l := by
    intro l
    induction l with
    | nil => intro _ _;trivial
    | cons env r ih =>
      intro hs hl
      obtain ⟨hk, ⟨L, o, hf, hn, ho, hd⟩, hr⟩ := hl
      have hL : L∈X.fs := hs L (by unfold frs;rw [zT, hf];exact xv)
      obtain ⟨sl, e⟩ := I.base.slot L o ho (I.ok.frf L hL) hL fun z => I.ok.exfs L z hL
      exact ⟨hk, ⟨L, _, hf, hn, e, hd⟩, ih (fun b hb => hs b (by unfold frs;rw [zT, hf];exact xm _ hb)) hr⟩
  exact all X.outer (fun _ hb => hb) I.ok.funs
theorem Inv.stack (I : Inv X pins σ H s) : s.heap.FunFrames X.base X.stack := by
  rcases I.ok.stk with e | ⟨e, hf⟩
  · rw [e];exact I.funs
  · rw [e]
    obtain ⟨m, hn, _⟩ := I.loc
    refine .cons (by rw [I.ok.kind];decide) hf hn ?_ I.funs
    exact Heap.get?_none_of_le (xG I.ok.bsz I.ok.above)
theorem Inv.stkSub (I : Inv X pins σ H s) : ∀ b∈frs X.stack, b∈X.env.locals::X.fs := fun b hb => by
  rcases I.ok.stk with e | ⟨e, hf⟩
  · rw [e] at hb;exact xm _ hb
  · rw [e] at hb
    unfold frs at hb
    rw [zT, hf] at hb
    exact hb
theorem Inv.stkFree (I : Inv X pins σ H s) : ∀ b∈frs X.stack, H b=none := fun b hb => by
  rcases xn.mp (I.stkSub b hb) with e | hb
  · rw [e];exact I.free
  · obtain ⟨_, o, ho, _⟩ := I.ok.funs.mem hb
    exact I.base.free b o ho (I.ok.frf b hb) fun z => I.ok.exfs b z hb
theorem Inv.step {g' : Array GenState}{t' : Nat}{d' : Drawn}{ch : List Addr}(I : Inv X pins σ H s)
    (hch : ∀ b∈ch, (b∈X.ex ∨ X.s₀.heap.objs.size≤b) ∧ b≠X.env.locals ∧ (∀ x c, X.env.cells.lookup x=some c → c≠b) ∧ ∀ p∈X.pn++pins, p.1≠b)
    (keep : ∀ b o, b≠X.env.locals → b∉X.fs → b∉ch → s.heap.get? b=some o → H b=none → h'.get? b=some o)
    (slot : ∀ b o, b≠X.env.locals → b∈X.fs → b∉ch → s.heap.get? b=some o → H b=none → ∃ sl, h'.get? b=some { o with slots := sl }) (free : ∀ b o, b∉ch → s.heap.get? b=some o → H b=none → H' b=none)
    (there : ∀ b o, b∉ch → s.heap.get? b=some o → ∃ o', h'.get? b=some o')
    (tups : ∀ b xs, H b=some (.tup xs) → H' b=some (.tup xs)) (frzs : ∀ b o u, H b=some (.frz o u) → H' b=some (.frz o u)) (tbls : ∀ b ps, H b=some (.tbl ps) → ∃ more, H' b=some (.tbl (ps++more)))
    (ns : ∀ m, s.heap.Ns X.env.locals m → h'.Ns X.env.locals m) (hok : HOk X.prog X.w H' h') (hg : AllBare g') :
    Inv X pins σ H' { s with heap := h', gens := g', drawn := d', toks := t' } := by
  have neL : ∀ b o, X.s₀.heap.get? b=some o → b≠X.env.locals := fun b o e => xx (w9 (wZ e) I.ok.above)
  have neC : ∀ b o, X.s₀.heap.get? b=some o → b∉X.ex → b∉ch := fun b o e hx hb => by
    rcases (hch b hb).1 with z | z
    · exact hx z
    · exact absurd (w9 (wZ e) z) (xK _)
  have cellK : ∀ x c, X.env.cells.lookup x=some c → ∀ v, s.heap.IsCell c v → h'.IsCell c v := fun x c e v ⟨o, ho, hd⟩ => by
    have nch : c∉ch := fun z => (hch c z).2.2.1 x c e rfl
    by_cases hc : c∈X.fs
    · obtain ⟨sl, q⟩ := slot c o (I.cne x c e) hc nch ho (I.freeC x c e)
      exact ⟨_, q, hd⟩
    · exact ⟨o, keep c o (I.cne x c e) hc nch ho (I.freeC x c e), hd⟩
  refine ⟨I.ok, I.os, hg, ⟨fun b o e n hb hx => ?_, fun b o e n hb hx => ?_, fun b o e n hx => ?_, fun b o e hx => ?_, fun b xs e => tups b xs (I.base.tups b xs e), fun b o xs e => frzs b o xs (I.base.frzs b o xs e), fun b ps e => ?_⟩, ?_, fun x c e => ?_, ?_, fun x c e => ?_, fun p hp => ?_, hok, I.len⟩
  · exact keep b o (neL b o e) hb (neC b o e hx) (I.base.keep b o e n hb hx) (I.base.free b o e n hx)
  · obtain ⟨sl, e1⟩ := I.base.slot b o e n hb hx
    obtain ⟨sl', e2⟩ := slot b _ (neL b o e) hb (neC b o e hx) e1 (I.base.free b o e n hx)
    exact ⟨sl', e2⟩
  · obtain ⟨o', e1⟩ := I.base.there b o e hx
    exact free b o' (neC b o e hx) e1 (I.base.free b o e n hx)
  · obtain ⟨o', e1⟩ := I.base.there b o e hx
    exact there b o' (neC b o e hx) e1
  · obtain ⟨m1, e1⟩ := I.base.tbls b ps e
    obtain ⟨m2, e2⟩ := tbls b _ e1
    exact ⟨m1++m2, by rw [e2, Array.append_assoc]⟩
  · obtain ⟨m, hn, hl⟩ := I.loc
    refine ⟨m, ns m hn, fun i x v e1 e2 e3 => ?_⟩
    obtain ⟨u, r, l⟩ := hl i x v e1 e2 e3
    refine ⟨u, r, ?_⟩
    rcases l with l | ⟨k, c, e, z⟩
    · exact .inl l
    · exact .inr ⟨k, c, e, cellK x c e _ z⟩
  · obtain ⟨v, z⟩ := I.cell x c e
    exact ⟨v, cellK x c e v z⟩
  · obtain ⟨m, ⟨o, _, _, ho, _⟩, _⟩ := I.loc
    exact free _ o (fun z => (hch _ z).2.1 rfl) ho I.free
  · obtain ⟨v, o, ho, hd⟩ := I.cell x c e
    exact free c o (fun z => (hch c z).2.2.1 x c e rfl) ho (I.freeC x c e)
  · obtain ⟨e, n, ne, nf, d⟩ := I.pin p hp
    have nch : p.1∉ch := fun z => (hch p.1 z).2.2.2 p hp rfl
    exact ⟨keep p.1 p.2 ne nf nch e n, free p.1 p.2 nch e n, ne, nf, d⟩
theorem Inv.un {t' : Nat}(I : Inv X pins σ H s)(u : Un X.fs [] H H' s.heap h')(hok : HOk X.prog X.w H' h') : Inv X pins σ H' { s with heap := h', toks := t' } := by
  obtain ⟨m, ⟨o, es, ep, ho, r⟩, _⟩ := id I.loc
  obtain ⟨sl, hL⟩ := u.any ho I.free (by simp)
  exact I.step (g' := s.gens) (d' := s.drawn) (ch := []) (fun _ z => nomatch z) (fun b o _ hb _ e n => u.keep b o e n hb (by simp)) (fun b o _ hb _ e n => u.slot b o e n hb (by simp)) (fun b o _ e n => u.free b o e n (by simp)) (fun b o _ e => u.there b o e (by simp)) u.tups u.frzs u.tbls (fun m' hm => by
    obtain ⟨o', es', ep', ho', r'⟩ := hm
    rw [ho] at ho';cases ho'
    exact ⟨_, es', ep', hL, r'⟩) hok I.bare
theorem Inv.call {g' : Array GenState}{t' : Nat}{d' : Drawn}{ch : List Addr}(I : Inv X pins σ H s)(u : Un (frs X.stack) ch H H' s.heap h')(hok : HOk X.prog X.w H' h')(hg : AllBare g')
    (hch : ∀ b∈ch, (b∈X.ex ∨ X.s₀.heap.objs.size≤b) ∧ b≠X.env.locals ∧ (∀ x c, X.env.cells.lookup x=some c → c≠b) ∧ ∀ p∈X.pn++pins, p.1≠b) :
    Inv X pins σ H' { s with heap := h', gens := g', drawn := d', toks := t' } := by
  obtain ⟨m, ⟨o, es, ep, ho, r⟩, _⟩ := id I.loc
  obtain ⟨sl, hL⟩ := u.any ho I.free fun z => (hch _ z).2.1 rfl
  exact I.step (ch := ch) hch (fun b o hL hb hc e n => u.keep b o e n (fun z => (xn.mp (I.stkSub b z)).elim hL hb) hc) (fun b o _ _ hc e n => u.any e n hc) (fun b o hc e n => u.free b o e n hc) (fun b o hc e => u.there b o e hc) u.tups u.frzs u.tbls (fun m' hm => by
    obtain ⟨o', es', ep', ho', r'⟩ := hm
    rw [ho] at ho';cases ho'
    exact ⟨_, es', ep', hL, r'⟩) hok hg
theorem Inv.turned {t' : Nat}{it : Addr}(I : Inv X pins σ H s)(k : ∀ b o, b≠it → s.heap.get? b=some o → h'.get? b=some o)(hn : H it=none)(hL : it≠X.env.locals)
    (h1 : it∈X.ex ∨ X.s₀.heap.objs.size≤it) (h2 : ∀ x c, X.env.cells.lookup x=some c → c≠it) (h3 : ∀ p∈X.pn++pins, p.1≠it) : Inv X pins σ H { s with heap := h', toks := t' } := by
  have nit : ∀ b u, H b=some u → b≠it := fun b u e z => by rw [z, hn] at e;cases e
  refine I.step (g' := s.gens) (d' := s.drawn) (ch := [it]) (fun b hb => ?_) (fun b o _ _ hc e _ => k b o (fun z => hc (by simp [z])) e) (fun b o _ _ hc e _ => ⟨o.slots, k b o (fun z => hc (by simp [z])) e⟩) (fun _ _ _ _ n => n)
    (fun b o hc e => ⟨o, k b o (fun z => hc (by simp [z])) e⟩) (fun _ _ e => e) (fun _ _ _ e => e) (fun b ps e => ⟨#[], by rw [e];simp⟩) (fun m hm => ?_) (fun b u e => ?_) I.bare
  · have e : b=it := by simpa using hb
    subst e
    exact ⟨h1, hL, h2, h3⟩
  · obtain ⟨o, es, ep, ho, r⟩ := hm
    exact ⟨o, es, ep, k _ o (Ne.symm hL) ho, r⟩
  · refine (I.hok b u e).stay (fun c v hc q => k c v ?_ q) (fun _ q => q) fun _ _ q => q
    rcases hc with z | z
    · rw [z];exact nit b u e
    · exact nit c _ z
theorem Inv.tok (I : Inv X pins σ H s)(t : Nat) : Inv X pins σ H { s with toks := t } := I.un (h' := s.heap) (t' := t) Un.refl I.hok
theorem Inv.kept {t' : Nat}(I : Inv X pins σ H s)(k : ∀ b u, s.heap.get? b=some u → h'.get? b=some u) : Inv X pins σ H { s with heap := h', toks := t' } := I.un (Un.kept k) (I.hok.kept k)
theorem Inv.laid {a : Addr}{o : HO}{t' : Nat}(I : Inv X pins σ H s)(k : ∀ b u, s.heap.get? b=some u → h'.get? b=some u)(hp : s.heap.objs.size≤a)(new : bu X.prog X.w (upd H a o) h' a o) :
    Inv X pins σ (upd H a o) { s with heap := h', toks := t' } := I.un (Un.laid k hp (I.hok.fresh hp)) (I.hok.laid k hp new)
theorem Inv.write {x e : Addr}{o : HO}{t' : Nat}(I : Inv X pins σ H s)(mu : Mut (H x))(he : e=x ∨ H e=some (.own x))(k : ∀ b u, b≠e → s.heap.get? b=some u → h'.get? b=some u)(heo : ∃ u, h'.get? e=some u)
    (new : bu X.prog X.w (upd H x o) h' x o) : Inv X pins σ (upd H x o) { s with heap := h', toks := t' } := I.un (Un.write mu he k heo) (I.hok.write mu he k heo new)
theorem Inv.pins_of {pins' : List (Addr × Obj)}(I : Inv X pins σ H s)(h : ∀ p∈pins', s.heap.get? p.1=some p.2 ∧ H p.1=none ∧ p.1≠X.env.locals ∧ p.1∉X.fs ∧ ∀ v, p.2.data ≠ .cell v) : Inv X pins' σ H s :=
  ⟨I.ok, I.os, I.bare, I.base, I.loc, I.cell, I.free, I.freeC, fun p hp => (yE.mp hp).elim (fun z => I.pin p (xW _ z)) (h p), I.hok, I.len⟩
theorem dN {N : List Str}(hN : N.Nodup){i j : Nat}{x : Str}(a : N[i]? = some x)(b : N[j]? = some x) : i=j := by
  obtain ⟨h1, e1⟩ := wW.mp a
  obtain ⟨h2, e2⟩ := wW.mp b
  exact (List.getElem_inj hN).mp (e1.trans e2.symm)
theorem j7 {M : Model}{A : Around}{E : Value → Shared → Prop}{i : Nat}{x : Str}{v : V}{u : Value}{Q : Unit → Shared → Prop}(I : Inv X pins σ H s)(hN : X.N.Nodup)(hi : X.N[i]? = some x)(hx : Loc X.env.scope x)(r : a7 v u)
    (h : ∀ s', Inv X pins (σ.set i (some v)) H s' → (∃ a, Heap.SameBut a s.heap s'.heap ∧ (a=X.env.locals ∨ X.env.cells.lookup x=some a)) → Q () s') (hf : X.fn x=true ∨ X.env.scope.names.lookup x=some .local := by first | exact .inl rfl | exact .inr rfl | assumption) : wpAny M A (storeName X.env x u) Q E s := by
  obtain ⟨m, hn, hl⟩ := id I.loc
  have hcls : (X.env.scope.kind == .class || (X.env.scope.kind == .module && X.env.locals != X.env.globals))=false := by rw [I.ok.kind];rfl
  have hiσ : i < σ.length := by rw [I.len];exact (wW.mp hi).1
  have cne := I.cne
  have tracked : ∀ {a : Addr} {h' : Heap}, (∃ o, s.heap.get? a=some o ∧ H a=none) → Heap.SameBut a s.heap h' → HOk X.prog X.w H h' := fun {a h'} ha hs b ob e => by
    obtain ⟨_, _, hfree⟩ := ha
    refine (I.hok b ob e).stay (fun c w' hc q => (hs.2 c ?_).trans q) (fun _ q => q) fun _ _ q => q
    rintro rfl
    rcases hc with rfl | hc
    · rw [hfree] at e;cases e
    · rw [hfree] at hc;cases hc
  rcases hx with hk | hk
  · refine wpAny_storeName_local hk hn (fun h' hn' hs => ?_) hcls
    obtain ⟨oL, _, _, hoL, _⟩ := id hn
    refine h _ ⟨I.ok, I.os, I.bare, ⟨fun b o e n hb hx => ?_, fun b o e n hb hx => ?_, I.base.free, fun b o e hx => ?_, I.base.tups, I.base.frzs, I.base.tbls⟩, ⟨_, hn', fun j y v' e1 e2 e3 => ?_⟩, fun y c e => ?_, I.free, I.freeC, fun p hp => ?_, tracked ⟨oL, hoL, I.free⟩ hs, by simpa using I.len⟩ ⟨_, hs, .inl rfl⟩
    · exact (hs.2 b (xx (w9 (wZ e) I.ok.above))).trans (I.base.keep b o e n hb hx)
    · obtain ⟨sl, e1⟩ := I.base.slot b o e n hb hx
      exact ⟨sl, (hs.2 b (xx (w9 (wZ e) I.ok.above))).trans e1⟩
    · obtain ⟨o', e1⟩ := I.base.there b o e hx
      exact ⟨o', (hs.2 b (xx (w9 (wZ e) I.ok.above))).trans e1⟩
    · by_cases hj : j=i
      · subst hj
        rw [hi] at e1;cases e1
        rw [yj hiσ] at e2
        cases e2
        exact ⟨u, r, .inl ⟨hk, by simp⟩⟩
      · rw [yg (Ne.symm hj)] at e2
        obtain ⟨u', r', q⟩ := hl j y v' e1 e2 e3
        refine ⟨u', r', ?_⟩
        rcases q with ⟨k, e⟩ | ⟨k, c, e, z⟩
        · refine .inl ⟨k, ?_⟩
          have : y≠x := fun e => hj (dN hN e1 (e ▸ hi))
          simp [this, e]
        · exact .inr ⟨k, c, e, z.sameBut hs (cne y c e)⟩
    · obtain ⟨w', z⟩ := I.cell y c e
      exact ⟨w', z.sameBut hs (cne y c e)⟩
    · obtain ⟨e, n, ne, nf, d⟩ := I.pin p hp
      exact ⟨(hs.2 p.1 ne).trans e, n, ne, nf, d⟩
  · have hfn : X.fn x=true := by
      rcases hf with z | z
      · exact z
      · rw [z] at hk;cases hk
    obtain ⟨c, hc⟩ := I.ok.has x (.inl hk)
    obtain ⟨w', z⟩ := I.cell x c hc
    refine wpAny_storeName_cell I.ok.kind hk hc z (fun h' hc' hs => ?_)
    obtain ⟨oc, hoc, hocd⟩ := id z
    refine h { s with heap := h' } ⟨I.ok, I.os, I.bare, ⟨fun b o e n hb hx => ?_, fun b o e n hb hx => ?_, I.base.free, fun b o e hx => ?_, I.base.tups, I.base.frzs, I.base.tbls⟩, ⟨m, hn.sameBut hs (Ne.symm (cne x c hc)), fun j y v' e1 e2 e3 => ?_⟩, fun y c' e => ?_, I.free, I.freeC, fun p hp => ?_, tracked ⟨oc, hoc, I.freeC x c hc⟩ hs, by simpa using I.len⟩ ⟨c, hs, .inr hc⟩
    · exact (hs.2 b (xx (w9 (wZ e) (I.ok.cab x c hfn hc)))).trans (I.base.keep b o e n hb hx)
    · obtain ⟨sl, e1⟩ := I.base.slot b o e n hb hx
      exact ⟨sl, (hs.2 b (xx (w9 (wZ e) (I.ok.cab x c hfn hc)))).trans e1⟩
    · obtain ⟨o', e1⟩ := I.base.there b o e hx
      exact ⟨o', (hs.2 b (xx (w9 (wZ e) (I.ok.cab x c hfn hc)))).trans e1⟩
    · by_cases hj : j=i
      · subst hj
        rw [hi] at e1;cases e1
        rw [yj hiσ] at e2
        cases e2
        exact ⟨u, r, .inr ⟨.inl hk, c, hc, hc'⟩⟩
      · rw [yg (Ne.symm hj)] at e2
        obtain ⟨u', r', q⟩ := hl j y v' e1 e2 e3
        refine ⟨u', r', ?_⟩
        rcases q with q | ⟨k, c', e, z'⟩
        · exact .inl q
        · refine .inr ⟨k, c', e, z'.sameBut hs ?_⟩
          rintro rfl
          exact hj (dN hN e1 (I.ok.inj _ _ _ e hc ▸ hi))
    · by_cases hcc : c'=c
      · subst hcc;exact ⟨_, hc'⟩
      · obtain ⟨w2, z2⟩ := I.cell y c' e
        exact ⟨w2, z2.sameBut hs hcc⟩
    · obtain ⟨e, n, ne, nf, d⟩ := I.pin p hp
      refine ⟨(hs.2 p.1 ?_).trans e, n, ne, nf, d⟩
      intro q
      rw [q, hoc] at e
      have q' : oc=p.2 := w4 e
      exact d w' (by rw [← q'];exact hocd)
theorem bS {M : Model}{A : Around}{E : Value → Shared → Prop}{i : Nat}{x : Str}{v : V}{u : Value}{Q : Unit → Shared → Prop}(I : Inv X pins σ H s)(hN : X.N.Nodup)(hi : X.N[i]? = some x)(hx : Loc X.env.scope x)(r : a7 v u)
    (h : ∀ s', Inv X pins (σ.set i (some v)) H s' → Q () s') (hf : X.fn x=true ∨ X.env.scope.names.lookup x=some .local := by first | exact .inl rfl | exact .inr rfl | assumption) : wpAny M A (storeName X.env x u) Q E s :=
  j7 I hN hi hx r (fun s' I' _ => h s' I') hf
theorem Inv.call' {s' : Shared}{ch : List Addr}(I : Inv X pins σ H s)(ho : s'.os=s.os)(u : Un (frs X.stack) ch H H' s.heap s'.heap)(hok : HOk X.prog X.w H' s'.heap)(hg : AllBare s'.gens)
    (hch : ∀ b∈ch, (b∈X.ex ∨ X.s₀.heap.objs.size≤b) ∧ b≠X.env.locals ∧ (∀ x c, X.env.cells.lookup x=some c → c≠b) ∧ ∀ p∈X.pn++pins, p.1≠b) : Inv X pins σ H' s' := by
  obtain ⟨h', g', d', t', o'⟩ := s'
  have e : o'=s.os := ho
  subst e
  exact I.call (g' := g') (t' := t') (d' := d') u hok hg hch
end
abbrev XK := Value → Option Addr → Hp → Prop
abbrev St := List (Option V)
abbrev VK := V → Hp → Prop
abbrev TE := St → Hp → VK → Prop
abbrev TT := St → Hp → (Bool → Hp → Prop) → Prop
abbrev TA := St → Hp → (List V → Hp → Prop) → Prop
structure dJ where
  nx : St → Hp → Prop
  rt : VK
  bk : St → Hp → Prop := fun _ _ => False
  ct : St → Hp → Prop := fun _ _ => False
abbrev TS := dJ → St → Hp → Prop
def EP (X : Cx)(pins : List (Addr × Obj))(σ : St)(Q : VK)(u : Value)(s' : Shared) : Prop := ∃ v H', Inv X pins σ H' s' ∧ a7 v u ∧ Q v H'
def TP (X : Cx)(pins : List (Addr × Obj))(σ : St)(Q : Bool → Hp → Prop)(b : Bool)(s' : Shared) : Prop := ∃ H', Inv X pins σ H' s' ∧ Q b H'
def AP (X : Cx)(pins : List (Addr × Obj))(σ : St)(Q : List V → Hp → Prop)(us : List Value)(s' : Shared) : Prop := ∃ vs H', Inv X pins σ H' s' ∧ aR vs us ∧ Q vs H'
def SP (X : Cx)(pins : List (Addr × Obj))(D : dJ)(f : Flow)(s' : Shared) : Prop :=
  match f with
  | .next => ∃ σ' H', Inv X pins σ' H' s' ∧ D.nx σ' H'
  | .brk => ∃ σ' H', Inv X pins σ' H' s' ∧ D.bk σ' H'
  | .cont => ∃ σ' H', Inv X pins σ' H' s' ∧ D.ct σ' H'
  | .ret u => ∃ v σ' H', Inv X pins σ' H' s' ∧ a7 v u ∧ D.rt v H'
def PE (X : Cx)(e : Expr)(t : TE) : Prop :=
  ∀ (pins : List (Addr × Obj)) (s : Shared) (σ : St) (H : Hp) (Q : VK), Inv X pins σ H s → t σ H Q → wpAny (model X.prog X.w) X.A (eval e X.env) (EP X pins σ Q) X.xe s
def PT (X : Cx)(e : Expr)(t : TT) : Prop :=
  ∀ (pins : List (Addr × Obj)) (s : Shared) (σ : St) (H : Hp) (Q : Bool → Hp → Prop), Inv X pins σ H s → t σ H Q → wpAny (model X.prog X.w) X.A (isTrue e X.env (eval e X.env)) (TP X pins σ Q) X.xe s
def PW (X : Cx)(e : Expr)(t : TT) : Prop :=
  ∀ (whole : Sem Value) (pins : List (Addr × Obj)) (s : Shared) (σ : St) (H : Hp) (Q : Bool → Hp → Prop), Inv X pins σ H s → t σ H Q → wpAny (model X.prog X.w) X.A (isTrue e X.env whole) (TP X pins σ Q) X.xe s
theorem PW.pt {X : Cx}{e : Expr}{t : TT}(h : PW X e t) : PT X e t := h _
def PA (X : Cx)(es : List Expr)(t : TA) : Prop :=
  ∀ (pos : Pos) (pins : List (Addr × Obj)) (s : Shared) (σ : St) (H : Hp) (Q : List V → Hp → Prop), Inv X pins σ H s → t σ H Q → wpAny (model X.prog X.w) X.A (spliced (backTo pos (starEach es X.env))) (AP X pins σ Q) X.xe s
def PS (X : Cx)(st : Stmt)(t : TS) : Prop :=
  ∀ (pins : List (Addr × Obj)) (s : Shared) (σ : St) (H : Hp) (D : dJ), Inv X pins σ H s → t D σ H → wpAny (model X.prog X.w) X.A (exec st X.env) (SP X pins D) X.xe s
def PSs (X : Cx)(st : List Stmt)(t : TS) : Prop :=
  ∀ (pins : List (Addr × Obj)) (s : Shared) (σ : St) (H : Hp) (D : dJ), Inv X pins σ H s → t D σ H → wpAny (model X.prog X.w) X.A (execs st X.env) (SP X pins D) X.xe s
theorem thn {α : Type}{t : Sem α}{Q Q' : α → Shared → Prop}{M : Model}{A : Around}{E : Value → Shared → Prop}{s : Shared}(h : wpAny M A t Q E s)(hQ : ∀ a s, Q a s → Q' a s) : wpAny M A t Q' E s := xY h hQ fun _ _ x => x
section
variable {X : Cx}
inductive uo (i : Nat)(σ : St)(H : Hp)(Q : VK) : Prop
  | mk : ∀ v, (σ[i]? = some (some v)) → (Q v H) → uo i σ H Q
def tC (v : V) : TE := fun _ H Q => Q v H
theorem rN {i : Nat}{x : Str}{pos : Pos}(hN : X.N[i]? = some x)(hv : Vis X.env.scope x)(hd : (x == ("__debug__" : Str))=false := by decide)(hcd : (x == ("__classdict__" : Str))=false := by decide) : PE X (.Name x pos) (uo i) := by
  intro pins s σ H Q I h
  obtain ⟨v, e, h⟩ := h
  obtain ⟨m, hn, hl⟩ := I.loc
  obtain ⟨u, r, l⟩ := hl i x v hN e hv
  have fin : EP X pins σ Q u s := ⟨v, H, I, r, h⟩
  rcases l with ⟨hk, hm⟩ | ⟨hk, c, hc, hcell⟩
  · exact zp (yD I.ok.kind hk hn hm fin) hd
  · rcases hk with hk | hk
    · exact zp (zU I.ok.kind hk hc hcell fin) hd
    · exact zp (wpAny_loadName_free I.ok.kind hk hc hcell fin hcd) hd
theorem ar {i j pos} : PE X (.Constant (.int i) j pos) (tC (.int i)) := fun _ _ _ H _ I h => wpAny_Constant_int ⟨.int i, H, I.tok _, ⟨_, rfl⟩, h⟩
theorem ig {b j pos} : PE X (.Constant (.bool b) j pos) (tC (.bl b)) := fun _ _ _ H _ I h => Constant_bool ⟨.bl b, H, I, rfl, h⟩
theorem gj {j pos} : PE X (.Constant .none j pos) (tC .non) := fun _ _ _ H _ I h => Constant_none ⟨.non, H, I, rfl, h⟩
theorem aA {x j pos} : PE X (.Constant (.str x) j pos) (tC (.str x)) := fun _ _ _ H _ I h => Calls.Constant_str ⟨.str x, H, I.tok _, ⟨_, rfl⟩, h⟩
def Gl (X : Cx)(x : Str) : Prop := X.env.kindOf x=some .globalImplicit
theorem cH {E : Value → Shared → Prop}{pins : List (Addr × Obj)}{s : Shared}{σ : St}{H : Hp}{x : Str}{u : Value}{pos : Pos}{Q : Value → Shared → Prop}(I : Inv X pins σ H s)(hg : Gl X x)(hm : X.mg x=some u)(h : Q u s)
    (hd : (x == ("__debug__" : Str))=false := by decide) : wpAny (model X.prog X.w) X.A (eval (.Name x pos) X.env) Q E s :=
  Ad I.ok.kind hg (Calls.loadGlobal_global (by rw [I.ok.glob];exact I.mod.glob.keeps I.bk) hm h) hd
theorem dz {E : Value → Shared → Prop}{pins : List (Addr × Obj)}{s : Shared}{σ : St}{H : Hp}{x : Str}{u : Value}{pos : Pos}{Q : Value → Shared → Prop}(I : Inv X pins σ H s)(hg : Gl X x)(hm : X.mg x=none)(hv : bootBuiltins x=some u)(h : Q u s)
    (hn : x ≠ "__name__" := by decide) (hd : (x == ("__debug__" : Str))=false := by decide) : wpAny (model X.prog X.w) X.A (eval (.Name x pos) X.env) Q E s := by
  obtain ⟨mb, h1, h2⟩ := I.mod.blt
  exact Ad I.ok.kind hg (Calls.loadGlobal_builtin (by rw [I.ok.glob];exact I.mod.glob.keeps I.bk) hm (by rw [I.ok.blt];exact h1.keeps I.bk) ((h2 x hn).trans hv) h) hd
theorem bD {x : Str}{v : V}{u : Value}{pos : Pos}(hg : Gl X x)(hm : X.mg x=some u)(r : a7 v u)(hd : (x == ("__debug__" : Str))=false := by decide) : PE X (.Name x pos) (tC v) :=
  fun _ _ _ H _ I h => cH I hg hm ⟨v, H, I, r, h⟩ hd
theorem pA {x : Str}{v : V}{u : Value}{pos : Pos}(hg : Gl X x)(hm : X.mg x=none)(hv : bootBuiltins x=some u)(r : a7 v u)(hn : x ≠ "__name__" := by decide)(hd : (x == ("__debug__" : Str))=false := by decide) : PE X (.Name x pos) (tC v) :=
  fun _ _ _ H _ I h => dz I hg hm hv ⟨v, H, I, r, h⟩ hn hd
variable {a b : Expr} {ta tb : TE} {pos : Pos}
inductive IsB (x : V)(H : Hp)(Q : Bool → Hp → Prop) : Prop
  | mk : ∀ c, (x = .bl c) → (Q c H) → IsB x H Q
variable {tA tB' : TT} {rest : List Expr}
def j8 (u : TT)(σ : St)(Q : (Bool → Hp → Prop)) : Bool → Hp → Prop := fun c H1 => if c=true then u σ H1 Q else Q false H1
def vX (t u : TT) : TT := fun σ H Q => t σ H (j8 u σ Q)
def j9 (u : TT)(σ : St)(Q : (Bool → Hp → Prop)) : Bool → Hp → Prop := fun c H1 => if c=true then Q true H1 else u σ H1 Q
def tOr (t u : TT) : TT := fun σ H Q => t σ H (j9 u σ Q)
def ij (Q : (Bool → Hp → Prop)) : Bool → Hp → Prop := fun c H1 => Q (!c) H1
def vY (t : TT) : TT := fun σ H Q => t σ H (ij Q)
theorem ik (ha : PT X a tA) : PW X (.BoolOp .And [a] pos) tA := by
  intro wh pins s σ H Q I h
  refine isTrue_and (thn (ha pins s σ H Q I h) fun c s1 e => ?_)
  cases c with
  | true => exact isTrue_and_nil e
  | false => exact e
theorem j_ (ha : PT X a tA) : PW X (.BoolOp .Or [a] pos) tA := by
  intro wh pins s σ H Q I h
  refine isTrue_or (thn (ha pins s σ H Q I h) fun c s1 e => ?_)
  cases c with
  | false => exact isTrue_or_nil e
  | true => exact e
theorem ka (ha : PT X a tA)(hb : PW X (.BoolOp .And (b::rest) pos) tB') : PW X (.BoolOp .And (a::b::rest) pos) (vX tA tB') := by
  intro wh pins s σ H Q I h
  refine isTrue_and (thn (ha pins s σ H _ I h) fun c s1 zq7 => ?_)
  obtain ⟨H1, I1, q1⟩ := zq7
  cases c with
  | true => exact hb wh pins s1 σ H1 Q I1 q1
  | false => exact ⟨H1, I1, q1⟩
theorem pB (ha : PT X a tA)(hb : PW X (.BoolOp .Or (b::rest) pos) tB') : PW X (.BoolOp .Or (a::b::rest) pos) (tOr tA tB') := by
  intro wh pins s σ H Q I h
  refine isTrue_or (thn (ha pins s σ H _ I h) fun c s1 zq8 => ?_)
  obtain ⟨H1, I1, q1⟩ := zq8
  cases c with
  | true => exact ⟨H1, I1, q1⟩
  | false => exact hb wh pins s1 σ H1 Q I1 q1
theorem i6 (ha : PT X a tA) : PT X (.UnaryOp .Not a pos) (vY tA) := by
  intro pins s σ H Q I h
  exact isTrue_not (ha pins s σ H (fun c H1 => Q (!c) H1) I h)
def mI (tb : TE)(σ : St)(Q : VK) : Bool → Hp → Prop := fun c H1 => if c=true then tb σ H1 Q else Q (.bl false) H1
def mJ (tb : TE)(σ : St)(Q : VK) : V → Hp → Prop := fun x H1 => IsB x H1 (mI tb σ Q)
def uq (ta tb : TE) : TE := fun σ H Q => ta σ H (mJ tb σ Q)
def mK (Q : VK) : Bool → Hp → Prop := fun c H1 => Q (.bl (!c)) H1
def mL (Q : VK) : V → Hp → Prop := fun x H1 => IsB x H1 (mK Q)
def ur (ta : TE) : TE := fun σ H Q => ta σ H (mL Q)
theorem oE {op}{t : TE}(h : PE X a t) : PE X (.BoolOp op [a] pos) t := fun pins s σ H Q I hw => BoolOp_one (h pins s σ H Q I hw)
theorem oF (ha : PE X a ta)(hb : PE X (.BoolOp .And (b::rest) pos) tb) : PE X (.BoolOp .And (a::b::rest) pos) (uq ta tb) := by
  intro pins s σ H Q I h
  refine BoolOp_and (thn (ha pins s σ H _ I h) fun v s1 zq9 => ?_)
  obtain ⟨x, H1, I1, r1, q1⟩ := zq9
  obtain ⟨c, rfl, q1⟩ := q1
  cases r1
  refine yn ?_
  cases c with
  | true => exact hb pins s1 σ H1 Q I1 q1
  | false => exact ⟨.bl false, H1, I1, rfl, q1⟩
theorem rO (ha : PE X a ta) : PE X (.UnaryOp .Not a pos) (ur ta) := by
  intro pins s σ H Q I h
  refine UnaryOp_ (thn (ha pins s σ H _ I h) fun v s1 zq11 => ?_)
  obtain ⟨x, H1, I1, r1, q1⟩ := zq11
  obtain ⟨c, rfl, q1⟩ := q1
  cases r1
  exact not_of (yn ⟨.bl (!c), H1, I1, rfl, q1⟩)
def rP (ta : TE)(tb : TE)(σ : St)(Q : VK) : Bool → Hp → Prop := fun c H1 => if c=true then ta σ H1 Q else tb σ H1 Q
def tIf (t : TT)(ta tb : TE) : TE := fun σ H Q => t σ H (rP ta tb σ Q)
theorem dO {c : Expr}(hc : PT X c tA)(ha : PE X a ta)(hb : PE X b tb) : PE X (.IfExp c a b pos) (tIf tA ta tb) := by
  intro pins s σ H Q I h
  refine wpAny_IfExp (thn (hc pins s σ H _ I h) fun d s1 zq12 => ?_)
  obtain ⟨H1, I1, q1⟩ := zq12
  cases d with
  | true => exact ha pins s1 σ H1 Q I1 q1
  | false => exact hb pins s1 σ H1 Q I1 q1
end
def SqL (K : PySem.W.Frag)(H : Hp)(a : Addr)(xs : List V) : Prop :=
  Rd H a (.lst xs) ∨
    ∃ (o : Obj) (its : Array Value) (n : Nat), K.lookup a=some o ∧ o.cls = .type "list" ∧ o.dict=none ∧ o.data = .seq its n ∧ its.size≤sizeLine ∧ aR xs its.toList
def SqT (K : PySem.W.Frag)(H : Hp)(a : Addr)(xs : List V) : Prop :=
  Rd H a (.tup xs) ∨
    ∃ (o : Obj) (its : Array Value) (n : Nat), K.lookup a=some o ∧ o.cls = .type "tuple" ∧ o.data = .seq its n ∧ its.size≤sizeLine ∧ aR xs its.toList
def vZ : Value → Option V
  | .none => some .non
  | .bool b => some (.bl b)
  | .int i _ => some (.int i)
  | .str x _ => some (.str x)
  | .bytes b _ => some (.byt b)
  | .float b _ => some (.flt b)
  | .ref a => some (.ref a)
  | .type n => some (.ty n)
  | _ => none
theorem a7.abs {x : V}{u : Value}(r : a7 x u) : vZ u=some x := by
  cases x with
  | non => cases r;rfl
  | bl _ => cases r;rfl
  | int _ => obtain ⟨t, rfl⟩ := r;rfl
  | str _ => obtain ⟨t, rfl⟩ := r;rfl
  | byt _ => obtain ⟨t, rfl⟩ := r;rfl
  | flt _ => obtain ⟨t, rfl⟩ := r;rfl
  | ref _ => cases r;rfl
  | ty _ => cases r;rfl
theorem a7.inj {x y : V}{u : Value}(r : a7 x u)(q : a7 y u) : x=y := w4 (r.abs.symm.trans q.abs)
theorem aR.inj : ∀ {xs ys : List V} {us : List Value}, aR xs us → aR ys us → xs=ys
  | _, _, _, .nil, .nil => rfl
  | _, _, _, .cons r t, .cons r' t' => by rw [r.inj r', aR.inj t t']
section
variable {X : Cx} {pins : List (Addr × Obj)} {σ : St} {H : Hp} {s : Shared} {a : Addr} {xs ys : List V}
theorem SqL.of {K : PySem.W.Frag}(h : H a=some (.lst xs)) : SqL K H a xs := .inl (.inl h)
theorem SqT.of {K : PySem.W.Frag}(h : H a=some (.tup xs)) : SqT K H a xs := .inl (.inl h)
theorem Inv.list (I : Inv X pins σ H s)(h : SqL X.K H a xs) : ∃ its : List Value, aR xs its ∧ PlainL s.heap a its.toArray ∧ xs.length≤sizeLine := by
  rcases h with h | ⟨o, its, n, hk, hc, hd, hs, hz, r⟩
  · obtain ⟨z, its, n, r, e⟩ := h.ok I.hok
    exact ⟨its, r, ⟨_, n, e, rfl, rfl, rfl⟩, z⟩
  · refine ⟨its.toList, r, ⟨o, n, I.kIn a o hk, hc, hd, by simpa using hs⟩, ?_⟩
    have e := r.length
    simp only [yo] at e
    omega
theorem Inv.tuple (I : Inv X pins σ H s)(h : SqT X.K H a xs) : ∃ its : List Value, aR xs its ∧ IsTup s.heap a its.toArray ∧ xs.length≤sizeLine := by
  rcases h with h | ⟨o, its, n, hk, hc, hs, hz, r⟩
  · obtain ⟨z, its, r, p, _⟩ := h.ok I.hok
    exact ⟨its, r, p, z⟩
  · refine ⟨its.toList, r, ⟨o, I.kIn a o hk, hc, n, by simpa using hs⟩, ?_⟩
    have e := r.length
    simp only [yo] at e
    omega
theorem Inv.list_inj (I : Inv X pins σ H s)(h : SqL X.K H a xs)(h' : SqL X.K H a ys) : xs=ys := by
  obtain ⟨its, r, ⟨o, n, e, _, _, d⟩, _⟩ := I.list h
  obtain ⟨its', r', ⟨o', n', e', _, _, d'⟩, _⟩ := I.list h'
  rw [e] at e';cases e'
  rw [d] at d'
  injection d' with d1 _
  have : its=its' := by simpa using xH Array.toList d1
  subst this
  exact r.inj r'
theorem Inv.tuple_inj (I : Inv X pins σ H s)(h : SqT X.K H a xs)(h' : SqT X.K H a ys) : xs=ys := by
  obtain ⟨its, r, ⟨o, e, _, n, d⟩, _⟩ := I.tuple h
  obtain ⟨its', r', ⟨o', e', _, n', d'⟩, _⟩ := I.tuple h'
  rw [e] at e';cases e'
  rw [d] at d'
  injection d' with d1 _
  have : its=its' := by simpa using xH Array.toList d1
  subst this
  exact r.inj r'
end
abbrev Cx.wish (X : Cx)(E : Value → Shared → Prop) : Cx := { X with xe := E }
abbrev Cx.nox (X : Cx) : Cx := X.wish fun _ _ => False
theorem Cx.Ok.wish {X : Cx}(ok : X.Ok)(E : Value → Shared → Prop) : (X.wish E).Ok :=
  ⟨ok.mod, ok.kind, ok.glob, ok.blt, ok.above, ok.inj, ok.has, ok.cab, ok.hd, ok.frames, ok.stk, ok.exf, ok.bs, ok.bsz, ok.noex, ok.exfs, ok.funs, ok.frf⟩
theorem Cx.Ok.unwish {X : Cx}{E : Value → Shared → Prop}(ok : (X.wish E).Ok) : X.Ok :=
  ⟨ok.mod, ok.kind, ok.glob, ok.blt, ok.above, ok.inj, ok.has, ok.cab, ok.hd, ok.frames, ok.stk, ok.exf, ok.bs, ok.bsz, ok.noex, ok.exfs, ok.funs, ok.frf⟩
section
variable {X : Cx} {pins : List (Addr × Obj)} {σ : St} {H : Hp} {s : Shared} {E : Value → Shared → Prop}
theorem Inv.wish (I : Inv X pins σ H s)(E : Value → Shared → Prop) : Inv (X.wish E) pins σ H s := ⟨I.ok.wish E, I.os, I.bare, I.base, I.loc, I.cell, I.free, I.freeC, I.pin, I.hok, I.len⟩
theorem Inv.unwish (I : Inv (X.wish E) pins σ H s) : Inv X pins σ H s := ⟨I.ok.unwish, I.os, I.bare, I.base, I.loc, I.cell, I.free, I.freeC, I.pin, I.hok, I.len⟩
theorem SP.unwish {D : dJ}{f : Flow}{s' : Shared}(h : SP (X.wish E) pins D f s') : SP X pins D f s' := by
  cases f with
  | next => obtain ⟨σ', H', I, q⟩ := h;exact ⟨σ', H', I.unwish, q⟩
  | brk => obtain ⟨σ', H', I, q⟩ := h;exact ⟨σ', H', I.unwish, q⟩
  | cont => obtain ⟨σ', H', I, q⟩ := h;exact ⟨σ', H', I.unwish, q⟩
  | ret u => obtain ⟨v, σ', H', I, r, q⟩ := h;exact ⟨v, σ', H', I.unwish, r, q⟩
theorem PSs.nox {st : List Stmt}{t : TS}(h : PSs X.nox st t) : PSs X st t := fun pins s σ H D I hw =>
  xY (h pins s σ H D (I.wish _) hw) (fun _ _ q => q.unwish) fun _ _ z => False.elim z
end
section
variable {X : Cx} {st : Stmt} {rest : List Stmt} {t u : TS} {e : Expr} {te : TE} {pos : Pos}
def uv : TS := fun D σ H => D.nx σ H
def vt (t u : TS) : TS := fun D σ H => t { D with nx := u D } σ H
theorem ba : PSs X [] uv := fun _ _ σ H _ I h => zd ⟨σ, H, I, h⟩
theorem ai (h1 : PS X st t)(h2 : PSs X rest u) : PSs X (st::rest) (vt t u) := by
  intro pins s σ H D I h
  refine y7 (thn (h1 pins s σ H { D with nx := u D } I h) fun f s1 q => ?_)
  cases f with
  | next =>
    obtain ⟨σ', H', I', q⟩ := q
    exact h2 pins s1 σ' H' D I' q
  | ret v => exact q
  | brk => exact q
  | cont => exact q
theorem au (h1 : PS X st t) : PSs X [st] t := by
  intro pins s σ H D I h
  refine y7 (thn (h1 pins s σ H D I h) fun f s1 q => ?_)
  cases f with
  | next => exact zd q
  | ret v => exact q
  | brk => exact q
  | cont => exact q
theorem Inv.quiet {pins : List (Addr × Obj)}{σ : St}{H : Hp}{s : Shared}(I : Inv X pins σ H s) : interactive X.env=false := by simp [interactive, I.ok.kind]
def mO (D : dJ)(σ : St) : V → Hp → Prop := fun _ H1 => D.nx σ H1
def ux (te : TE) : TS := fun D σ H => te σ H (mO D σ)
theorem b9 (he : PE X e te)(hs : swapsWith e none pos.line X.env=pure false := by rfl) : PS X (.Expr e pos) (ux te) := by
  intro pins s σ H D I h
  exact wpAny_Expr_any (thn (he pins s σ H _ I h) fun v s1 zq15 => (by obtain ⟨x, H1, I1, r1, q1⟩ := zq15;exact ⟨σ, H1, I1, q1⟩)) I.quiet hs
def v_ (te : TE) : TS := fun D σ H => te σ H D.rt
theorem aJ (he : PE X e te) : PS X (.Return (some e) pos) (v_ te) := by
  intro pins s σ H D I h
  exact wpAny_Return_some (thn (he pins s σ H _ I h) fun v s1 zq16 => (by obtain ⟨x, H1, I1, r1, q1⟩ := zq16;exact ⟨x, σ, H1, I1, r1, q1⟩))
def il (t : TS)(u : TS)(D : dJ)(σ : St) : Bool → Hp → Prop := fun b H1 => if b=true then t D σ H1 else u D σ H1
def wc (c : TT)(t u : TS) : TS := fun D σ H => c σ H (il t u D σ)
theorem bT {c : Expr}{a b : List Stmt}{tc : TT}(hc : PT X c tc)(ha : PSs X a t)(hb : PSs X b u) : PS X (.If c a b pos) (wc tc t u) := by
  intro pins s σ H D I h
  refine wpAny_If (thn (hc pins s σ H _ I h) fun d s1 zq17 => ?_)
  obtain ⟨H1, I1, q1⟩ := zq17
  cases d with
  | true => exact ha pins s1 σ H1 D I1 q1
  | false => exact hb pins s1 σ H1 D I1 q1
def rQ : TS := fun _ _ _ => False
theorem mP : PS X st rQ := fun _ _ _ _ _ _ h => h.elim
end
abbrev TG := V → St → Hp → (St → Hp → Prop) → Prop
abbrev TGs := List V → St → Hp → (St → Hp → Prop) → Prop
def PG (X : Cx)(target : Expr)(t : TG) : Prop :=
  ∀ (pins : List (Addr × Obj)) (s : Shared) (σ : St) (H : Hp) (v : V) (u : Value) (Q : St → Hp → Prop), Inv X pins σ H s → a7 v u → t v σ H Q →
    wpAny (model X.prog X.w) X.A (assign target X.env u) (fun _ s' => ∃ σ' H', Inv X pins σ' H' s' ∧ Q σ' H') X.xe s
def PGs (X : Cx)(ts : List Expr)(t : TGs) : Prop :=
  ∀ (pins : List (Addr × Obj)) (s : Shared) (σ : St) (H : Hp) (vs : List V) (us : List Value) (Q : St → Hp → Prop), Inv X pins σ H s → aR vs us → t vs σ H Q →
    wpAny (model X.prog X.w) X.A (assignInOrder ((assignEach ts X.env).map (·.2)) us) (fun _ s' => ∃ σ' H', Inv X pins σ' H' s' ∧ Q σ' H') X.xe s
abbrev uy := V → V → V → Hp → (Hp → Prop) → Prop
def vv (X : Cx)(t : uy) : Prop :=
  ∀ (pins : List (Addr × Obj)) (s : Shared) (σ : St) (H : Hp) (o i v : V) (ov iv u : Value) (Q : Hp → Prop), Inv X pins σ H s → a7 o ov → a7 i iv → a7 v u → t o i v H Q →
    wpAny (model X.prog X.w) X.A (setItem ov iv u) (fun _ s' => ∃ H', Inv X pins σ H' s' ∧ Q H') X.xe s
abbrev TIp := V → V → Hp → VK → Prop
def PIp (X : Cx)(op : Operator)(t : TIp) : Prop :=
  ∀ (pins : List (Addr × Obj)) (s : Shared) (σ : St) (H : Hp) (x y : V) (v u : Value) (Q : VK), Inv X pins σ H s → a7 x v → a7 y u → t x y H Q →
    wpAny (model X.prog X.w) X.A (inplaceOp op v u) (EP X pins σ Q) X.xe s
section
variable {X : Cx} {pos : Pos}
def pC (i : Nat) : TG := fun v σ H Q => Q (σ.set i (some v)) H
theorem aI {i : Nat}{x : Str}(hN : X.N.Nodup)(hi : X.N[i]? = some x)(hx : Loc X.env.scope x)(hf : X.fn x=true ∨ X.env.scope.names.lookup x=some .local := by first | exact .inl rfl | exact .inr rfl | assumption) : PG X (.Name x pos) (pC i) := by
  intro pins s σ H v u Q I r h
  exact wpAny_assign_Name (bS I hN hi hx r (fun s' I' => ⟨_, H, I', h⟩) hf)
def wd : TGs := fun vs σ H Q => vs=[] ∧ Q σ H
def uA (t : TG)(u : TGs) : TGs := fun vs σ H Q => ∃ v r, vs=v::r ∧ t v σ H fun σ' H' => u r σ' H' Q
theorem d3 : PGs X [] wd := by
  intro pins s σ H vs us Q I r h
  obtain ⟨e, h⟩ := h
  subst e
  cases r
  exact assignInOrder_nil ⟨σ, H, I, h⟩
theorem bz {e : Expr}{es : List Expr}{t : TG}{u : TGs}(h1 : PG X e t)(h2 : PGs X es u)
    (hs : (assignEach (e::es) X.env).map (·.2)=assign e X.env::(assignEach es X.env).map (·.2) := by rfl) : PGs X (e::es) (uA t u) := by
  intro pins s σ H vs us Q I r h
  obtain ⟨v, vr, e1, h⟩ := h
  subst e1
  cases r with
  | cons r rr =>
    rw [hs]
    refine assignInOrder_cons (thn (h1 pins s σ H _ _ _ I r h) fun _ s1 zq18 => ?_)
    obtain ⟨σ1, H1, I1, q1⟩ := zq18
    exact h2 pins s1 σ1 H1 _ _ Q I1 rr q1
def we (K : PySem.W.Frag)(n : Nat)(t : TGs) : TG := fun v σ H Q => ∃ a xs, v = .ref a ∧ SqT K H a xs ∧ xs.length=n ∧ t xs σ H Q
theorem i7 {es : List Expr}{k : Nat}{t : TGs}{n : Nat}(hc : X.calm=true)(h : PGs X es t)
    (hn : (assignEach es X.env).length=n := by rfl) (hst : (assignEach es X.env).findIdx? (·.1)=none := by rfl) : PG X (.Tuple es k pos) (we X.K n t) := by
  intro pins s σ H v u Q I r hw
  obtain ⟨a, xs, e1, hq, hl, hw⟩ := hw
  subst e1
  cases r
  obtain ⟨its, rv, ht, hz⟩ := I.tuple hq
  refine assign_Tuple_tuple (I.ok.hd hc) ht (by simp [hn, ← hl, rv.length]) hst fun h' hx => ?_
  have I1 : Inv X pins σ H { s with heap := h' } := I.kept (t' := s.toks) fun b o e => hx b o (xx (wZ e)) e
  exact h pins _ σ H xs _ Q I1 (by simpa using rv) hw
def wg (to ti : TE)(t : uy) : TG := fun v σ H Q => to σ H fun o H1 => ti σ H1 fun i H2 => t o i v H2 fun H3 => Q σ H3
theorem oG {o i : Expr}{to ti : TE}{t : uy}(ho : PE X o to)(hi : PE X i ti)(hs : vv X t)
    (ha : ∀ v, assign (.Subscript o i pos) X.env v=(do
      let ov ← holding [v] (eval o X.env)
      let iv ← holding [v, ov] (eval i X.env)
      standAt pos
      holding [v, ov, iv] (setItem ov iv v)
      release [v, ov, iv] []) := by intro _;rfl) : PG X (.Subscript o i pos) (wg to ti t) := by
  intro pins s σ H v u Q I r h
  rw [ha]
  refine fu (yd (thn (ho pins s σ H _ I h) fun ov s1 zq19 => ?_))
  obtain ⟨x, H1, I1, r1, q1⟩ := zq19
  refine fu (yd (thn (hi pins s1 σ H1 _ I1 q1) fun iv s2 zq20 => ?_))
  obtain ⟨y, H2, I2, r2, q2⟩ := zq20
  refine fu (zN (fu (yd (thn (hs pins s2 σ H2 x y v ov iv u _ I2 r1 r2 r q2) fun _ s3 zq21 => ?_))))
  obtain ⟨H3, I3, q3⟩ := zq21
  exact wpAny_release ⟨σ, H3, I3, q3⟩
def pD (g : TG)(D : dJ)(σ : St) : V → Hp → Prop := fun x H1 => g x σ H1 D.nx
def uB (te : TE)(g : TG) : TS := fun D σ H => te σ H (pD g D σ)
theorem i8 {tg e : Expr}{te : TE}{g : TG}(he : PE X e te)(hg : PG X tg g)(hs : swapsWithSole [tg] e pos.line X.env=pure false := by rfl)(hw : swappedStores [tg] e X.env=pure none := by rfl)
    (h1 : (assignEach [tg] X.env).map (·.2)=[assign tg X.env] := by rfl) : PS X (.Assign [tg] e pos) (uB te g) := by
  intro pins s σ H D I h
  refine wpAny_Assign_stores (thn (he pins s σ H _ I h) fun v s1 zq22 => ?_) hs hw
  obtain ⟨x, H1, I1, r1, q1⟩ := zq22
  rw [h1]
  exact thn (hg pins s1 σ H1 x v _ I1 r1 q1) fun _ s2 q => q
theorem ay {i : Nat}{x : Str}{e : Expr}{te : TE}{pos' : Pos}(hN : X.N.Nodup)(hi : X.N[i]? = some x)(hx : Loc X.env.scope x)(he : PE X e te)(hs : swapsWith e (some (.Name x pos')) pos.line X.env=pure false := by rfl)(hf : X.fn x=true ∨ X.env.scope.names.lookup x=some .local := by first | exact .inl rfl | exact .inr rfl | assumption) :
    PS X (.Assign [.Name x pos'] e pos) (uB te (pC i)) := by
  intro pins s σ H D I h
  refine zq (thn (he pins s σ H _ I h) fun v s1 zq23 => ?_) hs
  obtain ⟨y, H1, I1, r1, q1⟩ := zq23
  exact bS I1 hN hi hx r1 (fun s2 I2 => ⟨_, H1, I2, q1⟩) hf
inductive vw (i : Nat)(te : TE)(ti : TIp)(D : dJ)(σ : St)(H : Hp) : Prop
  | mk : ∀ x, (σ[i]? = some (some x)) → (te σ H fun y H1 => ti x y H1 fun z H2 => D.nx (σ.set i (some z)) H2) → vw i te ti D σ H
theorem rR {i : Nat}{x : Str}{e : Expr}{te : TE}{op : Operator}{ti : TIp}{pos' : Pos}(hN : X.N.Nodup)(hi : X.N[i]? = some x)(hx : Loc X.env.scope x)(he : PE X e te)(ho : PIp X op ti)(hf : X.fn x=true ∨ X.env.scope.names.lookup x=some .local := by first | exact .inl rfl | exact .inr rfl | assumption) :
    PS X (.AugAssign (.Name x pos') op e pos) (vw i te ti) := by
  intro pins s σ H D I h
  obtain ⟨v, e1, h⟩ := h
  obtain ⟨m, hn, hl⟩ := I.loc
  have vis : Vis X.env.scope x := by rcases hx with k | k;exact .inl k;exact .inr (.inl k)
  obtain ⟨u, r, l⟩ := hl i x v hi e1 vis
  refine wpAny_AugAssign_Name ?_
  have go : wpAny (model X.prog X.w) X.A (eval e X.env) (fun w s₂ => wpAny (model X.prog X.w) X.A (inplaceOp op u w) (fun r s₃ => wpAny (model X.prog X.w) X.A (storeName X.env x r) (fun _ => SP X pins D .next) X.xe s₃) X.xe s₂) X.xe s := by
    refine thn (he pins s σ H _ I h) fun w s1 zq25 => ?_
    obtain ⟨y, H1, I1, r1, q1⟩ := zq25
    refine thn (ho pins s1 σ H1 v y u w _ I1 r r1 q1) fun z s2 zq26 => ?_
    obtain ⟨zv, H2, I2, r2, q2⟩ := zq26
    exact bS I2 hN hi hx r2 (fun s3 I3 => ⟨_, H2, I3, q2⟩) hf
  rcases l with ⟨hk, hm⟩ | ⟨hk, c, hc, hcell⟩
  · exact yD I.ok.kind hk hn hm go
  · rcases hk with hk | hk
    · exact zU I.ok.kind hk hc hcell go
    · rcases hx with k | k
      · have : X.env.scope.names.lookup x=some .free := hk
        rw [k] at this;cases this
      · have : X.env.scope.names.lookup x=some .free := hk
        rw [k] at this;cases this
def ipI (f : Int → Int → Int) : TIp := fun x y H Q => ∃ i j, x = .int i ∧ y = .int j ∧ Q (.int (f i j)) H
theorem rS : PIp X .Add (ipI fun i j => i+j) := by
  intro pins s σ H x y v u Q I r1 r2 h
  obtain ⟨i, j, e1, e2, q⟩ := h
  subst e1;subst e2
  obtain ⟨t, rfl⟩ := r1
  obtain ⟨t', rfl⟩ := r2
  exact iadd_int ⟨.int _, H, I.tok _, ⟨_, rfl⟩, q⟩
end
structure It where
  go : Nat → Hp → Prop
  yld : Nat → Hp → V → Hp → Prop
  stop : Nat → Hp → Prop
def jB (X : Cx)(pins : List (Addr × Obj))(H : Hp)(b : Addr) : Prop :=
  H b=none ∧ b≠X.env.locals ∧ b∉X.fs ∧ (b∈X.ex ∨ X.s₀.heap.objs.size≤b) ∧ (∀ x c, X.env.cells.lookup x=some c → c≠b) ∧ ∀ p∈X.pn++pins, p.1≠b
theorem Inv.fpOk {X : Cx}{pins : List (Addr × Obj)}{σ : St}{H H' : Hp}{s : Shared}{b : Addr}(I : Inv X pins σ H s)(hb : s.heap.objs.size≤b)(hn : H' b=none) : jB X pins H' b := by
  refine ⟨hn, y9 (w9 I.lt hb), I.nofs hb, .inr (xG I.sz hb), fun x c e z => ?_, fun p hp z => ?_⟩
  · obtain ⟨v, q⟩ := I.cell x c e
    exact absurd (w9 q.lt (by rw [z];exact hb)) (xK _)
  · exact absurd (w9 (wZ (I.pin p hp).1) (by rw [z];exact hb)) (xK _)
structure oH (P : Program) (w : World) (K : PySem.W.Frag) (tg : Expr) (J : It) (fp : List Addr) (it : Addr) (tn : Nat → Heap → Prop) : Prop where
  mem : it∈fp
  obj : ∀ i h, tn i h → ∀ b∈fp, ∃ o, h.get? b=some o ∧ ∀ v, o.data ≠ .cell v
  keep : ∀ i h h', tn i h → (∀ b∈fp, ∀ o, h.get? b=some o → h'.get? b=some o) → tn i h'
  item : ∀ (X : Cx), X.prog=P → X.w=w → X.K=K → X.calm=true → ∀ (i : Nat) (pins : List (Addr × Obj)) (s : Shared) (σ : St) (H : Hp) (E : Value → Shared → Prop), Inv X pins σ H s → (∀ b∈fp, jB X pins H b) → tn i s.heap → J.go i H →
    wpAny (model P w) X.A (pyNext (.ref it)) (fun r s1 => ∃ u, r=some u ∧
      wpAny (model P w) X.A (letOwnedTupleGo tg (.ref it) u) (fun _ s2 => ∃ x H', Inv X pins σ H' s2 ∧ a7 x u ∧ J.yld i H x H' ∧ tn (i+1) s2.heap ∧ ∀ b∈fp, H' b=none) E s1) E s
  done : ∀ (X : Cx), X.prog=P → X.w=w → X.K=K → X.calm=true → ∀ (i : Nat) (pins : List (Addr × Obj)) (s : Shared) (σ : St) (H : Hp) (E : Value → Shared → Prop), Inv X pins σ H s → (∀ b∈fp, jB X pins H b) → tn i s.heap → J.stop i H →
    wpAny (model P w) X.A (pyNext (.ref it)) (fun r s1 => r=none ∧ Inv X pins σ H s1) E s
  self : ∀ (A : Around) (i : Nat) (s : Shared) (Q : Value → Shared → Prop) (E : Value → Shared → Prop), tn i s.heap → Q (.ref it) s → wpAny (model P w) A (pyIter (.ref it)) Q E s
abbrev TI := St → Hp → (It → Hp → Prop) → Prop
def PIE (X : Cx)(pins : List (Addr × Obj))(σ : St)(tg : Expr)(R : It → Hp → Prop)(itv : Value)(s2 : Shared) : Prop :=
  ∃ (it : Addr) (fp : List Addr) (tn : Nat → Heap → Prop) (J : It) (H' : Hp), itv = .ref it ∧ Inv X pins σ H' s2 ∧ oH X.prog X.w X.K tg J fp it tn ∧ tn 0 s2.heap ∧ (∀ b∈fp, jB X pins H' b) ∧ R J H'
def PI (X : Cx)(tg iter : Expr)(wi : TI) : Prop :=
  ∀ (pins : List (Addr × Obj)) (s : Shared) (σ : St) (H : Hp) (R : It → Hp → Prop), Inv X pins σ H s → wi σ H R →
    wpAny (model X.prog X.w) X.A (eval iter X.env) (fun v s1 => wpAny (model X.prog X.w) X.A (pyIter v) (PIE X pins σ tg R) X.xe s1) X.xe s
theorem mQ {M : Model}{A : Around}{E : Value → Shared → Prop}{s : Shared}{tg : Expr}{it : Addr}{u : Value}{o : Obj}{n : String}{vs : Array Value}{Q : Unit → Shared → Prop}(ho : s.heap.get? it=some o)(hc : o.cls = .type n)(hd : o.data = .fields vs)
    (hn : ["enumerate", "zip", "dict_itemiterator", "dict_reverseitemiterator", "odict_iterator", "itertools.zip_longest", "itertools.pairwise"].contains n=false) (hQ : Q () s) : wpAny M A (letOwnedTupleGo tg (.ref it) u) Q E s := by
  unfold letOwnedTupleGo
  cases tg <;> first
    | exact xb hQ
    | (cases u <;> first
        | exact xb hQ
        | (refine fu (wpAny_load ho ?_)
           rw [hc, hd]
           show wpAny M A (if (["enumerate", "zip", "dict_itemiterator", "dict_reverseitemiterator", "odict_iterator", "itertools.zip_longest", "itertools.pairwise"].contains n && vs[0]? == some (rawInt _))=true then _ else _) Q E s
           rw [if_neg (by intro h;rw [hn, Bool.false_and] at h;cases h)]
           exact xb hQ))
def Itl (K : PySem.W.Frag)(a : Addr) : It :=
  ⟨fun i H => ∃ xs x, SqL K H a xs ∧ xs[i]? = some x, fun i H x H' => H'=H ∧ ∀ xs, SqL K H a xs → xs[i]? = some x, fun i H => ∃ xs, SqL K H a xs ∧ xs.length≤i⟩
def Itt (K : PySem.W.Frag)(a : Addr) : It :=
  ⟨fun i H => ∃ xs x, SqT K H a xs ∧ xs[i]? = some x, fun i H x H' => H'=H ∧ ∀ xs, SqT K H a xs → xs[i]? = some x, fun i H => ∃ xs, SqT K H a xs ∧ xs.length≤i⟩
def Itr (lo : Int)(n : Nat) : It := ⟨fun i _ => i < n, fun i H x H' => H'=H ∧ x = .int (lo+i), fun i _ => n≤i⟩
theorem kc {P : Program}{w : World}{K : PySem.W.Frag}{tg : Expr}(a it : Addr) : oH P w K tg (Itl K a) [it] it (fun i h => h.IsListIter it a i) where
  mem := by simp
  obj := fun i h st b hb => by
    have e : b=it := by simpa using hb
    subst e
    obtain ⟨o, e, c, d⟩ := st
    exact ⟨o, e, fun v z => by rw [d] at z;cases z⟩
  keep := fun i h h' st k => st.at fun o e => k it (by simp) o e
  item := by
    intro X hP hw hK hc i pins s σ H E I hf st hg
    subst hP hw hK
    obtain ⟨xs, x, hq, hx⟩ := hg
    obtain ⟨its, rv, p, hz⟩ := I.list hq
    obtain ⟨u, hu, ru⟩ := rv.get hx
    obtain ⟨f0, f1, f2, f3, f4, f5⟩ := hf it (by simp)
    refine wpAny_pyNext_list_item st p.isList (x := u) (by simpa using hu) fun h' st' sb => ?_
    have I1 : Inv X pins σ H { s with heap := h' } := I.turned (t' := s.toks) (fun b o hb e => (sb.2 b hb).trans e) f0 f1 f3 f4 f5
    obtain ⟨o, e, c, d⟩ := id st'
    exact ⟨u, rfl, mQ (s := { s with heap := h' }) e c d (by decide) ⟨x, H, I1, ru, ⟨rfl, fun ys hy => by rw [I.list_inj hy hq];exact hx⟩, st', fun b hb => (hf b hb).1⟩⟩
  done := by
    intro X hP hw hK hc i pins s σ H E I hf st hg
    subst hP hw hK
    obtain ⟨xs, hq, hx⟩ := hg
    obtain ⟨its, rv, p, hz⟩ := I.list hq
    obtain ⟨f0, f1, f2, f3, f4, f5⟩ := hf it (by simp)
    have hl := rv.length
    exact wpAny_pyNext_list_end (I.ok.hd hc) st p.isList (by simp;omega) fun h' eb => ⟨rfl, I.turned (t' := s.toks) (fun b o hb e => eb b o hb e) f0 f1 f3 f4 f5⟩
  self := fun _ _ _ _ _ st h => wpAny_pyIter_listiter st h
theorem jC {P : Program}{w : World}{K : PySem.W.Frag}{tg : Expr}(a it : Addr) : oH P w K tg (Itt K a) [it] it (fun i h => h.IsTupleIter it a i) where
  mem := by simp
  obj := fun i h st b hb => by
    have e : b=it := by simpa using hb
    subst e
    obtain ⟨o, e, c, d⟩ := st
    exact ⟨o, e, fun v z => by rw [d] at z;cases z⟩
  keep := fun i h h' st k => st.at fun o e => k it (by simp) o e
  item := by
    intro X hP hw hK hc i pins s σ H E I hf st hg
    subst hP hw hK
    obtain ⟨xs, x, hq, hx⟩ := hg
    obtain ⟨its, rv, p, hz⟩ := I.tuple hq
    obtain ⟨u, hu, ru⟩ := rv.get hx
    obtain ⟨f0, f1, f2, f3, f4, f5⟩ := hf it (by simp)
    refine wpAny_pyNext_tuple_item st (show s.heap.IsTuple a its.toArray from p) (x := u) (by simpa using hu) fun h' st' sb => ?_
    have I1 : Inv X pins σ H { s with heap := h' } := I.turned (t' := s.toks) (fun b o hb e => (sb.2 b hb).trans e) f0 f1 f3 f4 f5
    obtain ⟨o, e, c, d⟩ := id st'
    exact ⟨u, rfl, mQ (s := { s with heap := h' }) e c d (by decide) ⟨x, H, I1, ru, ⟨rfl, fun ys hy => by rw [I.tuple_inj hy hq];exact hx⟩, st', fun b hb => (hf b hb).1⟩⟩
  done := by
    intro X hP hw hK hc i pins s σ H E I hf st hg
    subst hP hw hK
    obtain ⟨xs, hq, hx⟩ := hg
    obtain ⟨its, rv, p, hz⟩ := I.tuple hq
    obtain ⟨f0, f1, f2, f3, f4, f5⟩ := hf it (by simp)
    have hl := rv.length
    exact wpAny_pyNext_tuple_end (I.ok.hd hc) st (show s.heap.IsTuple a its.toArray from p) (by simp;omega) fun h' eb => ⟨rfl, I.turned (t' := s.toks) (fun b o hb e => eb b o hb e) f0 f1 f3 f4 f5⟩
  self := fun _ _ _ _ _ st h => wpAny_pyIter_tupleiter st h
theorem jD {P : Program}{w : World}{K : PySem.W.Frag}{tg : Expr}(it : Addr)(lo : Int)(n : Nat) : oH P w K tg (Itr lo n) [it] it (fun i h => IsRangeIter h it (lo+(i : Nat)*1) ((n : Int) - (i : Nat)) 1) where
  mem := by simp
  obj := fun i h st b hb => by
    have e : b=it := by simpa using hb
    subst e
    exact ⟨_, st, fun v z => by
      have z' : Data.fields _=Data.cell v := z
      cases z'⟩
  keep := fun i h h' st k => k it (by simp) _ st
  item := by
    intro X hP hw hK hc i pins s σ H E I hf st hg
    subst hP hw hK
    obtain ⟨f0, f1, f2, f3, f4, f5⟩ := hf it (by simp)
    have W := Walks.range (prog := X.prog) (w := X.w) (I.ok.hd hc) it lo 1 n
    refine W.item i s _ _ hg st fun v h' tk hv st' kk => ?_
    obtain ⟨t, rfl⟩ := hv
    have I1 : Inv X pins σ H { s with heap := h', toks := tk } := I.turned (fun b o hb e => kk b o (by simpa using hb) e) f0 f1 f3 f4 f5
    refine ⟨_, rfl, mQ (s := { s with heap := h', toks := tk }) (n := "range_iterator") st' rfl rfl (by decide) ⟨.int (lo+i), H, I1, ⟨t, ?_⟩, ⟨rfl, rfl⟩, st', fun b hb => (hf b hb).1⟩⟩
    rw [Int.mul_one]
  done := by
    intro X hP hw hK hc i pins s σ H E I hf st hg
    subst hP hw hK
    obtain ⟨f0, f1, f2, f3, f4, f5⟩ := hf it (by simp)
    exact wpAny_pyNext_range_end (I.ok.hd hc) st (by have : n≤i := hg;omega) fun h' eb => ⟨rfl, I.turned (t' := s.toks) (fun b o hb e => eb b o hb e) f0 f1 f3 f4 f5⟩
  self := fun _ _ _ _ _ st h => wpAny_pyIter_rangeiter st h
section
variable {X : Cx} {tg : Expr}
def uC (K : PySem.W.Frag)(tl : TE) : TI := fun σ H R => tl σ H fun x H1 => ∃ a, x = .ref a ∧ (∃ xs, SqL K H1 a xs) ∧ R (Itl K a) H1
def wj (K : PySem.W.Frag)(tl : TE) : TI := fun σ H R => tl σ H fun x H1 => ∃ a, x = .ref a ∧ (∃ xs, SqT K H1 a xs) ∧ R (Itt K a) H1
theorem pE {l : Expr}{tl : TE}(hl : PE X l tl) : PI X tg l (uC X.K tl) := by
  intro pins s σ H R I h
  refine thn (hl pins s σ H _ I h) fun v s1 zq34 => ?_
  obtain ⟨x, H1, I1, r1, q1⟩ := zq34
  obtain ⟨a, e, ⟨xs, hq⟩, q⟩ := q1
  subst e
  cases r1
  obtain ⟨its, rv, p, hz⟩ := I1.list hq
  refine wpAny_pyIter_list p.isList ?_
  refine ⟨s1.heap.objs.size, [s1.heap.objs.size], _, _, H1, rfl, I1.kept (t' := s1.toks) fun b o e => wU _ e, kc a _, ⟨_, w6 _ rfl, rfl, rfl⟩, fun b hb => ?_, q⟩
  have e : b=s1.heap.objs.size := by simpa using hb
  subst e
  exact I1.fpOk (wX _) (I1.hok.fresh (wX _))
theorem i9 {l : Expr}{tl : TE}(hl : PE X l tl) : PI X tg l (wj X.K tl) := by
  intro pins s σ H R I h
  refine thn (hl pins s σ H _ I h) fun v s1 zq35 => ?_
  obtain ⟨x, H1, I1, r1, q1⟩ := zq35
  obtain ⟨a, e, ⟨xs, hq⟩, q⟩ := q1
  subst e
  cases r1
  obtain ⟨its, rv, p, hz⟩ := I1.tuple hq
  refine yR (show s1.heap.IsTuple a its.toArray from p) ?_
  refine ⟨s1.heap.objs.size, [s1.heap.objs.size], _, _, H1, rfl, I1.kept (t' := s1.toks) fun b o e => wU _ e, jC a _, ⟨_, w6 _ rfl, rfl, rfl⟩, fun b hb => ?_, q⟩
  have e : b=s1.heap.objs.size := by simpa using hb
  subst e
  exact I1.fpOk (wX _) (I1.hok.fresh (wX _))
theorem mR {pins : List (Addr × Obj)}{σ : St}{H : Hp}{s : Shared}{R : It → Hp → Prop}{E : Value → Shared → Prop}{lo hi : Int}{t u v : Tok}{tk : Nat}(I : Inv X pins σ H s)(h1 : -(2 ^ 62)≤lo)(h2 : lo < 2 ^ 62)(h3 : -(2 ^ 62)≤hi)(h4 : hi < 2 ^ 62)
    (q : R (Itr lo (hi - lo).toNat) H) : wpAny (model X.prog X.w) X.A (pyIter (.ref s.heap.objs.size)) (PIE X pins σ tg R) E { s with heap := s.heap.push { cls := .type "range", data := .fields #[.int lo t, .int hi u, .int 1 v] }, toks := tk } := by
  refine wpAny_pyIter_range (IsRange.new ..) (small_one h1 h2 h3 h4) ?_
  have I1 : Inv X pins σ H { s with heap := s.heap.push { cls := .type "range", data := .fields #[.int lo t, .int hi u, .int 1 v] }, toks := tk } := I.kept fun b o e => wU _ e
  refine ⟨(s.heap.push { cls := .type "range", data := .fields #[.int lo t, .int hi u, .int 1 v] }).objs.size, [(s.heap.push { cls := .type "range", data := .fields #[.int lo t, .int hi u, .int 1 v] }).objs.size], _, _, H, rfl,
    I1.kept (t' := tk) fun b o e => wU _ e, jD _ lo (hi - lo).toNat, ?_, fun b hb => ?_, q⟩
  · have e1 : lo+((0 : Nat) : Int)*1=lo := by simp
    have e2 : (((hi - lo).toNat : Nat) : Int) - ((0 : Nat) : Int)=Builtin.Range.rangeSize lo hi 1 := by rw [rangeSize_one];split <;> omega
    show IsRangeIter _ _ (lo+((0 : Nat) : Int)*1) ((((hi - lo).toNat : Nat) : Int) - ((0 : Nat) : Int)) 1
    rw [e1, e2]
    exact w6 _ rfl
  · have e : b=(s.heap.push { cls := .type "range", data := .fields #[.int lo t, .int hi u, .int 1 v] }).objs.size := by simpa using hb
    subst e
    exact I1.fpOk (wX _) (I1.hok.fresh (wX _))
def uD (ta : TA) : TI := fun σ H R => ta σ H fun vs H1 => ∃ j : Int, vs=[.int j] ∧ -(2 ^ 62)≤j ∧ j < 2 ^ 62 ∧ R (Itr 0 j.toNat) H1
theorem cQ {a : Expr}{ta : TA}{p pos : Pos}(hg : Gl X "range")(hm : X.mg "range" = none)(ha : PA X [a] ta)(hs : starEach [a] X.env=[(false, eval a X.env)] := by rfl) : PI X tg (.Call (.Name "range" p) [a] [] pos) (uD ta) := by
  intro pins s σ H R I h
  refine Call_ (dz I hg hm boot_range (xZ (thn (ha pos pins s σ H _ I h) fun us s1 zq36 => ?_) hs rfl))
  obtain ⟨vs, H1, I1, r1, q1⟩ := zq36
  obtain ⟨j, e, q1, q2, q⟩ := q1
  subst e
  cases r1 with
  | cons r rr =>
    cases rr
    obtain ⟨t, rfl⟩ := r
    exact call_range_1 (mR I1 (by omega) (by omega) q1 q2 (by simpa using q))
def wm (wi : TI)(g : TG)(tb : TS) : TS := fun D σ H => wi σ H fun J H1 => ∃ W : Nat → Nat → St → Hp → Prop, (∃ m, W 0 m σ H1) ∧ ∀ i m σ H, W i m σ H →
  (J.stop i H ∧ D.nx σ H) ∨ (J.go i H ∧ ∃ N : St → Hp → Prop, (∀ σ' H', N σ' H' → ∃ m', m' < m ∧ W (i+1) m' σ' H') ∧ ∀ x H', J.yld i H x H' → g x σ H' fun σ2 H2 => tb { D with nx := N, ct := N, bk := D.nx } σ2 H2)
def gk (fp : List Addr)(h : Heap) : List (Addr × Obj) := fp.filterMap fun b => (h.get? b).map fun o => (b, o)
theorem cu {fp : List Addr}{h : Heap}{b : Addr}{o : Obj}(hb : b∈fp)(e : h.get? b=some o) : (b, o)∈gk fp h := List.mem_filterMap.mpr ⟨b, hb, by rw [e]; rfl⟩
theorem ke {fp : List Addr}{h : Heap}{p : Addr × Obj}(hp : p∈gk fp h) : p.1∈fp ∧ h.get? p.1=some p.2 := by
  obtain ⟨b, hb, e⟩ := List.mem_filterMap.mp hp
  cases q : h.get? b with
  | none => rw [q] at e;cases e
  | some o =>
    rw [q] at e
    have e' : (b, o)=p := w4 e
    subst e'
    exact ⟨hb, q⟩
theorem Inv.pinned {pins : List (Addr × Obj)}{σ : St}{H : Hp}{s : Shared}{fp : List Addr}(I : Inv X pins σ H s)(hf : ∀ b∈fp, jB X pins H b)(ho : ∀ b∈fp, ∃ o, s.heap.get? b=some o ∧ ∀ v, o.data ≠ .cell v) : Inv X (pins++gk fp s.heap) σ H s :=
  I.pins_of fun p hp => (yE.mp hp).elim (fun z => I.pin p (xl _ z)) fun z => by
    obtain ⟨hb, e⟩ := ke z
    obtain ⟨f0, f1, f2, _⟩ := hf p.1 hb
    obtain ⟨o, e', d⟩ := ho p.1 hb
    rw [e] at e';cases e'
    exact ⟨e, f0, f1, f2, d⟩
theorem Inv.unpinned {pins pl : List (Addr × Obj)}{σ : St}{H : Hp}{s : Shared}(I : Inv X (pins++pl) σ H s) : Inv X pins σ H s := I.pins_of fun p hp => I.pin p (xl _ (xW _ hp))
theorem bO {iter : Expr}{body : List Stmt}{wi : TI}{g : TG}{tb : TS}{pos : Pos}(hp : PassesOwn (model X.prog X.w) X.A X.env X.xe)(hc : X.calm=true)(hi : PI X tg iter wi)(hg : PG X tg g)(hb : PSs X body tb)
    (hs : ∀ x, foldedSetIterable iter X.env x=pure x := by intro _;rfl) : PS X (.For tg iter body [] pos) (wm wi g tb) := by
  intro pins s σ H D I h
  refine wpAny_For (thn (hi pins s σ H _ I h) fun v s1 h1 => thn h1 fun itv s2 h2 => ?_) hs
  obtain ⟨it, fp, tn, J, H2, e, I2, T, st2, f2, W, ⟨m0, w0⟩, turn⟩ := h2
  subst e
  -- what stays true of the iterator's objects through the loop
  have stat : ∀ {H' : Hp}, (∀ b∈fp, H' b=none) → ∀ b∈fp, jB X pins H' b := fun hn b hb => ⟨hn b hb, (f2 b hb).2⟩
  refine codeAny_forLoop_any (fun n s' => ∃ i σ' H', Inv X pins σ' H' s' ∧ tn i s'.heap ∧ (∀ b∈fp, H' b=none) ∧ W i n σ' H') ?_ m0 ⟨0, σ, H2, I2, st2, fun b hb => (f2 b hb).1, w0⟩
  rintro n s3 ⟨i, σ3, H3, I3, st3, fr3, w3⟩
  rcases turn i n σ3 H3 w3 with ⟨stop, qn⟩ | ⟨go, N, hN, step⟩
  · refine ze hp (thn (T.done X rfl rfl rfl hc i pins s3 σ3 H3 X.xe I3 (stat fr3) st3 stop) fun r s4 zq38 => ?_)
    obtain ⟨hr, I4⟩ := zq38
    subst hr
    exact zd ⟨σ3, H3, I4, qn⟩
  · refine ze hp (thn (T.item X rfl rfl rfl hc i pins s3 σ3 H3 X.xe I3 (stat fr3) st3 go) fun r s4 zq39 => ?_)
    obtain ⟨u, hr, h4⟩ := zq39
    subst hr
    refine ze hp (thn h4 fun _ s5 zq40 => ?_)
    obtain ⟨x, H5, I5, r5, y5, st5, fr5⟩ := zq40
    have I5' := I5.pinned (stat fr5) (T.obj _ _ st5)
    refine ze hp (thn (hg _ s5 σ3 H5 x u _ I5' r5 (step x H5 y5)) fun _ s6 zq41 => ?_)
    obtain ⟨σ6, H6, I6, q6⟩ := zq41
    refine ze hp (thn (hb _ s6 σ6 H6 _ I6 q6) fun f s7 q7 => ?_)
    have again : ∀ {σ7 : St} {H7 : Hp}, Inv X (pins++gk fp s5.heap) σ7 H7 s7 → N σ7 H7 → ∃ m, m < n ∧ ∃ i σ' H', Inv X pins σ' H' s7 ∧ tn i s7.heap ∧ (∀ b∈fp, H' b=none) ∧ W i m σ' H' := fun {σ7 H7} I7 n7 => by
      obtain ⟨m', hm, w7⟩ := hN σ7 H7 n7
      refine ⟨m', hm, i+1, σ7, H7, I7.unpinned, T.keep _ _ _ st5 fun b hb o e => (I7.pin (b, o) (xl _ (xl _ (cu hb e)))).1, fun b hb => ?_, w7⟩
      obtain ⟨o, e, d⟩ := T.obj _ _ st5 b hb
      exact (I7.pin (b, o) (xl _ (xl _ (cu hb e)))).2.1
    cases f with
    | next => obtain ⟨σ7, H7, I7, n7⟩ := q7;exact again I7 n7
    | cont => obtain ⟨σ7, H7, I7, n7⟩ := q7;exact again I7 n7
    | brk => obtain ⟨σ7, H7, I7, q7⟩ := q7;exact ⟨σ7, H7, I7.unpinned, q7⟩
    | ret v => obtain ⟨x7, σ7, H7, I7, r7, q7⟩ := q7;exact ⟨x7, σ7, H7, I7.unpinned, r7, q7⟩
end
theorem mS {K : PySem.W.Frag}{a : Addr}{xs : List V}{g : TG}{tb : TS}{D : dJ}{σ : St}{H : Hp}(Pv : Nat → St → Hp → Prop)(h0 : Pv 0 σ H)(hl : ∀ i σ H, i≤xs.length → Pv i σ H → SqL K H a xs)
    (hs : ∀ i x σ H, xs[i]? = some x → Pv i σ H → g x σ H fun σ2 H2 => tb { D with nx := Pv (i+1), ct := Pv (i+1), bk := D.nx } σ2 H2) (hd : ∀ σ H, Pv xs.length σ H → D.nx σ H) :
    ∃ W : Nat → Nat → St → Hp → Prop, (∃ m, W 0 m σ H) ∧ ∀ i m σ H, W i m σ H →
      ((Itl K a).stop i H ∧ D.nx σ H) ∨ ((Itl K a).go i H ∧ ∃ N : St → Hp → Prop, (∀ σ' H', N σ' H' → ∃ m', m' < m ∧ W (i+1) m' σ' H') ∧ ∀ x H', (Itl K a).yld i H x H' → g x σ H' fun σ2 H2 => tb { D with nx := N, ct := N, bk := D.nx } σ2 H2) := by
  refine ⟨fun i m σ H => m=xs.length - i ∧ i≤xs.length ∧ Pv i σ H, ⟨xs.length, by simp, xQ _, h0⟩, ?_⟩
  rintro i m σ H ⟨rfl, hi, p⟩
  have q := hl i σ H hi p
  by_cases hlt : i < xs.length
  · refine .inr ⟨⟨xs, xs[i], q, by simp [hlt]⟩, Pv (i+1), fun σ' H' p' => ⟨xs.length - (i+1), by omega, rfl, hlt, p'⟩, fun x H' y => ?_⟩
    obtain ⟨e, y⟩ := y
    subst e
    exact hs i x σ _ (y xs q) p
  · have e : i=xs.length := by omega
    subst e
    exact .inl ⟨⟨xs, q, wX _⟩, hd σ H p⟩
theorem cR {lo : Int}{n : Nat}{g : TG}{tb : TS}{D : dJ}{σ : St}{H : Hp}(Pv : Nat → St → Hp → Prop)(h0 : Pv 0 σ H)
    (hs : ∀ i σ H, i < n → Pv i σ H → g (.int (lo+i)) σ H fun σ2 H2 => tb { D with nx := Pv (i+1), ct := Pv (i+1), bk := D.nx } σ2 H2) (hd : ∀ σ H, Pv n σ H → D.nx σ H) :
    ∃ W : Nat → Nat → St → Hp → Prop, (∃ m, W 0 m σ H) ∧ ∀ i m σ H, W i m σ H →
      ((Itr lo n).stop i H ∧ D.nx σ H) ∨ ((Itr lo n).go i H ∧ ∃ N : St → Hp → Prop, (∀ σ' H', N σ' H' → ∃ m', m' < m ∧ W (i+1) m' σ' H') ∧ ∀ x H', (Itr lo n).yld i H x H' → g x σ H' fun σ2 H2 => tb { D with nx := N, ct := N, bk := D.nx } σ2 H2) := by
  refine ⟨fun i m σ H => m=n - i ∧ i≤n ∧ Pv i σ H, ⟨n, by simp, xQ _, h0⟩, ?_⟩
  rintro i m σ H ⟨rfl, hi, p⟩
  by_cases hlt : i < n
  · refine .inr ⟨hlt, Pv (i+1), fun σ' H' p' => ⟨n - (i+1), by omega, rfl, hlt, p'⟩, fun x H' y => ?_⟩
    obtain ⟨e, y⟩ := y
    subst e y
    exact hs i σ _ hlt p
  · have e : i=n := by omega
    subst e
    exact .inl ⟨wX _, hd σ H p⟩
abbrev R2 := V → V → Hp → VK → Prop
def OpR (X : Cx)(f : Value → Value → Sem Value)(r : R2) : Prop :=
  ∀ (pins : List (Addr × Obj)) (s : Shared) (σ : St) (H : Hp) (x y : V) (v u : Value) (Q : VK), Inv X pins σ H s → a7 x v → a7 y u → r x y H Q →
    wpAny (model X.prog X.w) X.A (f v u) (EP X pins σ Q) X.xe s
def UnR (X : Cx)(f : Value → Sem Value)(r : V → Hp → VK → Prop) : Prop :=
  ∀ (pins : List (Addr × Obj)) (s : Shared) (σ : St) (H : Hp) (x : V) (v : Value) (Q : VK), Inv X pins σ H s → a7 x v → r x H Q →
    wpAny (model X.prog X.w) X.A (f v) (EP X pins σ Q) X.xe s
def c_ (X : Cx)(f : Value)(r : List V → Hp → VK → Prop) : Prop :=
  ∀ (pins : List (Addr × Obj)) (s : Shared) (σ : St) (H : Hp) (xs : List V) (us : List Value) (Q : VK), Inv X pins σ H s → aR xs us → r xs H Q →
    wpAny (model X.prog X.w) X.A (call f us) (EP X pins σ Q) X.xe s
def wo (X : Cx)(r : V → Hp → (Bool → Hp → Prop) → Prop) : Prop :=
  ∀ (pins : List (Addr × Obj)) (s : Shared) (σ : St) (H : Hp) (x : V) (v : Value) (Q : Bool → Hp → Prop), Inv X pins σ H s → a7 x v → r x H Q →
    wpAny (model X.prog X.w) X.A (truthy v) (TP X pins σ Q) X.xe s
def rT (r : R2)(Q : VK)(x : V) : V → Hp → Prop := fun y H2 => r x y H2 Q
def rV (r : R2)(tb : TE)(σ : St)(Q : VK) : V → Hp → Prop := fun x H1 => tb σ H1 (rT r Q x)
def tOp (r : R2)(ta tb : TE) : TE := fun σ H Q => ta σ H (rV r tb σ Q)
def rW (r : V → Hp → VK → Prop)(Q : VK) : V → Hp → Prop := fun x H1 => r x H1 Q
def tUn (r : V → Hp → VK → Prop)(ta : TE) : TE := fun σ H Q => ta σ H (rW r Q)
inductive rI (C : Int → Int → Prop)(g : Int → Int → V)(x : V)(y : V)(H : Hp)(Q : VK) : Prop
  | mk : ∀ i j, (x = .int i) → (y = .int j) → (C i j) → (Q (g i j) H) → rI C g x y H Q
inductive rI0 (g : Int → Int → V)(x : V)(y : V)(H : Hp)(Q : VK) : Prop
  | mk : ∀ i j, (x = .int i) → (y = .int j) → (Q (g i j) H) → rI0 g x y H Q
inductive rU (g : Int → V)(x : V)(H : Hp)(Q : VK) : Prop
  | mk : ∀ i, (x = .int i) → (Q (g i) H) → rU g x H Q
section
variable {X : Cx} {a b c : Expr} {ta tb tc : TE} {pos : Pos}
theorem uE (ha : PE X a ta)(hb : PE X b tb){pins : List (Addr × Obj)}{s : Shared}{σ : St}{H : Hp}{R : V → V → Hp → Prop}(I : Inv X pins σ H s)
    (h : ta σ H fun x H1 => tb σ H1 fun y H2 => R x y H2) {Q : Value → Shared → Prop} {f : Value → Value → Sem Value}
    (hf : ∀ v u s2 x y H2, Inv X pins σ H2 s2 → a7 x v → a7 y u → R x y H2 → wpAny (model X.prog X.w) X.A (f v u) Q X.xe s2) :
    wpAny (model X.prog X.w) X.A (eval a X.env) (fun v s₁ => wpAny (model X.prog X.w) X.A (eval b X.env) (fun u s₂ => wpAny (model X.prog X.w) X.A (f v u) Q X.xe s₂) X.xe s₁) X.xe s := by
  refine thn (ha pins s σ H _ I h) fun v s1 zq42 => ?_
  obtain ⟨x, H1, I1, r1, q1⟩ := zq42
  refine thn (hb pins s1 σ H1 _ I1 q1) fun u s2 zq43 => ?_
  obtain ⟨y, H2, I2, r2, q2⟩ := zq43
  exact hf v u s2 x y H2 I2 r1 r2 q2
theorem aE {op : Operator}{r : R2}(ho : OpR X (binaryOp op) r)(ha : PE X a ta)(hb : PE X b tb) : PE X (.BinOp a op b pos) (tOp r ta tb) := by
  intro pins s σ H Q I h
  exact wpAny_BinOp (uE ha hb I h fun v u s2 x y H2 I2 rx ry q => ho pins s2 σ H2 x y v u Q I2 rx ry q)
theorem ip {op : UnaryOp}{r : V → Hp → VK → Prop}(ho : UnR X (unaryOp op) r)(ha : PE X a ta) : PE X (.UnaryOp op a pos) (tUn r ta) := by
  intro pins s σ H Q I h
  exact UnaryOp_ (thn (ha pins s σ H _ I h) fun v s1 zq44 => (by obtain ⟨x, H1, I1, r1, q1⟩ := zq44;exact ho pins s1 σ H1 x v Q I1 r1 q1))
theorem opI {f : Value → Value → Sem Value}{C : Int → Int → Prop}{g : Int → Int → Int}
    (rule : ∀ (i j : Int) (t u : Tok) (s : Shared) (Q : Value → Shared → Prop) (E : Value → Shared → Prop), C i j → Q (.int (g i j) s.toks) { s with toks := s.toks+1 } → wpAny (model X.prog X.w) X.A (f (.int i t) (.int j u)) Q E s) :
    OpR X f (rI C fun i j => .int (g i j)) := by
  intro pins s σ H x y v u Q I rx ry h
  obtain ⟨i, j, rfl, rfl, hc, q⟩ := h
  obtain ⟨t, rfl⟩ := rx
  obtain ⟨t', rfl⟩ := ry
  exact rule i j t t' s _ _ hc ⟨.int (g i j), H, I.tok _, ⟨_, rfl⟩, q⟩
theorem vx {f : Value → Value → Sem Value}{g : Int → Int → Int}
    (rule : ∀ (i j : Int) (t u : Tok) (s : Shared) (Q : Value → Shared → Prop) (E : Value → Shared → Prop), Q (.int (g i j) s.toks) { s with toks := s.toks+1 } → wpAny (model X.prog X.w) X.A (f (.int i t) (.int j u)) Q E s) :
    OpR X f (rI0 fun i j => .int (g i j)) := by
  intro pins s σ H x y v u Q I rx ry h
  obtain ⟨i, j, rfl, rfl, q⟩ := h
  obtain ⟨t, rfl⟩ := rx
  obtain ⟨t', rfl⟩ := ry
  exact rule i j t t' s _ _ ⟨.int (g i j), H, I.tok _, ⟨_, rfl⟩, q⟩
theorem uF {f : Value → Value → Sem Value}{g : Int → Int → Bool}
    (rule : ∀ (i j : Int) (t u : Tok) (s : Shared) (Q : Value → Shared → Prop) (E : Value → Shared → Prop), Q (.bool (g i j)) s → wpAny (model X.prog X.w) X.A (f (.int i t) (.int j u)) Q E s) :
    OpR X f (rI0 fun i j => .bl (g i j)) := by
  intro pins s σ H x y v u Q I rx ry h
  obtain ⟨i, j, rfl, rfl, q⟩ := h
  obtain ⟨t, rfl⟩ := rx
  obtain ⟨t', rfl⟩ := ry
  exact rule i j t t' s _ _ ⟨.bl (g i j), H, I, rfl, q⟩
def wq (i j : Int) : Prop := 0 < j ∧ j < 1073741824
def wu (i j : Int) : Prop := 0≤j ∧ j≤1000000 ∧ i.natAbs < 2 ^ 64
def uG (i j : Int) : Prop := (-(2 ^ 64) < i ∧ i < 2 ^ 64) ∨ (-(2 ^ 64) < j ∧ j < 2 ^ 64)
theorem uG.ok {i j : Int}(h : uG i j) : IntMulOk i j := by
  rcases h with ⟨h1, h2⟩ | ⟨h1, h2⟩
  · exact .of_left (intBits_le_64 h1 h2)
  · exact .of_right (intBits_le_64 h1 h2)
theorem bX : OpR X (binaryOp .Add) (rI0 fun i j => .int (i+j)) := vx fun _ _ _ _ _ _ _ q => add_int q
theorem kf : OpR X (binaryOp .Sub) (rI0 fun i j => .int (i - j)) := vx fun _ _ _ _ _ _ _ q => sub_int q
theorem e_ : OpR X (binaryOp .Mult) (rI uG fun i j => .int (i*j)) := opI fun _ _ _ _ _ _ _ hc q => mul_int q hc.ok
theorem b_ : OpR X (binaryOp .FloorDiv) (rI wq fun i j => .int (i / j)) := opI fun i j _ _ _ _ _ hc q => by
  have h1 : (0 : Int) < j := hc.1
  have h2 : j < 1073741824 := hc.2
  exact floordiv_int (by omega) (by rw [Int.fdiv_eq_ediv_of_nonneg i (by omega)];exact q) (.inl (PyProof.noPylong_small (by omega)))
theorem cA : OpR X (binaryOp .Mod) (rI (fun _ j => 0 < j) fun i j => .int (i % j)) := opI fun i j _ _ _ _ _ hc q => by
  have h1 : (0 : Int) < j := hc
  exact mod_int' (by omega) (by rw [Int.fmod_eq_emod_of_nonneg i (by omega)];exact q)
theorem kg : OpR X (binaryOp .Pow) (rI wu fun i j => .int (i ^ j.toNat)) := opI fun _ _ _ _ _ _ _ hc q => pow_int_small hc.1 hc.2.1 hc.2.2 q
theorem unI {f : Value → Sem Value}{g : Int → Int}
    (rule : ∀ (i : Int) (t : Tok) (s : Shared) (Q : Value → Shared → Prop) (E : Value → Shared → Prop), Q (.int (g i) s.toks) { s with toks := s.toks+1 } → wpAny (model X.prog X.w) X.A (f (.int i t)) Q E s) :
    UnR X f (rU fun i => .int (g i)) := by
  intro pins s σ H x v Q I rx h
  obtain ⟨i, rfl, q⟩ := h
  obtain ⟨t, rfl⟩ := rx
  exact rule i t s _ _ ⟨.int (g i), H, I.tok _, ⟨_, rfl⟩, q⟩
theorem d6 : UnR X (unaryOp .USub) (rU fun i => .int (-i)) := unI fun _ _ _ _ _ q => neg_int q
end
def vz : V → V → Bool
  | .non, .non => true | .non, .int _ => true | .int _, .non => true | .non, .bl _ => true | .bl _, .non => true | .non, .str _ => true | .str _, .non => true
  | .int _, .int _ => true | .bl _, .bl _ => true | .str _, .str _ => true | .byt _, .byt _ => true
  | .int _, .str _ => true | .str _, .int _ => true | .bl _, .str _ => true | .str _, .bl _ => true
  | _, _ => false
def rEq : R2 := fun x y H Q => vz x y=true ∧ Q (.bl (decide (x=y))) H
def rNe : R2 := fun x y H Q => vz x y=true ∧ Q (.bl (!decide (x=y))) H
theorem kh {i j : Int} : decide (V.int i=V.int j)=(i == j) := by
  rw [zf]
  simp
theorem oI {i j : Bool} : decide (V.bl i=V.bl j)=(i == j) := by
  rw [zf]
  simp
theorem ki {i j : Str} : decide (V.str i=V.str j)=(i == j) := by
  rw [zf]
  simp
theorem kj {i j : Array UInt8} : decide (V.byt i=V.byt j)=(i.toList == j.toList) := by
  rw [zf]
  cases i
  cases j
  simp
section
variable {X : Cx} {a b c : Expr} {ta tb tc : TE} {pos : Pos}
theorem aL {pins : List (Addr × Obj)}{σ : St}{H : Hp}{s : Shared}{Q : VK}{k k' : Bool}(I : Inv X pins σ H s)(q : Q (.bl k) H)(e : k=k') : EP X pins σ Q (.bool k') s := by
  subst e
  exact ⟨.bl k, H, I, rfl, q⟩
theorem d7 : OpR X (compareOp .Eq) rEq := by
  intro pins s σ H x y v u Q I rx ry h
  obtain ⟨hs, q⟩ := h
  cases x with
  | non =>
    cases rx
    cases y with
    | non => cases ry;exact PySem.EqNone.eq_none_none (aL I q (by simp))
    | bl j => cases ry;exact PySem.EqNone.eq_none_bool (aL I q (by simp))
    | int j => obtain ⟨t', rfl⟩ := ry;exact PySem.EqNone.eq_none_int (aL I q (by simp))
    | str j => obtain ⟨t', rfl⟩ := ry;exact PySem.EqNone.eq_none_str (aL I q (by simp))
    | _ => exact absurd (show false=true from hs) xg
  | bl i =>
    cases rx
    cases y with
    | non => cases ry;exact PySem.EqNone.eq_bool_none (aL I q (by simp))
    | bl j => cases ry;exact eq_bool (aL I q oI)
    | str j => obtain ⟨t', rfl⟩ := ry;exact PySem.EqMixed.eq_bool_str (aL I q (by simp))
    | _ => exact absurd (show false=true from hs) xg
  | int i =>
    obtain ⟨t, rfl⟩ := rx
    cases y with
    | non => cases ry;exact PySem.EqNone.eq_int_none (aL I q (by simp))
    | int j => obtain ⟨t', rfl⟩ := ry;exact eq_int (aL I q kh)
    | str j => obtain ⟨t', rfl⟩ := ry;exact PySem.EqMixed.eq_int_str (aL I q (by simp))
    | _ => exact absurd (show false=true from hs) xg
  | str i =>
    obtain ⟨t, rfl⟩ := rx
    cases y with
    | non => cases ry;exact PySem.EqNone.eq_str_none (aL I q (by simp))
    | bl j => cases ry;exact PySem.EqMixed.eq_str_bool (aL I q (by simp))
    | int j => obtain ⟨t', rfl⟩ := ry;exact PySem.EqMixed.eq_str_int (aL I q (by simp))
    | str j => obtain ⟨t', rfl⟩ := ry;exact eq_str (aL I q ki)
    | _ => exact absurd (show false=true from hs) xg
  | byt i =>
    obtain ⟨t, rfl⟩ := rx
    cases y with
    | byt j => obtain ⟨t', rfl⟩ := ry;exact PySem.W.eq_bytes (aL I q kj)
    | _ => exact absurd (show false=true from hs) xg
  | _ => cases y <;> exact absurd (show false=true from hs) xg
theorem jE : OpR X (compareOp .NotEq) rNe := by
  intro pins s σ H x y v u Q I rx ry h
  obtain ⟨hs, q⟩ := h
  cases x with
  | non =>
    cases rx
    cases y with
    | non => cases ry;exact PySem.EqNone.ne_none_none (aL I q (by simp))
    | bl j => cases ry;exact PySem.EqNone.ne_none_bool (aL I q (by simp))
    | int j => obtain ⟨t', rfl⟩ := ry;exact PySem.EqNone.ne_none_int (aL I q (by simp))
    | str j => obtain ⟨t', rfl⟩ := ry;exact PySem.EqNone.ne_none_str (aL I q (by simp))
    | _ => exact absurd (show false=true from hs) xg
  | bl i =>
    cases rx
    cases y with
    | non => cases ry;exact PySem.EqNone.ne_bool_none (aL I q (by simp))
    | bl j => cases ry;exact ne_bool (aL I q (xH not oI))
    | str j => obtain ⟨t', rfl⟩ := ry;exact PySem.EqMixed.ne_bool_str (aL I q (by simp))
    | _ => exact absurd (show false=true from hs) xg
  | int i =>
    obtain ⟨t, rfl⟩ := rx
    cases y with
    | non => cases ry;exact PySem.EqNone.ne_int_none (aL I q (by simp))
    | int j => obtain ⟨t', rfl⟩ := ry;exact ne_int (aL I q (xH not kh))
    | str j => obtain ⟨t', rfl⟩ := ry;exact PySem.EqMixed.ne_int_str (aL I q (by simp))
    | _ => exact absurd (show false=true from hs) xg
  | str i =>
    obtain ⟨t, rfl⟩ := rx
    cases y with
    | non => cases ry;exact PySem.EqNone.ne_str_none (aL I q (by simp))
    | bl j => cases ry;exact PySem.EqMixed.ne_str_bool (aL I q (by simp))
    | int j => obtain ⟨t', rfl⟩ := ry;exact PySem.EqMixed.ne_str_int (aL I q (by simp))
    | str j => obtain ⟨t', rfl⟩ := ry;exact ne_str (aL I q (xH not ki))
    | _ => exact absurd (show false=true from hs) xg
  | byt i =>
    obtain ⟨t, rfl⟩ := rx
    cases y with
    | byt j => obtain ⟨t', rfl⟩ := ry;exact PySem.W.ne_bytes (aL I q (xH not kj))
    | _ => exact absurd (show false=true from hs) xg
  | _ => cases y <;> exact absurd (show false=true from hs) xg
theorem pF : OpR X (compareOp .Lt) (rI0 fun i j => .bl (decide (i < j))) := uF fun _ _ _ _ _ _ _ q => lt_int q
theorem rX : OpR X (compareOp .LtE) (rI0 fun i j => .bl (decide (i≤j))) := uF fun _ _ _ _ _ _ _ q => le_int q
theorem rY : OpR X (compareOp .Gt) (rI0 fun i j => .bl (decide (j < i))) := uF fun _ _ _ _ _ _ _ q => gt_int q
inductive d8  (x : V)(y : V)(H : Hp)(Q : VK) : Prop
  | mk : ∀ i j, (x = .str i) → (y = .str j) → (Q (.bl (!(Builtin.Str.occurrences j i 0 j.length 1).isEmpty)) H) → d8 x y H Q
theorem d9 : OpR X (compareOp .In) d8 := by
  intro pins s σ H x y v u Q I rx ry h
  obtain ⟨i, j, rfl, rfl, q⟩ := h
  obtain ⟨t, rfl⟩ := rx
  obtain ⟨t', rfl⟩ := ry
  exact in_str (aL I q rfl)
theorem oJ : OpR X (compareOp .Is) (fun x y H Q => y = .non ∧ Q (.bl (decide (x = .non))) H) := by
  intro pins s σ H x y v u Q I rx ry h
  obtain ⟨rfl, q⟩ := h
  cases ry
  refine is_none_gen (aL I q ?_)
  cases x <;> first
    | (cases rx;rfl)
    | (obtain ⟨t, rfl⟩ := rx;rfl)
theorem pG : OpR X (compareOp .IsNot) (fun x y H Q => y = .non ∧ Q (.bl (!decide (x = .non))) H) := by
  intro pins s σ H x y v u Q I rx ry h
  obtain ⟨rfl, q⟩ := h
  cases ry
  refine isnot_none_gen (aL I q ?_)
  cases x <;> first
    | (cases rx;rfl)
    | (obtain ⟨t, rfl⟩ := rx;rfl)
theorem aT (b : Expr){op : CmpOp}(h : op ≠ .In := by decide)(h2 : op ≠ .NotIn := by decide) : behindInMarks op b=false := by
  have e1 : (op == CmpOp.In)=false := by cases op <;> first | rfl | exact absurd rfl h
  have e2 : (op == CmpOp.NotIn)=false := by cases op <;> first | rfl | exact absurd rfl h2
  cases b <;> simp [behindInMarks, e1, e2]
theorem cI {op : CmpOp}{r : R2}(ho : OpR X (compareOp op) r)(ha : PE X a ta)(hb : PE X b tb)(hm : behindInMarks op b=false) : PE X (.Compare a [op] [b] pos) (tOp r ta tb) := by
  intro pins s σ H Q I h
  exact wpAny_Compare1 (uE ha hb I h fun v u s2 x y H2 I2 rx ry q => ho pins s2 σ H2 x y v u Q I2 rx ry q) hm
def mT (Q : (Bool → Hp → Prop)) : V → Hp → Prop := fun x H' => IsB x H' Q
def pH (t : TE) : TT := fun σ H Q => t σ H (mT Q)
theorem aM {op : CmpOp}{r : R2}(ho : OpR X (compareOp op) r)(ha : PE X a ta)(hb : PE X b tb)(hm : behindInMarks op b=false) : PT X (.Compare a [op] [b] pos) (pH (tOp r ta tb)) := by
  intro pins s σ H Q I h
  refine wpAny_isTrue_Compare1 (thn (ha pins s σ H _ I h) fun v s1 ⟨x, H1, I1, r1, q1⟩ => thn (hb pins s1 σ H1 _ I1 q1) fun u s2 ⟨y, H2, I2, r2, q2⟩ =>
    thn (ho pins s2 σ H2 x y v u _ I2 r1 r2 q2) fun c s3 ⟨z, H3, I3, r3, k, e, q3⟩ => ?_) hm
  subst e
  cases r3
  exact yn ⟨H3, I3, q3⟩
def oK (r r' : R2)(ta tb tc : TE) : TE := fun σ H Q => ta σ H fun x H1 => tb σ H1 fun y H2 => r x y H2 fun z H3 => ∃ k, z = .bl k ∧
  (if k=true then tc σ H3 fun w' H4 => r' y w' H4 Q else Q (.bl false) H3)
theorem mU {op op' : CmpOp}{r r' : R2}(ho : OpR X (compareOp op) r)(ho' : OpR X (compareOp op') r')(ha : PE X a ta)(hb : PE X b tb)(hc : PE X c tc)
    (hm : lastMarks [op, op'] [b, c]=false := by with_unfolding_all rfl) : PE X (.Compare a [op, op'] [b, c] pos) (oK r r' ta tb tc) := by
  intro pins s σ H Q I h
  refine Compare_chain (thn (ha pins s σ H _ I h) fun v s1 ⟨x, H1, I1, r1, q1⟩ => chain_link (thn (hb pins s1 σ H1 _ I1 q1) fun u s2 ⟨y, H2, I2, r2, q2⟩ =>
    thn (ho pins s2 σ H2 x y v u _ I2 r1 r2 q2) fun d s3 ⟨z, H3, I3, r3, k, e, q3⟩ => ?_)) hm
  subst e
  cases r3
  refine yn ?_
  cases k with
  | false => exact ite_ff ⟨.bl false, H3, I3, rfl, q3⟩
  | true => exact ite_tt (chain_last (thn (hc pins s3 σ H3 _ I3 q3) fun w' s4 zq45 => (by obtain ⟨z', H4, I4, r4, q4⟩ := zq45;exact ho' pins s4 σ H4 y z' u w' Q I4 r2 r4 q4)))
theorem mV {op op' : CmpOp}{r r' : R2}(ho : OpR X (compareOp op) r)(ho' : OpR X (compareOp op') r')(ha : PE X a ta)(hb : PE X b tb)(hc : PE X c tc)
    (hm : lastMarks [op, op'] [b, c]=false := by with_unfolding_all rfl) : PT X (.Compare a [op, op'] [b, c] pos) (pH (oK r r' ta tb tc)) := by
  intro pins s σ H Q I h
  refine isTrue_chain (thn (ha pins s σ H _ I h) fun v s1 ⟨x, H1, I1, r1, q1⟩ => test_link (thn (hb pins s1 σ H1 _ I1 q1) fun u s2 ⟨y, H2, I2, r2, q2⟩ =>
    thn (ho pins s2 σ H2 x y v u _ I2 r1 r2 q2) fun d s3 ⟨z, H3, I3, r3, k, e, q3⟩ => ?_)) hm
  subst e
  cases r3
  refine yn ?_
  cases k with
  | false =>
    obtain ⟨k', e', q'⟩ := q3
    cases e'
    exact ite_ff ⟨H3, I3, q'⟩
  | true =>
    refine ite_tt (test_last (thn (hc pins s3 σ H3 _ I3 q3) fun w' s4 ⟨z', H4, I4, r4, q4⟩ => thn (ho' pins s4 σ H4 y z' u w' _ I4 r2 r4 q4) fun d' s5 zq46 => ?_))
    obtain ⟨z2, H5, I5, r5, k2, e2, q5⟩ := zq46
    subst e2
    cases r5
    exact yn ⟨H5, I5, q5⟩
def wx (K : PySem.W.Frag)(x : V)(H : Hp)(k : Bool) : Prop :=
  match x with
  | .non => k=false
  | .bl b => k=b
  | .int i => k=(i != 0)
  | .str y => y.length≤sizeLine ∧ k=((y.length : Int) != 0)
  | .byt y => y.size≤sizeLine ∧ k=((y.size : Int) != 0)
  | .ref p => (∃ xs, SqL K H p xs ∧ k=!xs.isEmpty) ∨ (∃ xs, SqT K H p xs ∧ k=!xs.isEmpty) ∨ ∃ kvs, H p=some (.dK kvs) ∧ k=!kvs.isEmpty
  | _ => False
theorem jF {κ : Type}{kvs : List (κ × V)}{vs : List (κ × Value)}(r : KV kvs vs) : (!vs.isEmpty)=!kvs.isEmpty := by
  cases r <;> rfl
theorem fc {xs : List V}{its : List Value}(r : aR xs its) : (!its.toArray.isEmpty)=!xs.isEmpty := by
  cases r <;> simp
theorem cB : (sizeLine : Nat) < 2 ^ 63 := by rw [yy]; decide
inductive pI (K : PySem.W.Frag)(x : V)(H : Hp)(Q : Bool → Hp → Prop) : Prop
  | mk : ∀ k, (wx K x H k) → (Q k H) → pI K x H Q
theorem oM : wo X (pI X.K) := by
  intro pins s σ H x v Q I rx h
  obtain ⟨k, e, q⟩ := h
  have hl := cB
  have hs : sizeLine=16777216 := yy
  cases x with
  | non =>
    cases rx
    have e' : k=false := e
    subst e'
    exact truthy_none ⟨H, I, q⟩
  | bl b =>
    cases rx
    have e' : k=b := e
    subst e'
    exact yn ⟨H, I, q⟩
  | int i =>
    obtain ⟨t, rfl⟩ := rx
    have e' : k=(i != 0) := e
    subst e'
    exact PySem.P.truthy_int ⟨H, I, q⟩
  | str y =>
    obtain ⟨t, rfl⟩ := rx
    obtain ⟨hy, e'⟩ : y.length≤sizeLine ∧ k=((y.length : Int) != 0) := e
    subst e'
    exact PySem.P.truthy_str (by omega) ⟨H, I.tok _, q⟩
  | byt y =>
    obtain ⟨t, rfl⟩ := rx
    obtain ⟨hy, e'⟩ : y.size≤sizeLine ∧ k=((y.size : Int) != 0) := e
    subst e'
    exact PySem.W.truthy_bytes (by omega) ⟨H, I.tok _, q⟩
  | ref p =>
    cases rx
    have e' : (∃ xs, SqL X.K H p xs ∧ k=!xs.isEmpty) ∨ (∃ xs, SqT X.K H p xs ∧ k=!xs.isEmpty) ∨ ∃ kvs, H p=some (.dK kvs) ∧ k=!kvs.isEmpty := e
    rcases e' with ⟨xs, hx, e'⟩ | ⟨xs, hx, e'⟩ | ⟨kvs, hx, e'⟩
    · subst e'
      obtain ⟨its, r, pl, hz⟩ := I.list hx
      have hlen := r.length
      exact wpAny_truthy_list pl.isList (by simp only [w5];omega) ⟨H, I.tok _, by rw [fc r];exact q⟩
    · subst e'
      obtain ⟨its, r, pl, hz⟩ := I.tuple hx
      have hlen := r.length
      exact truthy_tuple pl (by simp only [w5];omega) ⟨H, I.tok _, by rw [fc r];exact q⟩
    · subst e'
      obtain ⟨hz, hS, vs, r, m⟩ : kvs.length≤sizeLine ∧ (p == sysModules)=false ∧ ∃ vs, KV kvs vs ∧ s.heap.DictOf (a_ X.prog X.w) p vs := I.hok p _ hx
      have hlen : kvs.length=vs.length := Ar r
      exact wpAny_truthy_dict hS m (by omega) ⟨H, I.tok _, by rw [jF r];exact q⟩
  | _ => exact (show False from e).elim
def pJ (K : PySem.W.Frag)(Q : (Bool → Hp → Prop)) : V → Hp → Prop := fun x H' => pI K x H' Q
def wy (K : PySem.W.Frag)(ta : TE) : TT := fun σ H Q => ta σ H (pJ K Q)
theorem cS (ha : PE X a ta)(he : ∀ whole, isTrue a X.env whole=(do let v ← whole; standAt a.pos; holding [v] (truthy v))) :
    PT X a (wy X.K ta) := by
  intro pins s σ H Q I h
  exact isTrue_plain (thn (ha pins s σ H _ I h) fun v s1 zq47 => (by obtain ⟨x, H1, I1, r1, q1⟩ := zq47;exact oM pins s1 σ H1 x v Q I1 r1 q1)) (he _)
inductive dA  (x : V)(y : V)(H : Hp)(Q : VK) : Prop
  | mk : ∀ i j, (x = .str i) → (y = .str j) → (i.length+j.length≤sizeLine) → (Q (.str (i++j)) H) → dA x y H Q
theorem aK : OpR X (binaryOp .Add) dA := by
  intro pins s σ H x y v u Q I rx ry h
  obtain ⟨i, j, rfl, rfl, hz, q⟩ := h
  obtain ⟨t, rfl⟩ := rx
  obtain ⟨t', rfl⟩ := ry
  exact add_str (fun t' tk => ⟨.str (i++j), H, I.tok _, ⟨_, rfl⟩, q⟩) hz
theorem cb {x : V}{us : List Value}(r : aR [x] us) : ∃ u, us=[u] ∧ a7 x u := by
  cases r with
  | cons r1 r2 => cases r2;exact ⟨_, rfl, r1⟩
theorem pK {x y : V}{us : List Value}(r : aR [x, y] us) : ∃ u w', us=[u, w'] ∧ a7 x u ∧ a7 y w' := by
  cases r with
  | cons r1 r2 =>
    cases r2 with
    | cons r3 r4 => cases r4;exact ⟨_, _, rfl, r1, r3⟩
theorem d_ : c_ X (.type "int") (fun xs H Q => (∃ i, xs=[.int i] ∧ Q (.int i) H) ∨ ∃ k, xs=[.bl k] ∧ Q (.int (if k then 1 else 0)) H) := by
  intro pins s σ H xs us Q I r h
  rcases h with ⟨i, rfl, q⟩ | ⟨k, rfl, q⟩
  · obtain ⟨u, rfl, t, rfl⟩ := cb r
    exact call_int_int ⟨.int i, H, I, ⟨_, rfl⟩, q⟩
  · obtain ⟨u, rfl, r1⟩ := cb r
    cases r1
    exact call_int_bool ⟨.int (if k then 1 else 0), H, I.tok _, ⟨_, rfl⟩, q⟩
end
theorem kl {h : Heap}{dx : Addr}{mA : Str → Option Value}(n : h.Ns1 dx mA) : ∃ od, h.get? dx=some od ∧ ∀ name, PySem.W.lookIn name od=some (mA name) := by
  obtain ⟨o, es, ep, ho, hd, hk, _, hm⟩ := n
  refine ⟨o, ho, fun name => ?_⟩
  have e := hm name
  unfold nsFind findBy at e
  rw [← Array.find?_toList] at e
  unfold PySem.W.lookIn
  rw [hd]
  dsimp only
  split
  · rename_i y q
    rw [q] at e
    exact xH some e
  · rename_i q
    rw [q] at e
    have a : es.toList.any (·.refKey)=false := by
      rw [List.any_eq_false]
      intro y hy
      obtain ⟨z, t, hkey⟩ := hk y (Array.mem_toList_iff.mp hy)
      simp [DictEntry.refKey, hkey]
    have a' : ¬ es.toList.any (·.refKey)=true := by rw [a];exact xg
    rw [if_neg a']
    exact xH some e
section
variable {prog : Program} {w : World} {A : Around} {E : Value → Shared → Prop} {s : Shared} {K : PySem.W.Frag} {x dx C f : Addr} {mA : Str → Option Value} {name : Str} {v : Value}
end
def vA (f : Str)(v : V) : List (Str × V) → List (Str × V)
  | [] => [(f, v)]
  | (g, x)::r => if g=f then (g, v)::r else (g, x)::vA f v r
theorem i5.some_of {v : V}{o : Option Value}(r : i5 (some v) o) : ∃ u, o=some u ∧ a7 v u := by
  cases o with
  | none => exact (show False from r).elim
  | some u => exact ⟨u, rfl, r⟩
theorem km {v : V}{u : Value}(r : a7 v u) : PySem.W.handedIn u=true := by
  cases v with
  | non => cases (show u=Value.none from r);rfl
  | bl b => cases (show u=Value.bool b from r);rfl
  | int i => obtain ⟨t, e⟩ := (show ∃ t, u=Value.int i t from r);cases e;rfl
  | str x => obtain ⟨t, e⟩ := (show ∃ t, u=Value.str x t from r);cases e;rfl
  | byt b => obtain ⟨t, e⟩ := (show ∃ t, u=Value.bytes b t from r);cases e;rfl
  | flt b => obtain ⟨t, e⟩ := (show ∃ t, u=Value.float b t from r);cases e;rfl
  | ref a => cases (show u=Value.ref a from r);rfl
  | ty n => cases (show u=Value.type n from r);rfl
section
variable {P : Program} {w : World} {H H' : Hp} {h h' : Heap} {a C dx : Addr} {fs fs' : List (Str × V)}
end
section
variable {X : Cx} {pins : List (Addr × Obj)} {σ : St} {H : Hp} {s : Shared} {a C dx : Addr} {fs : List (Str × V)} {f : Str} {v : V} {A : Around} {E : Value → Shared → Prop}
theorem pL {prog : Program}{w : World}{env : Env}{e : Expr}{f : Str}{pos : Pos}{s : Shared}{Q : Value → Shared → Prop}(hb : attributeBase e f env (eval e env)=eval e env)
    (h : wpAny (model prog w) A (eval e env) (fun o s₁ => wpAny (model prog w) A (getAttr o f true) Q E s₁) E s) : wpAny (model prog w) A (eval (.Attribute e f pos) env) Q E s :=
  Attribute_any_ h (by rw [arm_eval_Attribute, hb])
end
section
variable {X : Cx} {o e value : Expr} {f : Str} {pos pos' tpos : Pos} {ta tv : TE}
end
section
variable {X : Cx} {pins : List (Addr × Obj)} {σ : St} {H : Hp} {s : Shared} {A : Around} {E : Value → Shared → Prop} {Q : Value → Shared → Prop} {c : Value} {b : Bool}
end
structure b0 (k : Nat) (A : Around) : Prop where
  hd : A.handled=none
  dp : A.depth+3*k+5 < recursionLimit
  un : A.units+16*k+200 < cLine
  gd : A.guards=some []
theorem b0.mono {j k : Nat}{A : Around}(r : b0 k A)(h : j≤k) : b0 j A := ⟨r.hd, by have := r.dp; omega, by have := r.un; omega, r.gd⟩
theorem b0.deeper {k : Nat}{A : Around}(r : b0 (k+1) A)(env : Env) : b0 k (A.deeper env) :=
  ⟨r.hd, by have := r.dp;show A.depth+1+3*k+5 < _;omega, by have := r.un;show A.units+3+16*k+200 < _;omega, r.gd⟩
theorem jG {A : Around}{C : Addr}{us : List Value}{kw : List (Str × Value)} : (A.under (.builtin "type.__call__" ⟨.ref C::us, kw⟩)).depth=A.depth+1 := by
  first | rfl | simp [Around.under, Code.weight, Code.isCreation, Code.isGuard, Code.isCaller, Code.frames, Code.isFrame, guardIds]
theorem jH {A : Around}{C : Addr}{us : List Value}{kw : List (Str × Value)} : (A.under (.builtin "type.__call__" ⟨.ref C::us, kw⟩)).units=A.units+1 := by
  first | rfl | simp [Around.under, Code.cUnits, Code.frames, Code.isFrame]
theorem b0.make {k : Nat}{A : Around}(r : b0 (k+1) A)(C : Addr)(us : List Value)(kw : List (Str × Value)) : b0 k (A.under (.builtin "type.__call__" ⟨.ref C::us, kw⟩)) :=
  ⟨r.hd, by have := r.dp;rw [jG];omega, by have := r.un;rw [jH];omega, by have g := r.gd;simpa [Around.under, Code.guards, pushGuards, Code.isGuard, guardIds] using g⟩
theorem b0.depth {k : Nat}{A : Around}(r : b0 k A) : A.depth < recursionLimit := by have := r.dp; omega
theorem b0.units {k : Nat}{A : Around}(r : b0 k A) : A.units+64 < cLine := by have := r.un; omega
def vB : TA := fun _ H Q => Q [] H
def mW (Q : (List V → Hp → Prop))(x : V) : List V → Hp → Prop := fun xs H2 => Q (x::xs) H2
def mX (tr : TA)(σ : St)(Q : (List V → Hp → Prop)) : V → Hp → Prop := fun x H1 => tr σ H1 (mW Q x)
def mY (ta : TE)(tr : TA) : TA := fun σ H Q => ta σ H (mX tr σ Q)
section
variable {X : Cx} {e : Expr} {es : List Expr} {te : TE} {t : TA} {pos : Pos}
theorem ah : PA X [] vB := fun _ _ _ _ H Q I h => y1 ⟨[], H, I, .nil, h⟩
theorem aa (ha : PE X e te)(hr : PA X es t)(hs : starEach (e::es) X.env=(false, eval e X.env)::starEach es X.env := by rfl) : PA X (e::es) (mY te t) := by
  intro pos pins s σ H Q I h
  rw [hs]
  show wpAny _ _ (spliced ((false, eval e X.env)::backTo pos (starEach es X.env))) _ _ s
  refine ye (thn (ha pins s σ H _ I h) fun u s1 zq54 => ?_)
  obtain ⟨x, H1, I1, r1, q1⟩ := zq54
  exact thn (hr pos pins s1 σ H1 _ I1 q1) fun us s2 zq55 => (by obtain ⟨xs, H2, I2, r2, q2⟩ := zq55;exact ⟨x::xs, H2, I2, .cons r1 r2, q2⟩)
def pM (Q : VK) : List V → Hp → Prop := fun xs H1 => xs.length≤sizeLine ∧ ∀ p, H1 p=none → Q (.ref p) (upd H1 p (.tup xs))
def vC (t : TA) : TE := fun σ H Q => t σ H (pM Q)
def pN (Q : VK) : List V → Hp → Prop := fun xs H1 => xs.length≤sizeLine ∧ ∀ p, H1 p=none → Q (.ref p) (upd H1 p (.lst xs))
def wz (t : TA) : TE := fun σ H Q => t σ H (pN Q)
theorem bt {x1}(h : PA X es t) : PE X (.Tuple es x1 pos) (vC t) := by
  intro pins s σ H Q I hq
  refine wpAny_Tuple_spliced (thn (h pos pins s σ H _ I hq) fun us s1 ⟨xs, H1, I1, r, z, q⟩ => ⟨by rw [← r.length];exact z, ?_⟩)
  have hf : H1 s1.heap.objs.size=none := I1.hok.fresh (wX _)
  refine ⟨.ref s1.heap.objs.size, upd H1 s1.heap.objs.size (.tup xs), I1.laid (t' := s1.toks) (fun b u e => wU _ e) (wX _) ?_, rfl, q _ hf⟩
  exact ⟨z, us, r, ⟨_, w6 _ rfl, rfl, _, rfl⟩, .new _ _ rfl⟩
theorem bI (h : PA X es t) : PE X (.List es pos) (wz t) := by
  intro pins s σ H Q I hq
  refine wpAny_List_spliced (thn (h pos pins s σ H _ I hq) fun us s1 ⟨xs, H1, I1, r, z, q⟩ => ⟨by rw [← r.length];exact z, ?_⟩)
  have hf : H1 s1.heap.objs.size=none := I1.hok.fresh (wX _)
  refine ⟨.ref s1.heap.objs.size, upd H1 s1.heap.objs.size (.lst xs), I1.laid (t' := s1.toks) (fun b u e => wU _ e) (wX _) ?_, rfl, q _ hf⟩
  exact ⟨z, us, 0, r, w6 _ rfl⟩
end
abbrev Sp := List V → Hp → VK → XK → Prop
abbrev CXT := List Env → Hp → Shared → XK → Value → Shared → Prop
structure kn (P : Program) (w : World) (K : PySem.W.Frag) (mg : Str → Option Value) (base : Heap) (A : Around) (outer : List Env) (s : Shared) (H : Hp) : Prop where
  frames : A.frames=some outer
  mod : Mod K mg base
  bs : ∀ b o, base.get? b=some o → s.heap.get? b=some o ∧ H b=none
  bsz : base.objs.size≤s.heap.objs.size
  funs : s.heap.FunFrames base outer
  frf : ∀ b∈frs outer, H b=none
  hok : HOk P w H s.heap
  bare : AllBare s.gens
def CE (outer : List Env)(P : Program)(w : World)(H : Hp)(s : Shared)(Q : VK)(u : Value)(s' : Shared) : Prop :=
  ∃ v H', s'.os=s.os ∧ AllBare s'.gens ∧ Un (frs outer) [] H H' s.heap s'.heap ∧ HOk P w H' s'.heap ∧ a7 v u ∧ Q v H'
def CR (CX : CXT)(outer : List Env)(P : Program)(w : World)(H : Hp)(s : Shared)(Q : VK)(E : XK)(r : Result)(s' : Shared) : Prop :=
  match r with
  | .ok (.ret u) => CE outer P w H s Q u s'
  | .ok _ => False
  | .error e => CX outer H s E e s'
structure gm (P : Program) (w : World) (K : PySem.W.Frag) (mg : Str → Option Value) (base : Heap) (CX : CXT) (k : Nat) (f : Addr) (fd : FuncData) (ps : List Str) (sp : Sp) : Prop where
  len : ∀ vs H Q E, sp vs H Q E → vs.length=ps.length
  run : ∀ (A : Around) (outer : List Env) (s : Shared) (H : Hp) (args : Args) (us : List Value) (vs : List V) (Q : VK) (E : XK), b0 k A → kn P w K mg base A outer s H → BindsTo s fd args (ps.zip us) → aR vs us → sp vs H Q E →
    codeAny (model P w) A (.call (.ref f) args) (CR CX outer P w H s Q E) s
theorem gm.imp {P : Program}{w : World}{K : PySem.W.Frag}{mg : Str → Option Value}{base : Heap}{CX : CXT}{k : Nat}{f : Addr}{fd : FuncData}{ps : List Str}{sp sp' : Sp}(F : gm P w K mg base CX k f fd ps sp)
    (h : ∀ vs H Q E, sp' vs H Q E → sp vs H Q E) : gm P w K mg base CX k f fd ps sp' :=
  ⟨fun vs H Q E q => F.len vs H Q E (h _ _ _ _ q), fun A outer s H args us vs Q E hr he hb hv hs => F.run A outer s H args us vs Q E hr he hb hv (h _ _ _ _ hs)⟩
theorem kn.make {P : Program}{w : World}{K : PySem.W.Frag}{mg : Str → Option Value}{base : Heap}{A : Around}{outer : List Env}{s : Shared}{H : Hp}(e : kn P w K mg base A outer s H)(C : Addr)(us : List Value)(kw : List (Str × Value)) :
    kn P w K mg base (A.under (.builtin "type.__call__" ⟨.ref C::us, kw⟩)) outer s H := ⟨by first | exact e.frames | (simpa [Around.under, Code.envs, Code.isFrame, pushEnvs] using e.frames), e.mod, e.bs, e.bsz, e.funs, e.frf, e.hok, e.bare⟩
section
variable {X : Cx} {pins : List (Addr × Obj)} {σ : St} {H : Hp} {s s' : Shared}
theorem Inv.env0 (I : Inv X pins σ H s) : kn X.prog X.w X.K X.mg X.base X.A X.stack s H :=
  ⟨I.ok.frames, I.ok.mod, I.bs, xG I.ok.bsz I.sz, I.stack, I.stkFree, I.hok, I.bare⟩
theorem Inv.after {Q : VK}{u : Value}(I : Inv X pins σ H s)(h : CE X.stack X.prog X.w H s Q u s') : EP X pins σ Q u s' := by
  obtain ⟨v, H', os, bare, un, hok, r, q⟩ := h
  obtain ⟨hh, g, d, t, os'⟩ := s'
  obtain rfl : os'=s.os := os
  exact ⟨v, H', I.call (h' := hh) (g' := g) (d' := d) (t' := t) (ch := []) un hok bare (fun b z => absurd z (by simp)), r, q⟩
end
def mZ (sp : Sp)(dvs : List V)(E : XK)(Q : VK) : List V → Hp → Prop := fun vs H1 => sp (vs++dvs) H1 Q E
def pO (sp : Sp)(dvs : List V)(E : XK)(t : TA) : TE := fun σ H Q => t σ H (mZ sp dvs E Q)
def ee (K : PySem.W.Frag)(fd : FuncData)(ps : List Str)(ds : List Value) : Prop :=
  ∀ (s : Shared) (us : List Value), K.In s.heap → (us++ds).length=ps.length → BindsTo s fd ⟨us, []⟩ (ps.zip (us++ds))
theorem ee.all {K : PySem.W.Frag}{fd : FuncData}{ps : List Str}(h : ∀ us : List Value, us.length=ps.length → bindArgs fd ⟨us, []⟩=pure (ps.zip us)) : ee K fd ps [] := fun s us _ hl => by
  rw [x_] at hl ⊢
  exact .of_eq (h us hl)
def gp (CX : CXT)(X : Cx)(E : XK) : Prop := ∀ (pins : List (Addr × Obj)) (σ : St) (H : Hp) (s : Shared) (e : Value) (s' : Shared), Inv X pins σ H s → CX X.stack H s E e s' → X.xe e s'
section
variable {X : Cx} {CX : CXT} {k : Nat} {f C : Addr} {fd : FuncData} {ps : List Str} {sp : Sp} {dvs : List V} {ds : List Value} {E : XK} {x m : Str} {p pos apos : Pos} {e o : Expr} {es : List Expr} {ta : TE} {t : TA}
theorem rZ {pins : List (Addr × Obj)}{σ : St}{H : Hp}{s : Shared}{Q : VK}{us : List Value}{vs : List V}(F : gm X.prog X.w X.K X.mg X.base CX k f fd ps sp)(hr : b0 k X.A)(hb : ee X.K fd ps ds)(hd : aR dvs ds)(hx : gp CX X E)
    (I : Inv X pins σ H s) (r : aR vs us) (h : sp (vs++dvs) H Q E) : wpAny (model X.prog X.w) X.A (call (.ref f) us) (EP X pins σ Q) X.xe s := by
  have r2 : aR (vs++dvs) (us++ds) := r.append hd
  have hl : (us++ds).length=ps.length := by rw [← r2.length];exact F.len _ _ _ _ h
  refine zr (y_ (F.run X.A X.stack s H ⟨us, []⟩ (us++ds) (vs++dvs) Q E hr I.env0 (hb s us I.kIn hl) r2 h) fun r s' hq => ?_)
  cases r with
  | error e => exact hx pins σ H s e s' I hq
  | ok fl =>
    cases fl with
    | ret u => exact I.after hq
    | next => exact False.elim hq
    | brk => exact False.elim hq
    | cont => exact False.elim hq
theorem ko (F : gm X.prog X.w X.K X.mg X.base CX k f fd ps sp)(hr : b0 k X.A)(hg : Gl X x)(hm : X.mg x=some (.ref f))(hk : PySem.W.keepIn X.K (.ref f)=true)(hb : ee X.K fd ps ds)(hd : aR dvs ds)(hx : gp CX X E)
    (ha : PA X (e::es) t) (hdb : (x == ("__debug__" : Str))=false := by decide) (he : starEach (e::es) X.env=(false, eval e X.env)::starEach es X.env := by rfl) (hpl : (backTo pos (starEach es X.env)).any (·.1)=false := by rfl) :
    PE X (.Call (.Name x p) (e::es) [] pos) (pO sp dvs E t) := by
  intro pins s σ H Q I h
  refine yu (cH I hg hm ?_ hdb)
  refine Ag (h₀ := X.base) I.ok.mod.kin hk (thn (ha pos pins s σ H _ I h) fun us s1 ⟨vs, H1, I1, r, q⟩ => ⟨I1.kIn, ?_⟩) he hpl
  exact rZ F hr hb hd hx I1 r q
end
section
variable {X : Cx} {CX : CXT} {k : Nat} {f C : Addr} {fd : FuncData} {ps ks : List Str} {sp : Sp} {E : XK} {x m : Str} {p pos apos kpos : Pos} {e o : Expr} {es : List Expr} {kws : List Keyword} {te ta : TE} {t tk : TA} {nm : Option Str}
variable {g : List Value → List Value → List Value} {gV : List V → List V → List V}
end
structure aC (N P : List Str) (sc : Scope) : Prop where
  kind : sc.kind = .function
  co : sc.isCoroutine=false
  gen : sc.isGenerator=false
  nd : N.Nodup
  pre : N.take P.length=P
  par : ∀ x∈P, sc.names.lookup x=some .local ∨ sc.names.lookup x=some .cell
  nofree : ∀ y∈sc.names, y.2 ≠ .free
theorem gq {kindOf : Str → Option NameKind}{x : Str} : ∀ {binds : List (Str × Value)} {m : Str → Option Value}, (∀ v, (x, v)∉binds) → bindL kindOf binds m x=m x
  | [], _, _ => rfl
  | (n, v)::r, m, h => by
    unfold bindL
    rw [gq fun w hw => h w (xm _ hw)]
    split
    · have : x≠n := by rintro rfl;exact h v xv
      simp [this]
    · rfl
theorem gr {kindOf : Str → Option NameKind}{x : Str} : ∀ {binds : List (Str × Value)} {m : Str → Option Value}, (∀ v, (x, v)∉binds) → bindC kindOf binds m x=m x
  | [], _, _ => rfl
  | (n, v)::r, m, h => by
    unfold bindC
    rw [gr fun w hw => h w (xm _ hw)]
    split
    · rfl
    · have : x≠n := by rintro rfl;exact h v xv
      simp [this]
theorem gs {kindOf : Str → Option NameKind}{x : Str}{v : Value} : ∀ {P : List Str} {vs : List Value} {i : Nat} {m : Str → Option Value}, P.Nodup → P[i]? = some x → vs[i]? = some v → kindOf x=some .local →
    bindL kindOf (P.zip vs) m x=some v
  | [], _, _, _, _, h, _, _ => by simp at h
  | _::_, [], _, _, _, _, h, _ => by simp at h
  | p::P, w::vs, 0, m, nd, h1, h2, hk => by
    simp at h1 h2;subst h1;subst h2
    show bindL kindOf ((p, w)::P.zip vs) m p=_
    unfold bindL
    rw [gq fun v hv => (yf.mp nd).1 (zW hv).1, if_pos hk]
    simp
  | p::P, w::vs, i+1, m, nd, h1, h2, hk => by
    show bindL kindOf ((p, w)::P.zip vs) m x=_
    unfold bindL
    exact gs (i := i) (yf.mp nd).2 (by simpa using h1) (by simpa using h2) hk
theorem gu {kindOf : Str → Option NameKind}{x : Str}{v : Value} : ∀ {P : List Str} {vs : List Value} {i : Nat} {m : Str → Option Value}, P.Nodup → P[i]? = some x → vs[i]? = some v → kindOf x≠some .local →
    bindC kindOf (P.zip vs) m x=some v
  | [], _, _, _, _, h, _, _ => by simp at h
  | _::_, [], _, _, _, _, h, _ => by simp at h
  | p::P, w::vs, 0, m, nd, h1, h2, hk => by
    simp at h1 h2;subst h1;subst h2
    show bindC kindOf ((p, w)::P.zip vs) m p=_
    unfold bindC
    rw [gr fun v hv => (yf.mp nd).1 (zW hv).1, if_neg hk]
    simp
  | p::P, w::vs, i+1, m, nd, h1, h2, hk => by
    show bindC kindOf ((p, w)::P.zip vs) m x=_
    unfold bindC
    exact gu (i := i) (yf.mp nd).2 (by simpa using h1) (by simpa using h2) hk
def start (N : List Str)(vs : List V) : St := vs.map some++List.replicate (N.length - vs.length) none
def iq (CX : CXT)(P : Program)(w : World)(K : PySem.W.Frag)(mg : Str → Option Value)(base : Heap)(N : List Str)(qual : Str)(scope : Scope)(f : Addr)(cd : Value)(A : Around)(outer : List Env)(s : Shared)(H : Hp)(E : XK) : Cx where
  prog := P
  w := w
  K := K
  mg := mg
  base := base
  A := A.deeper (envOfC qual scope s.heap.objs.size f cd)
  N := N
  s₀ := s
  H₀ := H
  env := envOfC qual scope s.heap.objs.size f cd
  outer := outer
  stack := envOfC qual scope s.heap.objs.size f cd::outer
  ex := []
  calm := true
  fn := fun _ => true
  pn := []
  xe := fun e s' => wpAny (model P w) (A.deeper (envOfC qual scope s.heap.objs.size f cd)) (leaving (envOfC qual scope s.heap.objs.size f cd) e) (fun _ s'' => CX outer H s E e s'') (fun e' s'' => CX outer H s E e' s'') s'
theorem i_ {sc : Scope}{n : Nat}{x : Str}(h : sc.names.lookup x=some .cell) : ∃ c, (cellsFrom n sc.names []).lookup x=some c := by
  have q := zj sc.names n [] (.inl h)
  exact za.mp q
theorem gv {CX : CXT}{P : Program}{w : World}{K : PySem.W.Frag}{mg : Str → Option Value}{base : Heap}{N ps : List Str}{qual : Str}{scope : Scope}{f : Addr}{cd : Value}{A : Around}{outer : List Env}{s s1 : Shared}{H : Hp}{E : XK}{us : List Value}{vs : List V}
    (S : aC N ps scope) (hd : A.handled=none) (e0 : kn P w K mg base A outer s H) (hl : vs.length=ps.length) (r : aR vs us)
    (x : InCallC s s.heap.objs.size (bindL (envOfC qual scope s.heap.objs.size f cd).kindOf (ps.zip us) fun _ => none) (cellsFrom (s.heap.objs.size+1) scope.names []) (bindC (envOfC qual scope s.heap.objs.size f cd).kindOf (ps.zip us) fun _ => none) s1) :
    Inv (iq CX P w K mg base N qual scope f cd A outer s H E) [] (start N vs) H s1 := by
  have hpl : ps.length≤N.length := by have := xH List.length S.pre;rw [w_] at this;omega
  obtain ⟨h1, tk, rfl, hk⟩ := x.done
  have noA : ∀ b : Addr, b∉(iq CX P w K mg base N qual scope f cd A outer s H E).ex := fun b z => absurd (show b∈([] : List Addr) from z) (by simp)
  refine ⟨⟨e0.mod, S.kind, rfl, rfl, wX _, fun y z c h1 h2 => ?_, fun y hy => ?_, fun y c _ h => ?_, fun _ => hd, Around.frames_deeper e0.frames, .inr ⟨rfl, rfl⟩, fun b z => absurd z (noA b), e0.bs, e0.bsz, fun b _ _ => noA b, fun b z => absurd z (noA b), e0.funs, e0.frf⟩,
    rfl, e0.bare, Un.kept hk, ⟨_, x.toInCall.ns, fun i y v h1 h2 h3 => ?_⟩, fun y c h => ⟨_, x.cell y c h⟩, e0.hok.fresh (wX _), fun y c h => ?_, fun p hp => absurd (show p∈([] : List (Addr × Obj)) from hp) (by simp), e0.hok.kept hk, ?_⟩
  · exact name_of_addr x.apart (x3 h1) (x3 h2)
  · have hy : scope.names.lookup y=some .cell ∨ scope.names.lookup y=some .free := hy
    rcases hy with hy | hy
    · exact i_ hy
    · exact absurd rfl (S.nofree _ (x3 hy))
  · exact AE (x.above y c (x3 h))
  · have hi : i < vs.length := by
      unfold start at h2
      by_cases hi : i < vs.length
      · exact hi
      · rw [xI (by simpa using hi)] at h2
        rw [List.getElem?_replicate] at h2
        split at h2 <;> cases h2
    have ha : vs[i]? = some v := by
      unfold start at h2
      rw [ya (by simpa using hi), xq] at h2
      cases e : vs[i]? with
      | none => rw [e] at h2;cases h2
      | some a => rw [e] at h2;cases h2;rfl
    obtain ⟨u, hu, rv⟩ := r.get ha
    have hp : ps[i]? = some y := by
      rw [← S.pre, zb (by omega)];exact h1
    have ndP : ps.Nodup := by rw [← S.pre];exact S.nd.sublist (List.take_sublist _ _)
    refine ⟨u, rv, ?_⟩
    rcases S.par y (xj hp) with k | k
    · exact .inl ⟨k, gs ndP hp hu k⟩
    · obtain ⟨c, e⟩ := i_ (n := s.heap.objs.size+1) k
      refine .inr ⟨.inl k, c, e, ?_⟩
      have q := x.cell y c e
      rw [gu ndP hp hu (by show scope.names.lookup y≠_;rw [k];decide)] at q
      exact q
  · exact e0.hok.fresh (AE (x.above y c (x3 h)))
  · unfold start
    show _=N.length
    rw [wY, wV, List.length_replicate]
    omega
theorem pP {CX : CXT}{P : Program}{w : World}{K : PySem.W.Frag}{mg : Str → Option Value}{base : Heap}{k : Nat}{f : Addr}{name qual : Str}{params : Arguments}{body : List Stmt}{scope : Scope}{dV kV doc pm cdv ct oc : Value}{an od : Option Addr}
    {osl : Array (Option Value)} {N ps : List Str} {sp : Sp} (lk : K.lookup f=some ⟨oc, od, .func (PySem.W.fnOf name qual params body scope dV kV doc pm an cdv ct), osl⟩) (hcd : PySem.W.codeIn K cdv qual=true) (S : aC N ps scope)
    (len : ∀ vs H Q E, sp vs H Q E → vs.length=ps.length)
    (hbody : ∀ (A : Around) (outer : List Env) (s : Shared) (H : Hp) (vs : List V) (Q : VK) (E : XK), b0 k (A.deeper (envOfC qual scope s.heap.objs.size f cdv)) → sp vs H Q E →
      ∃ t, PSs (iq CX P w K mg base N qual scope f cdv A outer s H E) body t ∧ t { nx := fun _ H' => Q .non H', rt := Q } (start N vs) H) :
    gm P w K mg base CX (k+1) f (PySem.W.fnOf name qual params body scope dV kV doc pm an cdv ct) ps sp := by
  refine ⟨len, fun A outer s H args us vs Q E hr e0 hb r hsp => ?_⟩
  have hl := len _ _ _ _ hsp
  have KX : K.In s.heap := e0.mod.kin.keeps fun b o e => (e0.bs b o e).1
  have lim : s.heap.NoLimit := e0.mod.nolimit.keeps fun b o e => (e0.bs b o e).1
  have hkind : ∀ y∈ps.zip us, scope.names.lookup y.1=some .local ∨ (scope.names.lookup y.1=some .cell ∧ ((cellsFrom (s.heap.objs.size+1) scope.names []).lookup y.1).isSome=true) := fun ⟨n, v⟩ hy => by
    rcases S.par n (zW hy).1 with q | q
    · exact .inl q
    · exact .inr ⟨q, zj _ _ _ (.inl q)⟩
  refine codeAny_call_function hr.depth (KX _ _ lk) rfl S.co S.gen rfl (PySem.W.codeRec_of KX hcd) (hb _ _ _ _ ?_)
  refine Ae S.kind hkind fun env he s1 x => ?_
  subst he
  refine ⟨lim.keeps x.toInCall.keep, codeAny_func ?_⟩
  obtain ⟨t, ht, hq⟩ := hbody A outer s H vs Q E (hr.deeper _) hsp
  have I : Inv (iq CX P w K mg base N qual scope f cdv A outer s H E) [] (start N vs) H s1 := gv S hr.hd e0 hl r x
  refine xY (ht [] s1 (start N vs) H _ I hq) (fun fl s' hs => ?_) fun e s' hs => hs
  have fin : ∀ {σ' : St} {H' : Hp} {v : V} {u : Value}, Inv (iq CX P w K mg base N qual scope f cdv A outer s H E) [] σ' H' s' → a7 v u → Q v H' → CE outer P w H s Q u s' :=
    fun {σ' H' v u} J rv q => ⟨v, H', J.os, J.bare, J.base, J.hok, rv, q⟩
  cases fl with
  | ret u =>
    obtain ⟨v, σ', H', J, rv, q⟩ := hs
    exact fin J rv q
  | next =>
    obtain ⟨σ', H', J, q⟩ := hs
    exact fin (v := V.non) (u := Value.none) J rfl q
  | brk =>
    obtain ⟨_, _, _, q⟩ := hs
    exact False.elim q
  | cont =>
    obtain ⟨_, _, _, q⟩ := hs
    exact False.elim q
section
variable {X : Cx} {x : Str} {p pos : Pos} {e : Expr} {es : List Expr} {t : TA} {id T : String} {r : List V → Hp → VK → Prop}
def r6 (r : List V → Hp → VK → Prop)(Q : VK) : List V → Hp → Prop := fun vs H1 => r vs H1 Q
def tCB (r : List V → Hp → VK → Prop)(t : TA) : TE := fun σ H Q => t σ H (r6 r Q)
theorem av (hc : c_ X (.builtin id) r)(hg : Gl X x)(hm : X.mg x=none)(hv : bootBuiltins x=some (.builtin id))(ha : PA X (e::es) t)(hn : x ≠ "__name__" := by decide)(hdb : (x == ("__debug__" : Str))=false := by decide)
    (he : starEach (e::es) X.env=(false, eval e X.env)::starEach es X.env := by rfl) (hpl : (backTo pos (starEach es X.env)).any (·.1)=false := by rfl) : PE X (.Call (.Name x p) (e::es) [] pos) (tCB r t) := by
  intro pins s σ H Q I h
  refine yu (dz I hg hm hv ?_ hn hdb)
  exact zG (thn (ha pos pins s σ H _ I h) fun us s1 zq60 => (by obtain ⟨vs, H1, I1, r1, q1⟩ := zq60;exact hc pins s1 σ H1 vs us Q I1 r1 q1)) he hpl
theorem aG (hc : c_ X (.type T) r)(hg : Gl X x)(hm : X.mg x=none)(hv : bootBuiltins x=some (.type T))(ha : PA X (e::es) t)(hn : x ≠ "__name__" := by decide)(hdb : (x == ("__debug__" : Str))=false := by decide)
    (he : starEach (e::es) X.env=(false, eval e X.env)::starEach es X.env := by rfl) (hpl : (backTo pos (starEach es X.env)).any (·.1)=false := by rfl) : PE X (.Call (.Name x p) (e::es) [] pos) (tCB r t) := by
  intro pins s σ H Q I h
  refine yu (dz I hg hm hv ?_ hn hdb)
  exact xZ (thn (ha pos pins s σ H _ I h) fun us s1 zq61 => (by obtain ⟨vs, H1, I1, r1, q1⟩ := zq61;exact hc pins s1 σ H1 vs us Q I1 r1 q1)) he hpl
end
end L2
namespace HT
open PySem PyProof.Rows
section
open PySem.SeqAt
open PySem.AutoSeq1 (wpAny_loadPart')
open PySem.MeetsSeq PySem.MeetsSeq2 PySem.MeetsSeq3
end
section
variable {prog : Program} {w : World} {A : Around} {E : Value → Shared → Prop} {s : Shared}
theorem pQ {t b : Addr}{vs ws : List Value}{Q : Value → Shared → Prop}(ht : IsTup s.heap t vs.toArray)(hb : IsTup s.heap b ws.toArray)(hv : vs≠[])
    (h1 : ws=[] → Q (.ref t) s) (h2 : ws≠[] → Q (.ref s.heap.objs.size) { s with heap := s.heap.push { cls := .type "tuple", data := .seq (vs++ws).toArray } })
    (hsz : vs.length+ws.length≤sizeLine) : wpAny (model prog w) A (binaryOp .Add (.ref t) (.ref b)) Q E s := by
  obtain ⟨⟨cls, dd, data, sl⟩, ho, hc, n, hd⟩ := id ht
  obtain ⟨⟨cls2, dd2, data2, sl2⟩, ho2, hc2, n2, hd2⟩ := id hb
  simp only at hc hd hc2 hd2
  subst hc hd hc2 hd2
  have e : vs.toArray++ws.toArray=(vs++ws).toArray := by simp
  by_cases hw : ws=[]
  · exact concat_meets ⟨_, ho, rfl⟩ ⟨_, ho2, rfl⟩ Av seq_tuple_add zl zg (zc _ _)
      (tuple_addW1 t b vs.toArray ws.toArray n n2 dd dd2 sl sl2 (by simpa using hv) (by simp [hw])) ⟨ho, ho2, h1 hw⟩
  · refine concat_meets ⟨_, ho, rfl⟩ ⟨_, ho2, rfl⟩ Av seq_tuple_add zl zg (zc _ _)
      (tuple_addW2 t b vs.toArray ws.toArray n n2 dd dd2 sl sl2 (by simpa using hv) (by simpa using hw) (by rw [w5, w5];exact hsz)) ⟨ho, ho2, ?_⟩
    rw [e]
    exact h2 hw
def sIx (n d : Nat) : Option Int → Nat
  | none => d
  | some v => if v < 0 then (v+(n : Int)).toNat else min v.toNat n
theorem dP (n d : Nat) : sIx n d none=d := rfl
theorem eg (n d k : Nat) : sIx n d (some (k : Int))=min k n := by
  show (if (k : Int) < 0 then ((k : Int)+(n : Int)).toNat else min (k : Int).toNat n)=min k n
  rw [if_neg (by omega), xh]
theorem oO (n d : Nat)(hd : d≤n)(o : Option Int) : sIx n d o≤n := by
  cases o with
  | none => exact hd
  | some v =>
    show (if v < 0 then (v+(n : Int)).toNat else min v.toNat n)≤n
    by_cases hv : v < 0
    · rw [if_pos hv];omega
    · rw [if_neg hv];exact Nat.min_le_right _ _
end
end HT
namespace L2
open PySem PySem.Spec PyProof.Rows
abbrev TO := St → Hp → (Option Int → Hp → Prop) → Prop
def PO (X : Cx)(e : Option Expr)(t : TO) : Prop :=
  ∀ (pins : List (Addr × Obj)) (s : Shared) (σ : St) (H : Hp) (Q : Option Int → Hp → Prop), Inv X pins σ H s → t σ H Q →
    wpAny (model X.prog X.w) X.A (evalPart e X.env) (fun u s' => ∃ o H', Inv X pins σ H' s' ∧ IsPart u o ∧ Q o H') X.xe s
def pR : TO := fun _ H Q => Q none H
inductive IsI (x : V)(H : Hp)(Q : Option Int → Hp → Prop) : Prop
  | mk : ∀ i, (x = .int i) → (Q (some i) H) → IsI x H Q
def m3 (Q : (Option Int → Hp → Prop)) : V → Hp → Prop := fun x H1 => IsI x H1 Q
def uH (t : TE) : TO := fun σ H Q => t σ H (m3 Q)
section
variable {X : Cx} {e : Expr} {te : TE} {lo hi : Option Expr} {tl th : TO} {pos p2 : Pos}
theorem bc : PO X none pR := by
  intro pins s σ H Q I h
  rw [evalPart_none]
  exact xb ⟨none, H, I, .none, h⟩
theorem bf (h : PE X e te) : PO X (some e) (uH te) := by
  intro pins s σ H Q I hw
  rw [evalPart_some]
  refine thn (h pins s σ H _ I hw) fun u s1 zq62 => ?_
  obtain ⟨x, H1, I1, r1, q1⟩ := zq62
  obtain ⟨i, rfl, q⟩ := q1
  obtain ⟨t, rfl⟩ := r1
  exact ⟨some i, H1, I1, .int i t, q⟩
def SlR (X : Cx)(r : V → Option Int → Option Int → Hp → VK → Prop) : Prop :=
  ∀ (pins : List (Addr × Obj)) (s : Shared) (σ : St) (H : Hp) (x : V) (v vl vu : Value) (lo hi : Option Int) (sl : Addr) (Q : VK), Inv X pins σ H s → a7 x v → s.heap.IsSliceOf sl vl vu .none → IsPart vl lo → IsPart vu hi → r x lo hi H Q →
    ∃ T id, typeLookup (.type T) "__getitem__" = pure (some (.builtin id)) ∧ s.TypeIs v T ∧ wpAny (model X.prog X.w) X.A (getItem v (.ref sl)) (EP X pins σ Q) X.xe s
def r9 (r : V → Option Int → Option Int → Hp → VK → Prop)(Q : VK)(x : V)(l : Option Int) : Option Int → Hp → Prop := fun u H3 => r x l u H3 Q
def r_ (r : V → Option Int → Option Int → Hp → VK → Prop)(th : TO)(σ : St)(Q : VK)(x : V) : Option Int → Hp → Prop := fun l H2 => th σ H2 (r9 r Q x l)
def se (r : V → Option Int → Option Int → Hp → VK → Prop)(tl : TO)(th : TO)(σ : St)(Q : VK) : V → Hp → Prop := fun x H1 => tl σ H1 (r_ r th σ Q x)
def tSl (r : V → Option Int → Option Int → Hp → VK → Prop)(te : TE)(tl th : TO) : TE := fun σ H Q => te σ H (se r tl th σ Q)
theorem aX {r : V → Option Int → Option Int → Hp → VK → Prop}(hr : SlR X r)(he : PE X e te)(hl : PO X lo tl)(hu : PO X hi th) : PE X (.Subscript e (.Slice lo hi none p2) pos) (tSl r te tl th) := by
  intro pins s σ H Q I h
  refine Ak (thn (he pins s σ H _ I h) fun v s1 zq63 => ?_)
  obtain ⟨x, H1, I1, r1, q1⟩ := zq63
  refine wpAny_Slice (thn (hl pins s1 σ H1 _ I1 q1) fun vl s2 ⟨l, H2, I2, pl, q2⟩ => thn (hu pins s2 σ H2 _ I2 q2) fun vu s3 zq64 => ?_)
  obtain ⟨u, H3, I3, pu, q3⟩ := zq64
  rw [evalPart_none]
  refine xb ?_
  have I4 : Inv X pins σ H3 { s3 with heap := s3.heap.push { cls := .type "slice", data := .fields #[vl, vu, .none] } } := I3.kept (t' := s3.toks) fun b ob q => wU _ q
  obtain ⟨T, id, hT, ht, hg⟩ := hr pins { s3 with heap := s3.heap.push { cls := .type "slice", data := .fields #[vl, vu, .none] } } σ H3 x v vl vu l u s3.heap.objs.size Q I4 r1 (Heap.IsSliceOf.new ..) pl pu q3
  show wpAny (model X.prog X.w) X.A (subscriptTail e (.Slice lo hi none p2) v (.ref s3.heap.objs.size)) (EP X pins σ Q) X.xe { s3 with heap := s3.heap.push { cls := .type "slice", data := .fields #[vl, vu, .none] } }
  exact tail_any (ops := [.ref s3.heap.objs.size, v]) ht hT hg (by with_unfolding_all rfl)
def mD (xs : List V)(lo hi : Option Int) : List V := (xs.drop (HT.sIx xs.length 0 lo)).take (HT.sIx xs.length xs.length hi - HT.sIx xs.length 0 lo)
theorem ir (xs : List V)(lo hi : Option Int) : (mD xs lo hi).length≤xs.length := by
  unfold mD
  rw [w_, yb]
  omega
inductive sf (K : PySem.W.Frag)(x : V)(y : V)(H : Hp)(Q : VK) : Prop
  | mk : ∀ a b xs ys, (x = .ref a) → (y = .ref b) → (SqT K H a xs) → (SqT K H b ys) → (xs≠[]) → (xs.length+ys.length≤sizeLine) → ((ys=[] → Q (.ref a) H)) → ((ys≠[] → ∀ p, H p=none → Q (.ref p) (upd H p (.tup (xs++ys))))) → sf K x y H Q
theorem aR.nil_iff {xs : List V}{us : List Value}(r : aR xs us) : us=[] ↔ xs=[] := by
  cases r with
  | nil => simp
  | cons _ _ => simp
theorem pS : OpR X (binaryOp .Add) (sf X.K) := by
  intro pins s σ H x y v u Q I rx ry h
  obtain ⟨a, b, xs, ys, rfl, rfl, ha, hb, hx, hz, q1, q2⟩ := h
  cases rx
  cases ry
  obtain ⟨its, r1, p1, _⟩ := I.tuple ha
  obtain ⟨its2, r2, p2, _⟩ := I.tuple hb
  refine HT.pQ p1 p2 (fun z => hx (r1.nil_iff.mp z)) (fun z => ⟨.ref a, H, I, rfl, q1 (r2.nil_iff.mp z)⟩) (fun z => ?_) (by rw [← r1.length, ← r2.length];exact hz)
  refine ⟨.ref s.heap.objs.size, _, I.laid (t' := s.toks) (o := .tup (xs++ys)) (fun b ob q => wU _ q) (wX _) ?_, rfl, q2 (fun w => z (r2.nil_iff.mpr w)) _ (I.hok.fresh (wX _))⟩
  exact ⟨by rw [wY];exact hz, _, r1.append r2, IsTup.new _ _, .new _ _ rfl⟩
end
def ixN (n : Nat)(i : Int) : Option Nat := if 0≤i then (if i < n then some i.toNat else none) else if -(n : Int)≤i then some (i+n).toNat else none
def atI {α : Type}(xs : List α)(i : Int) : Option α := (ixN xs.length i).bind fun j => xs[j]?
theorem iu {n : Nat}{i : Int}{j : Nat}(h : ixN n i=some j) : seqIndex? i n=some j ∧ j < n ∧ -(n : Int)≤i ∧ i < n := by
  unfold ixN at h
  by_cases h0 : 0≤i
  · rw [if_pos h0] at h
    by_cases h1 : i < n
    · rw [if_pos h1] at h
      have e : i.toNat=j := w4 h
      exact ⟨by rw [AO h0 h1, e], by omega, by omega, h1⟩
    · rw [if_neg h1] at h;cases h
  · rw [if_neg h0] at h
    by_cases h1 : -(n : Int)≤i
    · rw [if_pos h1] at h
      have e : (i+n).toNat=j := w4 h
      exact ⟨by rw [seqIndex_neg (by omega) h1, e], by omega, h1, by omega⟩
    · rw [if_neg h1] at h;cases h
theorem fA {α : Type}{xs : List α}{i : Int}{v : α}(h : atI xs i=some v) : ∃ j, seqIndex? i xs.length=some j ∧ xs[j]? = some v ∧ j < xs.length ∧ -(xs.length : Int)≤i ∧ i < xs.length := by
  unfold atI at h
  cases e : ixN xs.length i with
  | none => rw [e] at h;cases h
  | some j =>
    rw [e] at h
    obtain ⟨h1, h2, h3, h4⟩ := iu e
    exact ⟨j, h1, h, h2, h3, h4⟩
theorem fB {α : Type}{xs : List α}{j : Nat}{v : α}(h : xs[j]? = some v) : atI xs (j : Int)=some v := by
  have hj : j < xs.length := (wW.mp h).1
  have e : ixN xs.length (j : Int)=some j := by
    unfold ixN
    rw [if_pos (by omega), if_pos (by omega)];simp
  unfold atI;rw [e];exact h
theorem m4 {α : Type}(xs : List α)(v : α) : atI (xs++[v]) (-1)=some v := by
  have hl : (xs++[v]).length=xs.length+1 := by simp
  have e : ixN (xs++[v]).length (-1)=some xs.length := by
    unfold ixN
    rw [hl, if_neg (by decide), if_pos (by omega)]
    congr 1
    omega
  unfold atI
  rw [e]
  show (xs++[v])[xs.length]? = some v
  simp
def fC (b : Expr) : Prop := ∀ o i, subscripted b false o i=operate [o, i] (getItem o i)
def IxR (X : Cx)(r : R2) : Prop :=
  ∀ (value slice : Expr) (pins : List (Addr × Obj)) (s : Shared) (σ : St) (H : Hp) (x y : V) (v u : Value) (Q : VK), Inv X pins σ H s → a7 x v → a7 y u → r x y H Q →
    subscripted slice false v u=operate [v, u] (getItem v u) → wpAny (model X.prog X.w) X.A (subscriptTail value slice v u) (EP X pins σ Q) X.xe s
def MtR (X : Cx)(id : String)(r : V → List V → Hp → VK → Prop) : Prop :=
  ∀ (pins : List (Addr × Obj)) (s : Shared) (σ : St) (H : Hp) (x : V) (xs : List V) (v : Value) (us : List Value) (Q : VK), Inv X pins σ H s → a7 x v → aR xs us → r x xs H Q →
    wpAny (model X.prog X.w) X.A (call (.builtin id) (v::us)) (EP X pins σ Q) X.xe s
section
variable {X : Cx} {a b : Expr} {ta tb : TE} {pos : Pos}
theorem aN {r : R2}(hr : IxR X r)(ha : PE X a ta)(hb : PE X b tb)(hs : fC b) : PE X (.Subscript a b pos) (tOp r ta tb) := by
  intro pins s σ H Q I h
  exact Ak (uE ha hb I h fun v u s2 x y H2 I2 rx ry q => hr a b pins s2 σ H2 x y v u Q I2 rx ry q (hs _ _))
inductive vD (K : PySem.W.Frag)(x : V)(y : V)(H : Hp)(Q : VK) : Prop
  | mk : ∀ p xs i v, (x = .ref p) → (y = .int i) → (SqL K H p xs) → (atI xs i=some v) → (Q v H) → vD K x y H Q
inductive vE (K : PySem.W.Frag)(x : V)(y : V)(H : Hp)(Q : VK) : Prop
  | mk : ∀ p xs i v, (x = .ref p) → (y = .int i) → (SqT K H p xs) → (atI xs i=some v) → (Q v H) → vE K x y H Q
inductive vF (x : V)(y : V)(H : Hp)(Q : VK) : Prop
  | mk : ∀ z i c, (x = .str z) → (y = .int i) → (z.length≤sizeLine) → (atI z.cps.toList i=some c) → (Q (.str ⟨#[c]⟩) H) → vF x y H Q
theorem bU : IxR X (vD X.K) := by
  intro value slice pins s σ H x y v u Q I rx ry h hs
  obtain ⟨p, xs, i, z, rfl, rfl, hq, he, q⟩ := h
  cases rx
  obtain ⟨t, rfl⟩ := ry
  obtain ⟨its, r, pl, hz⟩ := I.list hq
  obtain ⟨j, h1, h2, h3, h4, h5⟩ := fA he
  obtain ⟨w, ew, rw'⟩ := r.get h2
  have hl := r.length
  have hn := cB
  have fin : EP X pins σ Q w s := ⟨z, H, I, rw', q⟩
  by_cases h0 : 0≤i
  · have hj : i.toNat=j := by
      rw [AO h0 h5] at h1
      exact w4 h1
    exact item_listR pl.isList h0 (by omega) (by rw [hj];simpa using ew) fin hs
  · have hj : (i+(its.toArray.size : Int)).toNat=j := by
      rw [seqIndex_neg (by omega) h4] at h1
      rw [w5, ← hl]
      exact w4 h1
    exact zm (x := w) pl.isList.typeIs slot_list_getitem.lookup
      (wpAny_getItem_list_neg (Q := fun r s' => r=w ∧ EP X pins σ Q r s') pl.isList (by omega) (by rw [w5] <;> omega) (by omega) (by rw [hj];simpa using ew) ⟨rfl, fin⟩) hs
theorem aU : IxR X (vE X.K) := by
  intro value slice pins s σ H x y v u Q I rx ry h hs
  obtain ⟨p, xs, i, z, rfl, rfl, hq, he, q⟩ := h
  cases rx
  obtain ⟨t, rfl⟩ := ry
  obtain ⟨its, r, pl, hz⟩ := I.tuple hq
  obtain ⟨j, h1, h2, h3, h4, h5⟩ := fA he
  obtain ⟨w, ew, rw'⟩ := r.get h2
  have hl := r.length
  have hn := cB
  have fin : EP X pins σ Q w s := ⟨z, H, I, rw', q⟩
  exact zm (x := w) pl.typeIs slot_tuple_getitem.lookup
    (getItem_tuple (j := j) (Q := fun r s' => r=w ∧ EP X pins σ Q r s') pl (by omega) (by omega) (by rw [w5, ← hl];exact h1) (by simpa using ew) ⟨rfl, fin⟩) hs
theorem bY : IxR X vF := by
  intro value slice pins s σ H x y v u Q I rx ry h hs
  obtain ⟨z, i, c, rfl, rfl, hz, he, q⟩ := h
  obtain ⟨t, rfl⟩ := rx
  obtain ⟨t', rfl⟩ := ry
  obtain ⟨j, h1, h2, h3, h4, h5⟩ := fA he
  have hl : z.cps.toList.length=z.length := by simp [Str.length]
  rw [hl] at h1 h4 h5
  have hn := cB
  exact tail_any (zt s z t) slot_str_getitem.lookup (getItem_str (c := c) (by
    have e1 : decide (i < -(2 ^ 63 : Int))=false := xi (by omega)
    have e2 : decide (i≥2 ^ 63)=false := xi (by omega)
    rw [e1, e2, AR]) (by rw [h1];simpa using h2) ⟨.str ⟨#[c]⟩, H, I.tok _, ⟨_, rfl⟩, q⟩) hs
theorem jI (its : List Value)(n j : Nat)(u : Value) : Obj.mapSeq (·.setIfInBounds j u) { cls := .type "list", data := .seq its.toArray n }={ cls := .type "list", data := .seq (its.set j u).toArray n } := by
  simp [Obj.mapSeq]
theorem Inv.lst {pins : List (Addr × Obj)}{σ : St}{H : Hp}{s : Shared}{p : Addr}{xs : List V}(I : Inv X pins σ H s)(h : H p=some (.lst xs)) :
    ∃ (its : List Value) (n : Nat), aR xs its ∧ s.heap.get? p=some { cls := .type "list", data := .seq its.toArray n } ∧ xs.length≤sizeLine := by
  obtain ⟨z, its, n, r, e⟩ := I.hok p _ h
  exact ⟨its, n, r, e, z⟩
theorem Inv.lstUpd {pins : List (Addr × Obj)}{σ : St}{H : Hp}{s : Shared}{p : Addr}{xs ys : List V}{its its' : List Value}{n n' : Nat}{f : Obj → Obj}(I : Inv X pins σ H s)(h : H p=some (.lst xs))
    (ho : s.heap.get? p=some { cls := .type "list", data := .seq its.toArray n }) (hf : f { cls := .type "list", data := .seq its.toArray n }={ cls := .type "list", data := .seq its'.toArray n' }) (r : aR ys its') (hz : ys.length≤sizeLine) (t : Nat) :
    Inv X pins σ (upd H p (.lst ys)) { s with heap := s.heap.update p f, toks := t } := by
  have e : (s.heap.update p f).get? p=some { cls := .type "list", data := .seq its'.toArray n' } := by
    rw [xO f ho (by rw [hf] <;> rfl), hf]
  refine I.write (x := p) (e := p) (by rw [h];trivial) (.inl rfl) (fun b u hb q => (xD _ _ (Ne.symm hb)).trans q) ⟨_, e⟩ ?_
  exact ⟨hz, its', n', r, e⟩
inductive si (o : V)(i : V)(v : V)(H : Hp)(Q : (Hp → Prop)) : Prop
  | mk : ∀ p xs k j, (o = .ref p) → (i = .int k) → (H p=some (.lst xs)) → (ixN xs.length k=some j) → (Q (upd H p (.lst (xs.set j v)))) → si o i v H Q
theorem ja : vv X si := by
  intro pins s σ H o i v ov iv u Q I ro ri rv h
  obtain ⟨p, xs, k, j, rfl, rfl, hp, hj, q⟩ := h
  cases ro
  obtain ⟨t, rfl⟩ := ri
  obtain ⟨its, n, r, ho, hz⟩ := I.lst hp
  obtain ⟨h1, h2, h3, h4⟩ := iu hj
  have hl := r.length
  have hn := cB
  have I' : Inv X pins σ (upd H p (.lst (xs.set j v))) { s with heap := s.heap.update p (Obj.mapSeq (·.setIfInBounds j u)) } :=
    I.lstUpd hp ho (jI its n j u) (r.set rv j) (by rw [List.length_set];exact hz) s.toks
  by_cases h0 : 0≤k
  · have hk : k.toNat=j := by
      rw [AO h0 h4] at h1
      exact w4 h1
    exact PySem.W.ki_setAt ho h0 (by omega) (by rw [w5, ← hl];exact h4) (by rw [hk];exact ⟨_, I', q⟩)
  · have hk : (k+(its.toArray.size : Int)).toNat=j := by
      rw [seqIndex_neg (by omega) h3] at h1
      rw [w5, ← hl]
      exact w4 h1
    exact PySem.W.ki_setBack ho (by omega) (by rw [w5, ← hl];exact h3) (by omega) (by rw [hk];exact ⟨_, I', q⟩)
theorem gw (lo hi : Option Int)(n : Nat) : (sliceBounds lo hi none n).1=((HT.sIx n 0 lo : Nat) : Int) ∧ (sliceBounds lo hi none n).2.1=((HT.sIx n n hi : Nat) : Int) ∧ (sliceBounds lo hi none n).2.2=1 := by
  refine ⟨?_, ?_, rfl⟩
  · cases lo with
    | none => simp [sliceBounds, HT.sIx]
    | some i =>
      simp only [sliceBounds, HT.sIx, Option.getD_none, show (1 : Int) > 0 by decide, zu]
      by_cases h : i < 0
      · simp only [h, zu] <;> omega
      · simp only [h, As] <;> omega
  · cases hi with
    | none => simp [sliceBounds, HT.sIx]
    | some i =>
      simp only [sliceBounds, HT.sIx, Option.getD_none, show (1 : Int) > 0 by decide, zu]
      by_cases h : i < 0
      · simp only [h, zu] <;> omega
      · simp only [h, As] <;> omega
theorem fD (its : List Value)(lo hi : Option Int) : slicePick its.toArray lo hi none=((its.drop (HT.sIx its.length 0 lo)).take (HT.sIx its.length its.length hi - HT.sIx its.length 0 lo)).toArray := by
  obtain ⟨h1, h2, h3⟩ := gw lo hi its.toArray.size
  unfold slicePick
  rw [h1, h2, h3]
  simp only [sliceRange_one, pick_run, w5] <;> rfl
inductive vG (K : PySem.W.Frag)(x : V)(lo : Option Int)(hi : Option Int)(H : Hp)(Q : VK) : Prop
  | mk : ∀ a xs, (x = .ref a) → (SqL K H a xs) → (∀ p, H p=none → Q (.ref p) (upd H p (.lst (mD xs lo hi)))) → vG K x lo hi H Q
theorem eh : SlR X (vG X.K) := by
  intro pins s σ H x v vl vu lo hi sl Q I rx hs pl pu h
  obtain ⟨a, xs, rfl, hx, q⟩ := h
  cases rx
  obtain ⟨its, r, ht, hz⟩ := I.list hx
  have hlen := r.length
  refine ⟨"list", _, slot_list_getitem.lookup, ht.isList.typeIs, ?_⟩
  refine wpAny_getItem_list_slice ht.isList hs pl pu .none (by simp) ?_ (by rw [w5] <;> omega)
  rw [fD, ← hlen]
  refine ⟨.ref s.heap.objs.size, _, I.laid (t' := s.toks) (o := .lst (mD xs lo hi)) (fun b ob q => wU _ q) (wX _) ?_, rfl, q _ (I.hok.fresh (wX _))⟩
  exact ⟨xG (ir xs lo hi) hz, _, 0, (r.drop (HT.sIx xs.length 0 lo)).take (HT.sIx xs.length xs.length hi - HT.sIx xs.length 0 lo), w6 _ rfl⟩
def gx : V → Bool
  | .non => true
  | .bl _ => true
  | .int _ => true
  | .str _ => true
  | _ => false
def eqV : V → V → Bool
  | .non, .non => true
  | .bl a, .bl b => a == b
  | .bl a, .int b => (if a then 1 else 0) == b
  | .int a, .bl b => a == (if b then 1 else 0)
  | .int a, .int b => a == b
  | .str a, .str b => a == b
  | _, _ => false
theorem sj {A : Around}{s : Shared}{y x : V}{u v : Value}(ry : a7 y u)(rx : a7 x v)(fy : gx y=true)(fx : gx x=true) : SeqAt.EqAt A s u v (eqV y x) := by
  cases y with
  | non =>
    cases ry
    cases x with
    | non => cases rx;exact SeqAt.EqAt.same _
    | bl b => cases rx;exact SeqAt.EqAt.none_bool b
    | int b => obtain ⟨t, rfl⟩ := rx;exact SeqAt.EqAt.none_int b t
    | str b => obtain ⟨t, rfl⟩ := rx;exact SeqAt.EqAt.none_str b t
    | _ => exact absurd (show false=true from fx) xg
  | bl a =>
    cases ry
    cases x with
    | non => cases rx;exact SeqAt.EqAt.bool_none a
    | bl b => cases rx;exact SeqAt.EqAt.bool_bool a b
    | int b => obtain ⟨t, rfl⟩ := rx;exact SeqAt.EqAt.bool_int a b t
    | str b => obtain ⟨t, rfl⟩ := rx;exact SeqAt.EqAt.bool_str a b t
    | _ => exact absurd (show false=true from fx) xg
  | int a =>
    obtain ⟨t', rfl⟩ := ry
    cases x with
    | non => cases rx;exact SeqAt.EqAt.int_none a t'
    | bl b => cases rx;exact SeqAt.EqAt.int_bool a t' b
    | int b => obtain ⟨t, rfl⟩ := rx;exact SeqAt.EqAt.int_int a t' b t
    | str b => obtain ⟨t, rfl⟩ := rx;exact SeqAt.EqAt.int_str a t' b t
    | _ => exact absurd (show false=true from fx) xg
  | str a =>
    obtain ⟨t', rfl⟩ := ry
    cases x with
    | non => cases rx;exact SeqAt.EqAt.str_none a t'
    | bl b => cases rx;exact SeqAt.EqAt.str_bool a t' b
    | int b => obtain ⟨t, rfl⟩ := rx;exact SeqAt.EqAt.str_int a t' b t
    | str b => obtain ⟨t, rfl⟩ := rx;exact SeqAt.EqAt.str_str a t' b t
    | _ => exact absurd (show false=true from fx) xg
  | _ => exact absurd (show false=true from fy) xg
def eqU (x : V)(u : Value) : Bool := match u with
  | .none => eqV .non x
  | .bool b => eqV (.bl b) x
  | .int i _ => eqV (.int i) x
  | .str z _ => eqV (.str z) x
  | _ => false
theorem oP {x y : V}{u : Value}(r : a7 y u)(f : gx y=true) : eqU x u=eqV y x := by
  cases y with
  | non => cases r;rfl
  | bl b => cases r;rfl
  | int i => obtain ⟨t, rfl⟩ := r;rfl
  | str z => obtain ⟨t, rfl⟩ := r;rfl
  | _ => exact absurd (show false=true from f) xg
theorem iA {x : V} : ∀ {xs : List V} {us : List Value}, aR xs us → xs.all gx=true → us.any (eqU x)=xs.any fun y => eqV y x
  | _, _, .nil, _ => rfl
  | y::xs, u::us, .cons r t, f => by
    rw [List.all_cons, yO] at f
    rw [zO, zO, oP r f.1, iA t f.2]
theorem fE {A : Around}{s : Shared}{x : V}{v : Value}(rx : a7 x v)(fx : gx x=true) : ∀ {xs : List V} {us : List Value}, aR xs us → xs.all gx=true → ∀ u∈us, SeqAt.EqAt A s u v (eqU x u)
  | _, _, .nil, _ => fun u hu => by cases hu
  | y::xs, u::us, .cons r t, f => fun u' hu => by
    rw [List.all_cons, yO] at f
    rcases xn.mp hu with rfl | hu
    · rw [oP r f.1];exact sj r rx f.1 fx
    · exact fE rx fx t f.2 u' hu
def inV (x : V)(xs : List V) : Bool := xs.any fun y => eqV y x
inductive rIn (K : PySem.W.Frag)(neg : Bool)(x : V)(y : V)(H : Hp)(Q : VK) : Prop
  | mk : ∀ p xs, (y = .ref p) → ((SqL K H p xs ∨ SqT K H p xs)) → (gx x=true) → (xs.all gx=true) → (Q (.bl (if neg then !inV x xs else inV x xs)) H) → rIn K neg x y H Q
theorem gz : OpR X (compareOp .NotIn) (rIn X.K true) := by
  intro pins s σ H x y v u Q I rx ry h
  obtain ⟨p, xs, rfl, hq, fx, fs, q⟩ := h
  cases ry
  rcases hq with hq | hq
  · obtain ⟨its, r, pl, hz⟩ := I.list hq
    refine SeqAt.notIn_listAt (eqU x) pl.isList (fun w hw => fE rx fx r fs w (by simpa using hw)) ⟨.bl _, H, I, rfl, ?_⟩
    rw [show its.toArray.any (eqU x)=its.any (eqU x) by simp, iA r fs]
    exact q
  · obtain ⟨its, r, pl, hz⟩ := I.tuple hq
    refine SeqAt.notIn_tupleAt (eqU x) pl (fun w hw => fE rx fx r fs w (by simpa using hw)) ⟨.bl _, H, I, rfl, ?_⟩
    rw [show its.toArray.any (eqU x)=its.any (eqU x) by simp, iA r fs]
    exact q
inductive cC (K : PySem.W.Frag)(xs : List V)(H : Hp)(Q : VK) : Prop
  | mk : ∀ p ys, (xs=[.ref p]) → ((SqL K H p ys ∨ SqT K H p ys)) → (Q (.int ys.length) H) → cC K xs H Q
theorem bg : c_ X (.builtin "len") (cC X.K) := by
  intro pins s σ H xs us Q I r h
  obtain ⟨p, ys, rfl, hq, q⟩ := h
  obtain ⟨u, rfl, rx⟩ := cb r
  cases rx
  have hn := cB
  rcases hq with hq | hq
  · obtain ⟨its, r', pl, hz⟩ := I.list hq
    have hlen := r'.length
    exact Calls.call_len_list pl.isList (by simp only [w5] <;> omega) ⟨.int ys.length, H, I.tok _, ⟨s.toks+1, by rw [w5, hlen]⟩, q⟩
  · obtain ⟨its, r', pl, hz⟩ := I.tuple hq
    have hlen := r'.length
    exact len_tuple pl (by simp only [w5] <;> omega) ⟨.int ys.length, H, I.tok _, ⟨s.toks+1, by rw [w5, hlen]⟩, q⟩
inductive cD  (xs : List V)(H : Hp)(Q : VK) : Prop
  | mk : ∀ z, (xs=[.str z]) → (z.length≤sizeLine) → (Q (.int z.length) H) → cD xs H Q
theorem ax : c_ X (.builtin "len") cD := by
  intro pins s σ H xs us Q I r h
  obtain ⟨z, rfl, hz, q⟩ := h
  obtain ⟨u, rfl, t, rfl⟩ := cb r
  have hn := cB
  exact len_str (by omega) ⟨.int z.length, H, I.tok _, ⟨_, rfl⟩, q⟩
inductive cE (K : PySem.W.Frag)(xs : List V)(H : Hp)(Q : VK) : Prop
  | mk : ∀ p ys, (xs=[.ref p]) → ((SqL K H p ys ∨ SqT K H p ys)) → (∀ l, H l=none → Q (.ref l) (upd H l (.lst ys))) → cE K xs H Q
theorem dC : c_ X (.type "list") (cE X.K) := by
  intro pins s σ H xs us Q I r h
  obtain ⟨p, ys, rfl, hq, q⟩ := h
  obtain ⟨u, rfl, rx⟩ := cb r
  cases rx
  have fin : ∀ (its : List Value), aR ys its → ys.length≤sizeLine → ∀ (h' : Heap) (c' : Nat), (∀ b o', s.heap.get? b=some o' → h'.get? b=some o') →
      h'.get? s.heap.objs.size=some { cls := .type "list", dict := none, data := .seq its.toArray c', slots := #[] } → EP X pins σ Q (.ref s.heap.objs.size) { s with heap := h' } := fun its r' hz h' c' kp e =>
    ⟨.ref s.heap.objs.size, _, I.laid (t' := s.toks) kp (wX _) (show bu X.prog X.w _ h' _ (.lst ys) from ⟨hz, its, c', r', e⟩), rfl, q _ (I.hok.fresh (wX _))⟩
  rcases hq with hq | hq
  · obtain ⟨its, r', pl, hz⟩ := I.list hq
    have hlen := r'.length
    obtain ⟨o, ho, hc, n, hd⟩ := pl.isList
    exact call_list_seq p (.inl rfl) ho hc hd (fun h' c' kp e => fin its r' hz h' c' kp e) (by simp only [w5] <;> omega)
  · obtain ⟨its, r', pl, hz⟩ := I.tuple hq
    have hlen := r'.length
    obtain ⟨o, ho, hc, n, hd⟩ := pl
    exact call_list_seq p (.inr rfl) ho hc hd (fun h' c' kp e => fin its r' hz h' c' kp e) (by simp only [w5] <;> omega)
inductive cf (K : PySem.W.Frag)(xs : List V)(H : Hp)(Q : VK) : Prop
  | mk : ∀ p ys, (xs=[.ref p]) → (((SqL K H p ys ∧ ∀ l, H l=none → Q (.ref l) (upd H l (.tup ys))) ∨ (SqT K H p ys ∧ Q (.ref p) H))) → cf K xs H Q
theorem aY : c_ X (.type "tuple") (cf X.K) := by
  intro pins s σ H xs us Q I r h
  obtain ⟨p, ys, rfl, h⟩ := h
  obtain ⟨u, rfl, rx⟩ := cb r
  cases rx
  rcases h with ⟨hq, q⟩ | ⟨hq, q⟩
  · obtain ⟨its, r', pl, hz⟩ := I.list hq
    have hlen := r'.length
    refine call_tuple_list pl.isList (fun h' kp => ?_) (by simp only [w5] <;> omega)
    have I1 : Inv X pins σ H { s with heap := h' } := I.kept (t' := s.toks) kp
    have I2 : Inv X pins σ (upd H h'.objs.size (.tup ys)) { s with heap := h'.push { cls := .type "tuple", data := .seq its.toArray } } :=
      I1.laid (t' := s.toks) (fun b o e => wU _ e) (wX _) (show bu X.prog X.w _ _ _ (.tup ys) from ⟨hz, its, r', IsTup.new _ _, .new _ _ rfl⟩)
    exact ⟨.ref h'.objs.size, _, I2, rfl, q _ (I1.hok.fresh (wX _))⟩
  · obtain ⟨its, r', pl, hz⟩ := I.tuple hq
    exact call_tuple_same pl ⟨.ref p, H, I, rfl, q⟩
def tyV (K : PySem.W.Frag)(T : String)(x : V)(H : Hp) : Prop := match x with
  | .str _ => T = "str"
  | .int _ => T = "int"
  | .ref p => (T = "list" ∧ ∃ xs, SqL K H p xs) ∨ (T = "tuple" ∧ ((∃ o, K.lookup p=some o ∧ o.cls = .type "tuple" ∧ o.dict=none) ∨ ∃ xs, H p=some (.tup xs))) ∨
      (T = "dict" ∧ ((∃ kvs, H p=some (.dK kvs)) ∨ ∃ kvs, H p=some (.dT kvs))) ∨ (T = "set" ∧ ∃ S n, H p=some (.set S n))
  | _ => False
theorem oQ {pins : List (Addr × Obj)}{σ : St}{H : Hp}{s : Shared}{T : String}{x : V}{v : Value}(I : Inv X pins σ H s)(r : a7 x v)(ty : tyV X.K T x H) :
    s.TypeIs v T ∧ ∀ a, v = .ref a → ∃ ob, s.heap.get? a=some ob ∧ ob.dict=none := by
  cases x with
  | str z =>
    obtain ⟨t, rfl⟩ := r
    cases (show T = "str" from ty)
    exact ⟨zt s z t, fun _ e => nomatch e⟩
  | int i =>
    obtain ⟨t, rfl⟩ := r
    cases (show T = "int" from ty)
    exact ⟨typeIs_int s i t, fun _ e => nomatch e⟩
  | ref p =>
    cases r
    rcases ty with ⟨rfl, xs, hq⟩ | ⟨rfl, ⟨o, hk, hc, hd⟩ | ⟨xs, hk⟩⟩ | ⟨rfl, hk⟩ | ⟨rfl, S, n, hk⟩
    · obtain ⟨its, _, pl, _⟩ := I.list hq
      refine ⟨pl.isList.typeIs, fun a e => ?_⟩
      cases e
      obtain ⟨o, n, e, c, hd, _⟩ := pl
      exact ⟨o, e, hd⟩
    · refine ⟨⟨o, I.kIn p o hk, hc⟩, fun a e => ?_⟩
      cases e
      exact ⟨o, I.kIn _ o hk, hd⟩
    · obtain ⟨_, _, _, ⟨o, e, hc, _⟩, hn⟩ := I.hok p _ hk
      refine ⟨⟨o, e, hc⟩, fun a e => ?_⟩
      cases e
      exact hn
    · have z : ∃ o, s.heap.get? p=some o ∧ o.ExactDict := by
        rcases hk with ⟨kvs, hk⟩ | ⟨kvs, hk⟩
        · obtain ⟨_, _, _, _, o, _, _, e, ex, _⟩ := I.hok p _ hk
          exact ⟨o, e, ex⟩
        · obtain ⟨_, _, _, _, o, _, _, e, ex, _⟩ := I.hok p _ hk
          exact ⟨o, e, ex⟩
      obtain ⟨o, e, ex⟩ := z
      refine ⟨⟨o, e, ex.1⟩, fun a e2 => ?_⟩
      cases e2
      exact ⟨o, e, ex.2.1⟩
    · obtain ⟨o, _, _, _, e, ex, _⟩ := I.hok p _ hk
      refine ⟨⟨o, e, ex.1⟩, fun a e2 => ?_⟩
      cases e2
      exact ⟨o, e, ex.2.1⟩
  | _ => exact False.elim ty
def pT (K : PySem.W.Frag)(T : String)(r : V → List V → Hp → VK → Prop)(Q : VK) : V → Hp → Prop := fun x H1 => tyV K T x H1 ∧ r x [] H1 Q
def wA (K : PySem.W.Frag)(T : String)(r : V → List V → Hp → VK → Prop)(to : TE) : TE := fun σ H Q => to σ H (pT K T r Q)
def sk (r : V → List V → Hp → VK → Prop)(Q : VK)(x : V) : List V → Hp → Prop := fun xs H2 => r x xs H2 Q
def sm (K : PySem.W.Frag)(T : String)(r : V → List V → Hp → VK → Prop)(t : TA)(σ : St)(Q : VK) : V → Hp → Prop := fun x H1 => tyV K T x H1 ∧ t σ H1 (sk r Q x)
def tBM (K : PySem.W.Frag)(T : String)(r : V → List V → Hp → VK → Prop)(to : TE)(t : TA) : TE := fun σ H Q => to σ H (sm K T r t σ Q)
variable {o e : Expr} {es : List Expr} {to : TE} {t : TA} {name : Str} {apos cpos : Pos} {T id : String} {r : V → List V → Hp → VK → Prop}
theorem er (pa : PlainAttrs T)(slot : Slot T name id)(hty : typeOf (.builtin id)=pure (.type "method_descriptor"))(hm : MtR X id r)(ho : PE X o to)
    (hbase : attributeBase o name X.env (eval o X.env)=eval o X.env := by rfl) (hline : (apos.endLine == cpos.line)=true := by rfl) : PE X (.Call (.Attribute o name apos) [] [] cpos) (wA X.K T r to) := by
  intro pins s σ H Q I h
  refine wpAny_Call_method0_late hbase hline (thn (ho pins s σ H _ I h) fun v s1 zq65 => ?_)
  obtain ⟨x, H1, I1, r1, ty, q1⟩ := zq65
  obtain ⟨h1, h2⟩ := oQ I1 r1 ty
  exact ⟨T, id, pa, slot, hty, h1, h2, zo rfl (PySem.evalArgs_none (hm pins s1 σ H1 x [] v [] Q I1 r1 .nil q1))⟩
theorem cJ (pa : PlainAttrs T)(slot : Slot T name id)(hty : typeOf (.builtin id)=pure (.type "method_descriptor"))(hm : MtR X id r)(ho : PE X o to)(ha : PA X (e::es) t)
    (hbase : attributeBase o name X.env (eval o X.env)=eval o X.env := by rfl)
    (hfew : ((backTo cpos (starEach (e::es) X.env)).all (fun x => !x.1) && (backToKw cpos (keywordEach [] X.env)).all (fun x => x.1.isSome)
      && decide ((e::es).length+([] : List Keyword).length+(if ([] : List Keyword).isEmpty then 0 else 1) < 30))=true := by rfl)
    (hline : (apos.endLine == cpos.line)=true := by rfl) (hs : starEach (e::es) X.env=(false, eval e X.env)::starEach es X.env := by rfl) (hplain : (backTo cpos (starEach es X.env)).any (·.1)=false := by rfl) :
    PE X (.Call (.Attribute o name apos) (e::es) [] cpos) (tBM X.K T r to t) := by
  intro pins s σ H Q I h
  refine wpAny_Call_method_late hbase hfew hline rfl (thn (ho pins s σ H _ I h) fun v s1 zq66 => ?_)
  obtain ⟨x, H1, I1, r1, ty, q1⟩ := zq66
  obtain ⟨h1, h2⟩ := oQ I1 r1 ty
  refine ⟨T, id, pa, slot, hty, h1, h2, ?_⟩
  have hA := ha cpos pins s1 σ H1 _ I1 q1
  rw [hs] at hA ⊢
  refine zo (by show (false || (backTo cpos (starEach es X.env)).any (·.1))=false;rw [hplain] <;> rfl) (Calls.evalArgs_plain ?_)
  exact thn hA fun us s2 zq67 => (by obtain ⟨vs, H2, I2, r2, q2⟩ := zq67;exact hm pins s2 σ H2 x vs v us Q I2 r1 r2 q2)
/- xs.append(e), list.index on a module's tuple .. are MtR facts of 06m -/
end
def MtM (X : Cx)(id : String)(r : V → List V → Hp → VK → Prop) : Prop :=
  ∀ (pins : List (Addr × Obj)) (s : Shared) (σ : St) (H : Hp) (x : V) (xs : List V) (v : Value) (us : List Value) (Q : VK), Inv X pins σ H s → a7 x v → aR xs us → r x xs H Q →
    wpAny (model X.prog X.w) X.A (call (.builtin id) (v::us)) (EP X pins σ Q) X.xe s
theorem aR.one : ∀ {x : V} {us : List Value}, aR [x] us → ∃ u, us=[u] ∧ a7 x u
  | _, _, .cons r .nil => ⟨_, rfl, r⟩
theorem aR.zero : ∀ {us : List Value}, aR [] us → us=[]
  | _, .nil => rfl
theorem aR.dropLast {xs : List V}{us : List Value}(h : aR xs us) : aR xs.dropLast us.dropLast := by
  induction h with
  | nil => exact .nil
  | cons r t ih =>
    cases t with
    | nil => exact .nil
    | cons q t' => exact .cons r ih
theorem aR.eraseIdx : ∀ {xs : List V} {us : List Value} (i : Nat), aR xs us → aR (xs.eraseIdx i) (us.eraseIdx i)
  | _, _, _, .nil => .nil
  | _, _, 0, .cons _ t => t
  | _, _, i+1, .cons r t => .cons r (aR.eraseIdx i t)
theorem aR.rep {xs : List V}{us : List Value}(h : aR xs us) : ∀ k : Nat, aR (List.replicate k xs).flatten (List.replicate k us).flatten
  | 0 => .nil
  | k+1 => by
    rw [yJ, yJ, yF, yF]
    exact aR.append h (aR.rep h k)
theorem jJ {α : Type}(l : List α) : l.eraseIdx (l.length - 1)=l.dropLast := by
  induction l with
  | nil => rfl
  | cons a r ih =>
    cases r with
    | nil => rfl
    | cons b r =>
      have e : (a::b::r).length - 1=((b::r).length - 1)+1 := by
        have h1 : (a::b::r).length=r.length+2 := rfl
        have h2 : (b::r).length=r.length+1 := rfl
        omega
      rw [e, zh, ih]
      all_goals rfl
theorem gA {α : Type} : ∀ (l : List α) (i : Nat), (l.eraseIdx i).length≤l.length
  | [], _ => wX _
  | _::_, 0 => Nat.le_succ _
  | _::r, i+1 => Nat.succ_le_succ (gA r i)
theorem gC (its : List Value) : ∀ (k : Nat) (acc : List Value),
    List.foldl (fun x1 x2 => x1++x2) acc.toArray (List.replicate k its.toArray)=(acc++(List.replicate k its).flatten).toArray
  | 0, acc => by simp
  | k+1, acc => by
    have e : acc.toArray++its.toArray=(acc++its).toArray := by simp
    have e2 : (acc++its)++(List.replicate k its).flatten=acc++(List.replicate (k+1) its).flatten := by
      rw [yJ, yF, Al]
    rw [← e2, ← gC its k (acc++its), ← e, yJ, List.foldl_cons]
section
variable {X : Cx} {pins : List (Addr × Obj)} {σ : St} {H : Hp} {s : Shared} {l b : Addr} {xs ys zs : List V}
theorem Inv.lset {its its' : List Value}{n : Nat}{f : Array Value → Array Value}{t' : Nat}(I : Inv X pins σ H s)(hH : H l=some (.lst xs))
    (e : s.heap.get? l=some { cls := .type "list", data := .seq its.toArray n }) (hf : f its.toArray=its'.toArray) (hv : aR ys its') (hz : ys.length≤sizeLine) :
    Inv X pins σ (upd H l (.lst ys)) { s with heap := s.heap.update l (Obj.mapSeq f), toks := t' } := by
  have q := PySem.IsL.update e f
  rw [hf] at q
  refine I.write (x := l) (e := l) (by rw [hH];exact trivial) (.inl rfl) (fun b' u hb hu => (xD s.heap (Obj.mapSeq f) (Ne.symm hb)).trans hu) ⟨_, q⟩ ?_
  exact ⟨hz, its', _, hv, q⟩
theorem Inv.lnew {its : List Value}{t' : Nat}(I : Inv X pins σ H s)(hv : aR ys its)(hz : ys.length≤sizeLine) :
    Inv X pins σ (upd H s.heap.objs.size (.lst ys)) { s with heap := s.heap.push { cls := .type "list", data := .seq its.toArray }, toks := t' } :=
  I.laid (fun _ _ q => wU _ q) (wX _) ⟨hz, its, 0, hv, w6 _ rfl⟩
theorem Inv.fresh (I : Inv X pins σ H s) : H s.heap.objs.size=none := I.hok.fresh (wX _)
theorem Inv.lstM (I : Inv X pins σ H s)(hH : H l=some (.lst xs)) : xs.length≤sizeLine ∧ ∃ (its : List Value) (n : Nat), aR xs its ∧ xs.length=its.length ∧ s.heap.get? l=some { cls := .type "list", data := .seq its.toArray n } := by
  obtain ⟨z, its, n, r, e⟩ := I.hok l _ hH
  exact ⟨z, its, n, r, r.length, e⟩
theorem jb {n : Nat}(h : n≤sizeLine) : Builtin.List.listTooLong n=false := by
  unfold Builtin.List.listTooLong
  exact xi (by omega)
end
section
variable {X : Cx}
inductive kq (x : V)(vs : List V)(H : Hp)(Q : VK) : Prop
  | mk : ∀ l xs y, (x = .ref l) → (vs=[y]) → (H l=some (.lst xs)) → (xs.length < sizeLine) → (Q .non (upd H l (.lst (xs++[y])))) → kq x vs H Q
theorem cT : MtM X "list.append" kq := by
  intro pins s σ H x vs v us Q I rx rv h
  obtain ⟨l, xs, y, rfl, rfl, hH, hz, q⟩ := h
  cases rx
  obtain ⟨u, rfl, ru⟩ := rv.one
  obtain ⟨z, its, n, r, hl, e⟩ := I.lstM hH
  refine zw F.slot_list_append ⟨_, e, rfl⟩ F.entry_list_append (F.args_list_append_2 _ _) (PySem.list_append l its.toArray n u (by rw [w5];omega)) ⟨e, ?_⟩
  refine ⟨.non, _, I.lset (its' := its++[u]) hH e (by simp) (r.append (.cons ru .nil)) ?_, rfl, q⟩
  rw [wY, xP]
  omega
inductive kr (x : V)(vs : List V)(H : Hp)(Q : VK) : Prop
  | mk : ∀ l b xs zs, (x = .ref l) → (vs=[.ref b]) → (H l=some (.lst xs)) → (H b=some (.lst zs)) → (xs.length+zs.length≤sizeLine) → (Q .non (upd H l (.lst (xs++zs)))) → kr x vs H Q
theorem ku : MtM X "list.extend" kr := by
  intro pins s σ H x vs v us Q I rx rv h
  obtain ⟨l, b, xs, zs, rfl, rfl, hH, hB, hz, q⟩ := h
  cases rx
  obtain ⟨u, rfl, ru⟩ := rv.one
  cases ru
  obtain ⟨z, its, n, r, hl, e⟩ := I.lstM hH
  obtain ⟨z2, its2, n2, r2, hl2, e2⟩ := I.lstM hB
  have hsz : its.toArray.size+its2.toArray.size≤sizeLine := by rw [w5, w5];omega
  have hlong : ¬ (!its.toArray.isEmpty && Builtin.List.listTooLong (its.toArray.size+its2.toArray.size))=true := by
    rw [jb hsz, AM]
    exact xg
  refine zw F.slot_list_extend ⟨_, e, rfl⟩ F.entry_list_extend (F.args_list_extend_2 _ _)
    (AutoSeq1.list_extend_list_list_0 l its.toArray n b its2.toArray n2 hlong (by rw [w5];omega) (by omega)) ⟨e, e2, ?_⟩
  refine ⟨.non, _, I.lset (its' := its++its2) hH e (by simp) (r.append r2) ?_, rfl, q⟩
  rw [wY]
  omega
inductive vH (x : V)(vs : List V)(H : Hp)(Q : VK) : Prop
  | mk : ∀ l xs y, (x = .ref l) → (vs=[]) → (H l=some (.lst xs)) → (xs[xs.length - 1]? = some y) → (Q y (upd H l (.lst xs.dropLast))) → vH x vs H Q
theorem so : MtM X "list.pop" vH := by
  intro pins s σ H x vs v us Q I rx rv h
  obtain ⟨l, xs, y, rfl, rfl, hH, hy, q⟩ := h
  cases rx
  have hus := rv.zero
  subst hus
  obtain ⟨z, its, n, r, hl, e⟩ := I.lstM hH
  obtain ⟨u, hu, ru⟩ := r.get hy
  have hy' : its.toArray[its.toArray.size - 1]? = some u := by
    show its.toArray[its.length - 1]? = some u
    rw [← Array.getElem?_toList, ← hl]
    exact hu
  refine zw F.slot_list_pop ⟨_, e, rfl⟩ F.entry_list_pop (F.args_list_pop_1 _) (MeetsSeq.list_pop_last l its.toArray n u hy' (by rw [w5];omega)) ⟨e, ?_⟩
  refine ⟨y, _, I.lset (its' := its.dropLast) hH e ?_ r.dropLast ?_, ru, q⟩
  · show its.toArray.eraseIdxIfInBounds (its.toArray.size - 1)=its.dropLast.toArray
    rw [w5, zy, jJ]
  · rw [List.length_dropLast]
    omega
inductive oR (x : V)(vs : List V)(H : Hp)(Q : VK) : Prop
  | mk : ∀ l xs i k y, (x = .ref l) → (vs=[.int i]) → (H l=some (.lst xs)) → (-(2 ^ 63)≤i) → (i < 2 ^ 63) → (seqIndex? i xs.length=some k) → (xs[k]? = some y) → (Q y (upd H l (.lst (xs.eraseIdx k)))) → oR x vs H Q
theorem m5 : MtM X "list.pop" oR := by
  intro pins s σ H x vs v us Q I rx rv h
  obtain ⟨l, xs, i, k, y, rfl, rfl, hH, h1, h2, hk, hy, q⟩ := h
  cases rx
  obtain ⟨u, rfl, ru⟩ := rv.one
  obtain ⟨t, rfl⟩ := ru
  obtain ⟨z, its, n, r, hl, e⟩ := I.lstM hH
  obtain ⟨w, hw, rw'⟩ := r.get hy
  refine zw F.slot_list_pop ⟨_, e, rfl⟩ F.entry_list_pop (F.args_list_pop_2 _ _)
    (MeetsSeq.list_pop_at l its.toArray n i t k w (fitsIndex_both h1 h2) (by rw [w5, ← hl];exact hk) (by rw [← Array.getElem?_toList];exact hw) (by rw [w5];omega)) ⟨e, ?_⟩
  refine ⟨y, _, I.lset (its' := its.eraseIdx k) hH e ?_ (r.eraseIdx k) ?_, rw', q⟩
  · show its.toArray.eraseIdxIfInBounds k=(its.eraseIdx k).toArray
    rw [zy]
  · have := gA xs k
    omega
inductive vI (x : V)(y : V)(H : Hp)(Q : VK) : Prop
  | mk : ∀ l b xs zs, (x = .ref l) → (y = .ref b) → (H l=some (.lst xs)) → (H b=some (.lst zs)) → (xs.length+zs.length≤sizeLine) → (∀ p, H p=none → Q (.ref p) (upd H p (.lst (xs++zs)))) → vI x y H Q
theorem jc : OpR X (binaryOp .Add) vI := by
  intro pins s σ H x y v u Q I rx ry h
  obtain ⟨l, b, xs, zs, rfl, rfl, hH, hB, hz, q⟩ := h
  cases rx
  cases ry
  obtain ⟨z, its, n, r, hl, e⟩ := I.lstM hH
  obtain ⟨z2, its2, n2, r2, hl2, e2⟩ := I.lstM hB
  refine PySem.P.add_list e e2 ?_ (by rw [w5, w5];omega)
  have ea : its.toArray++its2.toArray=(its++its2).toArray := by simp
  rw [ea]
  exact ⟨.ref _, _, I.lnew (t' := s.toks) (r.append r2) (by rw [wY];omega), rfl, q _ I.fresh⟩
inductive vJ (x : V)(y : V)(H : Hp)(Q : VK) : Prop
  | mk : ∀ l k xs, (x = .ref l) → (y = .int k) → (H l=some (.lst xs)) → (-(2 ^ 63)≤k) → (k < 2 ^ 63) → (xs.length*k.toNat≤sizeLine) → (∀ p, H p=none → Q (.ref p) (upd H p (.lst (List.replicate k.toNat xs).flatten))) → vJ x y H Q
theorem pU {α : Type}(xs : List α)(k : Nat) : (List.replicate k xs).flatten.length=k*xs.length := by
  induction k with
  | zero => simp
  | succ k ih => rw [yJ, yF, wY, ih, AF, Nat.add_comm]
theorem su : OpR X (binaryOp .Mult) vJ := by
  intro pins s σ H x y v u Q I rx ry h
  obtain ⟨l, k, xs, rfl, rfl, hH, h1, h2, hz, q⟩ := h
  cases rx
  obtain ⟨t, rfl⟩ := ry
  obtain ⟨z, its, n, r, hl, e⟩ := I.lstM hH
  have hlen : its.toArray.size*k.toNat≤sizeLine := by rw [w5, ← hl];exact hz
  have hcap : ¬ its.toArray.size*k.toNat > (2 ^ 63 - 1) / 8 := by
    have : (sizeLine : Nat)≤(2 ^ 63 - 1) / 8 := by decide
    omega
  have hfit : ¬ (!Builtin.List.listFitsIndex k)=true := by
    rw [fitsIndex_both h1 h2]
    exact xg
  have hlong : ¬ Builtin.List.listTooLong (its.toArray.size*k.toNat)=true := by
    rw [jb hlen]
    exact xg
  have hnew : List.foldl (fun x1 x2 => x1++x2) #[] (List.replicate (if its.toArray.isEmpty=true then 0 else k.toNat) its.toArray)=(List.replicate k.toNat its).flatten.toArray := by
    have f0 : ∀ m : Nat, List.foldl (fun x1 x2 => x1++x2) #[] (List.replicate m its.toArray)=(List.replicate m its).flatten.toArray := fun m => by
      have := gC its m []
      rw [AG] at this
      exact this
    rw [f0]
    cases its with
    | nil => simp
    | cons a r' => rw [if_neg (by simp)]
  refine wpAny_binaryOp_repeat_ref (T := "list") (U := "int") (by decide) ⟨_, e, rfl⟩ (fun s' => typeIs_int s' k t) noFill_list_mul F.fills_int_mul F.slot_int_rmul repeat_list F.slot_int_index.lookup
    (zw F.slot_int_rmul (typeIs_int s k t) F.entry_int_rmul (F.args_int_rmul_2 _ _) (int___rmul___int_list k t l its.toArray n)
      ⟨e, rfl, ⟨_, e, rfl⟩, zw F.slot_list_mul ⟨_, e, rfl⟩ F.entry_list_mul (F.args_list_mul_2 _ _) (AutoListH.list___mul___list_int_3 l its.toArray n k t hfit hcap hlong) ⟨e, ?_⟩⟩)
  rw [hnew]
  exact ⟨.ref _, _, I.lnew (t' := s.toks) (r.rep k.toNat) (by rw [pU, Nat.mul_comm];exact hz), rfl, q _ I.fresh⟩
end
section
variable {prog : Program} {w : World} {A : Around} {E : Value → Shared → Prop} {s : Shared}
end
section
variable {X : Cx}
end
section
variable {κ : Type} [DecidableEq κ]
def cK (kvs : List (κ × V))(k : κ) : Option V := (kvs.find? fun kv => decide (kv.1=k)).map (·.2)
def cP (kvs : List (κ × V))(k : κ)(v : V) : List (κ × V) :=
  if (kvs.any fun kv => decide (kv.1=k))=true then kvs.map (fun kv => if kv.1=k then (kv.1, v) else kv) else kvs++[(k, v)]
theorem bj {p : κ × V}{r : List (κ × V)}{k : κ}(e : p.1=k) : cK (p::r) k=some p.2 := by simp [cK, yU, e]
theorem bo {p : κ × V}{r : List (κ × V)}{k : κ}(e : ¬ p.1=k) : cK (p::r) k=cK r k := by simp [cK, yU, e]
theorem dQ (k : κ) : ∀ kvs : List (κ × V), (kvs.any fun kv => decide (kv.1=k))=(cK kvs k).isSome
  | [] => rfl
  | p::r => by
    rw [zO]
    by_cases e : p.1=k
    · simp only [bj e, xt e, Bool.true_or, Option.isSome_some]
    · rw [bo e, xi e, Bool.false_or];exact dQ k r
theorem jd (k j : κ)(y : V) : ∀ kvs : List (κ × V), cK (kvs.map fun kv => if kv.1=k then (kv.1, y) else kv) j=(cK kvs j).map fun x => if j=k then y else x
  | [] => rfl
  | p::r => by
    have ih := jd k j y r
    rw [xM]
    by_cases h : p.1=k
    · rw [if_pos h]
      by_cases e : p.1=j
      · rw [bj (p := (p.1, y)) e, bj e, zX, if_pos (e.symm.trans h)]
      · rw [bo (p := (p.1, y)) e, bo e, ih]
    · rw [if_neg h]
      by_cases e : p.1=j
      · rw [bj (p := p) e, bj e, zX, if_neg (fun z => h (e.trans z))]
      · rw [bo (p := p) e, bo e, ih]
theorem gD (k j : κ)(y : V) : ∀ kvs : List (κ × V), cK kvs k=none → cK (kvs++[(k, y)]) j=if j=k then some y else cK kvs j
  | [], _ => by
    by_cases e : k=j
    · rw [if_pos e.symm];exact bj (p := (k, y)) e
    · rw [if_neg (fun z => e z.symm)];exact bo (p := (k, y)) e
  | p::r, hn => by
    rw [List.cons_append]
    have hk : ¬ p.1=k := fun z => by rw [bj z] at hn;cases hn
    rw [bo hk] at hn
    have ih := gD k j y r hn
    by_cases e : p.1=j
    · rw [bj e, bj e, if_neg (fun z => hk (e.trans z))]
    · rw [bo e, bo e, ih]
theorem je (kvs : List (κ × V))(k j : κ)(y : V) : cK (cP kvs k y) j=if j=k then some y else cK kvs j := by
  unfold cP
  by_cases a : (kvs.any fun kv => decide (kv.1=k))=true
  · rw [if_pos a, jd]
    rw [dQ] at a
    by_cases e : j=k
    · obtain ⟨x, hx⟩ := za.mp a
      rw [if_pos e, e, hx, zX, if_pos rfl]
    · rw [if_neg e]
      cases cK kvs j with
      | none => rfl
      | some x => rw [zX, if_neg e]
  · rw [if_neg a]
    refine gD k j y kvs ?_
    rw [dQ] at a
    cases q : cK kvs k with
    | none => rfl
    | some x => rw [q] at a;exact (a rfl).elim
theorem bE (kvs : List (κ × V))(k : κ)(v : V) : (cP kvs k v).length≤kvs.length+1 := by
  unfold cP
  split
  · rw [wV];omega
  · rw [wY, xu, yV];omega
theorem i5.isSome_eq {o : Option V}{u : Option Value}(r : i5 o u) : o.isSome=u.isSome := by
  cases o with
  | none => cases u with
    | none => rfl
    | some _ => exact (show False from r).elim
  | some _ => cases u with
    | none => exact (show False from r).elim
    | some _ => rfl
theorem KV.val {kvs : List (κ × V)}{vs : List (κ × Value)}(r : KV kvs vs)(k : κ) : i5 (cK kvs k) (valueAt vs k) := by
  unfold KV at r
  induction r with
  | nil => exact True.intro
  | @cons p q ps qs h t ih =>
    obtain ⟨h1, h2⟩ := h
    by_cases e : p.1=k
    · have e' : q.1=k := h1.symm.trans e
      have b : valueAt (q::qs) k=some q.2 := by simp [valueAt, yU, e']
      rw [bj e, b];exact h2
    · have e' : ¬ q.1=k := fun z => e (h1.trans z)
      have b : valueAt (q::qs) k=valueAt qs k := by simp [valueAt, yU, e']
      rw [bo e, b];exact ih
theorem KV.any {kvs : List (κ × V)}{vs : List (κ × Value)}(r : KV kvs vs)(k : κ) : (kvs.any fun kv => decide (kv.1=k))=vs.any fun kv => decide (kv.1=k) := by
  unfold KV at r
  induction r with
  | nil => rfl
  | cons h t ih => rw [zO, zO, ih, h.1]
theorem KV.repl {kvs : List (κ × V)}{vs : List (κ × Value)}(r : KV kvs vs)(k : κ){y : V}{u : Value}(ry : a7 y u) :
    KV (kvs.map fun kv => if kv.1=k then (kv.1, y) else kv) (vs.map fun kv => if kv.1=k then (kv.1, u) else kv) := by
  unfold KV at r ⊢
  induction r with
  | nil => exact .nil
  | @cons p q ps qs h t ih =>
    rw [xM, xM]
    refine .cons ?_ ih
    obtain ⟨h1, h2⟩ := h
    by_cases e : p.1=k
    · rw [if_pos e, if_pos (h1.symm.trans e)];exact ⟨h1, ry⟩
    · rw [if_neg e, if_neg (fun z => e (h1.trans z))];exact ⟨h1, h2⟩
theorem KV.put {kvs : List (κ × V)}{vs : List (κ × Value)}(r : KV kvs vs)(k : κ){y : V}{u : Value}(ry : a7 y u) : KV (cP kvs k y) (stored vs k u) := by
  unfold cP stored
  rw [r.any k]
  by_cases e : (vs.any fun kv => decide (kv.1=k))=true
  · rw [if_pos e, if_pos e];exact r.repl k ry
  · rw [if_neg e, if_neg e];exact Paired.snoc r ⟨rfl, ry⟩
theorem KV.length {kvs : List (κ × V)}{vs : List (κ × Value)}(r : KV kvs vs) : kvs.length=vs.length := Ar r
end
theorem m6 {P : Program}{w : World}{k : Key}{u : Value}(r : a7 (kV k) u) : (a_ P w).is k u=true := by
  cases k with
  | inl i => obtain ⟨t, e⟩ := (show ∃ t, u=Value.int i t from r);subst e;exact ib P w i t
  | inr x => obtain ⟨t, e⟩ := (show ∃ t, u=Value.str x t from r);subst e;exact ie P w x t
theorem gE {P : Program}{w : World} : ∀ {ks : List Key} {us : List Value}, aR (ks.map kV) us → ItemsAre (a_ P w) ks us
  | [], _, r => by rw [AH] at r;cases r;exact .nil
  | k::ks, _, r => by
    rw [xM] at r
    cases r with
    | cons h t => exact .cons (m6 h) (gE t)
abbrev KT (H : Hp) : List (List Key × V) → List (List Key × Addr × Value) → Prop := Paired fun p q => p.1=q.1 ∧ H q.2.1=some (.tup (p.1.map kV)) ∧ a7 p.2 q.2.2
theorem KT.val {H : Hp}{kvs : List (List Key × V)}{xs : List (List Key × Addr × Value)}(r : KT H kvs xs)(k : List Key) : i5 (cK kvs k) ((atKey xs k).map (·.2)) := by
  induction r with
  | nil => exact True.intro
  | @cons p q ps qs h t ih =>
    obtain ⟨h1, _, h2⟩ := h
    by_cases e : p.1=k
    · have e' : q.1=k := h1.symm.trans e
      have b : atKey (q::qs) k=some q.2 := by simp [atKey, yU, e']
      rw [bj e, b];exact h2
    · have e' : ¬ q.1=k := fun z => e (h1.trans z)
      have b : atKey (q::qs) k=atKey qs k := by simp [atKey, yU, e']
      rw [bo e, b];exact ih
theorem KT.repl {H : Hp}{kvs : List (List Key × V)}{xs : List (List Key × Addr × Value)}(r : KT H kvs xs)(k : List Key){y : V}{u : Value}(ry : a7 y u) :
    KT H (kvs.map fun kv => if kv.1=k then (kv.1, y) else kv) (xs.map (putAt k u)) := by
  induction r with
  | nil => exact .nil
  | @cons p q ps qs h t ih =>
    rw [xM, xM]
    refine .cons ?_ ih
    obtain ⟨h1, h2, h3⟩ := h
    unfold putAt
    by_cases e : p.1=k
    · rw [if_pos e, if_pos (h1.symm.trans e)];exact ⟨h1, h2, ry⟩
    · rw [if_neg e, if_neg (fun z => e (h1.trans z))];exact ⟨h1, h2, h3⟩
theorem KT.put {H : Hp}{kvs : List (List Key × V)}{xs : List (List Key × Addr × Value)}(r : KT H kvs xs)(k : List Key){b : Addr}{y : V}{u : Value}(hb : H b=some (.tup (k.map kV)))(ry : a7 y u) :
    KT H (cP kvs k y) (storedH xs k b u) := by
  have e : (kvs.any fun kv => decide (kv.1=k))=(atKey xs k).isSome := by
    rw [dQ, (r.val k).isSome_eq, Option.isSome_map]
  unfold cP storedH
  rw [e]
  by_cases q : (atKey xs k).isSome=true
  · rw [if_pos q, if_pos q];exact r.repl k ry
  · rw [if_neg q, if_neg q];exact Paired.snoc r ⟨rfl, hb, ry⟩
theorem KT.keeps {H H' : Hp}{kvs : List (List Key × V)}{xs : List (List Key × Addr × Value)}(r : KT H kvs xs)(ht : ∀ b ys, H b=some (.tup ys) → H' b=some (.tup ys)) : KT H' kvs xs :=
  Paired.mapP r fun _ _ z => ⟨z.1, ht _ _ z.2.1, z.2.2⟩
section
variable {P : Program} {w : World} {H : Hp} {h : Heap} {a : Addr}
theorem sv {u : HO}(ok : HOk P w H h)(e : Rd H a u) : bu P w H h a u := e.ok ok
theorem pV {kvs : List (Key × V)}(ok : HOk P w H h)(e : Rd H a (.dK kvs)) : kvs.length≤sizeLine ∧ (a == sysModules)=false ∧ ∃ vs, KV kvs vs ∧ h.DictOf (a_ P w) a vs :=
  show bu P w H h a (.dK kvs) from sv ok e
theorem sx {kvs : List (Key × V)}(ok : HOk P w H h)(e : H a=some (.dK kvs)) : kvs.length≤sizeLine ∧ (a == sysModules)=false ∧ ∃ vs, KV kvs vs ∧ h.DictOf (a_ P w) a vs := pV ok (.inl e)
theorem ky {ks : List Key}(ok : HOk P w H h)(e : H a=some (.tup (ks.map kV))) : (tupleKind (a_ P w)).is h ks a := by
  obtain ⟨_, its, r, ⟨o, h1, h2, n, h3⟩, _⟩ := (show bu P w H h a (.tup (ks.map kV)) from ok a _ e)
  exact ⟨o, its.toArray, n, h1, h2, h3, by simpa using gE r⟩
theorem pX {kvs : List (List Key × V)}(ok : HOk P w H h)(e : Rd H a (.dT kvs)) : kvs.length≤sizeLine ∧ (a == sysModules)=false ∧
    ∃ xs, KT H kvs xs ∧ h.DictOfH (tupleKind (a_ P w)) a xs := by
  obtain ⟨z, y, xs, r, o, es, ep, h1, h2, h3, h4, h5⟩ := (show bu P w H h a (.dT kvs) from sv ok e)
  refine ⟨z, y, xs, r, o, es, ep, h1, h2, h3, h4, fun x hx => ?_, h5⟩
  have all : ∀ {l : List (List Key × V)} {m : List (List Key × Addr × Value)}, KT H l m → ∀ x∈m, (tupleKind (a_ P w)).is h x.1 x.2.1 := by
    intro l m q
    induction q with
    | nil => intro x hx;exact nomatch hx
    | @cons p q ps qs hq t ih =>
      intro x hx
      rcases xn.mp hx with e | hx
      · subst e
        exact ky ok (by rw [← hq.1];exact hq.2.1)
      · exact ih x hx
  exact all r x hx
theorem uI {kvs : List (List Key × V)}(ok : HOk P w H h)(e : H a=some (.dT kvs)) : kvs.length≤sizeLine ∧ (a == sysModules)=false ∧
    ∃ xs, KT H kvs xs ∧ h.DictOfH (tupleKind (a_ P w)) a xs := pX ok (.inl e)
end
def pY (H : Hp)(a : Addr)(y : V)(r : Option V) : Prop :=
  (∃ kvs k, Rd H a (.dK kvs) ∧ y=kV k ∧ r=cK kvs k) ∨ ∃ kvs k b, Rd H a (.dT kvs) ∧ y = .ref b ∧ H b=some (.tup (k.map kV)) ∧ r=cK kvs k
def rD (H : Hp)(a : Addr)(y v : V)(H' : Hp) : Prop :=
  (∃ kvs k, H a=some (.dK kvs) ∧ y=kV k ∧ kvs.length < sizeLine ∧ H'=upd H a (.dK (cP kvs k v))) ∨
  ∃ kvs k b, H a=some (.dT kvs) ∧ y = .ref b ∧ H b=some (.tup (k.map kV)) ∧ kvs.length < sizeLine ∧ H'=upd H a (.dT (cP kvs k v))
theorem pY.k {H : Hp}{a : Addr}{kvs : List (Key × V)}{k : Key}(e : H a=some (.dK kvs)) : pY H a (kV k) (cK kvs k) := .inl ⟨kvs, k, .inl e, rfl, rfl⟩
theorem rD.k {H : Hp}{a : Addr}{kvs : List (Key × V)}{k : Key}{v : V}(e : H a=some (.dK kvs))(hl : kvs.length < sizeLine) : rD H a (kV k) v (upd H a (.dK (cP kvs k v))) := .inl ⟨kvs, k, e, rfl, hl, rfl⟩
section
variable {X : Cx} {pins : List (Addr × Obj)} {σ : St} {H : Hp} {s : Shared} {a : Addr} {y v : V} {u r : Value} {o : Option V} {A : Around} {E : Value → Shared → Prop}
theorem Inv.big (I : Inv X pins σ H s) : sysModules < s.heap.objs.size := by
  have h : mainGlobals < s.heap.objs.size := (I.mod.glob.keeps I.bk).lt
  exact Nat.lt_trans (by decide) h
theorem kA {Q : Value → Shared → Prop}(hu : A.units+1 < cLine)(I : Inv X pins σ H s)(g : pY H a y (some v))(ry : a7 y u)(h : ∀ w' s', Inv X pins σ H s' → a7 v w' → Q w' s') :
    wpAny (model X.prog X.w) A (getItem (.ref a) u) Q E s := by
  rcases g with ⟨kvs, k, e, ey, l⟩ | ⟨kvs, k, b, e, ey, eb, l⟩
  · subst ey
    obtain ⟨z, hd, vs, rel, dd⟩ := pV I.hok e
    obtain ⟨w', hw, rw'⟩ := i5.some_of (v := v) (o := valueAt vs k) (by rw [l];exact rel.val k)
    exact wpAny_getItem_of (m6 ry) dd.mapOf hw (h w' _ (I.tok _) rw')
  · subst ey
    cases (show u=Value.ref b from ry)
    obtain ⟨z, hd, xs, rel, dd⟩ := pX I.hok e
    obtain ⟨w', hw, rw'⟩ := i5.some_of (v := v) (o := (atKey xs k).map (·.2)) (by rw [l];exact rel.val k)
    obtain ⟨p, hp, hp2⟩ := Option.map_eq_some_iff.mp hw
    refine wpAny_getItem_heap (tupleKind_room_in1 hu) (ky I.hok eb) dd hp ?_
    rw [hp2]
    exact h w' _ (I.tok _) rw'
theorem iB {h' : Heap}{t' : Nat}{ob : HO}(I : Inv X pins σ H s)(mu : Mut (H a))(hs : Heap.SameBut a s.heap h')(he : ∃ q, h'.get? a=some q)(new : bu X.prog X.w (upd H a ob) h' a ob) :
    Inv X pins σ (upd H a ob) { s with heap := h', toks := t' } :=
  I.write (x := a) (e := a) mu (.inl rfl) (fun b q hb z => (hs.2 b hb).trans z) he new
theorem oS {P : Program}{w : World}{H' : Hp}{h' : Heap}{kvs : List (Key × V)}{vs : List (Key × Value)}(z : kvs.length≤sizeLine)(hd : (a == sysModules)=false)(rel : KV kvs vs)(dd : h'.DictOf (a_ P w) a vs) :
    bu P w H' h' a (.dK kvs) := ⟨z, hd, vs, rel, dd⟩
theorem kC {H' : Hp}{Q : Unit → Shared → Prop}(hu : A.units+1 < cLine)(I : Inv X pins σ H s)(g : rD H a y v H')(ry : a7 y u)(rv : a7 v r)(h : ∀ s', Inv X pins σ H' s' → Q () s') :
    wpAny (model X.prog X.w) A (setItem (.ref a) u r) Q E s := by
  rcases g with ⟨kvs, k, e, ey, l, eH⟩ | ⟨kvs, k, b, e, ey, eb, l, eH⟩
  · subst ey eH
    obtain ⟨z, hd, vs, rel, dd⟩ := sx I.hok e
    have hz : vs.length≤sizeLine := by rw [← rel.length];exact z
    have hl : (cP kvs k v).length≤sizeLine := by have := bE kvs k v;omega
    refine wpAny_setItem_pairs (hsz := hz) (m6 ry) dd fun h' dd' hs => h _ ?_
    have he : ∃ q, h'.get? a=some q := let ⟨q, _, _, hq, _⟩ := dd';⟨q, hq⟩
    exact iB I (by rw [e];exact True.intro) hs he (oS hl hd (rel.put k rv) dd')
  · subst ey eH
    cases (show u=Value.ref b from ry)
    obtain ⟨z, hd, xs, rel, dd⟩ := uI I.hok e
    have hz : xs.length≤sizeLine := by rw [← Ar rel];exact z
    have hl : (cP kvs k v).length≤sizeLine := by have := bE kvs k v;omega
    refine wpAny_setItem_heap (hsz := hz) (tupleKind_room_in1 hu) (ky I.hok eb) dd fun h' dd' hs => h _ ?_
    obtain ⟨q, es, ep, hq, h2, h3, h4, _, h5⟩ := dd'
    refine iB I (by rw [e];exact True.intro) hs ⟨q, hq⟩ ⟨hl, hd, _, (rel.put k eb rv).keeps fun c ys ec => ?_, q, es, ep, hq, h2, h3, h4, h5⟩
    rw [ao (dI ec e (fun z => nomatch z))]
    exact ec
end
section
variable {X : Cx} {pins : List (Addr × Obj)} {σ : St} {H : Hp} {s : Shared} {a : Addr} {kvs : List (Key × V)} {k : Key} {u : Value} {A : Around} {E : Value → Shared → Prop}
end
def vK (i : Expr) : Prop := ∀ ov iv, subscripted i false ov iv=operate [ov, iv] (getItem ov iv)
theorem pZ {prog : Program}{w : World}{A : Around}{E : Value → Shared → Prop}{s : Shared}{env : Env}{value slice : Expr}{pos : Pos}{T id : String}{Q : Value → Shared → Prop}
    (hl : typeLookup (.type T) "__getitem__" = pure (some (.builtin id))) (hs : vK slice)
    (h : wpAny (model prog w) A (eval value env) (fun o s₁ => wpAny (model prog w) A (eval slice env) (fun i s₂ => s₂.TypeIs o T ∧ wpAny (model prog w) A (getItem o i) Q E s₂) E s₁) E s) :
    wpAny (model prog w) A (eval (.Subscript value slice pos) env) Q E s := by
  refine Ak (xY h (fun o s₁ h₁ => xY h₁ (fun i s₂ h₂ => ?_) fun _ _ x => x) fun _ _ x => x)
  obtain ⟨hT, h₂⟩ := h₂
  unfold subscriptTail
  refine fu ?_
  rw [getitemInPython_of_ne hT.not_modules]
  refine fu (zY hT hl ?_)
  have fin : wpAny (model prog w) A (subscripted slice false o i) (fun r s₃ => wpAny (model prog w) A (letTemporaryGo value o r >>= fun _ => pure r) Q E s₃) E s₂ := by
    rw [hs o i]
    exact wpAny_operating (xY h₂ (fun r s₃ h₃ => fu (wpAny_letTemporaryGo (xb h₃))) fun _ _ x => x)
  first
    | exact xb (fu fin)
    | exact fu (xb (fu fin))
    | exact fu fin
theorem iC {X : Cx}{pins : List (Addr × Obj)}{σ : St}{H : Hp}{s : Shared}{a : Addr}{y : V}{o : Option V}(I : Inv X pins σ H s)(g : pY H a y o) : s.TypeIs (.ref a) "dict" := by
  rcases g with ⟨kvs, k, e, _, _⟩ | ⟨kvs, k, b, e, _, _, _⟩
  · obtain ⟨_, _, vs, _, dd⟩ := pV I.hok e
    exact dd.typeIs
  · obtain ⟨_, _, xs, _, dd⟩ := pX I.hok e
    exact dd.typeIs
def uJ (td ty : TE) : TE := fun σ H Q => td σ H fun x H1 => ty σ H1 fun y H2 => ∃ a v, x = .ref a ∧ pY H2 a y (some v) ∧ Q v H2
def uK (td ty tv : TE) : TS := fun D σ H => tv σ H fun v H1 => td σ H1 fun x H2 => ty σ H2 fun y H3 => ∃ a H4, x = .ref a ∧ rD H3 a y v H4 ∧ D.nx σ H4
section
variable {X : Cx} {o i e value : Expr} {pos pos' tpos : Pos} {td ty tv : TE}
theorem bF (hu : X.A.units+1 < cLine)(ho : PE X o td)(hi : PE X i ty)(hs : vK i) : PE X (.Subscript o i pos) (uJ td ty) := by
  intro pins s σ H Q I h
  refine pZ PySem.F.slot_dict_getitem.lookup hs (thn (ho pins s σ H _ I h) fun u s1 ⟨x, H1, I1, rx, q1⟩ => thn (hi pins s1 σ H1 _ I1 q1) fun iv s2 zq68 => ?_)
  obtain ⟨y, H2, I2, ry, a, v, ex, g, q2⟩ := zq68
  subst ex
  obtain rfl : u=Value.ref a := rx
  exact ⟨iC I2 g, kA hu I2 g ry fun w' s3 I3 rw' => ⟨v, H2, I3, rw', q2⟩⟩
theorem de (hu : X.A.units+1 < cLine)(ho : PE X o td)(hi : PE X i ty)(hv : PE X value tv)(hs : swapsWith value (some (.Subscript o i pos')) pos.line X.env=pure false) :
    PS X (.Assign [.Subscript o i pos'] value pos) (uK td ty tv) := by
  intro pins s σ H D I h
  refine wpAny_Assign_Subscript (thn (hv pins s σ H _ I h) fun r s1 ⟨v, H1, I1, rv, q1⟩ => thn (ho pins s1 σ H1 _ I1 q1) fun u s2 ⟨x, H2, I2, rx, q2⟩ => thn (hi pins s2 σ H2 _ I2 q2) fun iv s3 zq71 => ?_) hs
  obtain ⟨y, H3, I3, ry, a, H4, ex, g, q3⟩ := zq71
  subst ex
  obtain rfl : u=Value.ref a := rx
  exact kC hu I3 g ry rv fun s4 I4 => ⟨σ, H4, I4, q3⟩
end
theorem jf {P : Program}{w : World}{H : Hp}(h : Heap)(hb : sysModules < h.objs.size) : bu P w H (h.push { cls := .type "dict", data := .dict #[] }) h.objs.size (.dK []) :=
  ⟨xQ _, zS.mpr (Ne.symm (xx hb)), [], .nil, Heap.DictOf.new h⟩
def sy : TE := fun _ H Q => ∀ p, H p=none → Q (.ref p) (upd H p (.dK []))
section
variable {X : Cx} {pos : Pos}
theorem m7 : PE X (.Dict [] [] pos) sy := fun pins s σ H Q I h =>
  wpAny_Dict_empty ⟨.ref s.heap.objs.size, _, I.laid (a := s.heap.objs.size) (o := .dK []) (t' := s.toks) (fun _ _ q => wU _ q) (wX _) (jf s.heap I.big), rfl, h _ (I.hok.fresh (wX _))⟩
end
def kD : List (TE × TE) → St → Hp → (List (V × V) → Hp → Prop) → Prop
  | [], _, H, Q => Q [] H
  | (tk, tv)::r, σ, H, Q => tk σ H fun x H1 => tv σ H1 fun y H2 => kD r σ H2 fun ps H3 => Q ((x, y)::ps) H3
abbrev VV : List (V × V) → List (Value × Value) → Prop := Paired fun p q => a7 p.1 q.1 ∧ a7 p.2 q.2
def PPs (X : Cx)(pos : Pos)(keys : List (Option Expr))(values : List Expr)(trs : List (TE × TE)) : Prop :=
  ∀ (pins : List (Addr × Obj)) (s : Shared) (σ : St) (H : Hp) (Q : List (V × V) → Hp → Prop), Inv X pins σ H s → kD trs σ H Q →
    wpAny (model X.prog X.w) X.A (evalPairs (pairTrees keys values X.env pos)) (fun vs s' => ∃ ps H', Inv X pins σ H' s' ∧ VV ps vs ∧ Q ps H') X.xe s
theorem p_ {X : Cx}{pos : Pos} : PPs X pos [] [] [] := fun pins s σ H Q I h => pairTrees_nil_walk ⟨[], H, I, .nil, h⟩
theorem dR {X : Cx}{pos : Pos}{k v : Expr}{ks : List (Option Expr)}{vs : List Expr}{tk tv : TE}{trs : List (TE × TE)}(hk : PE X k tk)(hv : PE X v tv)(hr : PPs X pos ks vs trs) :
    PPs X pos (some k::ks) (v::vs) ((tk, tv)::trs) := fun pins s σ H Q I h =>
  pairTrees_cons_walk (thn (hk pins s σ H _ I h) fun u s1 ⟨x, H1, I1, rx, q1⟩ => thn (hv pins s1 σ H1 _ I1 q1) fun w2 s2 ⟨y, H2, I2, ry, q2⟩ =>
    thn (hr pins s2 σ H2 _ I2 q2) fun ws s3 zq75 => (by obtain ⟨ps, H3, I3, rel, q3⟩ := zq75;exact ⟨(x, y)::ps, H3, I3, .cons ⟨rx, ry⟩ rel, q3⟩))
def et (kvs more : List (Key × V)) : List (Key × V) := more.foldl (fun acc kv => cP acc kv.1 kv.2) kvs
theorem KV.merge : ∀ {more : List (Key × V)} {rs : List (Key × Value)} {kvs : List (Key × V)} {vs : List (Key × Value)}, KV more rs → KV kvs vs → KV (et kvs more) (merged vs rs) := by
  intro more rs kvs vs r
  unfold KV at r
  induction r generalizing kvs vs with
  | nil => intro q;exact q
  | @cons p q ps qs h t ih =>
    intro r0
    have e : KV (cP kvs p.1 p.2) (stored vs q.1 q.2) := by
      have := r0.put p.1 h.2
      rw [← h.1];exact this
    exact ih e
theorem cU : ∀ (more kvs : List (Key × V)), (et kvs more).length≤kvs.length+more.length
  | [], kvs => by show kvs.length≤kvs.length+0;omega
  | p::r, kvs => by
    have h1 := cU r (cP kvs p.1 p.2)
    have h2 := bE kvs p.1 p.2
    show (et (cP kvs p.1 p.2) r).length≤_
    rw [xu];omega
theorem fe {P : Program}{w : World} : ∀ {kvs : List (Key × V)} {ws : List (Value × Value)}, VV (kvs.map fun kv => (kV kv.1, kv.2)) ws → ∃ rs, Carries (a_ P w) ws rs ∧ KV kvs rs
  | [], _, r => by rw [AH] at r;cases r;exact ⟨[], True.intro, .nil⟩
  | p::kvs, _, r => by
    rw [xM] at r
    cases r with
    | @cons a b as bs h t =>
      obtain ⟨rs, c, q⟩ := fe (P := P) (w := w) t
      obtain ⟨b1, b2⟩ := b
      exact ⟨(p.1, b2)::rs, ⟨m6 h.1, rfl, c⟩, .cons ⟨rfl, h.2⟩ q⟩
def uL (trs : List (TE × TE)) : TE := fun σ H Q => ∀ p, H p=none → kD trs σ (upd H p (.dK [])) fun ps H2 => H2 p=some (.dK []) ∧ ∃ kvs : List (Key × V), ps=kvs.map (fun kv => (kV kv.1, kv.2)) ∧ kvs.length≤15 ∧ Q (.ref p) (upd H2 p (.dK (et [] kvs)))
theorem qa {X : Cx}{pos : Pos}{keys : List (Option Expr)}{values : List Expr}{trs : List (TE × TE)}(h : PPs X pos keys values trs)(hall : keys.all (·.isSome)=true)(hl : keys.length=values.length)(h0 : keys≠[])
    (h15 : keys.length≤15) : PE X (.Dict keys values pos) (uL trs) := by
  intro pins s σ H Q I q
  have hn := I.hok.fresh (wX s.heap.objs.size)
  have I1 := I.laid (a := s.heap.objs.size) (o := .dK []) (h' := s.heap.push { cls := .type "dict", data := .dict #[] }) (t' := s.toks) (fun _ _ q => wU _ q) (wX _) (jf s.heap I.big)
  refine wpAny_Dict_walk (knd := a_ X.prog X.w) hall hl h0 h15 (thn (h pins _ σ _ _ I1 (q _ hn)) fun ws s2 zq76 => ?_)
  obtain ⟨ps, H2, I2, rel, e, kvs, ep, lk, q2⟩ := zq76
  subst ep
  obtain ⟨rs, c, rk⟩ := fe (P := X.prog) (w := X.w) rel
  obtain ⟨z, hd, vs0, r0, dd⟩ := sx I2.hok e
  cases r0
  refine ⟨rs, c, dd, fun h' dd' hs => ⟨.ref s.heap.objs.size, _, ?_, rfl, q2⟩⟩
  have hz : (et [] kvs).length≤sizeLine := by
    have h1 := cU kvs []
    rw [yV] at h1
    rw [yy];omega
  have he : ∃ q, h'.get? s.heap.objs.size=some q := let ⟨q, _, _, hq, _⟩ := dd';⟨q, hq⟩
  exact iB I2 (by rw [e];exact True.intro) hs he (oS hz hd (rk.merge .nil) dd')
section
variable {X : Cx} {pins : List (Addr × Obj)} {σ : St} {H : Hp} {s : Shared} {a : Addr} {y d : V} {u r : Value} {o : Option V} {A : Around} {E : Value → Shared → Prop}
end
section
variable {X : Cx} {o e f : Expr} {apos cpos : Pos} {td ty tx : TE}
end
section
variable {X : Cx} {pins : List (Addr × Obj)} {σ : St} {H : Hp} {s : Shared} {a : Addr} {kvs : List (Key × V)} {A : Around} {E : Value → Shared → Prop}
end
section
variable {X : Cx} {pins : List (Addr × Obj)} {σ : St} {H : Hp} {s : Shared} {a : Addr} {y : V} {u : Value} {A : Around} {E : Value → Shared → Prop}
end
end L2
namespace Att
open PySem PySem.W PySem.Calls PyProof.Rows
theorem eA {P : Params}{h : Heap} : ∀ (ns : List Int) (vs : List Value), WellAll P h vs (ns.map WData.int) → IntsAre vs ns := by
  intro ns
  induction ns with
  | nil =>
    intro vs w
    rw [AH] at w
    cases w
    exact .nil
  | cons n ns ih =>
    intro vs w
    rw [xM] at w
    cases w with
    | cons a b =>
      cases a
      exact .cons _ _ (ih _ b)
theorem kE {l : OpenLaw}{n : Nat}(hn : l.most=some n){P : Params}{h : Heap}{args : List WData}{vals : List Value}
    (hpre : l.row.toRowW.claim.pre args=true) (hwl : WellAll P h vals args) :
    ∃ a vs ns, vals=[Value.ref a] ∧ args=[WData.list (ns.map WData.int)] ∧ h.get? a=some { cls := .type "list", data := .seq vs.toArray } ∧ IntsAre vs ns ∧ ns.length≤n := by
  have hsh : WShape.hasAll [] args [.list .int]=true := (pre_splitW hpre).1
  have hc : l.pre.holds [] { args := args }=true := (pre_splitW hpre).2
  obtain ⟨d, r, rfl, h1, h2⟩ := hasAllW_cons hsh
  obtain rfl := hasAllW_nil h2
  obtain ⟨xs, rfl, h3⟩ := hasW_list h1
  obtain ⟨ns, rfl⟩ := items_int h3
  have hlen : ns.length≤n := by
    unfold OpenLaw.pre at hc
    have h4 : (WTm.not (.lt (.lit (.int (n : Int))) (.len (.arg 0)))).holds [] { args := [.list (ns.map .int)] }=true := by
      have h4 := (holds_andW hc).1
      rw [hn] at h4
      exact h4
    have h5 := condW_of h4 (w_not (w_lt w_lit (w_len_list (w_arg rfl))))
    rw [wV] at h5
    refine Nat.le_of_not_lt fun q => ?_
    have q' : (n : Int) < ((ns.length : Nat) : Int) := by omega
    first
      | (rw [xt q'] at h5;exact absurd h5 (by decide))
      | (simp at h5;omega)
  cases hwl with
  | cons w1 w2 =>
    cases w2
    cases w1 with
    | list ho hall => exact ⟨_, _, ns, rfl, rfl, ho, eA ns _ hall, hlen⟩
theorem kF (l : OpenLaw)(args : List WData) : l.row.toRowW.claim.post args (.bool true) args=true :=
  postW_of (r := l.row.toRowW) (X := (true == true))
    (show WShape.has [] (.bool true) .bool=true by first | rfl | decide | simp [WShape.has, WShape.arms, WShape.armsAll])
    (show (WTm.eq .res (.lit (.bool true))).value [] { args := args, res := some (.bool true), after := args }=some (.bool (true == true)) from w_eq_bool (w_res rfl) w_lit) rfl
theorem attach_call {l : OpenLaw}{n : Nat}{q : Program}{loose : List Str}{XP : (Str → Option Value) → Heap → Prop}{YP : World → Heap → Prop}{d : DefRec}
    (hn : l.most=some n) (hdf : d.params.defaults=[])
    (call : ∀ (w : World) (s₀ s₁ : Shared) (mg mb : Str → Option Value) (fa : Addr) (o : Obj) (pm cd doc : Value) (a : Addr) (vs : List Value) (ns : List Int),
      Ground q loose [] XP w s₀ mg mb s₁.heap → YP w s₁.heap →
      s₁.heap.get? fa=some o → o.data = .func (docDef d.name d.params d.body d.scope pm cd doc) → s₁.heap.CodeRec cd d.name → mg d.name=some (.ref fa) →
      s₁.heap.get? a=some { cls := .type "list", data := .seq vs.toArray } → IntsAre vs ns → ns.length≤n → s₁.gens=#[] →
      codeAny (model l.prog w) callerA (.call (.ref fa) ⟨[.ref a], []⟩) (fun r s' => r = .ok (.ret (.bool true)) ∧ OldK s₁.heap s'.heap ∧ s'.os=s₁.os ∧ AllBare s'.gens) s₁) :
    WalkO q loose XP YP l.row.toRowW d [] (fun f vs => PySem.call f vs) := by
  intro w s₀ s₁ mg mb G Y fa o pm cd doc dV kV ho hd hcd hD hmg hg args vals as hpre hlay hrd hwl hlo
  obtain rfl : dV = .none := Dflts.none hD hdf
  obtain rfl : kV = .none := Dflts.noKw hD
  obtain ⟨a, vs, ns, rfl, rfl, hobj, hints, hlen⟩ := kE hn hpre hwl
  refine enter_call (y_ (call w s₀ s₁ mg mb fa o pm cd doc a vs ns G Y ho (fd_plain hd) hcd hmg hobj hints hlen hg) fun r s' hq => ?_)
  obtain ⟨rfl, h2, h3, h4⟩ := hq
  exact ⟨.inl ⟨.bool true, .bool true, [], rfl, fun _ => rfl, .bool true, kF l _, fun _ => ⟨List.Pairwise.nil, fun _ hm => (nomatch hm)⟩⟩, h2, h3, h4⟩
section
variable {prog : Program} {w : World} {A : Around} {E : Value → Shared → Prop} {s : Shared} {K : Frag}
end
end Att
namespace L2
open PySem PySem.Spec PyProof.Rows
theorem gF : ∀ {vs : List Value} {ns : List Int}, IntsAre vs ns → aR (ns.map V.int) vs
  | _, _, .nil => .nil
  | _, _, .cons n t h => .cons ⟨t, rfl⟩ (gF h)
end L2
/- THE LAST THEOREM (shape;LID, My.* are yours):
   My.Adr: a structure of the addresses that your layer names (classes, functions);My.Txt K t: a structure (Prop) of the equations over K;
   My.txt_mk : {K} {implicit addresses ..} (e1 : nsIn K mainGlobals "law" = some (some (.ref f))) (e2 : K.lookup f=some ⟨oc, od, .func (fnOf "law" "law" params body scope dV kV doc pm an cdv ct), sl⟩) (e3 : codeIn K cdv "law" = true) .. : ∃ t, My.Txt K t
set_option maxRecDepth 100000 in
set_option maxHeartbeats 0 in
theorem PySem.Challenge.cw_LID_holds : PySem.Challenge.rw_LID.Holds := by
  w_on;o_law;k_head;(case hw => w_witness2)
  k_fill
  refine L2.walk_of (l := PySem.Challenge.rw_LID) (n := 63) (k := 40) (x := "script") (CX := fun w => ..) (sp := fun _ => My.sp_law) rfl (by decide) rfl ⟨rfl, by decide, by decide⟩ (fun w h Y => PySem.W.kIn_of Y) ?F ?S ?C
  case F =>
    intro w mg fa h KX G hmg
    have T : ∃ t, My.Txt (L2.KOf KX) t := by
      dsimp only [L2.KOf]                          -- K must stand as «<heap const> w.params» for k_is
      refine' My.txt_mk ?e1 ?e2 ?e3 ..
      (case e1 => PySem.W.k_is)                    -- in the order: a name -> its address -> its object -> its parts
      (case e2 => PySem.W.k_is)
      ..
    obtain ⟨t, T⟩ := T
    have e0 := hmg.symm.trans (xS KX G T.law)
    cases e0                                       -- fa is the law's own address
    exact ⟨_, fun s u => .of_eq rfl, fun base kb nb => My.law_fn T kb nb⟩     -- if «.of_eq rfl» comes too early: refine' ⟨_, ?b, fun base kb nb => My.law_fn T kb nb⟩;exact fun s u => .of_eq rfl
  case S => exact fun w H a ns hl hO hS => ..
  case C => exact ..
(the tactic k_is has no namespace: write k_is) -/
namespace L2
open PySem PySem.Spec PyProof.Rows
def bb (s : Stmt) : Arguments := match s with
  | .FunctionDef _ a _ _ _ _ _ _ _ _ => a
  | _ => { posonlyargs := [], args := [], vararg := none, kwonlyargs := [], kw_defaults := [], kwarg := none, defaults := [] }
def aQ (s : Stmt) : List Stmt := match s with
  | .FunctionDef _ _ b _ _ _ _ _ _ _ => b
  | _ => []
def aj (s : Stmt) : Scope := match s with
  | .FunctionDef _ _ _ _ _ _ sc _ _ _ => sc
  | _ => { kind := .function, names := [], isGenerator := false, isCoroutine := false }
abbrev CX0 : CXT := fun _ _ _ _ _ _ => False
abbrev E0 : XK := fun _ _ _ => False
theorem uM {X : Cx} : gp CX0 X E0 := fun _ _ _ _ _ _ _ h => h.elim
structure Fun (K : PySem.W.Frag) (x qual : Str) (st : Stmt) (f : Addr) (fd : FuncData) : Prop where
  ex : ∃ (oc : Value) (od : Option Addr) (kV doc pm : Value) (an : Option Addr) (cdv ct : Value) (osl : Array (Option Value)),
    fd=PySem.W.fnOf x qual (bb st) (aQ st) (aj st) .none kV doc pm an cdv ct ∧ K.lookup f=some ⟨oc, od, .func fd, osl⟩ ∧ PySem.W.codeIn K cdv qual=true
  kp : PySem.W.keepIn K (.ref f)=true
section
variable {P : Program} {w : World} {K : PySem.W.Frag} {mg : Str → Option Value} {base : Heap}
theorem Fun.ok {x qual : Str}{st : Stmt}{f : Addr}{fd : FuncData}{N ps : List Str}{k : Nat}{sp : Sp}(F : Fun K x qual st f fd)(S : aC N ps (aj st))(len : ∀ vs H Q E, sp vs H Q E → vs.length=ps.length)
    (hbody : ∀ (cdv : Value) (A : Around) (outer : List Env) (s : Shared) (H : Hp) (vs : List V) (Q : VK) (E : XK), b0 k (A.deeper (envOfC qual (aj st) s.heap.objs.size f cdv)) → sp vs H Q E →
      ∃ t, PSs (iq CX0 P w K mg base N qual (aj st) f cdv A outer s H E).nox (aQ st) t ∧ t { nx := fun _ H' => Q .non H', rt := Q } (start N vs) H) : gm P w K mg base CX0 (k+1) f fd ps sp := by
  obtain ⟨oc, od, kV, doc, pm, an, cdv, ct, osl, rfl, lk, hcd⟩ := F.ex
  refine pP lk hcd S len fun A outer s H vs Q E hr hsp => ?_
  obtain ⟨t, h, q⟩ := hbody cdv A outer s H vs Q E hr hsp
  exact ⟨t, h.nox, q⟩
theorem Fun.binds {x qual : Str}{st : Stmt}{f : Addr}{fd : FuncData}{ps : List Str}(F : Fun K x qual st f fd)
    (h : ∀ (kV doc pm : Value) (an : Option Addr) (cdv ct : Value) (us : List Value), us.length=ps.length → bindArgs (PySem.W.fnOf x qual (bb st) (aQ st) (aj st) .none kV doc pm an cdv ct) ⟨us, []⟩=pure (ps.zip us)) : ee K fd ps [] := by
  obtain ⟨oc, od, kV, doc, pm, an, cdv, ct, osl, rfl, lk, hcd⟩ := F.ex
  exact .all (h kV doc pm an cdv ct)
theorem kG {x qual : Str}{st : Stmt}{f : Addr}{oc : Value}{od an : Option Addr}{osl : Array (Option Value)}{kV doc pm cdv ct : Value}(l : K.lookup f=some ⟨oc, od, .func (PySem.W.fnOf x qual (bb st) (aQ st) (aj st) .none kV doc pm an cdv ct), osl⟩)
    (c : PySem.W.codeIn K cdv qual=true) (k : PySem.W.keepIn K (.ref f)=true) : Fun K x qual st f (PySem.W.fnOf x qual (bb st) (aQ st) (aj st) .none kV doc pm an cdv ct) := ⟨⟨oc, od, kV, doc, pm, an, cdv, ct, osl, rfl, l, c⟩, k⟩
end
theorem m8 {A : Around}{k : Nat}(hr : b0 k A) : A.units+1 < cLine := Nat.lt_of_le_of_lt (Nat.add_le_add_left (by decide : 1≤64) _) hr.units
section
variable {X : Cx}
theorem pv (i : Nat){x : Str}{pos : Pos}(hN : X.N[i]? = some x := by rfl)(hv : Vis X.env.scope x := by first | exact Or.inl rfl | exact Or.inr (Or.inl rfl) | exact Or.inr (Or.inr rfl))(hd : (x == ("__debug__" : Str))=false := by decide)
    (hcd : (x == ("__classdict__" : Str))=false := by decide) : PE X (.Name x pos) (uo i) := rN hN hv hd hcd
end
theorem rE {A B : Prop}(h : B) : if false=true then A else B := by
  rw [if_neg xg]
  exact h
theorem sC {A B : Prop}(h : A) : if true=true then A else B := by
  rw [if_pos rfl]
  exact h
theorem kH {c A B : Prop}[Decidable c](h1 : c → A)(h2 : ¬ c → B) : if c then A else B := by
  by_cases h : c
  · rw [if_pos h]
    exact h1 h
  · rw [if_neg h]
    exact h2 h
def aw (H H' : Hp) : Prop := ∀ b o, H b=some o → H' b=some o
theorem aw.refl (H : Hp) : aw H H := fun _ _ h => h
theorem aw.trans {H H1 H2 : Hp}(a : aw H H1)(b : aw H1 H2) : aw H H2 := fun c o h => b c o (a c o h)
theorem aw.seq {K : PySem.W.Frag}{H H' : Hp}{a : Addr}{xs : List V}(e : aw H H')(h : SqL K H a xs) : SqL K H' a xs := by
  rcases h with (h | ⟨o, h⟩) | h
  · exact .inl (.inl (e _ _ h))
  · exact .inl (.inr ⟨o, e _ _ h⟩)
  · exact .inr h
section
variable {κ : Type} [DecidableEq κ]
end
end L2
namespace L2
open PySem PySem.Spec PyProof.Rows
def ia (cells : List (Str × Addr)) : List (Str × NameKind) → List (Str × Addr) → List (Str × Addr)
  | [], acc => acc
  | (x, k)::r, acc => if k == NameKind.free then ia cells r ((x, (cells.lookup x).getD 0)::acc) else ia cells r acc
theorem fF {cells : List (Str × Addr)}{p : Str × Addr} : ∀ {names : List (Str × NameKind)} {acc : List (Str × Addr)}, p∈ia cells names acc → p∈acc ∨ ((p.1, NameKind.free)∈names ∧ p.2=(cells.lookup p.1).getD 0)
  | [], _, h => .inl h
  | (x, k)::r, acc, h => by
    unfold ia at h
    by_cases hk : (k == NameKind.free)=true
    · rw [if_pos hk] at h
      have ek : k=NameKind.free := by simpa using hk
      subst ek
      rcases fF h with h | ⟨h, e⟩
      · rcases xn.mp h with h | h
        · subst h
          exact .inr ⟨xv, rfl⟩
        · exact .inl h
      · exact .inr ⟨xm _ h, e⟩
    · rw [if_neg hk] at h
      rcases fF h with h | ⟨h, e⟩
      · exact .inl h
      · exact .inr ⟨xm _ h, e⟩
theorem fG {cells : List (Str × Addr)}{p : Str × Addr} : ∀ {names : List (Str × NameKind)} {acc : List (Str × Addr)}, p∈acc → p∈ia cells names acc
  | [], _, h => h
  | (x, k)::r, acc, h => by
    unfold ia
    split
    · exact fG (xm _ h)
    · exact fG h
theorem fH {cells : List (Str × Addr)}{x : Str} : ∀ {names : List (Str × NameKind)} {acc : List (Str × Addr)}, (x, NameKind.free)∈names → (x, (cells.lookup x).getD 0)∈ia cells names acc
  | [], _, h => by simp at h
  | (y, k)::r, acc, h => by
    unfold ia
    rcases xn.mp h with h | h
    · have e1 : x=y := xH Prod.fst h
      have e2 : NameKind.free=k := xH Prod.snd h
      subst e1 e2
      rw [if_pos (by simp)]
      exact fG xv
    · split
      · exact fH h
      · exact fH h
theorem cV {x : Str}{c : Addr} : ∀ {l : List (Str × Addr)}, (x, c)∈l → ∃ d, l.lookup x=some d
  | [], h => by simp at h
  | (y, d)::r, h => by
    rw [yh]
    by_cases e : (x == y)=true
    · rw [e];exact ⟨d, rfl⟩
    · have e' : (x == y)=false := by simpa using e
      rw [e']
      rcases xn.mp h with h | h
      · have : x=y := xH Prod.fst h
        exact absurd (by simpa using this) e
      · exact cV h
theorem cW {env : Env}{scope : Scope}(h : ∀ y∈scope.names, y.2=NameKind.free → ∃ c, env.cells.lookup y.1=some c) : closureFor scope env=pure (ia env.cells scope.names []) := by
  have all : ∀ (names : List (Str × NameKind)) (acc : List (Str × Addr)), (∀ y∈names, y.2=NameKind.free → ∃ c, env.cells.lookup y.1=some c) →
      (forIn names acc (fun (p : Str × NameKind) (r : List (Str × Addr)) => (if (p.2 == NameKind.free)=true then (do let a ← cellOf env p.1;pure (ForInStep.yield ((p.1, a)::r))) else pure (ForInStep.yield r) : Sem (ForInStep (List (Str × Addr))))))=(pure (ia env.cells names acc) : Sem (List (Str × Addr))) := by
    intro names
    induction names with
    | nil => intro acc _;rfl
    | cons p r ih =>
      intro acc hh
      obtain ⟨x, k⟩ := p
      have hr : ∀ y∈r, y.2=NameKind.free → ∃ c, env.cells.lookup y.1=some c := fun y hy => hh y (xm _ hy)
      rw [AI]
      unfold ia
      by_cases hk : (k == NameKind.free)=true
      · obtain ⟨c, hc⟩ := hh (x, k) xv (by simpa using hk)
        have hc : env.cells.lookup x=some c := hc
        have ec : cellOf env x=pure c := by
          unfold cellOf
          rw [hc]
        simp only [hk, zu, ec, pure_bind, hc, Option.getD_some]
        exact ih _ hr
      · simp only [hk, As, pure_bind]
        exact ih _ hr
  have e := all scope.names [] h
  unfold closureFor
  simp only [bind_pure]
  exact e
def sD (scope sc : Scope)(NB own : List Str)(cap : List Nat)(N : List Str) : Bool :=
  (scope.kind == .function) && (sc.kind == .function) &&
  (scope.names.all fun y => match y.2 with
    | .cell => false
    | .free => sc.names.lookup y.1 == some NameKind.cell
    | .local => scope.names.lookup y.1 == some NameKind.local
    | _ => true) &&
  (own.all fun x => scope.names.lookup x == some NameKind.local && scope.names.all fun y => !(y.1 == x) || y.2 == NameKind.local) &&
  (NB == own++cap.map fun i => N.getD i "") && (cap.all fun i => decide (i < N.length) && scope.names.lookup (N.getD i "") == some NameKind.free)
structure Blk (X : Cx) (scope : Scope) (NB own : List Str) (cap : List Nat) : Prop where
  kind : scope.kind = .function
  outk : X.env.scope.kind = .function
  nocell : ∀ y∈scope.names, y.2 ≠ .cell
  free : ∀ y∈scope.names, y.2 = .free → X.env.kindOf y.1=some .cell
  names : ∀ y∈scope.names, y.2 = .local → scope.names.lookup y.1=some .local
  owns : ∀ x∈own, ∀ y∈scope.names, y.1=x → y.2 = .local
  nb : NB=own++cap.map fun i => X.N.getD i ""
  caps : ∀ i∈cap, i < X.N.length ∧ scope.names.lookup (X.N.getD i "")=some .free
theorem ff {X : Cx}{scope sc : Scope}{NB own : List Str}{cap : List Nat}(hs : X.env.scope=sc)(h : sD scope sc NB own cap X.N=true) : Blk X scope NB own cap := by
  unfold sD at h
  simp only [yO] at h
  obtain ⟨⟨⟨⟨⟨h1, h2⟩, h3⟩, h4⟩, h5⟩, h6⟩ := h
  rw [zI] at h3 h4 h6
  subst hs
  refine ⟨by simpa using h1, by simpa using h2, fun y hy e => ?_, fun y hy e => ?_, fun y hy e => ?_, fun x hx y hy e => ?_, by simpa using h5, fun i hi => ?_⟩
  · have := h3 y hy
    rw [e] at this
    exact absurd this (by simp)
  · have := h3 y hy
    rw [e] at this
    show X.env.scope.names.lookup y.1=some .cell
    simpa using this
  · have := h3 y hy
    rw [e] at this
    simpa using this
  · have := h4 x hx
    simp only [yO, zI] at this
    have q := this.2 y hy
    subst e
    simpa using q
  · have := h6 i hi
    simp only [yO] at this
    exact ⟨of_decide_eq_true this.1, by simpa using this.2⟩
def cxB (X : Cx)(NB own : List Str)(scope : Scope)(C : Addr)(fp : List Addr)(s₀ : Shared)(H₀ : Hp) : Cx where
  prog := X.prog
  w := X.w
  K := X.K
  mg := X.mg
  base := X.base
  A := X.A
  N := NB
  s₀ := s₀
  H₀ := H₀
  env := compEnvC scope (ia X.env.cells scope.names []) C X.env
  outer := X.stack
  stack := X.stack
  ex := fp
  fn := fun x => own.contains x
  calm := X.calm
  pn := []
  xe := fun _ _ => False
theorem cg {env : Env}{x : Str}{k : NameKind}(hk : k = .cell ∨ k = .free) : ∀ {names : List (Str × NameKind)}, (∀ y∈names, y.2 ≠ .cell) →
    (names.map fun (n, k) => if (k == NameKind.free && env.scope.kind == .function && env.kindOf n == some .cell) then (n, NameKind.cell) else (n, k)).lookup x=some k → (x, NameKind.free)∈names
  | [], _, h => by simp at h
  | (n, q)::r, hn, h => by
    have ih := @cg env x k hk r fun y hy => hn y (xm _ hy)
    rw [xM, yh] at h
    have key : (if (q == NameKind.free && env.scope.kind == .function && env.kindOf n == some .cell)=true then (n, NameKind.cell) else (n, q)).1=n := by split <;> rfl
    by_cases e : (x == n)=true
    · have en : x=n := by simpa using e
      subst en
      by_cases hq : q = .free
      · subst hq;exact xv
      · have hqf : (q == NameKind.free)=false := by simpa using hq
        simp only [hqf, Bool.false_and, yS, As, yr] at h
        have h' : q=k := w4 h
        rcases hk with z | z
        · exact absurd (h'.trans z) (hn (x, q) xv)
        · exact absurd (h'.trans z) hq
    · have e' : (x == n)=false := by simpa using e
      refine xm _ (ih ?_)
      have e2 : (x == (if (q == NameKind.free && env.scope.kind == .function && env.kindOf n == some .cell)=true then (n, NameKind.cell) else (n, q)).1)=false := by rw [key];exact e'
      rw [e2] at h
      exact h
theorem eB {env : Env}{x : Str}(hk : env.scope.kind = .function)(hc : env.kindOf x=some .cell) : ∀ {names : List (Str × NameKind)}, names.lookup x=some .free →
    (names.map fun (n, k) => if (k == NameKind.free && env.scope.kind == .function && env.kindOf n == some .cell) then (n, NameKind.cell) else (n, k)).lookup x=some .cell
  | [], h => by simp at h
  | (n, q)::r, h => by
    have ih := @eB env x hk hc r
    rw [yh] at h
    rw [xM, yh]
    by_cases e : (x == n)=true
    · have en : x=n := by simpa using e
      subst en
      rw [e] at h
      have hq : q = .free := w4 h
      subst hq
      simp [hk, hc]
    · have e' : (x == n)=false := by simpa using e
      rw [e'] at h
      have key : (if (q == NameKind.free && env.scope.kind == .function && env.kindOf n == some .cell)=true then (n, NameKind.cell) else (n, q)).1=n := by split <;> rfl
      have e2 : (x == (if (q == NameKind.free && env.scope.kind == .function && env.kindOf n == some .cell)=true then (n, NameKind.cell) else (n, q)).1)=false := by rw [key];exact e'
      rw [e2]
      exact ih h
def stB (own : List Str)(cap : List Nat)(σ : St) : St := (own.map fun _ => none)++cap.map fun i => (σ[i]?).getD none
section
variable {X : Cx} {pins : List (Addr × Obj)} {σ : St} {H : Hp} {s : Shared} {scope : Scope} {NB own : List Str} {cap : List Nat} {fp : List Addr} {C : Addr}
theorem Blk.cells (B : Blk X scope NB own cap)(ok : X.Ok){x : Str}{c : Addr}(h : (ia X.env.cells scope.names []).lookup x=some c) : X.env.cells.lookup x=some c ∧ (x, NameKind.free)∈scope.names := by
  rcases fF (x3 h) with q | ⟨q, e⟩
  · simp at q
  · obtain ⟨d, hd⟩ := ok.has x (.inl (B.free (x, .free) q rfl))
    have e : c=(X.env.cells.lookup x).getD 0 := e
    rw [hd] at e
    refine ⟨?_, q⟩
    rw [hd, e];rfl
theorem Blk.cell (B : Blk X scope NB own cap)(ok : X.Ok){x : Str}(h : (x, NameKind.free)∈scope.names) : ∃ c, (ia X.env.cells scope.names []).lookup x=some c := cV (fH h)
theorem Blk.start (B : Blk X scope NB own cap)(I : Inv X pins σ H s)(hf : ∀ b∈fp, jB X pins H b)(hfs : ∀ b∈fp, ∃ o, s.heap.get? b=some o){h' : Heap}{tk : Nat}{m : Str → Option Value}(hC : s.heap.objs.size≤C)
    (k : ∀ b o, s.heap.get? b=some o → h'.get? b=some o) (hn : h'.Ns C m) :
    Inv (cxB X NB own scope C fp s H) [] (stB own cap σ) H { s with heap := h', toks := tk } := by
  have hlen : NB.length=own.length+cap.length := by rw [B.nb];simp
  have okB : (cxB X NB own scope C fp s H).Ok := by
    refine ⟨I.ok.mod, B.kind, I.ok.glob, I.ok.blt, hC, fun x y c h1 h2 => I.ok.inj x y c (B.cells I.ok h1).1 (B.cells I.ok h2).1, fun x hx => ?_, fun x c h1 h2 => ?_, I.ok.hd, I.ok.frames, .inl rfl, fun b hb => ⟨?_, fun x c h => ?_⟩, I.bs, xG I.ok.bsz I.sz, fun b o e hb => ?_, fun b hb z => ?_, I.stack, I.stkFree⟩
    · have : (x, NameKind.free)∈scope.names := by
        rcases hx with z | z
        · exact cg (.inl rfl) B.nocell z
        · exact cg (.inr rfl) B.nocell z
      exact B.cell I.ok this
    · have hx : x∈own := by simpa [cxB] using h1
      have q := B.owns x hx _ (B.cells I.ok h2).2 rfl
      exact absurd q (by simp)
    · obtain ⟨o, e⟩ := hfs b hb
      exact xx (w9 (wZ e) hC)
    · exact (hf b hb).2.2.2.2.1 x c (B.cells I.ok h).1
    · have hb : b∈fp := hb
      rcases (hf b hb).2.2.2.1 with z | z
      · exact I.ok.noex b o e z
      · exact absurd (w9 (wZ e) (xG I.ok.bsz z)) (xK _)
    · rcases xn.mp (I.stkSub b z) with z | z
      · exact (hf b hb).2.1 z
      · exact (hf b hb).2.2.1 z
  refine ⟨okB, rfl, I.bare, Un.kept k, ⟨m, hn, fun i x v e1 e2 e3 => ?_⟩, fun x c h => ?_, I.hok.fresh hC, fun x c h => I.freeC x c (B.cells I.ok h).1, fun p hp => absurd (show p∈([] : List (Addr × Obj)) from hp) (by simp), I.hok.kept k, ?_⟩
  · have e1 : NB[i]? = some x := e1
    have hi : ¬ i < own.length := fun hi => by
      unfold stB at e2
      rw [ya (by simpa using hi), xq] at e2
      cases q : own[i]? <;> rw [q] at e2 <;> cases e2
    unfold stB at e2
    rw [xI (by simpa using hi), xq] at e2
    rw [B.nb, xI (by omega), xq] at e1
    simp only [wV] at e2
    cases q : cap[i - own.length]? with
    | none => rw [q] at e1;cases e1
    | some j =>
      rw [q] at e1 e2
      have ex : X.N.getD j "" = x := w4 e1
      have ev : (σ[j]?).getD none=some v := w4 e2
      obtain ⟨hj, hjf⟩ := B.caps j (xj q)
      rw [ex] at hjf
      have hN : X.N[j]? = some x := by rw [← ex, xk, xf hj];rfl
      have hσ : σ[j]? = some (some v) := by
        cases z : σ[j]? with
        | none => rw [z] at ev;cases ev
        | some u => rw [z] at ev;exact xH some ev
      have hmem : (x, NameKind.free)∈scope.names := x3 hjf
      have hkc := B.free _ hmem rfl
      obtain ⟨m0, hn0, hl⟩ := I.loc
      obtain ⟨u, r, l⟩ := hl j x v hN hσ (.inr (.inl hkc))
      refine ⟨u, r, .inr ⟨.inl (eB B.outk hkc hjf), ?_⟩⟩
      obtain ⟨c, hc⟩ := B.cell I.ok hmem
      refine ⟨c, hc, ?_⟩
      rcases l with ⟨z, _⟩ | ⟨_, c', hc', ⟨oc, hoc, hd⟩⟩
      · rw [show X.env.kindOf x=some .cell from hkc] at z;cases z
      · have := (B.cells I.ok hc).1
        rw [hc'] at this
        have : c'=c := w4 this
        subst this
        exact ⟨oc, k _ _ hoc, hd⟩
  · obtain ⟨v, oc, hoc, hd⟩ := I.cell x c (B.cells I.ok h).1
    exact ⟨v, oc, k _ _ hoc, hd⟩
  · show (stB own cap σ).length=NB.length
    unfold stB
    rw [hlen];simp
theorem Blk.done (B : Blk X scope NB own cap)(I : Inv X pins σ H s)(hf : ∀ b∈fp, jB X pins H b){σB : St}{H' : Hp}{s' : Shared}{h'' : Heap}{D : Addr}{ys : List V}{its : List Value}{n : Nat}(hC : s.heap.objs.size≤C)(hD : s.heap.objs.size≤D)(hDC : D≠C)
    (J : Inv (cxB X NB own scope C fp s H) [] σB H' s') (hn : H' D=none) (e : s'.heap.get? D=some { cls := .type "list", data := .seq its.toArray n }) (hv : aR ys its) (hz : ys.length≤sizeLine)
    (sb : Heap.SameBut C s'.heap h'') : Inv X pins σ (upd H' D (.lst ys)) { s' with heap := h'' } := by
  have un : Un (frs X.stack) fp H H' s.heap s'.heap := J.base
  have neC : ∀ {b o}, s.heap.get? b=some o → b≠C := fun q => xx (w9 (wZ q) hC)
  have neD : ∀ {b o}, s.heap.get? b=some o → b≠D := fun q => xx (w9 (wZ q) hD)
  have hCn : H' C=none := J.free
  refine I.call' (s' := { s' with heap := h'' }) (ch := fp) J.os ⟨fun b o q n hb hx => ?_, fun b o q n hb hx => ?_, fun b o q n hx => ?_, fun b o q hx => ?_, fun b xs q => ?_, fun b o u q => ?_, fun b ps q => ?_⟩ (fun b u q => ?_) J.bare fun b hb => ?_
  · exact (sb.2 b (neC q)).trans (un.keep b o q n hb hx)
  · obtain ⟨sl, r⟩ := un.slot b o q n hb hx
    exact ⟨sl, (sb.2 b (neC q)).trans r⟩
  · rw [ao (neD q)]
    exact un.free b o q n hx
  · obtain ⟨o', r⟩ := un.there b o q hx
    exact ⟨o', (sb.2 b (neC q)).trans r⟩
  · have r := un.tups b xs q
    rw [ao (aq r hn)]
    exact r
  · have r := un.frzs b o u q
    rw [ao (aq r hn)]
    exact r
  · obtain ⟨more, r⟩ := un.tbls b ps q
    exact ⟨more, by rw [ao (aq r hn)];exact r⟩
  · by_cases hb : b=D
    · subst hb
      rw [ag] at q
      cases q
      exact ⟨hz, its, n, hv, (sb.2 b hDC).trans e⟩
    · rw [ao hb] at q
      refine (J.hok b u q).stay (fun c v hc r => (sb.2 c ?_).trans r) (fun c r => ?_) fun c xs r => ?_
      · rcases hc with z | z
        · rw [z];exact aq q hCn
        · exact aq z hCn
      · rw [ao (aq r hn)];exact r
      · rw [ao (aq r hn)];exact r
  · obtain ⟨_, f1, _, f3, f4, f5⟩ := hf b hb
    exact ⟨f3, f1, f4, f5⟩
end
def PIf (X : Cx)(ifs : List Expr)(t : TT) : Prop :=
  ∀ (pins : List (Addr × Obj)) (s : Shared) (σ : St) (H : Hp) (Q : Bool → Hp → Prop), Inv X pins σ H s → t σ H Q →
    wpAny (model X.prog X.w) X.A (forIn ifs true fun c r => if r=true then do let ok ← isTrue c X.env (eval c X.env);pure (ForInStep.yield ok) else pure (ForInStep.yield r)) (TP X pins σ Q) X.xe s
def wB : TT := fun _ H Q => Q true H
theorem cX {X : Cx} : PIf X [] wB := fun _ _ _ H _ I h => wpAny_tests_nil ⟨H, I, h⟩
theorem m9 {X : Cx}{c : Expr}{t : TT}(h : PT X c t) : PIf X [c] t := fun pins s σ H Q I q => wpAny_tests_one (h pins s σ H Q I q)
section
variable {prog : Program} {w : World} {A : Around} {R : Result → Shared → Prop} {s : Shared}
abbrev noE : Value → Shared → Prop := fun _ _ => False
theorem kI {elt tg iter : Expr}{ifs : List Expr}{scope : Scope}{pos : Pos}{it acc : Value}{env : Env}(I : Nat → Shared → Prop)
    (turn : ∀ n s, I n s → wpAny (model prog w) A (pyNext it) (fun r s₁ => match r with
      | none => R (.ok .next) s₁
      | some v => wpAny (model prog w) A (letOwnedTupleGo tg it v) (fun _ s₀ => wpAny (model prog w) A (assign tg env v) (fun _ s₂ =>
          wpAny (model prog w) A (forIn ifs true fun c r => if r=true then do let ok ← isTrue c env (eval c env);pure (ForInStep.yield ok) else pure (ForInStep.yield r)) (fun ok s₃ =>
            if ok=true then wpAny (model prog w) A (eval elt env) (fun x s₄ => wpAny (model prog w) A (call (.builtin "list.append") [acc, x]) (fun _ s₅ => ∃ m, m < n ∧ I m s₅) noE s₄) noE s₃
            else ∃ m, m < n ∧ I m s₃) noE s₂) noE s₀) noE s₁) noE s)
    (n : Nat) (h : I n s) : codeAny (model prog w) A (.compLoop (.ListComp elt [⟨tg, iter, ifs, 0⟩] scope pos) 0 it acc env) R s := by
  refine codeAny_loop rfl I (fun n s hI => ?_) n h
  show wpAny _ A ((compTurn (.ListComp elt [⟨tg, iter, ifs, 0⟩] scope pos) 0 it acc env).onRaise (fun x => do noteFrame x env;theTreesLotGoes x)) _ _ s
  refine wpAny_noted ?_
  rw [compTurn_list]
  refine fu (zN (fu (xY (turn n s hI) (fun r s₁ h₁ => ?_) fun _ _ z => False.elim z)))
  cases r with
  | none => exact xb h₁
  | some v =>
    refine fu (xY h₁ (fun _ s₀ h₀ => fu (xY h₀ (fun _ s₂ h₂ => fu (xY h₂ (fun ok s₃ h₃ => ?_) fun _ _ z => False.elim z)) fun _ _ z => False.elim z)) fun _ _ z => False.elim z)
    cases ok with
    | false => exact xb ⟨rfl, h₃⟩
    | true => exact fu (fu (xY h₃ (fun x s₄ h₄ => fu (xY h₄ (fun _ s₅ h₅ => xb (xb ⟨rfl, h₅⟩)) fun _ _ z => False.elim z)) fun _ _ z => False.elim z))
end
def qb (own : List Str)(cap : List Nat)(g : TG)(ti : TT)(te : TE)(Q : VK)(σ : St)(J : It)(H1 : Hp) : Prop := ∃ W : Nat → Nat → List V → St → Hp → Prop, (∃ m, W 0 m [] (stB own cap σ) H1) ∧ ∀ i m ys σ H, W i m ys σ H →
  (J.stop i H ∧ ys.length≤sizeLine ∧ ∀ D, H D=none → Q (.ref D) (upd H D (.lst ys))) ∨
  (J.go i H ∧ ys.length < sizeLine ∧ ∀ x H', J.yld i H x H' → g x σ H' fun σ2 H2 => ti σ2 H2 fun b H3 => if b=true then te σ2 H3 fun y H4 => ∃ m', m' < m ∧ W (i+1) m' (ys++[y]) σ2 H4 else ∃ m', m' < m ∧ W (i+1) m' ys σ2 H3)
def uN (own : List Str)(cap : List Nat)(wi : TI)(g : TG)(ti : TT)(te : TE) : TE := fun σ H Q => wi σ H fun J H1 => qb own cap g ti te Q σ J H1
theorem dh {X : Cx}{elt iter tg : Expr}{ifs : List Expr}{scope : Scope}{pos : Pos}{NB own : List Str}{cap : List Nat}{wi : TI}{g : TG}{ti : TT}{te : TE}(B : Blk X scope NB own cap)(hc : X.calm=true)(hi : PI X tg iter wi)
    (hg : ∀ C fp s₀ H₀, PG (cxB X NB own scope C fp s₀ H₀) tg g) (ht : ∀ C fp s₀ H₀, PIf (cxB X NB own scope C fp s₀ H₀) ifs ti) (he : ∀ C fp s₀ H₀, PE (cxB X NB own scope C fp s₀ H₀) elt te)
    (hs : ∀ x, foldedSetIterable iter X.env x=pure x := by intro _;rfl) : PE X (.ListComp elt [⟨tg, iter, ifs, 0⟩] scope pos) (uN own cap wi g ti te) := by
  intro pins s σ H Q I0 h
  rw [eval_ListComp]
  have hclos := cW (env := X.env) (scope := scope) fun y hy e => I0.ok.has y.1 (.inl (B.free y hy e))
  refine wpAny_comprehension_free (use := none) rfl hs hclos B.kind B.names (thn (hi pins s σ H _ I0 h) fun v s1 h1 => thn h1 fun itv s2 h2 => ?_)
  obtain ⟨it, fp, tn, J, H2, rfl, I, T, st2, f2, W, ⟨m0, w0⟩, turn⟩ := h2
  refine wpAny_newList ?_
  refine wpAny_newFunctionEnv B.nocell (by intro y hy;simp at hy) (fun h₁ hns₁ hsb₁ => ?_) B.kind
  dsimp only at hns₁ hsb₁ ⊢
  generalize hP : s2.heap.push { cls := .type "list", dict := none, data := .seq ([] : List Value).toArray }=P at hns₁ hsb₁ ⊢
  have hC : P.objs.size=s2.heap.objs.size+1 := by rw [← hP, yz]
  have hDC : s2.heap.objs.size≠P.objs.size := by rw [hC];exact xx (Nat.lt_succ_self _)
  have hCle : s2.heap.objs.size≤P.objs.size := by rw [hC];exact Nat.le_succ _
  have old : ∀ b o, s2.heap.get? b=some o → h₁.get? b=some o := fun b o e => by
    refine (hsb₁.2 b ?_).trans (wU _ (hP ▸ wU _ e))
    exact xx (w9 (wZ e) hCle)
  have hD : h₁.get? s2.heap.objs.size=some { cls := .type "list", data := .seq ([] : List Value).toArray 0 } := by
    refine (hsb₁.2 _ hDC).trans (wU _ ?_)
    rw [← hP]
    exact w6 _ rfl
  have hfs : ∀ b∈fp, ∃ o, s2.heap.get? b=some o := fun b hb => let ⟨o, e, _⟩ := T.obj _ _ st2 b hb;⟨o, e⟩
  have st4 : tn 0 h₁ := T.keep _ _ _ st2 fun b _ o e => old b o e
  generalize htk : s2.toks+([] : List (Str × Value)).length=tk4
  have I4 := B.start (C := P.objs.size) (tk := tk4) I f2 hfs hCle old hns₁
  have fOk : ∀ {H' : Hp} {b : Addr} {ob : Obj}, b∈fp → H' b=none → jB (cxB X NB own scope P.objs.size fp s2 H2) [(s2.heap.objs.size, ob)] H' b := fun {H' b ob} hb hn => by
    obtain ⟨o, e⟩ := hfs b hb
    refine ⟨hn, (I4.ok.exf b hb).1, I4.ok.exfs b hb, .inl hb, (I4.ok.exf b hb).2, fun p hp => ?_⟩
    have ep : p=(s2.heap.objs.size, ob) := xB.mp (show p∈[(s2.heap.objs.size, ob)] from hp)
    rw [ep]
    exact fun z => absurd (wZ e) (by rw [← z];exact xK _)
  have dnf : s2.heap.objs.size∉frs X.stack := fun z => by
    rcases xn.mp (I.stkSub _ z) with z | z
    · exact absurd I.lt (by rw [← z];exact xK _)
    · exact I.nofs (wX _) z
  have I3D : ∀ {σ3 : St} {H3 : Hp} {s3 : Shared} {its : List Value} {k : Nat}, Inv (cxB X NB own scope P.objs.size fp s2 H2) [] σ3 H3 s3 → s3.heap.get? s2.heap.objs.size=some { cls := .type "list", data := .seq its.toArray k } → H3 s2.heap.objs.size=none →
      Inv (cxB X NB own scope P.objs.size fp s2 H2) [(s2.heap.objs.size, { cls := .type "list", data := .seq its.toArray k })] σ3 H3 s3 := fun I3 e n => I3.pins_of fun p hp => by
    have ep := xB.mp hp
    subst ep
    exact ⟨e, n, hDC, dnf, fun v z => by cases z⟩
  have ndf : s2.heap.objs.size∉fp := fun z => by
    obtain ⟨o, e⟩ := hfs _ z
    exact absurd (wZ e) (xK _)
  have nCD : ∀ x c, (cxB X NB own scope P.objs.size fp s2 H2).env.cells.lookup x=some c → c≠s2.heap.objs.size := fun x c e z => by
    obtain ⟨v, o, ho, _⟩ := I.cell x c (B.cells I.ok e).1
    rw [z] at ho
    exact absurd (wZ ho) (xK _)
  have loop : ∀ s₃ : Shared, s₃ = { s2 with heap := h₁, toks := tk4 } → codeAny (model X.prog X.w) X.A (.compLoop (.ListComp elt [⟨tg, iter, ifs, 0⟩] scope pos) 0 (.ref it) (.ref s2.heap.objs.size) (cxB X NB own scope P.objs.size fp s2 H2).env)
      (compPost (model X.prog X.w) X.A X.xe none (EP X pins σ Q) (.ref s2.heap.objs.size) P.objs.size) s₃ := by
    rintro s₃ rfl
    refine kI (fun n s' => ∃ i σB H' ys its k, Inv (cxB X NB own scope P.objs.size fp s2 H2) [] σB H' s' ∧ tn i s'.heap ∧ (∀ b∈fp, H' b=none) ∧ s'.heap.get? s2.heap.objs.size=some { cls := .type "list", data := .seq (its : List Value).toArray k } ∧ aR ys its ∧ H' s2.heap.objs.size=none ∧ W i n ys σB H') ?_ m0
      ⟨0, stB own cap σ, H2, [], [], 0, I4, st4, fun b hb => (f2 b hb).1, hD, .nil, I.hok.fresh (wX _), w0⟩
    rintro n s3 ⟨i, σ3, H3, ys, its, k, I3, st3, fr3, hD3, rv, hn3, w3⟩
    rcases turn i n ys σ3 H3 w3 with ⟨stop, hz, q⟩ | ⟨go, hz, step⟩
    · refine thn (T.done (cxB X NB own scope P.objs.size fp s2 H2) rfl rfl rfl hc i _ s3 σ3 H3 noE (I3D I3 hD3 hn3) (fun b hb => fOk hb (fr3 b hb)) st3 stop) fun r s4 zq1 => ?_
      obtain ⟨hr, I4'⟩ := zq1
      subst hr
      have hD4 : s4.heap.get? s2.heap.objs.size=some { cls := .type "list", data := .seq (its : List Value).toArray k } := (I4'.pin (s2.heap.objs.size, _) (xl _ (xB.mpr rfl))).1
      have I5 : Inv (cxB X NB own scope P.objs.size fp s2 H2) [] σ3 H3 s4 := I4'.pins_of fun p hp => absurd (show p∈([] : List (Addr × Obj)) from hp) (by simp)
      obtain ⟨mC, hnC, _⟩ := I5.loc
      exact ⟨mC, hnC, fun h'' sb => ⟨.ref s2.heap.objs.size, _, B.done I f2 hCle (wX _) hDC I5 hn3 hD4 rv hz sb, rfl, q _ hn3⟩⟩
    · refine thn (T.item (cxB X NB own scope P.objs.size fp s2 H2) rfl rfl rfl hc i _ s3 σ3 H3 noE (I3D I3 hD3 hn3) (fun b hb => fOk hb (fr3 b hb)) st3 go) fun r s4 zq2 => ?_
      obtain ⟨u, hr, h4⟩ := zq2
      subst hr
      refine thn h4 fun _ s5 zq3 => ?_
      obtain ⟨x, H5, I5, r5, y5, st5, fr5⟩ := zq3
      have I5' := I5.pinned (fun b hb => fOk hb (fr5 b hb)) (T.obj _ _ st5)
      refine thn (hg _ fp s2 H2 _ s5 σ3 H5 x u _ I5' r5 (step x H5 y5)) fun _ s6 zq4 => ?_
      obtain ⟨σ6, H6, I6, q6⟩ := zq4
      refine thn (ht _ fp s2 H2 _ s6 σ6 H6 _ I6 q6) fun b s7 zq5 => ?_
      obtain ⟨H7, I7, q7⟩ := zq5
      have pinned : ∀ {σ8 : St} {H8 : Hp} {s8 : Shared}, Inv (cxB X NB own scope P.objs.size fp s2 H2) ([(s2.heap.objs.size, { cls := .type "list", data := .seq (its : List Value).toArray k })]++gk fp s5.heap) σ8 H8 s8 →
          tn (i+1) s8.heap ∧ (∀ b∈fp, H8 b=none) ∧ s8.heap.get? s2.heap.objs.size=some { cls := .type "list", data := .seq (its : List Value).toArray k } ∧ H8 s2.heap.objs.size=none := fun {σ8 H8 s8} I8 => by
        refine ⟨T.keep _ _ _ st5 fun b hb o e => (I8.pin (b, o) (xl _ (xl _ (cu hb e)))).1, fun b hb => ?_, ?_, ?_⟩
        · obtain ⟨o, e, d⟩ := T.obj _ _ st5 b hb
          exact (I8.pin (b, o) (xl _ (xl _ (cu hb e)))).2.1
        · exact (I8.pin (s2.heap.objs.size, _) (xl _ (xW _ (xB.mpr rfl)))).1
        · exact (I8.pin (s2.heap.objs.size, _) (xl _ (xW _ (xB.mpr rfl)))).2.1
      have nopin : ∀ {pp : List (Addr × Obj)} {σ8 : St} {H8 : Hp} {s8 : Shared}, Inv (cxB X NB own scope P.objs.size fp s2 H2) pp σ8 H8 s8 → Inv (cxB X NB own scope P.objs.size fp s2 H2) [] σ8 H8 s8 := fun I8 => I8.pins_of fun p hp => absurd (show p∈([] : List (Addr × Obj)) from hp) (by simp)
      cases b with
      | false =>
        rw [if_neg xg] at q7 ⊢
        obtain ⟨m', hm, w7⟩ := q7
        obtain ⟨p1, p2, p3, p4⟩ := pinned I7
        exact ⟨m', hm, i+1, σ6, H7, ys, its, k, nopin I7, p1, p2, p3, rv, p4, w7⟩
      | true =>
        rw [if_pos rfl] at q7 ⊢
        refine thn (he _ fp s2 H2 _ s7 σ6 H7 _ I7 q7) fun yv s8 zq6 => ?_
        obtain ⟨y, H8, I8, r8, m', hm, w8⟩ := zq6
        obtain ⟨p1, p2, p3, p4⟩ := pinned I8
        refine zw F.slot_list_append ⟨_, p3, rfl⟩ F.entry_list_append (F.args_list_append_2 _ _) (PySem.list_append s2.heap.objs.size its.toArray k yv (by rw [w5, ← rv.length];omega)) ⟨p3, ?_⟩
        have q := PySem.IsL.update p3 fun a => a.push yv
        have ea : its.toArray.push yv=(its++[yv]).toArray := by simp
        rw [ea] at q
        have I9 : Inv (cxB X NB own scope P.objs.size fp s2 H2) [] σ6 H8 { s8 with heap := s8.heap.update s2.heap.objs.size (Obj.mapSeq fun a => a.push yv), toks := s8.toks } :=
          (nopin I8).turned (it := s2.heap.objs.size) (fun b o hb e => (xD s8.heap _ (Ne.symm hb)).trans e) p4 hDC (.inr (wX _)) (fun x c e => nCD x c e) fun p hp => absurd (show p∈([] : List (Addr × Obj)) from hp) (by simp)
        refine ⟨m', hm, i+1, σ6, H8, ys++[y], its++[yv], _, I9, ?_, p2, q, rv.append (.cons r8 .nil), p4, w8⟩
        refine T.keep _ _ _ p1 fun b hb o e => (xD s8.heap _ ?_).trans e
        intro z
        rw [z] at ndf
        exact ndf hb
  exact codeAny_compStart_list (loop _ rfl) (T.self X.A 0 _ _ _ st4 (loop _ rfl))
theorem iD {own : List Str}{cap : List Nat}{J : It}{g : TG}{ti : TT}{te : TE}{σ : St}{H : Hp}{Q : VK}(n : Nat)(Pv : Nat → List V → St → Hp → Prop)(h0 : Pv 0 [] (stB own cap σ) H)(hz : ∀ i ys σ H, i≤n → Pv i ys σ H → ys.length≤i)(hn : n≤sizeLine)
    (hgo : ∀ i ys σ H, i < n → Pv i ys σ H → J.go i H) (hst : ∀ ys σ H, Pv n ys σ H → J.stop n H)
    (hs : ∀ i ys σ H x H' (N : List V → St → Hp → Prop), i < n → Pv i ys σ H → J.yld i H x H' → (∀ ys' σ' H'', Pv (i+1) ys' σ' H'' → N ys' σ' H'') → g x σ H' fun σ2 H2 => ti σ2 H2 fun b H3 => if b=true then te σ2 H3 fun y H4 => N (ys++[y]) σ2 H4 else N ys σ2 H3)
    (hd : ∀ ys σ H D, Pv n ys σ H → H D=none → Q (.ref D) (upd H D (.lst ys))) :
    qb own cap g ti te Q σ J H := by
  refine ⟨fun i m ys σ H => m=n - i ∧ i≤n ∧ Pv i ys σ H, ⟨n, by simp, xQ _, h0⟩, ?_⟩
  rintro i m ys σ H ⟨rfl, hi, p⟩
  have hl := hz i ys σ H hi p
  by_cases hlt : i < n
  · refine .inr ⟨hgo i ys σ H hlt p, by omega, fun x H' y => ?_⟩
    exact hs i ys σ H x H' (fun ys' σ' H'' => ∃ m', m' < n - i ∧ m'=n - (i+1) ∧ i+1≤n ∧ Pv (i+1) ys' σ' H'') hlt p y fun ys' σ' H'' q => ⟨n - (i+1), by omega, rfl, hlt, q⟩
  · have e : i=n := by omega
    subst e
    exact .inl ⟨hst ys σ H p, by omega, fun D hD => hd ys σ H D p hD⟩
end L2
namespace L2
open PySem PySem.Spec PyProof.Rows
def Its (z : Str) : It := ⟨fun i _ => i < z.cps.size, fun i H x H' => H'=H ∧ ∃ c, z.cps[i]? = some c ∧ x = .str ⟨#[c]⟩, fun i _ => i=z.cps.size⟩
theorem bV {P : Program}{w : World}{K : PySem.W.Frag}{tg : Expr}{it n : Nat}{Pv : Nat → Value → Prop}{st : Nat → Heap → Prop}{J : It}{T : String}{fl : Nat → Array Value}
    (W : ∀ A : Around, A.handled=none → Walks P w A it [it] [it] n Pv st) (hst : ∀ i h, st i h → ∃ o, h.get? it=some o ∧ o.cls = .type T ∧ o.data = .fields (fl i))
    (hT : ["enumerate", "zip", "dict_itemiterator", "dict_reverseitemiterator", "odict_iterator", "itertools.zip_longest", "itertools.pairwise"].contains T=false)
    (hgo : ∀ i H, J.go i H → i < n) (hstop : ∀ i H, J.stop i H → i=n) (hy : ∀ i H u, J.go i H → Pv i u → ∃ x, a7 x u ∧ J.yld i H x H)
    (hself : ∀ (A : Around) (i : Nat) (s : Shared) (Q : Value → Shared → Prop) (E : Value → Shared → Prop), st i s.heap → Q (.ref it) s → wpAny (model P w) A (pyIter (.ref it)) Q E s) : oH P w K tg J [it] it st where
  mem := by simp
  obj := fun i h s b hb => by
    have e : b=it := by simpa using hb
    subst e
    obtain ⟨o, e, c, d⟩ := hst i h s
    exact ⟨o, e, fun v z => by rw [d] at z;cases z⟩
  keep := fun i h h' s k => (W {} rfl).frame i h h' s k
  item := by
    intro X hP hw hK hc i pins s σ H E I hf s0 hg
    subst hP hw hK
    obtain ⟨f0, f1, f2, f3, f4, f5⟩ := hf it (by simp)
    refine (W X.A (I.ok.hd hc)).item i s _ _ (hgo i H hg) s0 fun v h' tk hv st' kk => ?_
    have I1 : Inv X pins σ H { s with heap := h', toks := tk } := I.turned (fun b o hb e => kk b o (by simpa using hb) e) f0 f1 f3 f4 f5
    obtain ⟨o, e, c, d⟩ := hst _ _ st'
    obtain ⟨x, rx, yx⟩ := hy i H v hg hv
    exact ⟨v, rfl, mQ (s := { s with heap := h', toks := tk }) e c d hT ⟨x, H, I1, rx, yx, st', fun b hb => (hf b hb).1⟩⟩
  done := by
    intro X hP hw hK hc i pins s σ H E I hf s0 hg
    subst hP hw hK
    obtain ⟨f0, f1, f2, f3, f4, f5⟩ := hf it (by simp)
    have e := hstop i H hg
    subst e
    exact (W X.A (I.ok.hd hc)).done s _ _ s0 fun h' tk kk => ⟨rfl, I.turned (fun b o hb e => kk b o (by simpa using hb) e) f0 f1 f3 f4 f5⟩
  self := hself
section
variable {X : Cx} {tg : Expr}
def wC (tl : TE) : TI := fun σ H R => tl σ H fun x H1 => ∃ z, x = .str z ∧ R (Its z) H1
theorem kJ {z : Str}{i : Nat}{H : Hp}{u : Value}(h : SignAt z i u) : ∃ x, a7 x u ∧ (Its z).yld i H x H := by
  obtain ⟨c, t, e, rfl⟩ := h
  exact ⟨.str ⟨#[c]⟩, ⟨t, rfl⟩, rfl, c, e, rfl⟩
theorem fg {l : Expr}{tl : TE}(hl : PE X l tl) : PI X tg l (wC tl) := by
  intro pins s σ H R I h
  refine thn (hl pins s σ H _ I h) fun v s1 zq1 => ?_
  obtain ⟨x, H1, I1, r1, q1⟩ := zq1
  obtain ⟨z, rfl, q⟩ := q1
  obtain ⟨t, rfl⟩ := r1
  have fp : ∀ b∈[s1.heap.objs.size], jB X pins H1 b := fun b hb => by
    have e : b=s1.heap.objs.size := by simpa using hb
    subst e
    exact I1.fpOk (wX _) (I1.hok.fresh (wX _))
  cases ha : z.cps.all (· < 128)
  · refine wpAny_pyIter_wide ha ⟨s1.heap.objs.size, [s1.heap.objs.size], _, Its z, H1, rfl, I1.kept (t' := s1.toks) fun b o e => wU _ e,
      bV (T := "str_iterator") (fl := fun i => #[.str z t, .int i 0]) (fun A hh => Walks.strWide hh _ z t) (fun i h st => st) (by decide) (fun i H g => g) (fun i H g => g) (fun i H u _ hu => kJ hu) (fun A i s Q E st h => wpAny_pyIter_striter_wide st h), ⟨_, w6 _ rfl, rfl, rfl⟩, fp, q⟩
  · refine wpAny_pyIter_ascii ha ⟨s1.heap.objs.size, [s1.heap.objs.size], _, Its z, H1, rfl, I1.kept (t' := s1.toks) fun b o e => wU _ e,
      bV (T := "str_ascii_iterator") (fl := fun i => #[.str z t, .int i 0]) (fun A hh => Walks.strAscii hh _ z t) (fun i h st => st) (by decide) (fun i H g => g) (fun i H g => g) (fun i H u _ hu => kJ hu) (fun A i s Q E st h => wpAny_pyIter_striter_ascii st h), ⟨_, w6 _ rfl, rfl, rfl⟩, fp, q⟩
inductive vL (x : V)(lo : Option Int)(hi : Option Int)(H : Hp)(Q : VK) : Prop
  | mk : ∀ z, (x = .str z) → (z.length≤sizeLine) → (Q (.str (Txt.slice z lo hi)) H) → vL x lo hi H Q
theorem cF : SlR X vL := by
  intro pins s σ H x v vl vu lo hi sl Q I rx hs pl pu h
  obtain ⟨z, rfl, hz, q⟩ := h
  obtain ⟨t, rfl⟩ := rx
  have fin : ∀ (lo hi : Option Int), Q (.str (Txt.slice z lo hi)) H → ∀ t' k, EP X pins σ Q (.str (Txt.slice z lo hi) t') { s with toks := k } := fun lo hi q t' k => ⟨.str _, H, I.tok _, ⟨_, rfl⟩, q⟩
  refine ⟨"str", _, F.slot_str_getitem.lookup, zt _ _ _, ?_⟩
  cases pl with
  | none =>
    cases pu with
    | none => exact yK (l := none) (u := none) (st := none) hs rfl (zZ ⟨xG (zH z _ _) hz, fun t' k => fin _ _ q t' k⟩)
    | int j uj => exact yK (l := none) (u := some (j, uj)) (st := none) hs rfl (zZ ⟨xG (zH z _ _) hz, fun t' k => fin _ _ q t' k⟩)
  | int i ui =>
    cases pu with
    | none => exact yK (l := some (i, ui)) (u := none) (st := none) hs rfl (zZ ⟨xG (zH z _ _) hz, fun t' k => fin _ _ q t' k⟩)
    | int j uj => exact yK (l := some (i, ui)) (u := some (j, uj)) (st := none) hs rfl (zZ ⟨xG (zH z _ _) hz, fun t' k => fin _ _ q t' k⟩)
inductive oU (x : V)(vs : List V)(H : Hp)(Q : VK) : Prop
  | mk : ∀ z, (x = .str z) → (vs=[]) → (z.length≤5592405) → (Q (.str (Txt.upper z)) H) → oU x vs H Q
inductive oV (x : V)(vs : List V)(H : Hp)(Q : VK) : Prop
  | mk : ∀ z, (x = .str z) → (vs=[]) → (z.length≤5592405) → (Q (.str (Txt.lower z)) H) → oV x vs H Q
theorem m_ : MtR X "str.upper" oU := by
  intro pins s σ H x vs v us Q I rx rv h
  obtain ⟨z, rfl, rfl, hz, q⟩ := h
  obtain ⟨t, rfl⟩ := rx
  cases rv
  exact SCL.upper hz fun _ => ⟨.str _, H, I.tok _, ⟨_, rfl⟩, q⟩
theorem dS : MtR X "str.lower" oV := by
  intro pins s σ H x vs v us Q I rx rv h
  obtain ⟨z, rfl, rfl, hz, q⟩ := h
  obtain ⟨t, rfl⟩ := rx
  cases rv
  exact SCL.lower hz fun _ => ⟨.str _, H, I.tok _, ⟨_, rfl⟩, q⟩
theorem dj : ∀ {ys : List Str} {us : List Value}, aR (ys.map V.str) us → StrsAre us ys
  | [], _, r => by
    rw [AH] at r
    cases r
    exact .nil
  | y::ys, us, r => by
    rw [xM] at r
    cases r with
    | cons r1 r2 =>
      obtain ⟨t, e⟩ := r1
      subst e
      exact .cons y t (dj r2)
inductive sE (K : PySem.W.Frag)(x : V)(vs : List V)(H : Hp)(Q : VK) : Prop
  | mk : ∀ z p ys, (x = .str z) → (vs=[.ref p]) → (SqL K H p (ys.map V.str)) → ((ys.map (·.length)).sum+ys.length*z.length≤16777216) → (Q (.str (Txt.join z ys)) H) → sE K x vs H Q
theorem iE : MtR X "str.join" (sE X.K) := by
  intro pins s σ H x vs v us Q I rx rv h
  obtain ⟨z, p, ys, rfl, rfl, hq, hz, q⟩ := h
  obtain ⟨t, rfl⟩ := rx
  obtain ⟨u, rfl, ru⟩ := cb rv
  cases ru
  obtain ⟨its, r, pl, _⟩ := I.list hq
  exact join_list pl.isList (by simpa using dj r) hz fun t' k => ⟨.str _, H, I.tok _, ⟨_, rfl⟩, q⟩
end
theorem eC {z : Str}{g : TG}{tb : TS}{D : dJ}{σ : St}{H : Hp}(Pv : Nat → St → Hp → Prop)(h0 : Pv 0 σ H)
    (hs : ∀ i c σ H, z.cps[i]? = some c → Pv i σ H → g (.str ⟨#[c]⟩) σ H fun σ2 H2 => tb { D with nx := Pv (i+1), ct := Pv (i+1), bk := D.nx } σ2 H2) (hd : ∀ σ H, Pv z.cps.size σ H → D.nx σ H) :
    ∃ W : Nat → Nat → St → Hp → Prop, (∃ m, W 0 m σ H) ∧ ∀ i m σ H, W i m σ H →
      ((Its z).stop i H ∧ D.nx σ H) ∨ ((Its z).go i H ∧ ∃ N : St → Hp → Prop, (∀ σ' H', N σ' H' → ∃ m', m' < m ∧ W (i+1) m' σ' H') ∧ ∀ x H', (Its z).yld i H x H' → g x σ H' fun σ2 H2 => tb { D with nx := N, ct := N, bk := D.nx } σ2 H2) := by
  refine ⟨fun i m σ H => m=z.cps.size - i ∧ i≤z.cps.size ∧ Pv i σ H, ⟨z.cps.size, by simp, xQ _, h0⟩, ?_⟩
  rintro i m σ H ⟨rfl, hi, p⟩
  by_cases hlt : i < z.cps.size
  · refine .inr ⟨hlt, Pv (i+1), fun σ' H' p' => ⟨z.cps.size - (i+1), by omega, rfl, hlt, p'⟩, fun x H' y => ?_⟩
    obtain ⟨e, c, hc, ex⟩ := y
    subst e ex
    exact hs i c σ _ hc p
  · have e : i=z.cps.size := by omega
    subst e
    exact .inl ⟨rfl, hd σ H p⟩
end L2
namespace PySem
open Sem (wp)
open Builtin Builtin.SmallTypes
namespace F
theorem lookup_str_reversed : typeLookup (.type "str") "__reversed__" = pure none := by rw [z0, yW]; kernel_rfl
theorem fJ : Slot "reversed" "__init__" "object.__init__" :=
  .of (owner := "object") (n := "__init__") (by rw [z0, yW];kernel_rfl) (by decide +kernel) (by decide +kernel) (by decide +kernel)
    (by first | exact .inl (by decide +kernel) | exact .inr (by decide +kernel)) (by rw [Ai];kernel_rfl)
theorem called_rvs : TypeCalled "reversed" "reversed.__new__" "object.__init__" :=
  ⟨by decide +kernel, create_reversed, ⟨_, _, mro_reversed⟩, made_reversed, plain_reversed_new, sub_reversed_self, fJ⟩
end F
set_option maxHeartbeats 1000000 in
theorem kK (x : Str)(t : Tok) : Meets (Builtin.«reversed.__new__» ⟨[.type "reversed", .str x t], []⟩) (fun _ R s => ¬ (x.length : Int)≥2 ^ 63 ∧
      ∀ tk, R (.ok (.ret (.ref s.heap.objs.size))) { s with heap := s.heap.push { cls := .type "reversed", data := .fields #[.str x t, rawInt ((x.length : Int) - 1)] }, toks := tk }) :=
  .of_wp fun prog w A R s h => by
    obtain ⟨hx, h⟩ := h
    unfold Builtin.«reversed.__new__»
    refine fu (z3 (newClass_reversed _) ?_)
    try dsimp only
    refine fu (z3 (a := ()) (by first | rfl | kernel_rfl) ?_)
    refine fu (z3 (a := ()) (by first | rfl | kernel_rfl) ?_)
    try dsimp only
    refine fu (zY (zt s x t) F.lookup_str_reversed ?_)
    try dsimp only
    refine fu ?_
    have hl := F.slot_str_getitem.lookup
    have hT := zt s x t
    have hD : isSubtype (.type "str") (.type "dict")=pure false := by rw [Ai];kernel_rfl
    repeat (any_goals (first | assumption | refine PySem.P.len_str hx ?_ | wp_step))
    exact ⟨_, rfl, h _⟩
def Heap.IsRvs (h : Heap)(a : Addr)(x : Str)(t : Tok)(i : Int) : Prop := ∃ o, h.get? a=some o ∧ o.cls = .type "reversed" ∧ o.data = .fields #[.str x t, rawInt i]
theorem Heap.IsRvs.typeIs {s : Shared}{a : Addr}{x : Str}{t : Tok}{i : Int}(y : s.heap.IsRvs a x t i) : s.TypeIs (.ref a) "reversed" := let ⟨o, ho, hc, _⟩ := y; ⟨o, ho, hc⟩
namespace F
theorem slot_rvs_next : Slot "reversed" "__next__" "reversed.__next__" :=
  .of (owner := "reversed") (n := "__next__") (by rw [z0, yW];kernel_rfl) (by decide +kernel) (by decide +kernel) (by decide +kernel)
    (by first | exact .inl (by decide +kernel) | exact .inr (by decide +kernel)) (by rw [Ai];kernel_rfl)
theorem entry_rvs_next : entryFor table "reversed.__next__" = some Builtin.«reversed.__next__» := entryFor_of_tree (by kernel_rfl)
theorem args_rvs_next (a : Value) : argsOk "reversed.__next__" ⟨[a], []⟩ := by unfold argsOk; kernel_rfl
theorem slot_rvs_iter : Slot "reversed" "__iter__" "reversed.__iter__" :=
  .of (owner := "reversed") (n := "__iter__") (by rw [z0, yW];kernel_rfl) (by decide +kernel) (by decide +kernel) (by decide +kernel)
    (by first | exact .inl (by decide +kernel) | exact .inr (by decide +kernel)) (by rw [Ai];kernel_rfl)
theorem args_rvs_iter (a : Value) : argsOk "reversed.__iter__" ⟨[a], []⟩ := by unfold argsOk; kernel_rfl
theorem entry_rvs_iter : entryFor table "reversed.__iter__" = some Builtin.«dict_keyiterator.__iter__» :=
  entryFor_alias (id' := "dict_keyiterator.__iter__") (by kernel_rfl) rfl (by decide +kernel) (by kernel_rfl)
end F
section
variable {prog : Program} {w : World} {A : Around} {E : Value → Shared → Prop} {s : Shared} {x : Str} {t : Tok}
theorem gG {Q : Value → Shared → Prop}(hx : ¬ (x.length : Int)≥2 ^ 63)
    (h : ∀ tk, Q (.ref s.heap.objs.size) { s with heap := s.heap.push { cls := .type "reversed", data := .fields #[.str x t, rawInt ((x.length : Int) - 1)] }, toks := tk }) : wpAny (model prog w) A (call (.type "reversed") [.str x t]) Q E s :=
  callType_new F.called_rvs (by decide) (F.typeCall_reversed_1 _) (F.newCall_reversed_1 _) (fun obj => F.args_object_init_2 obj _) F.entry_reversed_new (kK x t) ⟨hx, fun tk => ⟨⟨_, w6 _ rfl, rfl⟩, h tk⟩⟩
theorem fK {it : Addr}{i : Int}{Q : Value → Shared → Prop}(hit : s.heap.IsRvs it x t i)(h : Q (.ref it) s) : wpAny (model prog w) A (pyIter (.ref it)) Q E s := by
  refine wpAny_pyIter_slot hit.typeIs F.slot_rvs_iter (yl F.slot_rvs_iter hit.typeIs F.entry_rvs_iter ?_ (F.args_rvs_iter _))
  show wpAny _ _ (ret (.ref it)) _ _ s
  exact xb ⟨_, rfl, "reversed", _, hit.typeIs, F.slot_rvs_next.lookup, h⟩
theorem fL {it : Addr}{i : Nat}{c : Nat}{Q : Option Value → Shared → Prop}(hit : s.heap.IsRvs it x t (i : Int))(hx : x.cps[i]? = some c)(h63 : (i : Int) < 2 ^ 63)
    (hQ : ∀ h' tk u, h'.IsRvs it x t ((i : Int) - 1) → Heap.SameBut it s.heap h' → Q (some (.str ⟨#[c]⟩ u)) { s with heap := h', toks := tk }) : wpAny (model prog w) A (pyNext (.ref it)) Q E s := by
  obtain ⟨o, ho, hc, hd⟩ := id hit
  unfold pyNext
  refine fu (yL (x6 (name := Str.ofString "__next__") hit.typeIs F.slot_rvs_next
    (yl F.slot_rvs_next hit.typeIs F.entry_rvs_next ?_ (F.args_rvs_next _))))
  unfold Builtin.«reversed.__next__»
  refine fu (z3 (a := (Value.ref it, [])) rfl ?_)
  try dsimp only
  refine fu (xJ ho hd (x := .str x t) rfl ?_)
  refine fu (xJ ho hd (x := rawInt (i : Int)) rfl ?_)
  show wpAny _ _ (if (i : Int) < 0 then _ else _) _ _ s
  rw [if_neg (by omega)]
  refine fu (zY (zt s x t) F.slot_str_getitem.lookup ?_)
  show wpAny _ _ (if (some (Value.builtin "str.__getitem__")).isNone=true then _ else _) _ _ s
  rw [if_neg (by decide)]
  refine fu (wpAny_mkInt ?_)
  have hlt : i < x.length := by
    have := xA.mp hx
    exact this.1
  refine fu (yL (PySem.P.getItem_str (c := c) ?_ ?_ ?_))
  · have e1 : decide ((i : Int) < -(2 ^ 63 : Int))=false := xi (by omega)
    have e2 : decide ((i : Int)≥2 ^ 63)=false := xi (by omega)
    rw [e1, e2, AR]
  · rw [PySem.StrLaws.seqIndex_nonneg (by omega) (by omega)]
    simpa using hx
  try dsimp only
  refine fu (xJ ho hd (x := rawInt (i : Int)) rfl ?_)
  show wpAny _ _ (setField (.ref it) 1 (rawInt ((i : Int) - 1)) >>= _) _ _ _
  refine fu (ym ho hd (by simp) ?_)
  refine xb ⟨_, rfl, xb (hQ _ _ _ ?_ (z9 ..))⟩
  exact ⟨_, xO _ ho (yc (xX hd _)), (zA ..).trans hc, by
    rw [xX hd];simp⟩
theorem gH {it : Addr}{Q : Option Value → Shared → Prop}(hh : A.handled=none)(hit : s.heap.IsRvs it x t (-1))
    (hQ : ∀ h', (∀ b o, b≠it → s.heap.get? b=some o → h'.get? b=some o) → Q none { s with heap := h' }) : wpAny (model prog w) A (pyNext (.ref it)) Q E s := by
  obtain ⟨o, ho, hc, hd⟩ := id hit
  unfold pyNext
  refine fu (yL (x6 (name := Str.ofString "__next__") hit.typeIs F.slot_rvs_next
    (yl F.slot_rvs_next hit.typeIs F.entry_rvs_next ?_ (F.args_rvs_next _))))
  unfold Builtin.«reversed.__next__»
  refine fu (z3 (a := (Value.ref it, [])) rfl ?_)
  try dsimp only
  refine fu (xJ ho hd (x := .str x t) rfl ?_)
  refine fu (xJ ho hd (x := rawInt (-1)) rfl ?_)
  show wpAny _ _ (if (-1 : Int) < 0 then _ else _) _ _ s
  rw [if_pos (by decide)]
  refine fu (AW ?_)
  refine fu ?_
  show wpAny _ _ (setField (.ref it) 1 (rawInt (-1)) >>= fun _ => setField (.ref it) 0 .none) _ _ s
  refine fu (ym ho hd (by simp) ?_)
  have ho2 := xO (Obj.mapFields fun a => a.setIfInBounds 1 (rawInt (-1))) ho (yc (xX hd _))
  have hd2 := xX hd fun a => a.setIfInBounds 1 (rawInt (-1))
  refine ym ho2 hd2 (by simp) ?_
  generalize hh2 : (s.heap.update it _).update it _=h2
  have kk : ∀ b o, b≠it → s.heap.get? b=some o → h2.get? b=some o := fun b o hb e => by
    rw [← hh2]
    exact (xD _ _ (Ne.symm hb)).trans ((xD _ _ (Ne.symm hb)).trans e)
  have hz : A.in1.handled=none := hh
  have sub := AN
  repeat (any_goals (first | assumption | wp_step))
  unfold raiseNew
  refine fu (wpAny_handled ?_)
  rw [hz]
  refine fu (xb (wpAny_throw ?_))
  refine fu (Aw (T := "StopIteration") (b := true) ?_ sub (xb (hQ _ fun b o hb e => ?_)))
  · exact ⟨_, w6 _ rfl, rfl⟩
  exact wU _ (wU _ (kk b o hb e))
theorem kL (hh : A.handled=none)(it : Addr)(x : Str)(t : Tok)(h63 : (x.cps.size : Int) < 2 ^ 63) :
    Walks prog w A it [it] [it] x.cps.size (fun i v => ∃ c u, x.cps[x.cps.size - 1 - i]? = some c ∧ v = .str ⟨#[c]⟩ u) (fun i h => i≤x.cps.size ∧ h.IsRvs it x t ((x.cps.size : Int) - 1 - (i : Int))) where
  sub := fun _ hb => hb
  frame := fun _ _ _ st hk => let ⟨l, o, ho, r⟩ := st;⟨l, o, hk it (by simp) o ho, r⟩
  item := fun i s Q E hi y hQ => by
    have e : (x.cps.size : Int) - 1 - (i : Int)=((x.cps.size - 1 - i : Nat) : Int) := by omega
    have hit := y.2
    rw [e] at hit
    have hx : x.cps[x.cps.size - 1 - i]? = some (x.cps[x.cps.size - 1 - i]'(by omega)) := yA (by omega)
    refine fL hit hx (by omega) fun h' tk u hit' hs' => ?_
    have e2 : ((x.cps.size - 1 - i : Nat) : Int) - 1=(x.cps.size : Int) - 1 - ((i+1 : Nat) : Int) := by omega
    rw [e2] at hit'
    exact hQ _ h' tk ⟨_, u, hx, rfl⟩ ⟨hi, hit'⟩ fun b o hb eo => hs'.extBut b o (fun h => hb (by simp [h])) eo
  done := fun s Q E y hQ => by
    have e : (x.cps.size : Int) - 1 - (x.cps.size : Int) = -1 := by omega
    have hit := y.2
    rw [e] at hit
    exact gH hh hit fun h' he' => hQ h' s.toks fun b o hb eo => he' b o (fun h => hb (by simp [h])) eo
  self := fun _ _ _ _ y hQ => fK y.2 hQ
end
end PySem
namespace L2
open PySem PySem.Spec PyProof.Rows
def uO (z : Str) : It := ⟨fun i _ => i < z.cps.size, fun i H x H' => H'=H ∧ ∃ c, z.cps[z.cps.size - 1 - i]? = some c ∧ x = .str ⟨#[c]⟩, fun i _ => i=z.cps.size⟩
section
variable {X : Cx} {tg : Expr}
def uP (ta : TA) : TI := fun σ H R => ta σ H fun vs H1 => ∃ z, vs=[.str z] ∧ z.length≤sizeLine ∧ R (uO z) H1
theorem qc {a : Expr}{ta : TA}{p pos : Pos}(hg : Gl X "reversed")(hm : X.mg "reversed" = none)(hb : bootBuiltins "reversed" = some (.type "reversed"))(ha : PA X [a] ta)(hs : starEach [a] X.env=[(false, eval a X.env)] := by rfl) :
    PI X tg (.Call (.Name "reversed" p) [a] [] pos) (uP ta) := by
  intro pins s σ H R I h
  refine Call_ (dz I hg hm hb (xZ (thn (ha pos pins s σ H _ I h) fun us s1 zq1 => ?_) hs rfl))
  obtain ⟨vs, H1, I1, r1, q1⟩ := zq1
  obtain ⟨z, rfl, hz, q⟩ := q1
  obtain ⟨u, rfl, t, rfl⟩ := cb r1
  have hn := cB
  have hsz : z.cps.size=z.length := rfl
  refine gG (by omega) fun tk => ?_
  have hit : Heap.IsRvs (s1.heap.push { cls := .type "reversed", data := .fields #[.str z t, rawInt ((z.length : Int) - 1)] }) s1.heap.objs.size z t ((z.length : Int) - 1) := ⟨_, w6 _ rfl, rfl, rfl⟩
  refine fK (s := { s1 with heap := s1.heap.push { cls := .type "reversed", data := .fields #[.str z t, rawInt ((z.length : Int) - 1)] }, toks := tk }) hit ?_
  refine ⟨s1.heap.objs.size, [s1.heap.objs.size], _, uO z, H1, rfl, I1.kept (t' := tk) fun b o e => wU _ e,
    bV (T := "reversed") (fl := fun i => #[.str z t, rawInt ((z.cps.size : Int) - 1 - (i : Int))]) (fun A hh => kL hh _ z t (by omega)) (fun i h st => st.2) (by decide) (fun i H g => g) (fun i H g => g)
      (fun i H u _ ⟨c, t', e, eu⟩ => ⟨.str ⟨#[c]⟩, ⟨t', eu⟩, rfl, c, e, rfl⟩) (fun A i s Q E st h => fK st.2 h), ⟨xQ _, by simpa [hsz] using hit⟩, fun b hb => ?_, q⟩
  have e : b=s1.heap.objs.size := by simpa using hb
  subst e
  exact I1.fpOk (wX _) (I1.hok.fresh (wX _))
structure DTx (K : PySem.W.Frag) (w : World) (a : Addr) : Prop where
  ob : ∃ (es : Array DictEntry) (n : Nat), K.lookup a=some ⟨.type "dict", none, .dict es n, #[]⟩ ∧ PySem.W.KeysLit w.params es.toList
theorem nh {a : Addr}(D : DTx X.K X.w a) : IxR X (fun x y H Q => ∃ z z' t, x = .ref a ∧ y = .str z ∧ PySem.W.nsIn X.K a z=some (some (.str z' t)) ∧ Q (.str z') H) := by
  intro value slice pins s σ H x y v u Q I rx ry h hs
  obtain ⟨z, z', t', rfl, rfl, e, q⟩ := h
  cases rx
  obtain ⟨t, rfl⟩ := ry
  obtain ⟨es, n, hl, hk⟩ := D.ob
  obtain ⟨m, F⟩ := I.fr
  exact PySem.W.topItem_K F I.ok.mod.kin hl hk e ⟨.str z', H, I.tok _, ⟨_, rfl⟩, q⟩ hs
def nj (K : PySem.W.Frag)(a : Addr)(Q : VK) : V → Hp → Prop := fun y H1 => ∃ z z' t, y = .str z ∧ PySem.W.nsIn K a z=some (some (.str z' t)) ∧ Q (.str z') H1
def uQ (K : PySem.W.Frag)(a : Addr)(ti : TE) : TE := fun σ H Q => ti σ H (nj K a Q)
theorem kM {K : PySem.W.Frag}{w : World}{a : Addr}{x : Str}{i : Expr}{ti : TE}{p pos : Pos}(D : DTx K w a)(hK : X.K=K)(hw : X.w=w)(hg : Gl X x)(hm : X.mg x=some (.ref a))(hi : PE X i ti)(hs : fC i)
    (hd : (x == ("__debug__" : Str))=false := by decide) : PE X (.Subscript (.Name x p) i pos) (uQ K a ti) := by
  subst hK hw
  intro pins s σ H Q I h
  refine Ak (cH I hg hm (thn (hi pins s σ H _ I h) fun u s2 zq2 => ?_) hd)
  obtain ⟨y, H2, I2, ry, z, z', t', e1, e2, q⟩ := zq2
  exact nh D _ _ pins s2 σ H2 (.ref a) y (.ref a) u Q I2 rfl ry ⟨z, z', t', rfl, e1, e2, q⟩ (hs _ _)
end
end L2
namespace Wd
abbrev L := Fin 12
def inv (x : L) : L := if h : x.val < 6 then ⟨x.val+6, by omega⟩ else ⟨x.val - 6, by omega⟩
theorem bp : ∀ x : L, inv (inv x)=x := by decide
def bk (w : List L) : List L := (w.map inv).reverse
theorem gJ (u v : List L) : bk (u++v)=bk v++bk u := by simp [bk]
theorem nk (w : List L) : bk (bk w)=w := by
  unfold bk
  rw [List.map_reverse, List.reverse_reverse, x4]
  have : (inv ∘ inv)=id := funext fun x => bp x
  rw [this, List.map_id]
theorem bP (w : List L) : (bk w).length=w.length := by simp [bk]
theorem kO (x : L)(w : List L) : bk (x::w)=bk w++[inv x] := by simp [bk]
theorem dD (x : L) : bk [x]=[inv x] := rfl
def push (st : List L)(x : L) : List L := match st with
  | [] => [x]
  | y::r => if y=inv x then r else x::y::r
def act (w : List L)(st : List L) : List L := w.foldl push st
theorem qe (st : List L) : act [] st=st := rfl
theorem dU (x : L)(w st : List L) : act (x::w) st=act w (push st x) := rfl
theorem a8 (u v st : List L) : act (u++v) st=act v (act u st) := by simp [act, List.foldl_append]
theorem bJ (u : List L)(x : L)(st : List L) : act (u++[x]) st=push (act u st) x := by rw [a8]; rfl
def Rd : List L → Prop
  | [] => True
  | [_] => True
  | x::y::r => y≠inv x ∧ Rd (y::r)
theorem Rd.tail : ∀ {x : L} {r : List L}, Rd (x::r) → Rd r
  | _, [], _ => trivial
  | _, _::_, h => h.2
theorem kP {st : List L}(x : L)(h : Rd st) : Rd (push st x) := by
  cases st with
  | nil => trivial
  | cons y r =>
    show Rd (if y=inv x then r else x::y::r)
    split
    · exact h.tail
    · rename_i hn
      exact ⟨hn, h⟩
theorem gK : ∀ (w : List L) {st : List L}, Rd st → Rd (act w st)
  | [], _, h => h
  | x::w, st, h => gK w (kP x h)
theorem gL {st : List L}(x : L)(h : Rd st) : push (push st x) (inv x)=st := by
  cases st with
  | nil =>
    show (if x=inv (inv x) then [] else _)=_
    rw [if_pos (bp x).symm]
  | cons y r =>
    show push (if y=inv x then r else x::y::r) (inv x)=y::r
    by_cases e : y=inv x
    · rw [if_pos e]
      subst e
      cases r with
      | nil => rfl
      | cons z r =>
        show (if z=inv (inv x) then r else inv x::z::r)=_
        rw [if_neg h.1]
    · rw [if_neg e]
      show (if x=inv (inv x) then y::r else _)=_
      rw [if_pos (bp x).symm]
theorem jK {st : List L}(x : L)(h : Rd st) : push (push st (inv x)) x=st := by
  have := gL (inv x) h
  rwa [bp] at this
theorem kQ : ∀ (w : List L) {st : List L}, Rd st → act (bk w) (act w st)=st
  | [], _, _ => rfl
  | x::w, st, h => by
    rw [dU, kO, a8, kQ w (kP x h), dU, qe, gL x h]
def red (w : List L) : List L := (act w []).reverse
theorem kT : ∀ {st : List L}, Rd st → act st.reverse []=st
  | [], _ => rfl
  | x::r, h => by
    rw [xN, bJ, kT h.tail]
    cases r with
    | nil => rfl
    | cons y r =>
      show (if y=inv x then r else _)=_
      rw [if_neg h.1]
theorem jg : Rd [] := trivial
theorem qf (v : List L) : ∀ (st : List L), Rd st → act (red v) st=act v st := by
  have all : ∀ (u v : List L) (st : List L), v=u.reverse → Rd st → act (red v) st=act v st := by
    intro u
    induction u with
    | nil => intro v st e _;subst e;rfl
    | cons x u ih =>
      intro v st e h
      subst e
      rw [xN, bJ, ← ih _ st rfl h]
      unfold red
      rw [bJ]
      cases hq : act u.reverse [] with
      | nil => rfl
      | cons y r =>
        show act (if y=inv x then r else x::y::r).reverse st=push (act (y::r).reverse st) x
        by_cases e : y=inv x
        · rw [if_pos e, xN, bJ, e, jK x (gK _ h)]
        · rw [if_neg e, xN, bJ]
  exact fun st h => all v.reverse v st (by simp) h
theorem cY (u v : List L) : red (red u++v)=red (u++v) := by
  unfold red
  rw [a8, a8, kT (gK u jg)]
theorem cZ (u v : List L) : red (u++red v)=red (u++v) := by
  show (act (u++red v) []).reverse=(act (u++v) []).reverse
  rw [a8, a8, qf v _ (gK u jg)]
theorem kU (a : List L) : red (a++bk a)=[] := by
  unfold red
  rw [a8, kQ a jg]
  rfl
theorem iF (st : List L)(x : L) : (push st x).length≤st.length+1 := by
  cases st with
  | nil => simp [push]
  | cons y r =>
    show (if y=inv x then r else x::y::r).length≤_
    split
    · simp only [xu];omega
    · simp
theorem cw : ∀ (w st : List L), (act w st).length≤st.length+w.length
  | [], _ => by simp [act]
  | x::w, st => by
    have := cw w (push st x)
    have := iF st x
    rw [dU, xu]
    omega
theorem fi (w : List L) : (red w).length≤w.length := by
  have := cw w []
  simpa [red] using this
def rep : Nat → List L → List L
  | 0, _ => []
  | n+1, w => rep n w++w
def pw (w : List L)(n : Int) : List L := rep n.natAbs (if n < 0 then bk w else w)
end Wd
namespace L2
open PySem PySem.Spec PyProof.Rows Wd
def cp (x : L) : Nat := if x.val < 6 then 97+x.val else 59+x.val
theorem nr : ∀ x : L, cp x < 128 := by decide
theorem oW : ∀ x y : L, cp x=cp y → x=y := by decide
def toS (w : List L) : Str := ⟨(w.map cp).toArray⟩
def tx (w : List L) : V := .str (toS w)
theorem aZ (w : List L) : (toS w).cps.toList=w.map cp := by simp [toS]
theorem af (w : List L) : (toS w).length=w.length := by simp [toS, Str.length]
theorem bq (w : List L) : (toS w).cps.size=w.length := by simp [toS]
theorem az (u v : List L) : toS u++toS v=toS (u++v) := by
  apply Str.ext'
  rw [Str.cps_append]
  simp [toS]
theorem dk : ∀ {u v : List L}, u.map cp=v.map cp → u=v
  | [], [], _ => rfl
  | [], _::_, h => by simp at h
  | _::_, [], h => by simp at h
  | x::u, y::v, h => by
    simp only [xM, List.cons.injEq] at h
    rw [oW x y h.1, dk h.2]
theorem iG {u v : List L}(h : toS u=toS v) : u=v := by
  have : (toS u).cps.toList=(toS v).cps.toList := by rw [h]
  rw [aZ, aZ] at this
  exact dk this
theorem oX {u v : List L}(h : tx u=tx v) : u=v := iG (V.str.inj h)
theorem qg : toS []=("" : Str) := by decide +kernel
theorem jh : tx []=V.str ("" : Str) := xH V.str qg
theorem fj (u v : List L) : decide (tx u=tx v)=decide (u=v) := by
  by_cases h : u=v
  · subst h;simp
  · rw [xi h, xi fun e => h (oX e)]
theorem gM : toS [0, 1, 2, 3, 4, 5]=("abcdef" : Str) := by decide +kernel
theorem big : toS [6, 7, 8, 9, 10, 11]=("ABCDEF" : Str) := by decide +kernel
theorem cL {w : List L}{i c : Nat}(h : (toS w).cps[i]? = some c) : ∃ x, w[i]? = some x ∧ (⟨#[c]⟩ : Str)=toS [x] := by
  have h : ((w.map cp).toArray)[i]? = some c := h
  rw [List.getElem?_toArray, xq] at h
  cases e : w[i]? with
  | none => rw [e] at h;cases h
  | some x =>
    rw [e] at h
    have : cp x=c := w4 h
    exact ⟨x, rfl, by rw [← this];rfl⟩
theorem bM {w : List L}{k : Nat}{x : L}{i : Int}(hk : i=(k : Int))(h : w[k]? = some x) : atI (toS w).cps.toList i=some (cp x) := by
  subst hk
  rw [aZ]
  obtain ⟨hl, e⟩ := wW.mp h
  unfold atI ixN
  rw [if_pos (by omega), if_pos (by rw [wV];omega)]
  show (w.map cp)[((k : Nat) : Int).toNat]? = _
  rw [xh, xq, h]
  rfl
theorem dE (x : L) : (⟨#[cp x]⟩ : Str)=toS [x] := rfl
def nu (w : List L)(lo hi : Option Int) : List L := (w.drop (HT.sIx w.length 0 lo)).take (HT.sIx w.length w.length hi - HT.sIx w.length 0 lo)
theorem qh (lo hi : Option Int)(n : Nat) : Builtin.Str.strSliceIndices lo hi 1 n=(List.range (HT.sIx n n hi - HT.sIx n 0 lo)).map (fun k => HT.sIx n 0 lo+k) := by
  have cl : ∀ v : Int, max (0 : Int) (min (if v < 0 then v+(n : Int) else v) (n : Int))=(((if v < 0 then (v+(n : Int)).toNat else min v.toNat n) : Nat) : Int) := fun v => by
    by_cases hv : v < 0
    · simp only [if_pos hv];omega
    · simp only [if_neg hv];omega
  have fin : ∀ a b : Nat, sliceRange (a : Int) (b : Int) 1=(List.range (b - a)).map (fun k => a+k) := fun a b => by
    unfold sliceRange
    simp only [show ((1 : Int) > 0)=True from by simp, zu]
    by_cases hlt : (a : Int) < b
    · have e3 : (((b : Int) - a+1 - 1) / 1).toNat=b - a := by first | omega | (simp;done) | (simp;omega)
      simp only [hlt, zu, e3]
      exact z_ fun k _ => by omega
    · have : b - a=0 := by omega
      simp [hlt, this]
  unfold Builtin.Str.strSliceIndices
  simp only [show ((1 : Int) > 0)=True from by simp, zu]
  cases lo with
  | none =>
    cases hi with
    | none => exact fin 0 n
    | some j => simp only [cl];exact fin 0 _
  | some i =>
    cases hi with
    | none => simp only [cl];exact fin _ n
    | some j => simp only [cl];exact fin _ _
theorem aP (w : List L)(lo hi : Option Int) : Txt.slice (toS w) lo hi=toS (nu w lo hi) := by
  have h1 := HT.oO w.length 0 (xQ _) lo
  have h2 := HT.oO w.length w.length (wX _) hi
  unfold Txt.slice
  rw [qh, af]
  split
  · rename_i h
    have hl : HT.sIx w.length w.length hi - HT.sIx w.length 0 lo=w.length := by simpa using h
    have e : nu w lo hi=w := by
      unfold nu
      rw [hl]
      have ha : HT.sIx w.length 0 lo=0 ∨ w.length=0 := by omega
      rcases ha with ha | ha
      · rw [ha, zF, yi]
      · have : w=[] := zJ ha
        subst this
        simp
    rw [e]
  · apply Str.ext'
    show (List.filterMap _ _).toArray=_
    have e := StrLaws.picks (w.map cp) (HT.sIx w.length w.length hi - HT.sIx w.length 0 lo) (HT.sIx w.length 0 lo)
    by_cases hle : HT.sIx w.length 0 lo≤HT.sIx w.length w.length hi
    · have e := e (by rw [wV];omega)
      have e2 : (fun k : Nat => (toS w).cps[k]?)=fun k : Nat => (w.map cp)[k]? := funext fun k => by simp [toS]
      rw [e2, e]
      simp [toS, nu, zP, AS]
    · have z : HT.sIx w.length w.length hi - HT.sIx w.length 0 lo=0 := by omega
      rw [z]
      simp [toS, nu, z]
theorem cG (w : List L){n : Int}(h : 0≤n) : nu w none (some n)=w.take n.toNat := by
  obtain ⟨k, rfl⟩ := x8 h
  unfold nu
  rw [HT.dP, HT.eg, zF, AX, xh]
  by_cases hk : k≤w.length
  · rw [Aa hk]
  · rw [zK (by omega), yi, xE (by omega)]
theorem dW (w : List L){n : Int}(h : 0≤n) : nu w (some n) none=w.drop n.toNat := by
  obtain ⟨k, rfl⟩ := x8 h
  unfold nu
  rw [HT.dP, HT.eg, xh]
  by_cases hk : k≤w.length
  · rw [Aa hk, xE (by rw [yb];omega)]
  · rw [zK (by omega), Ax, List.drop_eq_nil_of_le (by omega)]
    simp
theorem kW (w : List L) : Txt.upper (toS w)=⟨((w.map cp).map up1).toArray⟩ := by
  rw [upper_ascii fun c hc => by rw [aZ] at hc;obtain ⟨x, _, rfl⟩ := yX.mp hc;exact nr x]
  simp [toS]
theorem eD (w : List L) : Txt.lower (toS w)=⟨((w.map cp).map lo1).toArray⟩ := by
  rw [lower_ascii fun c hc => by rw [aZ] at hc;obtain ⟨x, _, rfl⟩ := yX.mp hc;exact nr x]
  simp [toS]
theorem uR : ∀ x : L, x.val < 6 → up1 (cp x)=cp (inv x) := by decide
theorem uS : ∀ x : L, ¬ x.val < 6 → lo1 (cp x)=cp (inv x) := by decide
theorem gN {x : L}(h : x.val < 6) : Txt.upper (toS [x])=toS [inv x] := by
  rw [kW]
  show (⟨#[up1 (cp x)]⟩ : Str)=⟨#[cp (inv x)]⟩
  rw [uR x h]
theorem gO {x : L}(h : ¬ x.val < 6) : Txt.lower (toS [x])=toS [inv x] := by
  rw [eD]
  show (⟨#[lo1 (cp x)]⟩ : Str)=⟨#[cp (inv x)]⟩
  rw [uS x h]
theorem ex1 : ∀ x : L, cp x∈List.map cp [0, 1, 2, 3, 4, 5] → x.val < 6 := by decide
theorem ex2 : ∀ x : L, x.val < 6 → (List.map cp [0, 1, 2, 3, 4, 5])[x.val]? = some (cp x) := by decide
theorem fM (x : L) : (!(Builtin.Str.occurrences ("abcdef" : Str) (toS [x]) 0 ("abcdef" : Str).length 1).isEmpty)=decide (x.val < 6) := by
  have h := StrLaws.found_iff ("abcdef" : Str) (toS [x])
  have e : (∃ i, i+(toS [x]).length≤("abcdef" : Str).length ∧ Builtin.Str.subAt ("abcdef" : Str) (toS [x]) i=true) ↔ x.val < 6 := by
    have e2 : ∀ i, (i+(toS [x]).length≤("abcdef" : Str).length ∧ Builtin.Str.subAt ("abcdef" : Str) (toS [x]) i=true) ↔ ("abcdef" : Str).cps.toList[i]? = some (cp x) := fun i => StrLaws.subAt_one _ _ _
    rw [show (("abcdef" : Str))=toS [0, 1, 2, 3, 4, 5] from gM.symm] at e2 ⊢
    constructor
    · rintro ⟨i, hi⟩
      have hi := (e2 i).mp hi
      rw [aZ] at hi
      exact ex1 x (xj hi)
    · intro hx
      refine ⟨x.val, (e2 x.val).mpr ?_⟩
      rw [aZ]
      exact ex2 x hx
  rw [zf, h, e, decide_eq_true_iff]
theorem nv : ∀ w : List L, Txt.join ("" : Str) (w.map fun x => toS [x])=toS w := by
  intro w
  have e0 : ("" : Str)=Str.empty := by decide +kernel
  unfold Txt.join
  rw [StrLaws.glued_eq_join, e0]
  induction w with
  | nil => rfl
  | cons x r ih =>
    cases r with
    | nil => rfl
    | cons y r =>
      show toS [x]++Str.empty++Str.join Str.empty ((y::r).map fun x => toS [x])=_
      rw [ih, Str.append_empty, az]
      rfl
theorem qi (w : List L) : ((w.map fun x => toS [x]).map (·.length)).sum=w.length := by
  induction w with
  | nil => rfl
  | cons x r ih =>
    simp only [xM, List.sum_cons, xu]
    rw [ih, af]
    simp only [xP]
    omega
end L2
namespace L2
open PySem PySem.Spec PyProof.Rows Wd
structure Fnc (P : Program) (w : World) (K : PySem.W.Frag) (mg : Str → Option Value) (base : Heap) (x : Str) (ps : List Str) (k : Nat) (sp : Sp) : Prop where
  ex : ∃ (f : Addr) (fd : FuncData), mg x=some (.ref f) ∧ PySem.W.keepIn K (.ref f)=true ∧ ee K fd ps [] ∧ gm P w K mg base CX0 k f fd ps sp
theorem aH {X : Cx}{x : Str}{ps : List Str}{k j : Nat}{sp : Sp}{e : Expr}{es : List Expr}{t : TA}{p pos : Pos}(F : Fnc X.prog X.w X.K X.mg X.base x ps j sp)(hr : b0 k X.A)(hj : j≤k)(hg : Gl X x)(ha : PA X (e::es) t)
    (hdb : (x == ("__debug__" : Str))=false := by decide) (he : starEach (e::es) X.env=(false, eval e X.env)::starEach es X.env := by rfl) (hpl : (backTo pos (starEach es X.env)).any (·.1)=false := by rfl) :
    PE X (.Call (.Name x p) (e::es) [] pos) (pO sp [] E0 t) := by
  obtain ⟨f, fd, hm, hk, hb, F⟩ := F.ex
  exact ko F (hr.mono hj) hg hm hk hb .nil uM ha hdb he hpl
structure Df (K : PySem.W.Frag) (mg : Str → Option Value) (x : Str) (st : Stmt) : Prop where
  ex : ∃ (f : Addr) (fd : FuncData), mg x=some (.ref f) ∧ Fun K x x st f fd
theorem Df.ok {P : Program}{w : World}{K : PySem.W.Frag}{mg : Str → Option Value}{base : Heap}{x : Str}{st : Stmt}{N ps : List Str}{k : Nat}{sp : Sp}(D : Df K mg x st)(S : aC N ps (aj st))
    (hb : ∀ (kV doc pm : Value) (an : Option Addr) (cdv ct : Value) (us : List Value), us.length=ps.length → bindArgs (PySem.W.fnOf x x (bb st) (aQ st) (aj st) .none kV doc pm an cdv ct) ⟨us, []⟩=pure (ps.zip us))
    (len : ∀ vs H Q E, sp vs H Q E → vs.length=ps.length)
    (hbody : ∀ (f : Addr) (cdv : Value) (A : Around) (outer : List Env) (s : Shared) (H : Hp) (vs : List V) (Q : VK) (E : XK), b0 k (A.deeper (envOfC x (aj st) s.heap.objs.size f cdv)) → sp vs H Q E →
      ∃ t, PSs (iq CX0 P w K mg base N x (aj st) f cdv A outer s H E).nox (aQ st) t ∧ t { nx := fun _ H' => Q .non H', rt := Q } (start N vs) H) : Fnc P w K mg base x ps (k+1) sp := by
  obtain ⟨f, fd, hm, F⟩ := D.ex
  exact ⟨f, fd, hm, F.kp, F.binds hb, F.ok S len fun cdv A outer s H vs Q E hr h => hbody f cdv A outer s H vs Q E hr h⟩
def bA (d : Addr)(H H' : Hp) : Prop := ∀ b o, b≠d → H b=some o → H' b=some o
theorem bA.trans {d : Addr}{H H1 H2 : Hp}(a : bA d H H1)(b : bA d H1 H2) : bA d H H2 := fun c o n h => b c o n (a c o n h)
theorem aw.b {d : Addr}{H H' : Hp}(a : aw H H') : bA d H H' := fun b o _ h => a b o h
theorem aw.new {H : Hp}{a : Addr}{o : HO}(h : H a=none) : aw H (upd H a o) := fun b u e => by rw [ao (aq e h)]; exact e
theorem bA.upd {d : Addr}{H : Hp}{o : HO} : bA d H (upd H d o) := fun b u n e => by rw [ao n]; exact e
theorem aw.then {H H1 : Hp}{a : Addr}{o : HO}(s : aw H H1)(h : H1 a=none) : aw H (L2.upd H1 a o) := s.trans (aw.new h)
def kS (x : Str) : Key := .inr x
def fkv (c : Addr)(i l t : Int) : List (Key × V) := [(kS "cells", .ref c), (kS "at", .int i), (kS "left", .int l), (kS "turn", .int t)]
theorem uT : ¬ (kS "cells" = kS "at") := by decide +kernel
theorem uU : ¬ (kS "cells" = kS "left") := by decide +kernel
theorem uV : ¬ (kS "cells" = kS "turn") := by decide +kernel
theorem ue : ¬ (kS "at" = kS "left") := by decide +kernel
theorem uf : ¬ (kS "at" = kS "turn") := by decide +kernel
theorem ug : ¬ (kS "left" = kS "turn") := by decide +kernel
theorem dX {κ : Type}[DecidableEq κ]{k : κ}{v : V}{r : List (κ × V)} : cK ((k, v)::r) k=some v := by unfold cK; simp
theorem bQ {κ : Type}[DecidableEq κ]{k k' : κ}{v : V}{r : List (κ × V)}(h : ¬ k'=k) : cK ((k', v)::r) k=cK r k := by unfold cK; simp [h]
theorem kX (c : Addr)(i l t : Int) : cK (fkv c i l t) (kS "cells")=some (.ref c) := dX
theorem vM (c : Addr)(i l t : Int) : cK (fkv c i l t) (kS "at")=some (.int i) := (bQ uT).trans dX
theorem gP (c : Addr)(i l t : Int) : cK (fkv c i l t) (kS "left")=some (.int l) := (bQ uU).trans ((bQ ue).trans dX)
theorem kY (c : Addr)(i l t : Int) : cK (fkv c i l t) (kS "turn")=some (.int t) := (bQ uV).trans ((bQ uf).trans ((bQ ug).trans dX))
theorem wD : ¬ (kS "turn" = kS "at") := fun e => uf e.symm
theorem wF : ¬ (kS "left" = kS "at") := fun e => ue e.symm
theorem wG : ¬ (kS "turn" = kS "left") := fun e => ug e.symm
theorem wH (c : Addr)(i l t z : Int) : cP (fkv c i l t) (kS "at") (.int z)=fkv c z l t := by simp [cP, fkv, uT, wF, wD]
theorem kZ (c : Addr)(i l t z : Int) : cP (fkv c i l t) (kS "left") (.int z)=fkv c i z t := by simp [cP, fkv, uU, ue, wG]
theorem sF (c : Addr)(i l t z : Int) : cP (fkv c i l t) (kS "turn") (.int z)=fkv c i l z := by simp [cP, fkv, uV, uf, ug]
theorem eE (c : Addr)(i l t : Int) : (fkv c i l t).length < sizeLine := by show 4 < sizeLine; decide
theorem uW (c : Addr)(i l t : Int) : et [] (fkv c i l t)=fkv c i l t := by simp [et, cP, fkv, uT, uU, uV, ue, uf, ug]
structure Fd (H : Hp) (d : Addr) : Prop where
  ex : ∃ (c : Addr) (i l t : Int) (ns : List Int), H d=some (.dK (fkv c i l t)) ∧ H c=some (.lst (ns.map V.int)) ∧ ns≠[] ∧ ns.length≤64
theorem Fd.same {H H' : Hp}{d : Addr}(F : Fd H d)(s : aw H H') : Fd H' d := by
  obtain ⟨c, i, l, t, ns, h1, h2, h3, h4⟩ := F.ex
  exact ⟨c, i, l, t, ns, s _ _ h1, s _ _ h2, h3, h4⟩
theorem Fd.new {H : Hp}{d a : Addr}{o : HO}(F : Fd H d)(h : H a=none) : Fd (upd H a o) d := F.same (aw.new h)
theorem Fd.ne {H : Hp}{d a : Addr}(F : Fd H d)(h : H a=none) : a≠d := by
  obtain ⟨c, i, l, t, ns, h1, h2, h3, h4⟩ := F.ex
  exact (aq h1 h).symm
theorem Fd.nl {H : Hp}{d a : Addr}{xs : List V}(F : Fd H d)(h : H a=some (.lst xs)) : a≠d := by
  obtain ⟨c, i, l, t, ns, h1, h2, h3, h4⟩ := F.ex
  exact dI h h1 (by intro z;cases z)
inductive eG (vs : List V)(H : Hp)(Q : VK)(u3_ : XK) : Prop
  | mk : ∀ (d : Addr) (m : Int), (vs=[.ref d, .int m]) → (Fd H d) → (0 < m) → (m < 1000000) → (∀ (r : Int) (H' : Hp), 0≤r → r < m → Fd H' d → bA d H H' → Q (.int r) H') → eG vs H Q u3_
inductive k6 (K : PySem.W.Frag)(vs : List V)(H : Hp)(Q : VK)(u3_ : XK) : Prop
  | mk : ∀ (a : Addr) (ns : List Int), (vs=[.ref a]) → (SqL K H a (ns.map V.int)) → (ns.length≤63) → (∀ (d : Addr) (H' : Hp), H d=none → Fd H' d → aw H H' → Q (.ref d) H') → k6 K vs H Q u3_
theorem qj {ns : List Int}(h : ns≠[])(i : Int) : ∃ n : Int, atI (ns.map V.int) (i % ((ns.map V.int).length : Int))=some (.int n) := by
  have hl : 0 < ns.length := xU.mpr h
  rw [wV]
  have h0 := yp i (show (ns.length : Int)≠0 by omega)
  have h1 := yT i (show (0 : Int) < ns.length by omega)
  obtain ⟨k, hk⟩ := x8 h0
  rw [hk] at h1 ⊢
  have hk' : k < ns.length := by omega
  refine ⟨ns[k], ?_⟩
  unfold atI ixN
  rw [if_pos (by omega), if_pos (by rw [wV];omega)]
  show (ns.map V.int)[((k : Nat) : Int).toNat]? = _
  rw [xh, xq, xf hk']
  rfl
end L2
namespace L2
open PySem PySem.Spec PyProof.Rows Wd
mutual
inductive Dt (H : Hp) : V → PyData → Prop where
  | non : Dt H .non .none
  | bl (b : Bool) : Dt H (.bl b) (.bool b)
  | int (i : Int) : Dt H (.int i) (.int i)
  | str (x : Str) : Dt H (.str x) (.str x)
  | lst {a : Addr} {xs : List V} {ds : List PyData} : H a=some (.lst xs) → Dts H xs ds → Dt H (.ref a) (.list ds)
  | tup {a : Addr} {xs : List V} {ds : List PyData} : H a=some (.tup xs) → Dts H xs ds → Dt H (.ref a) (.tuple ds)
inductive Dts (H : Hp) : List V → List PyData → Prop where
  | nil : Dts H [] []
  | cons {v : V} {d : PyData} {vs : List V} {ds : List PyData} : Dt H v d → Dts H vs ds → Dts H (v::vs) (d::ds)
end
section
variable {P : Program} {w : World} {H : Hp} {h : Heap}
mutual
theorem Dt.reads (ok : HOk P w H h) : ∀ {v : V} {d : PyData}, Dt H v d → ∀ {u : Value}, a7 v u → ∃ as, Reads h u d as
  | _, _, .non, u, r => by cases r;exact ⟨_, .none⟩
  | _, _, .bl b, u, r => by cases r;exact ⟨_, .bool b⟩
  | _, _, .int i, u, r => by obtain ⟨t, rfl⟩ := r;exact ⟨_, .int i t⟩
  | _, _, .str x, u, r => by obtain ⟨t, rfl⟩ := r;exact ⟨_, .str x t⟩
  | _, _, .lst e q, u, r => by
    cases r
    obtain ⟨_, its, n, rv, g⟩ := ok _ _ e
    obtain ⟨as, ra⟩ := Dts.reads ok q rv
    exact ⟨_, .list g rfl rfl (by simpa using ra)⟩
  | _, _, .tup e q, u, r => by
    cases r
    obtain ⟨_, its, rv, ⟨ob, g, c, n, d⟩, _⟩ := ok _ _ e
    obtain ⟨as, ra⟩ := Dts.reads ok q rv
    exact ⟨_, .tuple g c d (by simpa using ra)⟩
theorem Dts.reads (ok : HOk P w H h) : ∀ {vs : List V} {ds : List PyData}, Dts H vs ds → ∀ {us : List Value}, aR vs us → ∃ as, ReadsAll h us ds as
  | _, _, .nil, _, r => by cases r;exact ⟨_, .nil⟩
  | _, _, .cons q qs, _, r => by
    cases r with
    | cons r rs =>
      obtain ⟨as, a1⟩ := Dt.reads ok q r
      obtain ⟨bs, a2⟩ := Dts.reads ok qs rs
      exact ⟨_, .cons a1 a2⟩
end
end
structure Sh (d : PyData) : Prop where
  sh : d.showable=true
  nd : d.hasDict=false
  dp : d.depth≤10
  sz : d.shown.length≤sizeLine
section
variable {X : Cx}
inductive cj  (xs : List V)(H : Hp)(Q : VK) : Prop
  | mk : ∀ a d, (xs=[.ref a]) → (Dt H (.ref a) d) → (Sh d) → (Q (.str d.shown) H) → cj xs H Q
theorem a6 (hg : X.A.guards=some [])(hu : X.A.units+64 < cLine) : c_ X (.builtin "repr") cj := by
  intro pins s σ H xs us Q I r h
  obtain ⟨a, d, rfl, q, S, hQ⟩ := h
  obtain ⟨u, rfl, ru⟩ := cb r
  cases ru
  obtain ⟨as, rd⟩ := q.reads I.hok (u := .ref a) rfl
  refine repr_of_reads' rd S.sh (PyData.noDict_hsm S.nd) hg (by have := S.dp;omega) (fun _ _ e => e) (fun h' u tk hk => ?_) S.sz
  exact ⟨.str _, H, I.kept hk, ⟨_, rfl⟩, hQ⟩
end
end L2
namespace Kx
open PySem PySem.Spec PyProof.Rows L2 Wd
theorem fk : bootBuiltins "list" = some (.type "list") := by kernel_rfl
theorem qk : bootBuiltins "int" = some (.type "int") := by kernel_rfl
theorem dF : bootBuiltins "repr" = some (.builtin "repr") := by kernel_rfl
theorem bW : bootBuiltins "tuple" = some (.type "tuple") := by kernel_rfl
theorem aV : bootBuiltins "isinstance" = some (.builtin "isinstance") := by kernel_rfl
theorem uX : bootBuiltins "zip" = some (.type "zip") := by kernel_rfl
theorem jL : bootBuiltins "reversed" = some (.type "reversed") := by kernel_rfl
structure Bt (K : PySem.W.Frag) (w : World) (mg : Str → Option Value) (aB : Addr) : Prop where
  len : mg "len" = none
  repr : mg "repr" = none
  abs : mg "abs" = none
  max : mg "max" = none
  int : mg "int" = none
  list : mg "list" = none
  range : mg "range" = none
  reversed : mg "reversed" = none
  min : mg "min" = none
  sorted : mg "sorted" = none
  tuple : mg "tuple" = none
  isinstance : mg "isinstance" = none
  all : mg "all" = none
  str : mg "str" = none
  zip : mg "zip" = none
  mgB : mg "BACKS" = some (.ref aB)
  dB : DTx K w aB
  gB : ∀ x : L, ∃ t, PySem.W.nsIn K aB (toS [x])=some (some (.str (toS [inv x]) t))
theorem dg {H : Hp}{d : Addr}{kvs : List (Key × V)}{k : Str}{v : V}(h : H d=some (.dK kvs))(e : cK kvs (kS k)=some v) : pY H d (.str k) (some v) := by
  have q := pY.k (k := kS k) h
  rw [e] at q
  exact q
theorem dp {H : Hp}{d : Addr}{kvs kvs' : List (Key × V)}{k : Str}{v : V}(h : H d=some (.dK kvs))(hl : kvs.length < sizeLine)(e : cP kvs (kS k) v=kvs') : rD H d (.str k) v (upd H d (.dK kvs')) := by
  have q := rD.k (k := kS k) (v := v) h hl
  rw [e] at q
  exact q
theorem uY {ns : List Int}(h : ns.length≤63) : mD (ns.map V.int) none (some 63)=ns.map V.int := by
  unfold mD
  have e : HT.sIx (ns.map V.int).length (ns.map V.int).length (some 63)=(ns.map V.int).length := by
    have := HT.eg (ns.map V.int).length (ns.map V.int).length 63
    rw [show ((63 : Nat) : Int)=63 from rfl] at this
    rw [this, wV]
    omega
  rw [e, HT.dP, zF, AX, yi]
def eJ (w : List L) : List V := w.map fun x => tx [x]
theorem ji (w : List L) : eJ w=(w.map fun x => toS [x]).map V.str := by unfold eJ; rw [x4]; rfl
theorem eK (w : List L)(x : L) : eJ w++[tx [x]]=eJ (w++[x]) := by unfold eJ; rw [xy]; rfl
theorem bw (w : List L) : (eJ w).length=w.length := by unfold eJ; rw [wV]
theorem gQ (w : List L) : V.str (Txt.join ("" : Str) (w.map fun x => toS [x]))=tx w := xH V.str (nv w)
theorem gR (w : List L)(h : w.length≤1000000) : ((w.map fun x => toS [x]).map (·.length)).sum+(w.map fun x => toS [x]).length*("" : Str).length≤16777216 := by
  have e : ("" : Str).length=0 := by decide +kernel
  rw [e, qi]
  omega
theorem a9 : sizeLine=16777216 := yy
inductive ny (vs : List V)(H : Hp)(Q : VK)(u3_ : XK) : Prop
  | mk : ∀ w, (vs=[tx w]) → (w.length≤5000) → (∀ H', aw H H' → Q (tx (bk w)) H') → ny vs H Q u3_
theorem jj (u v : List L) : V.str (toS u++toS v)=tx (u++v) := xH V.str (az u v)
def sg (m : Int) : List L := ([0, 1, 2, 3, 4, 5] : List L).take m.toNat++([6, 7, 8, 9, 10, 11] : List L).take m.toNat
theorem k8 {m : Int}(h1 : 1≤m)(h2 : m≤6) : (sg m).length=2*m.toNat := by
  unfold sg
  rw [wY, w_, w_]
  simp only [xu, yV]
  omega
theorem nz {m : Int}(h1 : 1≤m) : V.str (Txt.slice ("abcdef" : Str) none (some m)++Txt.slice ("ABCDEF" : Str) none (some m))=tx (sg m) := by
  rw [← gM, ← big, aP, aP, cG _ (by omega), cG _ (by omega), jj]
  rfl
theorem oY : ("abcdef" : Str).length=6 := by decide +kernel
theorem oZ : ("ABCDEF" : Str).length=6 := by decide +kernel
theorem sG (u : List L){i : Nat}{y : L}(hi : i < u.length)(h : u[u.length - 1 - i]? = some y) : (bk u)[i]? = some (inv y) := by
  unfold bk
  rw [List.getElem?_reverse (by rw [wV];exact hi), wV, xq, h]
  rfl
theorem bG {u : List L}{i : Nat}{x : L}(h : u[i]? = some x) : u.take (i+1)=u.take i++[x] := by
  obtain ⟨hl, e⟩ := wW.mp h
  rw [zB, h]
  rfl
theorem mE {c : Bool}{A B : Prop}(hc : c=true)(h : A) : if c=true then A else B := by rw [if_pos hc]; exact h
theorem mF {c : Bool}{A B : Prop}(hc : c=false)(h : B) : if c=true then A else B := by rw [hc]; exact rE h
theorem sm6 : ∀ j : Fin 6, ([0, 1, 2, 3, 4, 5] : List L)[j.val]? = some ⟨j.val, Nat.lt_trans j.isLt (by decide)⟩ := by decide
def dws (ws : List (List L)) : List PyData := ws.map fun w => .str (toS w)
theorem bH {H : Hp} : ∀ (ws : List (List L)), Dts H (ws.map tx) (dws ws)
  | [] => .nil
  | w::r => .cons (.str (toS w)) (bH r)
theorem bK : ∀ (ws : List (List L)), PyData.showableAll (dws ws)=true ∧ PyData.hasDictAll (dws ws)=false ∧ PyData.depthAll (dws ws)=0 ∧ PyData.leavesShortAll 13 (dws ws)=true
  | [] => ⟨rfl, rfl, rfl, rfl⟩
  | w::r => by
    obtain ⟨h1, h2, h3, h4⟩ := bK r
    refine ⟨?_, ?_, ?_, ?_⟩
    · show (PyData.showable (.str (toS w)) && PyData.showableAll (dws r))=true
      rw [h1];rfl
    · show (PyData.hasDict (.str (toS w)) || PyData.hasDictAll (dws r))=false
      rw [h2];rfl
    · show max (PyData.depth (.str (toS w))) (PyData.depthAll (dws r))=0
      rw [h3];rfl
    · show (PyData.leavesShort 13 (.str (toS w)) && PyData.leavesShortAll 13 (dws r))=true
      rw [h4, AU]
      show ((toS w).cps.toList.all fun c => decide (c < 16 ^ 8))=true
      rw [zI]
      intro c hc
      rw [aZ] at hc
      obtain ⟨x, _, rfl⟩ := yX.mp hc
      exact xt (w9 (nr x) (by decide))
theorem bh {n : Nat} : ∀ (ws : List (List L)), (∀ w∈ws, w.length≤n) → PyData.weightAll (dws ws)≤ws.length*(n+1)
  | [], _ => xQ _
  | w::r, h => by
    have ih := bh r fun v hv => h v (xm _ hv)
    have h1 := h w xv
    show (toS w).cps.size+1+PyData.weightAll (dws r)≤(r.length+1)*(n+1)
    rw [bq, AF]
    omega
theorem sH {n : Nat}{ws : List (List L)}(h : ∀ w∈ws, w.length≤n)(hn : ws.length*(n+1)≤2 ^ 20) : Sh (.tuple (dws ws)) := by
  obtain ⟨h1, h2, h3, h4⟩ := bK ws
  refine ⟨h1, h2, by show PyData.depthAll (dws ws)+1≤10;rw [h3];decide, Am (B := 13) (by decide) (by decide) h4 (xG (bh ws h) hn)⟩
end Kx
namespace L2
open PySem PySem.Spec PyProof.Rows Wd
section
variable {X : Cx} {tg : Expr}
end
section
variable {X : Cx} {o e : Expr} {es : List Expr} {to : TE} {t : TA} {name : Str} {apos cpos : Pos} {T id : String} {r : V → List V → Hp → VK → Prop} {K : PySem.W.Frag}
end
end L2
namespace L2
open PySem PySem.Spec PyProof.Rows Wd
section
variable {X : Cx}
inductive o6 (x : V)(vs : List V)(H : Hp)(Q : VK) : Prop
  | mk : ∀ z y i rest, (x = .str z) → (vs=[.str y]) → (Builtin.Str.occurrences z y 0 z.length 1=i::rest) → (Q (.int (i : Nat)) H) → o6 x vs H Q
theorem jk : MtR X "str.index" o6 := by
  intro pins s σ H x vs v us Q I rx rv h
  obtain ⟨z, y, i, rest, rfl, rfl, ho, q⟩ := h
  obtain ⟨t, rfl⟩ := rx
  obtain ⟨u1, rfl, ⟨t1, rfl⟩⟩ := cb rv
  exact SC.index ho ⟨.int _, H, I.tok _, ⟨_, rfl⟩, q⟩
def bN (z : Str) : List V := z.cps.toList.map fun c => .str ⟨#[c]⟩
theorem fm {z : Str}{acc : Array Value}(h : ItemsOf (SignAt z) acc z.cps.size) : aR (bN z) acc.toList := by
  have all : ∀ (cs : List Nat) (us : List Value), cs.length=us.length → (∀ (j : Nat) (v : Value), us[j]? = some v → ∃ c u, cs[j]? = some c ∧ v = .str ⟨#[c]⟩ u) → aR (cs.map fun c => V.str ⟨#[c]⟩) us := by
    intro cs
    induction cs with
    | nil =>
      intro us hl _
      cases us with
      | nil => exact .nil
      | cons _ _ => simp at hl
    | cons c cs ih =>
      intro us hl hh
      cases us with
      | nil => simp at hl
      | cons u us =>
        obtain ⟨c', t, e1, e2⟩ := hh 0 u rfl
        have : c=c' := w4 e1
        subst this
        exact .cons ⟨t, e2⟩ (ih us (by simpa using hl) fun j v hj => hh (j+1) v (by simpa using hj))
  refine all _ _ (by rw [yo, yo];exact h.1.symm) fun j v hj => ?_
  obtain ⟨c, u, e1, e2⟩ := h.2 j v (by simpa using hj)
  exact ⟨c, u, by simpa using e1, e2⟩
inductive bR  (xs : List V)(H : Hp)(Q : VK) : Prop
  | mk : ∀ z, (xs=[.str z]) → (z.length≤sizeLine) → (∀ p, H p=none → Q (.ref p) (upd H p (.lst (bN z)))) → bR xs H Q
theorem br (hc : X.calm=true) : c_ X (.type "list") bR := by
  intro pins s σ H xs us Q I r h
  obtain ⟨z, rfl, hz, q⟩ := h
  obtain ⟨u, rfl, t, rfl⟩ := cb r
  refine call_list_str (I.ok.hd hc) z t (fun h' tk acc' c' kp e hI => ?_) hz
  have hl : (bN z).length≤sizeLine := by unfold bN;rw [wV, yo];exact hz
  exact ⟨.ref s.heap.objs.size, _, I.laid kp (wX _) (show bu X.prog X.w _ h' _ (.lst (bN z)) from ⟨hl, acc'.toList, c', fm hI, by simpa using e⟩), rfl, q _ (I.hok.fresh (wX _))⟩
theorem jM {K : PySem.W.Frag}(hK : X.K=K) : OpR X (compareOp .NotIn) (rIn K true) := by
  subst hK
  exact gz
end
end L2
namespace PySem
open Sem (wp)
structure Ap5 (z TI TO i1 i2 : Addr) : Prop where
  TIz : TI≠z
  TOz : TO≠z
  i1z : i1≠z
  i2z : i2≠z
  TITO : TI≠TO
  TIi1 : TI≠i1
  TIi2 : TI≠i2
  TOi1 : TO≠i1
  TOi2 : TO≠i2
  i12 : i1≠i2
abbrev uZ (h : Heap)(i : Addr)(x : Str)(t : Tok)(k : Nat) : Prop := h.IsStrIter i "str_ascii_iterator" x t k
section
variable {prog : Program} {w : World} {A : Around} {E : Value → Shared → Prop} {s : Shared} {z TI TO i1 i2 : Addr} {x y : Str} {t u : Tok} {k c d : Nat} {a b : Value}
end
end PySem
namespace PySem
end PySem
namespace L2
open PySem PySem.Spec PyProof.Rows
theorem Inv.stepT {X : Cx}{pins : List (Addr × Obj)}{σ : St}{H : Hp}{s : Shared}{h' : Heap}{t' : Nat}{ch : List Addr}{T : Addr}{xs : List V}{its : List Value}(I : Inv X pins σ H s)(hf : ∀ b∈ch, jB X pins H b)
    (k : ∀ b o, b∉ch → s.heap.get? b=some o → h'.get? b=some o) (hT : s.heap.objs.size≤T) (hz : xs.length≤sizeLine) (rv : aR xs its) (ht : IsTup h' T its.toArray) (hnd : NoD h' T) (there : ∀ b∈ch, ∃ o, s.heap.get? b=some o) : Inv X pins σ (upd H T (.tup xs)) { s with heap := h', toks := t' } := by
  have hn : H T=none := I.hok.fresh hT
  have ne : ∀ {b o}, s.heap.get? b=some o → b≠T := fun e => xx (w9 (wZ e) hT)
  have nch : ∀ {b u}, H b=some u → b∉ch := fun e z => by rw [(hf _ z).1] at e;cases e
  refine I.step (g' := s.gens) (d' := s.drawn) (ch := ch) (fun b hb => ?_) (fun b o _ _ hc e _ => k b o hc e) (fun b o _ _ hc e _ => ⟨o.slots, k b o hc e⟩) (fun b o _ e n => by rw [ao (ne e)];exact n) (fun b o hc e => ⟨o, k b o hc e⟩)
    (fun b ys e => by rw [ao (aq e hn)];exact e) (fun b o u e => by rw [ao (aq e hn)];exact e) (fun b ps e => ⟨#[], by rw [ao (aq e hn), e];simp⟩) (fun m hm => ?_) (fun b u e => ?_) I.bare
  · obtain ⟨_, f1, _, f3, f4, f5⟩ := hf b hb
    exact ⟨f3, f1, f4, f5⟩
  · obtain ⟨o, es, ep, ho, r⟩ := hm
    exact ⟨o, es, ep, k _ o (fun z => (hf _ z).2.1 rfl) ho, r⟩
  · by_cases hb : b=T
    · subst hb
      rw [ag] at e
      cases e
      exact ⟨hz, its, rv, ht, hnd⟩
    · rw [ao hb] at e
      refine (I.hok b u e).stay (fun c v hc q => k c v ?_ q) (fun c q => by rw [ao (aq q hn)];exact q) fun c ys q => by rw [ao (aq q hn)];exact q
      rcases hc with z | z
      · rw [z];exact nch e
      · exact nch z
section
variable {X : Cx}
theorem sI (n : Nat) : Ap5 (n+4) (n+2) (n+3) n (n+1) := by
  constructor <;> (intro h;have h : (_ : Nat)=_ := h;omega)
end
end L2
namespace L2
open PySem PySem.Spec PyProof.Rows Wd
def k9 : Expr → Bool
  | .Starred _ _ => false
  | _ => true
theorem ql {e : Expr}(h : k9 e=true)(es : List Expr)(env : Env) : starEach (e::es) env=(false, eval e env)::starEach es env := by
  cases e <;> first | rfl | cases h
theorem rF {X : Cx}{e : Expr}{es : List Expr}{te : TE}{t : TA}(ha : PE X e te)(hr : PA X es t)(h : k9 e=true := by rfl) : PA X (e::es) (mY te t) := aa ha hr (ql h _ _)
def u3 : List Str := ([0, 1, 2, 3, 4, 5, 6, 7, 8, 9, 10, 11] : List L).map fun x => toS [x]
end L2
namespace Kx
open PySem PySem.Spec PyProof.Rows L2 Wd
inductive qm (vs : List V)(H : Hp)(Q : VK)(u3_ : XK) : Prop
  | mk : ∀ (x : L), (vs=[tx [x]]) → (Q (.int ((x.val % 6 : Nat) : Int)) H) → qm vs H Q u3_
theorem sJ : ∀ x : L, Builtin.Str.occurrences ("abcdef" : Str) (Txt.lower (toS [x])) 0 ("abcdef" : Str).length 1=[x.val % 6] := by
  have q : ∀ x : L, Builtin.Str.occurrences ("abcdef" : Str) (⟨(([x].map cp).map lo1).toArray⟩ : Str) 0 ("abcdef" : Str).length 1=[x.val % 6] := by decide +kernel
  intro x
  rw [eD]
  exact q x
end Kx
namespace L2
open PySem PySem.Spec PyProof.Rows Wd
section
variable {X : Cx}
end
theorem sL {xs : List V}{q : Int}(h0 : 0≤q)(h1 : q < xs.length) : ∃ y, atI xs q=some y ∧ y∈xs := by
  obtain ⟨k, rfl⟩ := x8 h0
  have hk : k < xs.length := by omega
  refine ⟨xs[k], ?_, yt hk⟩
  unfold atI ixN
  rw [if_pos (by omega), if_pos (by omega)]
  show xs[((k : Nat) : Int).toNat]? = _
  rw [xh, xf hk]
end L2
namespace Kx
open PySem PySem.Spec PyProof.Rows L2 Wd
theorem s12 : toS [0, 1, 2, 3, 4, 5, 6, 7, 8, 9, 10, 11]=("abcdefABCDEF" : Str) := by decide +kernel
end Kx
namespace L2
open PySem PySem.Spec PyProof.Rows Wd
theorem dY {K : PySem.W.Frag}{a : Addr}{xs : List V}{own : List Str}{cap : List Nat}{g : TG}{ti : TT}{te : TE}{σ : St}{H : Hp}{Q : VK}(Pv : Nat → List V → St → Hp → Prop)(h0 : Pv 0 [] (stB own cap σ) H)(hz : ∀ i ys σ H, i≤xs.length → Pv i ys σ H → ys.length≤i)(hn : xs.length≤sizeLine)
    (hl : ∀ i ys σ H, Pv i ys σ H → SqT K H a xs)
    (hs : ∀ i ys σ H x (N : List V → St → Hp → Prop), xs[i]? = some x → Pv i ys σ H → (∀ ys' σ' H'', Pv (i+1) ys' σ' H'' → N ys' σ' H'') → g x σ H fun σ2 H2 => ti σ2 H2 fun b H3 => if b=true then te σ2 H3 fun y H4 => N (ys++[y]) σ2 H4 else N ys σ2 H3)
    (hd : ∀ ys σ H D, Pv xs.length ys σ H → H D=none → Q (.ref D) (upd H D (.lst ys))) :
    qb own cap g ti te Q σ (Itt K a) H := by
  refine iD (J := Itt K a) xs.length Pv h0 hz hn (fun i ys σ H hi p => ⟨xs, xs[i], hl i ys σ H p, xf hi⟩) (fun ys σ H p => ⟨xs, hl _ ys σ H p, wX _⟩) ?_ hd
  rintro i ys σ H x H' N hi p ⟨rfl, hx⟩ hN
  exact hs i ys σ _ x N (hx xs (hl i ys σ _ p)) p hN
theorem u4 {X : Cx}{a : Expr}{ta : TE}(ha : PE X a ta)(he : ∀ whole, isTrue a X.env whole=(do let v ← whole; standAt a.pos; holding [v] (truthy v))) : PT X a (pH ta) := by
  intro pins s σ H Q I h
  refine isTrue_plain (thn (ha pins s σ H _ I h) fun v s1 ⟨x, H1, I1, r1, q1⟩ => oM pins s1 σ H1 x v Q I1 r1 ?_) (he _)
  obtain ⟨k, e, q⟩ := q1
  subst e
  exact ⟨k, rfl, q⟩
theorem Fd.neT {H : Hp}{d a : Addr}{xs : List V}(F : Fd H d)(h : H a=some (.tup xs)) : a≠d := by
  obtain ⟨c, i, l, t, ns, h1, h2, h3, h4⟩ := F.ex
  exact dI h h1 (by intro z;cases z)
theorem none_of {H H1 : Hp}{a : Addr}(s : aw H H1)(h : H1 a=none) : H a=none := by
  cases e : H a with
  | none => rfl
  | some o => rw [s _ _ e] at h;cases h
end L2
namespace L2
open PySem PySem.Spec PyProof.Rows
end L2
namespace L2
open PySem PySem.Spec PyProof.Rows Wd
end L2
namespace PySem
open Sem (wp)
open AutoSeq1 (wpAny_loadPart')
set_option maxHeartbeats 1000000 in
theorem k_ (tp : Addr)(its : Array Value)(m : Nat)(dc : Option Addr)(sls : Array (Option Value)) :
    Meets (Builtin.«enumerate.__new__» ⟨[.type "enumerate", .ref tp], []⟩) (fun _ R s => s.heap.get? tp=some { cls := .type "tuple", dict := dc, data := .seq its m, slots := sls } ∧
      R (.ok (.ret (.ref (s.heap.push { cls := .type "tuple_iterator", data := .fields #[.ref tp, .int 0 0] }).objs.size)))
        { s with heap := (s.heap.push { cls := .type "tuple_iterator", data := .fields #[.ref tp, .int 0 0] }).push { cls := .type "enumerate", data := .fields #[.none, .bool false, .ref s.heap.objs.size, rawInt 0, .none, .none] } }) :=
  .of_wp fun prog w A R s h => by
    obtain ⟨hp, gg, dd, tk, os⟩ := s;obtain ⟨ht, h⟩ := h
    have hsub := sub_enumerate
    have hT : Heap.IsTuple (Shared.heap ⟨hp, gg, dd, tk, os⟩) tp its := ⟨_, ht, rfl, m, rfl⟩
    wp_walk using wpAny_loadPart' ht
    refine wpAny_stack_any fun stk => xb ?_
    split
    · rename_i cc _ _ _ _ _
      cases (cc == Value.type "enumerate")
      · (wp_walk using wpAny_loadPart' ht, yR hT);exact ⟨_, rfl, h⟩
      · (wp_walk using wpAny_loadPart' ht, yR hT);exact ⟨_, rfl, h⟩
    · (wp_walk using wpAny_loadPart' ht, yR hT);exact ⟨_, rfl, h⟩
section
variable {prog : Program} {w : World} {A : Around} {E : Value → Shared → Prop} {s : Shared}
theorem nA {tp : Addr}{its : Array Value}{Q : Value → Shared → Prop}(hT : s.heap.IsTuple tp its)
    (h : ∀ h', IsEnum h' (s.heap.objs.size+1) s.heap.objs.size 0 .none → h'.IsTupleIter s.heap.objs.size tp 0 → (∀ b o, s.heap.get? b=some o → h'.get? b=some o) → Q (.ref (s.heap.objs.size+1)) { s with heap := h' }) :
    wpAny (model prog w) A (call (.type "enumerate") [.ref tp]) Q E s := by
  obtain ⟨⟨c, dc, dt, sls⟩, ht, hc, m, hd⟩ := hT
  obtain rfl : c = .type "tuple" := hc
  obtain rfl : dt = .seq its m := hd
  refine callType_new F.called_enumerate (by decide) (F.typeCall_enumerate_1 _) (F.newCall_enumerate_1 _) (fun ob => F.args_object_init_2 ob _) F.entry_enumerate_new (k_ tp its m dc sls) ⟨ht, ?_⟩
  have hz : (s.heap.push { cls := .type "tuple_iterator", data := .fields #[.ref tp, .int 0 0] }).objs.size=s.heap.objs.size+1 := yz ..
  show _ ∧ _
  rw [hz]
  have he := w6 (s.heap.push { cls := .type "tuple_iterator", data := .fields #[.ref tp, .int 0 0] }) (o := { cls := .type "enumerate", data := .fields #[.none, .bool false, .ref s.heap.objs.size, rawInt 0, .none, .none] }) rfl
  rw [hz] at he
  exact ⟨⟨_, he, rfl⟩, h _ he ⟨_, wU _ (w6 _ rfl), rfl, rfl⟩ fun b o q => wU _ (wU _ q)⟩
theorem jN {it tp : Addr}{k : Nat}{its : Array Value}{v : Value}{Q : Value → Shared → Prop}(hit : s.heap.IsTupleIter it tp k)(ht : s.heap.IsTuple tp its)(hv : its[k]? = some v)
    (hQ : ∀ h', h'.IsTupleIter it tp (k+1) → Heap.SameBut it s.heap h' → Q v { s with heap := h' }) : wpAny (model prog w) A (Builtin.SmallTypes.nextOf (.ref it)) Q E s := by
  obtain ⟨oi, gi, ci, di⟩ := id hit
  obtain ⟨ot, gt, _, nt, dt⟩ := ht
  unfold Builtin.SmallTypes.nextOf
  refine fu (x6 (name := Str.ofString "__next__") hit.typeIs yq (yl yq hit.typeIs Ab ?_ (zQ _)))
  show wpAny _ _ (field (.ref it) 0 >>= _) _ _ s
  refine fu (xJ gi di (x := .ref tp) rfl ?_)
  show wpAny _ _ (if (Value.ref tp == Value.none)=true then _ else _) _ _ s
  rw [if_neg (show ¬ ((Value.ref tp == Value.none)=true) from xg)]
  show wpAny _ _ (field (.ref it) 1 >>= _) _ _ s
  refine fu (xJ gi di (x := .int k 0) rfl ?_)
  show wpAny _ _ (seqItems? (.ref tp) >>= _) _ _ s
  refine fu (yB gt dt ?_)
  simp only [xh, hv]
  refine fu (ym gi di (by simp) (xb ⟨v, rfl, xb (hQ _ ?_ (z9 ..))⟩))
  exact ⟨_, xO _ gi (yc (xX di _)), (zA ..).trans ci, by rw [xX di];simp [rawInt]⟩
theorem gS {it tp : Addr}{k : Nat}{its : Array Value}{Q : Value → Shared → Prop}(hh : A.handled=none)(hit : s.heap.IsTupleIter it tp k)(ht : s.heap.IsTuple tp its)(hv : its[k]? = none)
    (hE : ∀ h' e, Heap.ExtBut it s.heap h' → (∃ o, h'.get? e=some o ∧ o.cls = .type "StopIteration") → E (.ref e) { s with heap := h' }) : wpAny (model prog w) A (Builtin.SmallTypes.nextOf (.ref it)) Q E s := by
  obtain ⟨oi, gi, ci, di⟩ := id hit
  obtain ⟨ot, gt, _, nt, dt⟩ := ht
  unfold Builtin.SmallTypes.nextOf
  refine fu (x6 (name := Str.ofString "__next__") hit.typeIs yq (yl yq hit.typeIs Ab ?_ (zQ _)))
  show wpAny _ _ (field (.ref it) 0 >>= _) _ _ s
  refine fu (xJ gi di (x := .ref tp) rfl ?_)
  show wpAny _ _ (if (Value.ref tp == Value.none)=true then _ else _) _ _ s
  rw [if_neg (show ¬ ((Value.ref tp == Value.none)=true) from xg)]
  show wpAny _ _ (field (.ref it) 1 >>= _) _ _ s
  refine fu (xJ gi di (x := .int k 0) rfl ?_)
  show wpAny _ _ (seqItems? (.ref tp) >>= _) _ _ s
  refine fu (yB gt dt ?_)
  simp only [xh, hv]
  refine fu (AW (fu (ym gi di (by simp) ?_)))
  show wpAny _ _ (newExc (.type "StopIteration") [] >>= _) _ _ _
  refine fu ?_
  simp only [newExc, newTuple]
  refine fu (zC ?_ (by size_fits))
  refine fu (m := firstArgMember _ _) (z3 (a := Value.none) (by first | rfl | (simp only [firstArgMember];rfl)) (zC ?_ (by size_fits)))
  simp only [raiseNew]
  refine fu (wpAny_handled ?_)
  first | rw [show A.in1.handled=none from hh] | rw [hh]
  exact fu (xb (wpAny_throw (hE _ _ (((z9 ..).extBut.push _).push _) ⟨_, w6 _ rfl, rfl⟩)))
theorem lg {prog : Program}{w : World}{A : Around}(hh : A.handled=none)(it tp : Addr)(hne : tp≠it)(its : Array Value) :
    Draws prog w A it [it, tp] its.size (fun i x => its[i]? = some x) (fun i h => h.IsTupleIter it tp i ∧ h.IsTuple tp its) where
  live := fun i h st => let ⟨⟨o, e, _⟩, _⟩ := st;⟨o, e⟩
  frame := fun i h h' st kk => ⟨st.1.at fun o e => kk it (by simp) o e, let ⟨o, e, r⟩ := st.2;⟨o, kk tp (by simp) o e, r⟩⟩
  item := fun i s Q E hi st hQ => jN st.1 st.2 (yA hi) fun h' st' sb => hQ _ h' s.toks (yA hi) ⟨st', let ⟨o, e, r⟩ := st.2;⟨o, (sb.2 tp hne).trans e, r⟩⟩ sb
  done := fun s Q E st hE => gS hh st.1 st.2 (Array.getElem?_eq_none (wX _)) hE
end
end PySem
namespace L2
open PySem PySem.Spec PyProof.Rows Wd
def lj (K : PySem.W.Frag)(a : Addr) : It := ⟨fun i H => ∃ xs x, SqL K H a xs ∧ xs[i]? = some x,
  fun i H v H' => ∃ (T : Addr) (x : V), H T=none ∧ v = .ref T ∧ (∀ xs, SqL K H a xs → xs[i]? = some x) ∧ H'=upd H T (.tup [.int i, x]), fun i H => ∃ xs, SqL K H a xs ∧ xs.length≤i⟩
def nB (K : PySem.W.Frag)(a : Addr) : It := ⟨fun i H => ∃ xs x, SqT K H a xs ∧ xs[i]? = some x,
  fun i H v H' => ∃ (T : Addr) (x : V), H T=none ∧ v = .ref T ∧ (∀ xs, SqT K H a xs → xs[i]? = some x) ∧ H'=upd H T (.tup [.int i, x]), fun i H => ∃ xs, SqT K H a xs ∧ xs.length≤i⟩
theorem gT {X : Cx}{pins : List (Addr × Obj)}{σ : St}{H : Hp}{s : Shared}{E : Value → Shared → Prop}{elts : List Expr}{k : Nat}{pos : Pos}{e it : Addr}{fp : List Addr}{n i : Nat}{Pv : Nat → Value → Prop}{St' : Nat → Heap → Prop}{old : Value}{tn : Nat → Heap → Prop}{Y : V → Hp → Prop}{x : V}
    (D : Draws X.prog X.w X.A.in1 it fp n Pv St') (I : Inv X pins σ H s) (hf : ∀ b∈[e, it], jB X pins H b) (he : IsEnum s.heap e it i old) (hst : St' i s.heap) (hi : i < n) (hne : e≠it) (hef : e∉fp) (hrel : ∀ u, Pv i u → a7 x u) (hit : ∃ o, s.heap.get? it=some o)
    (hY : ∀ T, H T=none → Y (.ref T) (upd H T (.tup [.int i, x]))) (htn : ∀ h', St' (i+1) h' → (∃ old, IsEnum h' e it ((i : Int)+1) old) → tn (i+1) h') :
    wpAny (model X.prog X.w) X.A (pyNext (.ref e)) (fun r s1 => ∃ u, r=some u ∧
      wpAny (model X.prog X.w) X.A (letOwnedTupleGo (.Tuple elts k pos) (.ref e) u) (fun _ s2 => ∃ y H', Inv X pins σ H' s2 ∧ a7 y u ∧ Y y H' ∧ tn (i+1) s2.heap ∧ ∀ b∈[e, it], H' b=none) E s1) E s := by
  refine wpAny_pyNext_enum_itemD D he hst hi hne hef fun u h' tk hu b1 b2 b3 b4 b5 => ⟨_, rfl, wpAny_letOwnedTupleGo_enum b1 fun h2 c1 e2 => ?_⟩
  have hTe : s.heap.objs.size≠e := y9 (wZ he)
  have kk : ∀ b o, b∉[e, it] → s.heap.get? b=some o → h2.get? b=some o := fun b o hb q => by
    simp only [xn, xF, yM, not_or] at hb
    exact e2.extBut _ _ hb.1 (b5 b o hb.1 hb.2 q)
  have there : ∀ b∈[e, it], ∃ o, s.heap.get? b=some o := fun b hb => by
    simp only [xn, xF, yM] at hb
    rcases hb with rfl | rfl
    · exact ⟨_, he⟩
    · exact hit
  have I2 : Inv X pins σ (upd H s.heap.objs.size (.tup [.int i, x])) { s with heap := h2, toks := tk+1 } :=
    I.stepT (ch := [e, it]) (its := [.int i tk, u]) hf kk (wX _) (by show 2≤sizeLine;decide) (.cons ⟨_, rfl⟩ (.cons (hrel u hu) .nil)) ⟨_, e2.extBut _ _ hTe b3, rfl, _, rfl⟩ ⟨_, e2.extBut _ _ hTe b3, rfl⟩ there
  have hn : H s.heap.objs.size=none := I.hok.fresh (wX _)
  refine ⟨.ref s.heap.objs.size, _, I2, rfl, hY _ hn, htn h2 (D.frame _ _ _ b2 fun b hb o q => e2.extBut _ _ (fun z => hef (z ▸ hb)) q) ⟨_, c1⟩, fun b hb => ?_⟩
  obtain ⟨o, q⟩ := there b hb
  rw [ao (xx (wZ q))]
  exact (hf b hb).1
theorem jl {P : Program}{w : World}{K : PySem.W.Frag}{elts : List Expr}{k : Nat}{pos : Pos}{e it a : Addr}(hne : e≠it) :
    oH P w K (.Tuple elts k pos) (lj K a) [e, it] e (fun i h => (∃ old, IsEnum h e it i old) ∧ h.IsListIter it a i) where
  mem := by simp
  obj := fun i h st b hb => by
    obtain ⟨⟨old, s1⟩, ⟨o, s2, _, d2⟩⟩ := st
    simp only [xn, xF, yM] at hb
    rcases hb with rfl | rfl
    · exact ⟨_, s1, fun v q => by cases q⟩
    · exact ⟨_, s2, fun v q => by rw [d2] at q;cases q⟩
  keep := fun i h h' st kk => by
    obtain ⟨⟨old, s1⟩, s2⟩ := st
    exact ⟨⟨old, kk e (by simp) _ s1⟩, s2.at fun o q => kk it (by simp) o q⟩
  item := by
    intro X hP hw hK hc i pins s σ H E I hf st hg
    subst hP hw hK
    obtain ⟨xs, x, hq, hx⟩ := hg
    obtain ⟨its, rv, p, hz⟩ := I.list hq
    obtain ⟨u, hu, ru⟩ := rv.get hx
    obtain ⟨⟨old, s1⟩, s2⟩ := st
    have hu' : its.toArray[i]? = some u := by simpa using hu
    have ha : a≠e := fun z => by obtain ⟨o, q, c, _⟩ := p.isList;rw [z, s1] at q;cases q;simp at c
    have hb : a≠it := fun z => by obtain ⟨o, q, c, _⟩ := p.isList;obtain ⟨o2, q2, c2, _⟩ := s2;rw [z, q2] at q;cases q;rw [c2] at c;simp at c
    refine gT (tn := fun i h => (∃ old, IsEnum h e it i old) ∧ h.IsListIter it a i) (Draws.list (by exact I.ok.hd hc) it a hb its.toArray) I hf s1 ⟨s2, p.isList⟩ (xA.mp hu').1 hne (by simp only [xn, xF, yM, not_or];exact ⟨hne, fun z => ha z.symm⟩)
      (fun u2 h2 => by rw [show its.toArray[i]? = some u2 from h2] at hu';cases hu';exact ru) (let ⟨o, q, _⟩ := s2;⟨o, q⟩) (fun T hT => ⟨T, x, hT, rfl, fun ys hy => by rw [I.list_inj hy hq];exact hx, rfl⟩) fun h' st' ho => ⟨by simpa using ho, st'.1⟩
  done := by
    intro X hP hw hK hc i pins s σ H E I hf st hg
    subst hP hw hK
    obtain ⟨xs, hq, hx⟩ := hg
    obtain ⟨its, rv, p, hz⟩ := I.list hq
    obtain ⟨⟨old, s1⟩, s2⟩ := st
    obtain ⟨f0, f1, f2, f3, f4, f5⟩ := hf it (by simp)
    have hl := rv.length
    exact wpAny_pyNext_enum_end (I.ok.hd hc) s1 s2 p.isList (by simp;omega) fun h' eb => ⟨rfl, I.turned (t' := s.toks) (fun b o hb q => eb b o hb q) f0 f1 f3 f4 f5⟩
  self := fun _ _ _ _ _ st h => let ⟨⟨_, s1⟩, _⟩ := st;y2 s1 h
theorem nC {P : Program}{w : World}{K : PySem.W.Frag}{elts : List Expr}{k : Nat}{pos : Pos}{e it a : Addr}(hne : e≠it) :
    oH P w K (.Tuple elts k pos) (nB K a) [e, it] e (fun i h => (∃ old, IsEnum h e it i old) ∧ h.IsTupleIter it a i) where
  mem := by simp
  obj := fun i h st b hb => by
    obtain ⟨⟨old, s1⟩, ⟨o, s2, _, d2⟩⟩ := st
    simp only [xn, xF, yM] at hb
    rcases hb with rfl | rfl
    · exact ⟨_, s1, fun v q => by cases q⟩
    · exact ⟨_, s2, fun v q => by rw [d2] at q;cases q⟩
  keep := fun i h h' st kk => by
    obtain ⟨⟨old, s1⟩, s2⟩ := st
    exact ⟨⟨old, kk e (by simp) _ s1⟩, s2.at fun o q => kk it (by simp) o q⟩
  item := by
    intro X hP hw hK hc i pins s σ H E I hf st hg
    subst hP hw hK
    obtain ⟨xs, x, hq, hx⟩ := hg
    obtain ⟨its, rv, p, hz⟩ := I.tuple hq
    obtain ⟨u, hu, ru⟩ := rv.get hx
    obtain ⟨⟨old, s1⟩, s2⟩ := st
    have hu' : its.toArray[i]? = some u := by simpa using hu
    have ha : a≠e := fun z => by obtain ⟨o, q, c, _⟩ := p;rw [z, s1] at q;cases q;simp at c
    have hb : a≠it := fun z => by obtain ⟨o, q, c, _⟩ := p;obtain ⟨o2, q2, c2, _⟩ := s2;rw [z, q2] at q;cases q;rw [c2] at c;simp at c
    refine gT (tn := fun i h => (∃ old, IsEnum h e it i old) ∧ h.IsTupleIter it a i) (lg (by exact I.ok.hd hc) it a hb its.toArray) I hf s1 ⟨s2, p⟩ (xA.mp hu').1 hne (by simp only [xn, xF, yM, not_or];exact ⟨hne, fun z => ha z.symm⟩)
      (fun u2 h2 => by rw [show its.toArray[i]? = some u2 from h2] at hu';cases hu';exact ru) (let ⟨o, q, _⟩ := s2;⟨o, q⟩) (fun T hT => ⟨T, x, hT, rfl, fun ys hy => by rw [I.tuple_inj hy hq];exact hx, rfl⟩) fun h' st' ho => ⟨by simpa using ho, st'.1⟩
  done := by
    intro X hP hw hK hc i pins s σ H E I hf st hg
    subst hP hw hK
    obtain ⟨xs, hq, hx⟩ := hg
    obtain ⟨its, rv, p, hz⟩ := I.tuple hq
    obtain ⟨⟨old, s1⟩, s2⟩ := st
    obtain ⟨f0, f1, f2, f3, f4, f5⟩ := hf it (by simp)
    have hl := rv.length
    have hb : a≠it := fun z => by obtain ⟨o, q, c, _⟩ := p;obtain ⟨o2, q2, c2, _⟩ := s2;rw [z, q2] at q;cases q;rw [c2] at c;simp at c
    have T : wpAny (model X.prog X.w) X.A (pyNext (.ref e)) (fun r s1 => r=none ∧ Inv X pins σ H s1) E s := by
      have hT : s.TypeIs (.ref e) "enumerate" := ⟨_, s1, rfl⟩
      unfold pyNext
      refine fu (yL (x6 (name := Str.ofString "__next__") hT F.slot_enumerate_next (yl F.slot_enumerate_next hT F.entry_enumerate_next ?_ (F.args_enumerate_next_1 _))))
      show wpAny _ _ (field (.ref e) 2 >>= _) _ _ _
      refine fu (xJ s1 rfl (x := .ref it) rfl (fu (gS (by exact I.ok.hd hc) s2 p (by simp;omega) fun h' ex eb hx' => ?_)))
      obtain ⟨o, ho, hcl⟩ := hx'
      exact fu (Aw (T := "StopIteration") (b := true) ⟨o, ho, hcl⟩ AN (xb ⟨rfl, I.turned (t' := s.toks) (fun b o hb q => eb b o hb q) f0 f1 f3 f4 f5⟩))
    exact T
  self := fun _ _ _ _ _ st h => let ⟨⟨_, s1⟩, _⟩ := st;y2 s1 h
section
variable {X : Cx}
def wI (K : PySem.W.Frag)(ta : TA) : TI := fun σ H R => ta σ H fun vs H1 => ∃ a, vs=[.ref a] ∧ (∃ xs, SqL K H1 a xs) ∧ R (lj K a) H1
theorem fp2 {pins : List (Addr × Obj)}{σ : St}{H : Hp}{s : Shared}(I : Inv X pins σ H s) : ∀ b∈[s.heap.objs.size+1, s.heap.objs.size], jB X pins H b := fun b hb => by
  have hge : s.heap.objs.size≤b := by
    simp only [xn, xF, yM] at hb
    rcases hb with rfl | rfl <;> omega
  exact I.fpOk hge (I.hok.fresh hge)
theorem sM {K : PySem.W.Frag}(hK : X.K=K){a : Expr}{ta : TA}{p pos tp : Pos}{elts : List Expr}{k : Nat}(hg : Gl X "enumerate")(hm : X.mg "enumerate" = none)(hb : bootBuiltins "enumerate" = some (.type "enumerate"))(ha : PA X [a] ta)(hs : starEach [a] X.env=[(false, eval a X.env)] := by rfl) :
    PI X (.Tuple elts k tp) (.Call (.Name "enumerate" p) [a] [] pos) (wI K ta) := by
  subst hK
  intro pins s σ H R I h
  refine Call_ (dz I hg hm hb (xZ (thn (ha pos pins s σ H _ I h) fun us s1 zq1 => ?_) hs rfl))
  obtain ⟨vs, H1, I1, r1, q1⟩ := zq1
  obtain ⟨l, rfl, ⟨xs, hq⟩, q⟩ := q1
  obtain ⟨u1, rfl, ru⟩ := cb r1
  cases ru
  obtain ⟨its, rv, pl, hz⟩ := I1.list hq
  refine call_enumerate_list pl.isList fun h' b1 b2 b3 b4 => ?_
  have I2 : Inv X pins σ H1 { s1 with heap := h', toks := s1.toks } := I1.kept b4
  exact y2 (s := { s1 with heap := h', toks := s1.toks }) b1 ⟨s1.heap.objs.size+1, [s1.heap.objs.size+1, s1.heap.objs.size], _, lj X.K l, H1, rfl, I2, jl (Ay _), ⟨⟨_, b1⟩, b2⟩, fp2 I1, q⟩
end
theorem lp {K : PySem.W.Frag}{a : Addr}{xs : List V}{g : TG}{tb : TS}{D : dJ}{σ : St}{H : Hp}(Pv : Nat → St → Hp → Prop)(h0 : Pv 0 σ H)(hl : ∀ i σ H, i≤xs.length → Pv i σ H → SqL K H a xs)
    (hs : ∀ i x σ H T, xs[i]? = some x → Pv i σ H → H T=none → g (.ref T) σ (upd H T (.tup [.int i, x])) fun σ2 H2 => tb { D with nx := Pv (i+1), ct := Pv (i+1), bk := D.nx } σ2 H2) (hd : ∀ σ H, Pv xs.length σ H → D.nx σ H) :
    ∃ W : Nat → Nat → St → Hp → Prop, (∃ m, W 0 m σ H) ∧ ∀ i m σ H, W i m σ H →
      ((lj K a).stop i H ∧ D.nx σ H) ∨ ((lj K a).go i H ∧ ∃ N : St → Hp → Prop, (∀ σ' H', N σ' H' → ∃ m', m' < m ∧ W (i+1) m' σ' H') ∧ ∀ x H', (lj K a).yld i H x H' → g x σ H' fun σ2 H2 => tb { D with nx := N, ct := N, bk := D.nx } σ2 H2) := by
  refine ⟨fun i m σ H => m=xs.length - i ∧ i≤xs.length ∧ Pv i σ H, ⟨xs.length, by simp, xQ _, h0⟩, ?_⟩
  rintro i m σ H ⟨rfl, hi, p⟩
  have q := hl i σ H hi p
  by_cases hlt : i < xs.length
  · refine .inr ⟨⟨xs, xs[i], q, by simp [hlt]⟩, Pv (i+1), fun σ' H' p' => ⟨xs.length - (i+1), by omega, rfl, hlt, p'⟩, ?_⟩
    rintro v H' ⟨T, x, hT, rfl, hx, rfl⟩
    exact hs i x σ _ T (hx xs q) p hT
  · obtain rfl : i=xs.length := by omega
    exact .inl ⟨⟨xs, q, wX _⟩, hd σ H p⟩
theorem qo {K : PySem.W.Frag}{a : Addr}{xs : List V}{g : TG}{tb : TS}{D : dJ}{σ : St}{H : Hp}(Pv : Nat → St → Hp → Prop)(h0 : Pv 0 σ H)(hl : ∀ i σ H, i≤xs.length → Pv i σ H → SqT K H a xs)
    (hs : ∀ i x σ H T, xs[i]? = some x → Pv i σ H → H T=none → g (.ref T) σ (upd H T (.tup [.int i, x])) fun σ2 H2 => tb { D with nx := Pv (i+1), ct := Pv (i+1), bk := D.nx } σ2 H2) (hd : ∀ σ H, Pv xs.length σ H → D.nx σ H) :
    ∃ W : Nat → Nat → St → Hp → Prop, (∃ m, W 0 m σ H) ∧ ∀ i m σ H, W i m σ H →
      ((nB K a).stop i H ∧ D.nx σ H) ∨ ((nB K a).go i H ∧ ∃ N : St → Hp → Prop, (∀ σ' H', N σ' H' → ∃ m', m' < m ∧ W (i+1) m' σ' H') ∧ ∀ x H', (nB K a).yld i H x H' → g x σ H' fun σ2 H2 => tb { D with nx := N, ct := N, bk := D.nx } σ2 H2) := by
  refine ⟨fun i m σ H => m=xs.length - i ∧ i≤xs.length ∧ Pv i σ H, ⟨xs.length, by simp, xQ _, h0⟩, ?_⟩
  rintro i m σ H ⟨rfl, hi, p⟩
  have q := hl i σ H hi p
  by_cases hlt : i < xs.length
  · refine .inr ⟨⟨xs, xs[i], q, by simp [hlt]⟩, Pv (i+1), fun σ' H' p' => ⟨xs.length - (i+1), by omega, rfl, hlt, p'⟩, ?_⟩
    rintro v H' ⟨T, x, hT, rfl, hx, rfl⟩
    exact hs i x σ _ T (hx xs q) p hT
  · obtain rfl : i=xs.length := by omega
    exact .inl ⟨⟨xs, q, wX _⟩, hd σ H p⟩
end L2
namespace PySem
open Sem (wp)
structure Ap2 (z TO i1 i2 : Addr) (fp1 fp2 : List Addr) : Prop where
  z1 : z∉fp1
  z2 : z∉fp2
  o1 : TO∉fp1
  o2 : TO∉fp2
  i12 : i1∉fp2
  i21 : i2∉fp1
section
variable {prog : Program} {w : World} {A : Around} {E : Value → Shared → Prop} {s : Shared} {z TI TO i1 i2 : Addr} {k n1 n2 : Nat} {a b : Value} {fp1 fp2 : List Addr} {P1 P2 : Nat → Value → Prop} {S1 S2 : Nat → Heap → Prop}
theorem lq {Q : Value → Shared → Prop}(D1 : Draws prog w A i1 fp1 n1 P1 S1)(D2 : Draws prog w A i2 fp2 n2 P2 S2)(D : Ap5 z TI TO i1 i2)
    (B : Ap2 z TO i1 i2 fp1 fp2) (hz : IsZip s.heap z TI TO .none) (hTI : IsPair s.heap TI (.ref i1) (.ref i2)) (hTO : IsPair s.heap TO a b) (h1 : S1 k s.heap) (h2 : S2 k s.heap) (hx : k < n1) (hy : k < n2)
    (hQ : ∀ h' tk v1 v2, P1 k v1 → P2 k v2 → IsZip h' z TI TO (rawInt s.heap.objs.size) → IsPair h' TO v1 v2 → S1 (k+1) h' → S2 (k+1) h' → IsPair h' s.heap.objs.size v1 v2 →
      (∀ e o, e≠z → e≠TO → e≠i1 → e≠i2 → s.heap.get? e=some o → h'.get? e=some o) → Q (.ref s.heap.objs.size) { s with heap := h', toks := tk }) :
    wpAny (model prog w) A (Builtin.«zip.__next__» ⟨[.ref z], []⟩) (fun fin s' => ∃ v, fin = .done (.ret v) ∧ Q v s') E s := by
  show wpAny _ _ (field (.ref z) 2 >>= _) _ _ _
  refine fu (xJ hz rfl (x := .bool false) rfl ?_)
  show wpAny _ _ (field (.ref z) 3 >>= _) _ _ _
  refine fu (xJ hz rfl (x := .ref TI) rfl (fu (yB hTI rfl ?_)))
  show wpAny _ _ (Builtin.SmallTypes.ownedTupleIsFree (.ref z) >>= _) _ _ _
  refine fu ?_
  unfold Builtin.SmallTypes.ownedTupleIsFree
  refine fu (xJ hz rfl (x := .none) rfl (xb ?_))
  simp only [zu]
  refine fu (AW (fu (xJ hz rfl (x := .ref TO) rfl (fu (yw hz (by simp) fun g1 hz1 e1 => ?_)))))
  have hz1 : IsZip g1 z TI TO .ellipsis := hz1
  refine fu ?_
  simp only [List.zipIdx_cons, List.zipIdx_nil, AI, List.forIn_nil]
  refine fu (fu (zR ?_))
  show wpAny _ _ (Builtin.SmallTypes.nextOf (.ref i1) >>= _) _ _ _
  refine fu (D1.item k _ _ _ hx (D1.frame _ _ _ h1 fun q hq o eq => e1.extBut _ _ (fun zz => B.z1 (zz ▸ hq)) eq) fun v1 g2 tk2 p1 j1 e2 => xb ?_)
  have o2 : IsPair g2 TO a b := e2.extBut _ _ D.TOi1 (e1.extBut _ _ D.TOz hTO)
  refine fu (yB o2 rfl (fu (zL o2 fun g3 o3 e3 => fu (AQ (xb ?_)))))
  have o3 : IsPair g3 TO v1 b := o3
  refine fu (fu (zR ?_))
  show wpAny _ _ (Builtin.SmallTypes.nextOf (.ref i2) >>= _) _ _ _
  refine fu (D2.item k _ _ _ hy (D2.frame _ _ _ h2 fun q hq o eq => e3.extBut _ _ (fun zz => B.o2 (zz ▸ hq)) (e2.extBut _ _ (fun zz => B.i12 (zz ▸ hq)) (e1.extBut _ _ (fun zz => B.z2 (zz ▸ hq)) eq))) fun v2 g4 tk4 p2 j2 e4 => xb ?_)
  have o4 : IsPair g4 TO v1 b := e4.extBut _ _ D.TOi2 o3
  refine fu (yB o4 rfl (fu (zL o4 fun g5 o5 e5 => fu (AQ (xb (xb ?_))))))
  have o5 : IsPair g5 TO v1 v2 := o5
  refine fu (yB o5 rfl (fu (wpAny_newTuple ?_)))
  have hsz : g5.objs.size=s.heap.objs.size := by rw [e5.1, e4.1, e3.1, e2.1, e1.1]
  have z5 : IsZip g5 z TI TO .ellipsis := e5.extBut _ _ D.TOz.symm (e4.extBut _ _ D.i2z.symm (e3.extBut _ _ D.TOz.symm (e2.extBut _ _ D.i1z.symm hz1)))
  have kk : ∀ e o, e≠z → e≠TO → e≠i1 → e≠i2 → s.heap.get? e=some o → g5.get? e=some o := fun e o n1 n2 n3 n4 q => e5.extBut _ _ n2 (e4.extBut _ _ n4 (e3.extBut _ _ n2 (e2.extBut _ _ n3 (e1.extBut _ _ n1 q))))
  have j1' : S1 (k+1) g5 := D1.frame _ _ _ j1 fun q hq o eq => e5.extBut _ _ (fun zz => B.o1 (zz ▸ hq)) (e4.extBut _ _ (fun zz => B.i21 (zz ▸ hq)) (e3.extBut _ _ (fun zz => B.o1 (zz ▸ hq)) eq))
  have j2' : S2 (k+1) g5 := D2.frame _ _ _ j2 fun q hq o eq => e5.extBut _ _ (fun zz => B.o2 (zz ▸ hq)) eq
  have zlt : z < g5.objs.size := wZ z5
  show wpAny _ _ (Builtin.SmallTypes.ownedTupleHandOut (.ref z) (.ref g5.objs.size) >>= _) _ _ _
  refine fu ?_
  unfold Builtin.SmallTypes.ownedTupleHandOut
  have z6 : IsZip (g5.push { cls := .type "tuple", data := .seq #[v1, v2] }) z TI TO .ellipsis := wU _ z5
  refine fu (yw z6 (by simp) fun g7 z7 e7 => ?_)
  have z7 : IsZip g7 z TI TO (rawInt g5.objs.size) := z7
  refine yw z7 (by simp) fun g8 z8 e8 => ?_
  have z8 : IsZip g8 z TI TO (rawInt g5.objs.size) := z8
  have up : ∀ e o, e≠z → g5.get? e=some o → g8.get? e=some o := fun e o n1 q => e8.extBut _ _ n1 (e7.extBut _ _ n1 (wU _ q))
  have T8 : IsPair g8 g5.objs.size v1 v2 := e8.extBut _ _ (y9 zlt) (e7.extBut _ _ (y9 zlt) (w6 _ rfl))
  rw [hsz] at z8 T8
  refine xb ⟨_, rfl, ?_⟩
  show Q (.ref g5.objs.size) _
  rw [hsz]
  exact hQ g8 _ v1 v2 p1 p2 z8 (up _ _ D.TOz o5) (D1.frame _ _ _ j1' fun q hq o eq => up q o (fun zz => B.z1 (zz ▸ hq)) eq) (D2.frame _ _ _ j2' fun q hq o eq => up q o (fun zz => B.z2 (zz ▸ hq)) eq) T8 fun e o n1 n2 n3 n4 q => up e o n1 (kk e o n1 n2 n3 n4 q)
theorem nD {Q : Fin → Shared → Prop}(D1 : Draws prog w A i1 fp1 n1 P1 S1)(D2 : Draws prog w A i2 fp2 n2 P2 S2)(D : Ap5 z TI TO i1 i2)
    (B : Ap2 z TO i1 i2 fp1 fp2) (hz : IsZip s.heap z TI TO .none) (hTI : IsPair s.heap TI (.ref i1) (.ref i2)) (hTO : IsPair s.heap TO a b) (h1 : S1 k s.heap) (h2 : S2 k s.heap) (hend : k=n1 ∨ (k < n1 ∧ k=n2))
    (hE : ∀ h' tk e, (∀ c o, c≠z → c≠TO → c≠i1 → c≠i2 → s.heap.get? c=some o → h'.get? c=some o) → (∃ o, h'.get? e=some o ∧ o.cls = .type "StopIteration") → E (.ref e) { s with heap := h', toks := tk }) :
    wpAny (model prog w) A (Builtin.«zip.__next__» ⟨[.ref z], []⟩) Q E s := by
  show wpAny _ _ (field (.ref z) 2 >>= _) _ _ _
  refine fu (xJ hz rfl (x := .bool false) rfl ?_)
  show wpAny _ _ (field (.ref z) 3 >>= _) _ _ _
  refine fu (xJ hz rfl (x := .ref TI) rfl (fu (yB hTI rfl ?_)))
  show wpAny _ _ (Builtin.SmallTypes.ownedTupleIsFree (.ref z) >>= _) _ _ _
  refine fu ?_
  unfold Builtin.SmallTypes.ownedTupleIsFree
  refine fu (xJ hz rfl (x := .none) rfl (xb ?_))
  simp only [zu]
  refine fu (AW (fu (xJ hz rfl (x := .ref TO) rfl (fu (yw hz (by simp) fun g1 hz1 e1 => ?_)))))
  have hz1 : IsZip g1 z TI TO .ellipsis := hz1
  refine fu ?_
  simp only [List.zipIdx_cons, List.zipIdx_nil, AI, List.forIn_nil]
  refine fu (fu (zR ?_))
  show wpAny _ _ (Builtin.SmallTypes.nextOf (.ref i1) >>= _) _ _ _
  rcases hend with hk | ⟨hk, hk2⟩
  · subst hk
    refine fu (D1.done _ _ _ (D1.frame _ _ _ h1 fun q hq o eq => e1.extBut _ _ (fun zz => B.z1 (zz ▸ hq)) eq) fun g2 ev e2 he => ?_)
    obtain ⟨oe, hoe, hce⟩ := he
    have z2 : IsZip g2 z TI TO .ellipsis := e2 _ _ D.i1z.symm hz1
    have hez : ev≠z := fun q => by subst q;rw [z2] at hoe;cases hoe;simp at hce
    exact yw z2 (by simp) fun g3 _ e3 => hE g3 _ ev (fun c o n1 _ n3 _ q => e3.extBut _ _ n1 (e2 _ _ n3 (e1.extBut _ _ n1 q))) ⟨oe, e3.extBut _ _ hez hoe, hce⟩
  · refine fu (D1.item k _ _ _ hk (D1.frame _ _ _ h1 fun q hq o eq => e1.extBut _ _ (fun zz => B.z1 (zz ▸ hq)) eq) fun v1 g2 tk2 p1 j1 e2 => xb ?_)
    have o2 : IsPair g2 TO a b := e2.extBut _ _ D.TOi1 (e1.extBut _ _ D.TOz hTO)
    refine fu (yB o2 rfl (fu (zL o2 fun g3 o3 e3 => fu (AQ (xb ?_)))))
    refine fu (fu (zR ?_))
    show wpAny _ _ (Builtin.SmallTypes.nextOf (.ref i2) >>= _) _ _ _
    have h2' := D2.frame _ _ _ h2 fun q hq o eq => e3.extBut _ _ (fun zz => B.o2 (zz ▸ hq)) (e2.extBut _ _ (fun zz => B.i12 (zz ▸ hq)) (e1.extBut _ _ (fun zz => B.z2 (zz ▸ hq)) eq))
    rw [hk2] at h2'
    refine fu (D2.done _ _ _ h2' fun g4 ev e4 he => ?_)
    obtain ⟨oe, hoe, hce⟩ := he
    have z4 : IsZip g4 z TI TO .ellipsis := e4 _ _ D.i2z.symm (e3.extBut _ _ D.TOz.symm (e2.extBut _ _ D.i1z.symm hz1))
    have hez : ev≠z := fun q => by subst q;rw [z4] at hoe;cases hoe;simp at hce
    exact yw z4 (by simp) fun g5 _ e5 => hE g5 _ ev (fun c o n1 n2 n3 n4 q => e5.extBut _ _ n1 (e4 _ _ n4 (e3.extBut _ _ n2 (e2.extBut _ _ n3 (e1.extBut _ _ n1 q))))) ⟨oe, e5.extBut _ _ hez hoe, hce⟩
theorem jO {Q : Option Value → Shared → Prop}(D1 : Draws prog w A.in1 i1 fp1 n1 P1 S1)(D2 : Draws prog w A.in1 i2 fp2 n2 P2 S2)(D : Ap5 z TI TO i1 i2)
    (B : Ap2 z TO i1 i2 fp1 fp2) (hz : IsZip s.heap z TI TO .none) (hTI : IsPair s.heap TI (.ref i1) (.ref i2)) (hTO : IsPair s.heap TO a b) (h1 : S1 k s.heap) (h2 : S2 k s.heap) (hx : k < n1) (hy : k < n2)
    (hQ : ∀ h' tk v1 v2, P1 k v1 → P2 k v2 → IsZip h' z TI TO (rawInt s.heap.objs.size) → IsPair h' TO v1 v2 → S1 (k+1) h' → S2 (k+1) h' → IsPair h' s.heap.objs.size v1 v2 →
      (∀ e o, e≠z → e≠TO → e≠i1 → e≠i2 → s.heap.get? e=some o → h'.get? e=some o) → Q (some (.ref s.heap.objs.size)) { s with heap := h', toks := tk }) :
    wpAny (model prog w) A (pyNext (.ref z)) Q E s := by
  have hT : s.TypeIs (.ref z) "zip" := ⟨_, hz, rfl⟩
  unfold pyNext
  exact fu (yL (x6 (name := Str.ofString "__next__") hT Ac (yl Ac hT F.entry_zip_next
    (lq D1 D2 D B hz hTI hTO h1 h2 hx hy fun h' tk v1 v2 q1 q2 b1 b2 b3 b4 b5 b6 => xb (hQ h' tk v1 v2 q1 q2 b1 b2 b3 b4 b5 b6)) (F.args_zip_next_1 _))))
theorem lr {Q : Option Value → Shared → Prop}(D1 : Draws prog w A.in1 i1 fp1 n1 P1 S1)(D2 : Draws prog w A.in1 i2 fp2 n2 P2 S2)(D : Ap5 z TI TO i1 i2)
    (B : Ap2 z TO i1 i2 fp1 fp2) (hz : IsZip s.heap z TI TO .none) (hTI : IsPair s.heap TI (.ref i1) (.ref i2)) (hTO : IsPair s.heap TO a b) (h1 : S1 k s.heap) (h2 : S2 k s.heap) (hend : k=n1 ∨ (k < n1 ∧ k=n2))
    (hQ : ∀ h' tk, (∀ c o, c≠z → c≠TO → c≠i1 → c≠i2 → s.heap.get? c=some o → h'.get? c=some o) → Q none { s with heap := h', toks := tk }) : wpAny (model prog w) A (pyNext (.ref z)) Q E s := by
  have hT : s.TypeIs (.ref z) "zip" := ⟨_, hz, rfl⟩
  unfold pyNext
  refine fu (yL (x6 (name := Str.ofString "__next__") hT Ac (yl Ac hT F.entry_zip_next
    (nD D1 D2 D B hz hTI hTO h1 h2 hend fun h' tk e hk he => ?_) (F.args_zip_next_1 _))))
  obtain ⟨o, ho, hc⟩ := he
  refine fu (Aw (T := "StopIteration") (b := true) ⟨o, ho, hc⟩ AN ?_)
  exact xb (hQ _ _ hk)
end
end PySem
namespace PySem
end PySem
namespace L2
open PySem PySem.Spec PyProof.Rows Wd
section
variable {X : Cx}
end
end L2
namespace L2
open PySem PySem.Spec PyProof.Rows Wd
section
variable {X : Cx}
end
end L2
namespace Kx
open PySem PySem.Spec PyProof.Rows L2 Wd
end Kx
namespace L2
open PySem PySem.Spec PyProof.Rows Wd
section
variable {X : Cx} {tg : Expr}
end
end L2
namespace Kx
open PySem PySem.Spec PyProof.Rows L2 Wd
def dV : V → PyData
  | .int i => .int i
  | .str z => .str z
  | _ => .none
end Kx
namespace HT
open PySem PySem.Spec PyProof.Rows
section
variable {prog : Program} {w : World} {A : Around} {E : Value → Shared → Prop} {s : Shared}
end
end HT
namespace L2
open PySem PySem.Spec PyProof.Rows Wd
end L2
namespace PySem
open Sem (wp)
section
variable {prog : Program} {w : World} {A : Around} {E : Value → Shared → Prop} {s : Shared}
section
variable {R : Result → Shared → Prop} {I : Addr} {fp wr : List Addr} {G : Array GenState → Array GenState → Prop} {n : Nat} {P : Nat → Value → Prop} {St : Nat → Shared → Prop}
end
end
end PySem
namespace PySem
open Sem (wp)
section
variable {prog : Program} {w : World} {A : Around} {E : Value → Shared → Prop} {s : Shared}
end
end PySem
namespace L2
open PySem PySem.Spec PyProof.Rows
theorem jm {h : Heap}{T : Addr}{o : Obj}{f : Obj → Obj}(ho : h.get? T=some o)(hf : f o=o)(b : Addr) : (h.update T f).get? b=h.get? b := by
  by_cases e : T=b
  · subst e
    have := xO f ho (by rw [hf];exact (Heap.get?_some_iff.mp ho).2)
    rw [this, hf, ho]
  · exact xD _ _ e
theorem jn {oT : Obj}{ts : Array Value}{i : Nat}{v : Value}(hd : oT.data = .fields ts)(h3 : ts[i]? = some v) : Obj.mapFields (·.setIfInBounds i v) oT=oT := by
  obtain ⟨c, d, dt, sl⟩ := oT
  simp only at hd
  subst hd
  obtain ⟨hi, hv⟩ := xA.mp h3
  have : ts.setIfInBounds i v=ts := by
    apply Array.ext
    · simp
    · intro j h1 h2
      by_cases hj : i=j
      · subst hj;simp [hv]
      · rw [Array.getElem_setIfInBounds_ne _ hj]
  simp only [Obj.mapFields, this]
def uh (T : Addr)(h : Heap)(a : Addr)(fl : Value) : Prop :=
  ∃ oe vs oT ts, h.get? a=some oe ∧ oe.data = .fields vs ∧ vs[1]? = some (.ref T) ∧ T≠a ∧ h.get? T=some oT ∧ oT.data = .fields ts ∧ ts[3]? = some fl
def Flt (h : Heap)(a : Addr)(fl : Value) : Prop := ∃ T, uh T h a fl
structure Nts (fs : List Addr) (a : Addr) (fl : Value) (h h' : Heap) : Prop where
  keep : ∀ b o, b∉fs → b≠a → h.get? b=some o → h'.get? b=some o
  slot : ∀ b o, b∈fs → h.get? b=some o → ∃ sl, h'.get? b=some { o with slots := sl }
  exc : ∀ oe vs, h.get? a=some oe → oe.data = .fields vs → ∃ oe' vs', h'.get? a=some oe' ∧ oe'.cls=oe.cls ∧ oe'.dict=oe.dict ∧ oe'.data = .fields vs' ∧ vs'.size=vs.size ∧ vs'[2]? = vs[2]?
  fly : ∃ T, h.objs.size≤T ∧ uh T h' a fl
section
variable {M : Model} {A : Around} {E : Value → Shared → Prop} {s : Shared}
set_option maxHeartbeats 1600000 in
theorem o7 {base : Heap}{env : Env}{outer : List Env}{L e : Addr}{oe : Obj}{vs : Array Value}{head : Value}{hadNext : Bool}{Q : Unit → Shared → Prop}
    (hfr : A.frames=some (env::outer)) (hl : s.heap.FunFrames base (env::outer)) (hf : env.frame=some L)
    (he : s.heap.get? e=some oe) (hd : oe.data = .fields vs) (hsz : 1 < vs.size)
    (h : ∀ h', Nts (frs (env::outer)) e (rawInt L) s.heap h' → Q () { s with heap := h' }) :
    wpAny M A (do let a ← frameOf env;let pl ← entryPlaceOf L hadNext;let b ← EntryCells.newEntry head a .none (rawInt L) .none pl;setField (.ref e) 1 b) Q E s := by
  have hene : e∉frs (env::outer) := fun hm => by
    obtain ⟨_, o, ho, hnf⟩ := hl.mem hm
    rw [he] at ho;injection ho with ho;subst ho;exact hnf vs hd
  refine fu (wpAny_frameOf_fun hfr hl hf fun h₁ hs₁ => ?_)
  refine fu (wpAny_entryPlaceOf fun pl hpl => ?_)
  unfold EntryCells.newEntry newFields
  refine fu (zC ?_ (hpl.sizeOk5 _ _ _ _ _))
  generalize hN : ({ cls := .type "traceback", dict := none, data := .fields ([head, .ref L, .none, rawInt L, .none]++(if pl.isEmpty then List.replicate 6 Value.none else pl)).toArray } : Obj)=oN
  have hNd : oN.data = .fields ([head, .ref L, .none, rawInt L, .none]++(if pl.isEmpty then List.replicate 6 Value.none else pl)).toArray := by rw [← hN]
  have hNf : oN.isFreed=false := by rw [← hN];rfl
  have he₁ : h₁.get? e=some oe := (hs₁.2.1 e hene).trans he
  have he₂ := wU (h := h₁) oN he₁
  refine ym he₂ hd hsz (h _ ?_)
  have hTe : h₁.objs.size≠e := y9 (wZ he₁)
  have hd₃ := xX hd (·.setIfInBounds 1 (Value.ref h₁.objs.size))
  have he₃ := xO (Obj.mapFields (·.setIfInBounds 1 (Value.ref h₁.objs.size))) he₂ (yc hd₃)
  have hT₃ := (xD (h₁.push oN) (Obj.mapFields (·.setIfInBounds 1 (Value.ref h₁.objs.size))) (Ne.symm hTe)).trans (w6 h₁ hNf)
  have keep : ∀ b o, b≠e → h₁.get? b=some o → ((h₁.push oN).update e (Obj.mapFields (·.setIfInBounds 1 (Value.ref h₁.objs.size)))).get? b=some o := fun b o hbe hb => by
    rw [xD _ _ (Ne.symm hbe)]
    exact wU _ hb
  refine ⟨fun b o hb hbe q => keep b o hbe ((hs₁.2.1 b hb).trans q), fun b o hb q => ?_, fun oe' vs' q qd => ?_, ?_⟩
  · obtain ⟨sl, q'⟩ := hs₁.2.2 b o q
    exact ⟨sl, keep b _ (fun z => hene (z ▸ hb)) q'⟩
  · rw [he] at q;cases q
    rw [hd] at qd;cases qd
    refine ⟨_, _, he₃, zA _ _, ?_, hd₃, by simp, yG (by decide)⟩
    obtain ⟨c, d, dt, sl⟩ := oe
    cases dt <;> rfl
  · refine ⟨h₁.objs.size, Ah hs₁.1.symm, _, _, oN, _, he₃, hd₃, by simp [hsz], hTe, hT₃, hNd, ?_⟩
    first | (simp;done) | (rcases hpl with rfl | ⟨_, _, _, _, _, _, _, rfl⟩ <;> simp)
theorem sN {base : Heap}{env : Env}{outer : List Env}{L e : Addr}{oe : Obj}{vs : Array Value}{Q : Unit → Shared → Prop}
    (hfr : A.frames=some (env::outer)) (hl : s.heap.FunFrames base (env::outer)) (hf : env.frame=some L)
    (he : s.heap.get? e=some oe) (hd : oe.data = .fields vs) (h1 : vs[1]? = some .none ∨ Flt s.heap e .none)
    (h : ∀ h', Nts (frs (env::outer)) e (rawInt L) s.heap h' → Q () { s with heap := h' }) : wpAny M A (noteFrame (.ref e) env) Q E s := by
  unfold noteFrame
  simp only [hf]
  rcases h1 with h1 | ⟨T, oe', vs', oT, ts, he', hd', h1, hTe, hT, hdT, h3⟩
  · refine fu (xJ he hd h1 ?_)
    rw [if_neg (by decide)]
    exact o7 hfr hl hf he hd (xA.mp h1).1 h
  · rw [he] at he';cases he'
    rw [hd] at hd';cases hd'
    refine fu (xJ he hd h1 ?_)
    rw [if_pos (show (Value.ref T != Value.none)=true from by simp)]
    refine fu (xJ hT hdT h3 ?_)
    rw [if_neg (show ¬ ((Value.none == rawInt L)=true) from by simp [rawInt])]
    refine fu (ym hT hdT (xA.mp h3).1 ?_)
    have idle := jm (f := Obj.mapFields (·.setIfInBounds 3 Value.none)) hT (jn hdT h3)
    refine o7 hfr (hl.of_keeps fun b o hb _ => ⟨o, (idle b).trans hb, rfl⟩) hf ((idle e).trans he) hd (xA.mp h1).1 fun h' N => h h' ?_
    obtain ⟨k1, k2, k3, k4⟩ := N
    refine ⟨fun b o hb hbe q => k1 b o hb hbe ((idle b).trans q), fun b o hb q => k2 b o hb ((idle b).trans q), fun o v q d => k3 o v ((idle e).trans q) d, ?_⟩
    obtain ⟨T', b1, b2⟩ := k4
    exact ⟨T', xG (Ah (Heap.size_after_update ..).symm) b1, b2⟩
theorem iH {T e : Addr}{fl : Value}{Q : Unit → Shared → Prop}(hF : uh T s.heap e fl)
    (h : ∀ h', uh T h' e .none → (∀ b o, b≠T → s.heap.get? b=some o → h'.get? b=some o) → (∀ b, (∃ o, s.heap.get? b=some o) → ∃ o, h'.get? b=some o) → (fl = .none → ∀ b, h'.get? b=s.heap.get? b) → Q () { s with heap := h' }) :
    wpAny M A (setFlight (.ref e) none) Q E s := by
  obtain ⟨oe, vs, oT, ts, he, hd, h1, hTe, hT, hdT, h3⟩ := hF
  have hsz3 : 3 < ts.size := (xA.mp h3).1
  have other : ∀ b, b≠T → (s.heap.update T (Obj.mapFields (·.setIfInBounds 3 ((none : Option Addr).elim Value.none fun f => rawInt f)))).get? b=s.heap.get? b :=
    fun b hb => xD _ _ (Ne.symm hb)
  have hT' := xO (Obj.mapFields (·.setIfInBounds 3 ((none : Option Addr).elim Value.none fun f => rawInt f))) hT (yc (xX hdT _))
  unfold setFlight
  refine fu (xJ he hd h1 ?_)
  rw [if_pos (show (Value.ref T != Value.none)=true from by simp)]
  refine ym hT hdT hsz3 (h _ ⟨oe, vs, _, _, (other e (Ne.symm hTe)).trans he, hd, h1, hTe, hT', xX hdT _, by simp [hsz3]⟩ (fun b o hb q => (other b hb).trans q) (fun b ⟨o, q⟩ => ?_) fun z b => ?_)
  · by_cases z : b=T
    · subst z;exact ⟨_, hT'⟩
    · exact ⟨o, (other b z).trans q⟩
  · subst z
    exact jm hT (jn hdT h3) b
theorem o8 {base : Heap}{env : Env}{outer : List Env}{L e : Addr}{oe : Obj}{vs : Array Value}{Q : Unit → Shared → Prop}
    (hfr : A.frames=some (env::outer)) (hl : s.heap.FunFrames base (env::outer)) (hf : env.frame=some L)
    (he : s.heap.get? e=some oe) (hd : oe.data = .fields vs) (h1 : vs[1]? = some .none ∨ Flt s.heap e .none)
    (h : ∀ h', Nts (frs (env::outer)) e .none s.heap h' → Q () { s with heap := h' }) : wpAny M A (leaving env (.ref e)) Q E s := by
  unfold leaving
  refine fu (sN hfr hl hf he hd h1 fun h₁ N => ?_)
  obtain ⟨k1, k2, k3, T, hT, k4⟩ := N
  refine iH (s := { s with heap := h₁ }) k4 fun h₂ f1 f2 f3 _ => h h₂ ⟨fun b o hb hbe q => f2 b o (fun z => ?_) (k1 b o hb hbe q), fun b o hb q => ?_, fun oe vs q qd => ?_, T, hT, f1⟩
  · exact absurd (w9 (wZ q) (z ▸ hT)) (xK _)
  · obtain ⟨sl, q'⟩ := k2 b o hb q
    exact ⟨sl, f2 b _ (fun z => absurd (w9 (wZ q) (z ▸ hT)) (xK _)) q'⟩
  · obtain ⟨oe', vs', q1, q2⟩ := k3 oe vs q qd
    exact ⟨oe', vs', f2 e _ (fun z => absurd (w9 (wZ q) (z ▸ hT)) (xK _)) q1, q2⟩
end
end L2
namespace L2
open PySem PySem.Spec PyProof.Rows
def exo (a C : Addr)(d : Option Addr)(b c : Bool) : Heap → Prop := fun h =>
  ∃ oe vs, h.get? a=some oe ∧ oe.cls = .ref C ∧ oe.dict=d ∧ oe.data = .fields vs ∧ vs.size=6 ∧ (b=true → vs[1]? = some .none) ∧ (c=true → vs[2]? = some .none)
abbrev Exo (a C : Addr)(d : Option Addr)(b : Bool)(c : Bool := false) : HO := .ext (exo a C d b c)
theorem nE {a C : Addr}{d : Option Addr}{b c : Bool}{h1 h2 : Heap}(x : exo a C d b c h1)(k : ∀ o, h1.get? a=some o → h2.get? a=some o) : exo a C d b c h2 :=
  let ⟨oe, vs, q, r⟩ := x;⟨oe, vs, k _ q, r⟩
theorem jo {P : Program}{w : World}{H : Hp}{h : Heap}{a C : Addr}{d : Option Addr}{b c : Bool}(x : exo a C d b c h) : bu P w H h a (Exo a C d b c) :=
  ⟨x, let ⟨oe, _, q, _⟩ := x;⟨oe, q⟩, fun _ _ y k => nE y k⟩
theorem fN {H : Hp}{a : Addr}{o : HO}(h : H a=some o) : upd H a o=H := by
  funext b
  by_cases e : b=a
  · subst e;rw [ag, h]
  · rw [ao e]
def CXe (P : Program)(w : World) : CXT := fun outer H s E e s' =>
  ∃ a C d c H', e = .ref a ∧ s'.os=s.os ∧ AllBare s'.gens ∧ Un (frs outer) [] H H' s.heap s'.heap ∧ HOk P w H' s'.heap ∧ H' a=some (Exo a C d false c) ∧ Flt s'.heap a .none ∧ E (.ref a) none H'
section
variable {P : Program} {w : World} {H : Hp} {h h' : Heap} {fs : List Addr} {e C : Addr} {d : Option Addr} {b cx : Bool} {fl : Value}
theorem lu (ok : HOk P w H h)(he : H e=some (Exo e C d b cx))(hfs : ∀ c∈fs, H c=none)(N : Nts fs e fl h h') :
    Un fs [] H (upd H e (Exo e C d false cx)) h h' ∧ HOk P w (upd H e (Exo e C d false cx)) h' := by
  obtain ⟨⟨oe, vs, g1, g2, g3, g4, g5, g6, g7⟩, _, _⟩ := ok e _ he
  obtain ⟨oe', vs', n1, n2, n3, n4, n5, n6⟩ := N.exc oe vs g1 g4
  have hx : exo e C d false cx h' := ⟨oe', vs', n1, n2.trans g2, n3.trans g3, n4, n5.trans g5, (fun z => by cases z), fun z => n6.trans (g7 z)⟩
  have ne : ∀ c, H c=none → c≠e := fun c n z => by rw [z, he] at n;cases n
  have ne' : ∀ c u, H c=some u → u≠Exo e C d b cx → c≠e := fun c u q n z => by rw [z, he] at q;cases q;exact n rfl
  refine ⟨⟨fun c o q n hc _ => N.keep c o hc (ne c n) q, fun c o q n hc _ => N.slot c o hc q, fun c o q n _ => by rw [ao (ne c n)];exact n, fun c o q _ => ?_,
    fun c xs q => by rw [ao (ne' c _ q (by intro z;cases z))];exact q, fun c o u q => by rw [ao (ne' c _ q (by intro z;cases z))];exact q, fun c ps q => ⟨#[], by rw [ao (ne' c _ q (by intro z;cases z)), q];simp⟩⟩, fun c u q => ?_⟩
  · by_cases z : c=e
    · subst z;exact ⟨_, n1⟩
    · by_cases y : c∈fs
      · obtain ⟨sl, r⟩ := N.slot c o y q
        exact ⟨_, r⟩
      · exact ⟨o, N.keep c o y z q⟩
  · by_cases z : c=e
    · subst z;rw [ag] at q;cases q;exact jo hx
    · rw [ao z] at q
      refine (ok c u q).stay (fun x v hx q' => ?_) (fun x hx => by rw [ao (ne' x _ hx (by intro z;cases z))];exact hx) fun x xs hx => by rw [ao (ne' x _ hx (by intro z;cases z))];exact hx
      have nx : x≠e := by
        rcases hx with rfl | hx
        · exact z
        · exact ne' x _ hx (by intro z;cases z)
      refine N.keep x v (fun y => ?_) nx q'
      have := hfs x y
      rcases hx with rfl | hx
      · rw [this] at q;cases q
      · rw [this] at hx;cases hx
end
def o9 (X : Cx)(E : XK) : Prop := ∀ (pins : List (Addr × Obj)) (σ : St) (H : Hp) (s : Shared) (a C : Addr) (d : Option Addr) (c : Bool), Inv X pins σ H s → H a=some (Exo a C d true c) → E (.ref a) none (upd H a (Exo a C d false c)) → X.xe (.ref a) s
section
variable {P : Program} {w : World} {K : PySem.W.Frag} {mg : Str → Option Value} {base : Heap} {N : List Str} {qual : Str} {scope : Scope} {f : Addr} {cd : Value} {A : Around} {outer : List Env} {s : Shared} {H : Hp} {E : XK}
theorem lx {pins : List (Addr × Obj)}{σ : St}{H1 : Hp}{s1 : Shared}{a C : Addr}{d : Option Addr}{b c : Bool}(I : Inv (iq (CXe P w) P w K mg base N qual scope f cd A outer s H E) pins σ H1 s1)
    (ha : H1 a=some (Exo a C d b c)) (hf : b=true ∨ Flt s1.heap a .none) (hE : E (.ref a) none (upd H1 a (Exo a C d false c))) : (iq (CXe P w) P w K mg base N qual scope f cd A outer s H E).xe (.ref a) s1 := by
  obtain ⟨⟨oe, vs, g1, g2, g3, g4, g5, g6, _⟩, _, _⟩ := I.hok a _ ha
  refine o8 (base := base) (outer := outer) I.ok.frames I.stack rfl g1 g4 (hf.imp (fun z => g6 z) id) fun h' Nt => ?_
  obtain ⟨un, hok⟩ := lu I.hok ha I.stkFree Nt
  have J := I.call' (s' := { s1 with heap := h' }) rfl un hok I.bare (fun b z => absurd z (by simp))
  obtain ⟨T, _, hT⟩ := Nt.fly
  exact ⟨a, C, d, c, _, rfl, J.os, J.bare, J.base, J.hok, ag .., ⟨T, hT⟩, hE⟩
theorem jP : o9 (iq (CXe P w) P w K mg base N qual scope f cd A outer s H E) E := fun pins σ H1 s1 a C d c I ha hE => lx I ha (.inl rfl) hE
end
end L2
namespace L2
open PySem PySem.Spec PyProof.Rows
abbrev bmV : List Value := [.type "ValueError", .type "Exception", .type "BaseException", .type "object"]
structure XCl (K : PySem.W.Frag) (C : Addr) (bm : List Value) : Prop where
  obj : ∃ dd cd k0 k1 k2 k3 k5, K.lookup C=some ⟨.type "type", dd, .cls cd, #[k0, k1, k2, k3, some (.builtin "ValueError.__new__"), k5]⟩ ∧ cd.mro = .ref C::bm ∧ cd.hasDel=false ∧ cd.hasDict=true
  tl : PySem.W.tailIn K bmV bm=true
  kp : PySem.W.keepIn K (.ref C)=true
abbrev jq (us : List Value) : Obj := { cls := .type "tuple", data := .seq us.toArray }
abbrev mG (C t : Addr) : Obj := { cls := .ref C, data := .fields #[.ref t, .none, .none, .none, .bool false, .none] }
theorem XCl.at {K : PySem.W.Frag}{C : Addr}{bm : List Value}{h : Heap}(x : XCl K C bm)(X : K.In h) : OwnTail h bmV bm ∧ ∃ nm q N bs sn sub ab col dd k0 k1 k2 k3 k5, h.get? C=some (excClassObj nm q C N bs bm true sn sub ab col dd k0 k1 k2 k3 k5 "ValueError.__new__") := by
  refine ⟨PySem.W.tail_of_in X x.tl, ?_⟩
  obtain ⟨dd, cd, k0, k1, k2, k3, k5, hl, hm, hd, hh⟩ := x.obj
  obtain ⟨nm, bs, mro, ns, qn, hdc, sn, sub, ab, col, del⟩ := cd
  dsimp only at hm hd hh
  subst hm hd hh
  exact ⟨nm, qn, ns, bs, sn, sub, ab, col, dd, k0, k1, k2, k3, k5, X _ _ hl⟩
section
variable {prog : Program} {w : World} {A : Around} {E : Value → Shared → Prop} {h : Heap} {g : Array GenState} {d : Drawn} {t : Nat} {os : OsState} {K : PySem.W.Frag} {C fI : Addr} {bm : List Value}
set_option maxHeartbeats 1600000 in
theorem iI {rest : List Value}{Q : Fin → Shared → Prop}(X : K.In h)(x : XCl K C bm)(hi : PySem.W.findIn K (.ref C) "__init__" = some (some (.ref fI)))(hf : PySem.W.isFn K (.ref fI)=true)
    (hq : wpAny (model prog w) A (call (.ref fI) (.ref (h.objs.size+1)::rest)) (fun r s' => r = .none ∧ Q (.done (.ret (.ref (h.objs.size+1)))) s') E ⟨(h.push (jq rest)).push (mG C h.objs.size), g, d, t, os⟩) (hrest : rest.length≤sizeLine) :
    wpAny (model prog w) A (Builtin.«type.__call__» ⟨.ref C::rest, []⟩) Q E ⟨h, g, d, t, os⟩ := by
  obtain ⟨T, nm, q, N, bs, sn, sub, ab, col, dd, k0, k1, k2, k3, k5, hC⟩ := x.at X
  have F := Af
  repeat (first | with_reducible refine x9 hC ?_ | with_reducible refine wpAny_madeBy_exc hC ?_ | wp_step)
  refine codeAny_call_builtin_code (Code.quiet_builtin _ F.quiet) (wpAny_check_new_subT F T hC ?_)
  refine codeAny_exc_new_subT F T hC ?_ hrest
  show wpAny _ _ _ _ _ _
  have k1 : ∀ b o, h.get? b=some o → ((h.push (jq rest)).push (mG C h.objs.size)).get? b=some o := fun b o e => wU _ (wU _ e)
  have hC₁ := k1 _ _ hC
  have X₁ : K.In ((h.push (jq rest)).push (mG C h.objs.size)) := fun b o e => k1 b o (X b o e)
  have hget : ((h.push (jq rest)).push (mG C h.objs.size)).get? (h.objs.size+1)=some (mG C h.objs.size) := by heap_get
  have hcC : (Value.ref C::bm).contains (.ref C)=true := by simp
  unfold isInstance
  repeat (first | with_reducible refine x9 hget ?_ | (with_reducible refine yN hC₁ ?_;rw [hcC]) | wp_step)
  show wpAny _ _ (typeLookup (.ref C) _) _ _ _
  refine (y3 (M := model prog w) X₁ hi).at ?_
  refine yd (fu ?_)
  unfold bindSpecial
  have L := PySem.W.looks_typeIn (M := model prog w) X₁ (AL.mp hf)
  refine fu (L.at ?_)
  rw [if_pos (by decide)]
  refine xb (fu (xY hq (fun r s' hr => ?_) fun _ _ x => x))
  obtain ⟨rfl, hQ⟩ := hr
  wp_walk
  exact hQ
theorem sO {rest : List Value}{Q : Value → Shared → Prop}(X : K.In h)(x : XCl K C bm)(hi : PySem.W.findIn K (.ref C) "__init__" = some (some (.ref fI)))(hf : PySem.W.isFn K (.ref fI)=true)
    (hq : wpAny (model prog w) (A.under (.builtin "type.__call__" ⟨.ref C::rest, []⟩)) (call (.ref fI) (.ref (h.objs.size+1)::rest)) (fun r s' => r = .none ∧ Q (.ref (h.objs.size+1)) s') E ⟨(h.push (jq rest)).push (mG C h.objs.size), g, d, t, os⟩) (hrest : rest.length≤sizeLine) :
    wpAny (model prog w) A (call (.ref C) rest) Q E ⟨h, g, d, t, os⟩ := by
  obtain ⟨T, nm, q, N, bs, sn, sub, ab, col, dd, k0, k1, k2, k3, k5, hC⟩ := x.at X
  have f1 := tc_lookup
  have f2 := tc_bind (.ref C)
  have hT : (⟨h, g, d, t, os⟩ : Shared).TypeIs (.ref C) "type" := ⟨_, hC, rfl⟩
  refine zr (codeAny_of_tree ?_)
  show wpAny _ _ (callAny (.ref C) _) _ _ _
  repeat (any_goals (first | assumption | with_reducible refine x9 hC ?_ | wp_step))
  refine ⟨rfl, ?_⟩
  exact codeAny_call_builtin_at (Code.quiet_builtin _ (by decide +kernel)) entry_typeCall (wpAny_check_type_call_sub hC (iI X x hi hf hq hrest))
end
section
variable {X : Cx} {k : Nat} {f C : Addr} {fd : FuncData} {ps : List Str} {sp : Sp} {x : Str} {p pos : Pos} {e : Expr} {es : List Expr} {t : TA} {bm : List Value}
theorem Inv.madeX {pins : List (Addr × Obj)}{σ : St}{H : Hp}{s : Shared}(I : Inv X pins σ H s)(us : List Value) : Inv X pins σ (upd H (s.heap.objs.size+1) (Exo (s.heap.objs.size+1) C none true true)) { s with heap := (s.heap.push (jq us)).push (mG C s.heap.objs.size) } := by
  have I1 := I.kept (h' := s.heap.push (jq us)) (t' := s.toks) (fun b u q => wU _ q)
  refine I1.laid (a := s.heap.objs.size+1) (t' := s.toks) (fun b u q => wU _ q) (Ah (yz _ _)) (jo ⟨mG C s.heap.objs.size, _, ?_, rfl, rfl, rfl, rfl, (fun _ => rfl), fun _ => rfl⟩)
  have := w6 (s.heap.push (jq us)) (o := mG C s.heap.objs.size) rfl
  rwa [yz] at this
theorem ly {pins : List (Addr × Obj)}{σ : St}{H : Hp}{s : Shared}{Q : VK}{us : List Value}{vs : List V}(M : XCl X.K C bm)(hi : PySem.W.findIn X.K (.ref C) "__init__" = some (some (.ref f)))(hf : PySem.W.isFn X.K (.ref f)=true)
    (F : gm X.prog X.w X.K X.mg X.base CX0 k f fd ps sp) (hr : b0 (k+1) X.A) (hb : ee X.K fd ps []) (I : Inv X pins σ H s) (r : aR vs us)
    (h : vs.length≤1000 ∧ ∀ x, H x=none → sp (.ref x::vs) (upd H x (Exo x C none true true)) (fun v H2 => v = .non ∧ Q (.ref x) H2) E0) : wpAny (model X.prog X.w) X.A (call (.ref C) us) (EP X pins σ Q) X.xe s := by
  obtain ⟨hl0, h⟩ := h
  have hq := h (s.heap.objs.size+1) (I.hok.fresh (Nat.le_succ _))
  have I2 := Inv.madeX (C := C) I us
  have r2 : aR (V.ref (s.heap.objs.size+1)::vs) (Value.ref (s.heap.objs.size+1)::us) := .cons rfl r
  have hl : (Value.ref (s.heap.objs.size+1)::us++[]).length=ps.length := by
    have e := r2.length
    rw [F.len _ _ _ _ hq] at e
    rw [x_]
    exact e.symm
  obtain ⟨hh, g, d, tk, os⟩ := s
  refine sO I.kIn M hi hf (zr ?_) (by rw [← r.length, yy];omega)
  have hb' := hb ⟨(hh.push (jq us)).push (mG C hh.objs.size), g, d, tk, os⟩ (Value.ref (hh.objs.size+1)::us) I2.kIn hl
  rw [x_] at hb'
  refine y_ (F.run _ X.stack _ _ ⟨Value.ref (hh.objs.size+1)::us, []⟩ (Value.ref (hh.objs.size+1)::us) _ _ E0 (hr.make C us []) (I2.env0.make C us []) hb' r2 hq) fun r s' hq' => ?_
  cases r with
  | error e => exact hq'.elim
  | ok fl =>
    cases fl with
    | ret u =>
      obtain ⟨v, H', I3, rv, ev, q3⟩ := I2.after hq'
      subst ev
      exact ⟨rv, ⟨V.ref (hh.objs.size+1), H', I3, rfl, q3⟩⟩
    | next => exact False.elim hq'
    | brk => exact False.elim hq'
    | cont => exact False.elim hq'
end
end L2
namespace L2
open PySem PySem.Spec PyProof.Rows Builtin Builtin.ObjectAttr
section
variable {prog : Program} {w : World} {A : Around} {E : Value → Shared → Prop} {h : Heap} {g : Array GenState} {d : Drawn} {t : Nat} {os : OsState} {K : PySem.W.Frag} {C e : Addr} {bm : List Value} {oe : Obj} {vs : Array Value}
theorem sP {rest : List Value}{R : Result → Shared → Prop}(X : K.In h)(x : XCl K C bm)(he : h.get? e=some oe)(hcls : oe.cls = .ref C)(hd : oe.data = .fields vs)(hsz : vs.size=6)(hrest : rest.length≤sizeLine)
    (hq : R (.ok (.ret .none)) ⟨(h.push (jq rest)).update e (Obj.mapFields (·.setIfInBounds 0 (.ref h.objs.size))), g, d, t, os⟩) :
    codeAny (model prog w) A (.call (.builtin "ValueError.__init__") ⟨.ref e::rest, []⟩) R ⟨h, g, d, t, os⟩ := by
  obtain ⟨T, nm, q, N, bs, sn, sub, ab, col, dd, k0, k1, k2, k3, k5, hC⟩ := x.at X
  have F := Af
  refine zM F.init.plain F.initEntry (wpAny_check_init_subT F T hC he hcls ?_)
  unfold Builtin.«BaseException.__init__»
  refine fu (m := newTuple rest) ?_
  unfold newTuple
  refine zC ?_ (by show rest.toArray.size≤sizeLine;rw [w5];exact hrest)
  have he₁ := wU (h := h) (jq rest) he
  have h0 : ∃ a0, vs[0]? = some a0 := ⟨vs[0], yA (by omega)⟩
  obtain ⟨a0, h0⟩ := h0
  unfold BaseException.bexcPut
  refine fu (fu (xJ he₁ hd h0 (fu (ym he₁ hd (by omega) ?_))))
  cases a0 <;> first | exact AQ (xb hq) | exact xb (xb hq)
theorem iJ {bm : List Value}{self : Value}(T : OwnTail h bmV bm) : refuseLoop self "__setattr__" bm=pure () := by
  induction T with
  | base => exact An.passes self
  | own _ _ _ _ ih => rw [refuseLoop_ref];exact ih
structure vN (h h' : Heap) (e : Addr) (oe : Obj) (name : Str) (v : Value) (mA : Str → Option Value) (dx : Addr) : Prop where
  ns : h'.Ns1 dx fun y => if y=name then some v else mA y
  exc : h'.get? e=some { oe with dict := some dx }
  keep : ∀ b o, b≠e → b≠dx → h.get? b=some o → h'.get? b=some o
section
variable {name : Str} {v : Value} {mA : Str → Option Value}
set_option maxHeartbeats 1600000 in
theorem jQ {tk : Tok}{Q : Fin → Shared → Prop}{ns : List Str}(X : K.In h)(x : XCl K C bm)(hna : PySem.W.findIn K (.ref C) name=some none)
    (hx : h.get? e=some oe) (hc : oe.cls = .ref C) (hnc : oe.data = .fields vs) (hd : (oe.dict=none ∧ ∀ n, mA n=none) ∨ ∃ dx, oe.dict=some dx ∧ dx≠e ∧ h.Ns1 dx mA)
    (hq : ∀ h' tk' dx, vN h h' e oe name v mA dx → (oe.dict=none → dx=h.objs.size) → (∀ dy, oe.dict=some dy → dx=dy) → Q (.done (.ret .none)) ⟨h', g, d, tk', os⟩) (hw : Within mA ns) (hsz : ns.length≤1000) :
    wpAny (model prog w) A (Builtin.«object.__setattr__» ⟨[.ref e, .str name tk, v], []⟩) Q E ⟨h, g, d, t, os⟩ := by
  obtain ⟨T, nm, q, N, bs, sn, sub, ab, col, dd, k0, k1, k2, k3, k5, hC⟩ := x.at X
  have hpass := iJ (self := .ref e) T
  have L := y3 (M := model prog w) X hna
  unfold Builtin.«object.__setattr__»
  repeat (first | rw [refuse_eq] | (rw [refuseLoop_ref, hpass]) | (with_reducible refine x9 hx ?_;rw [hc]) | with_reducible refine wpAny_mroOf_exc hC ?_ | with_reducible refine L.at ?_ | wp_step)
  rcases hd with ⟨hdn, hmA⟩ | ⟨dx, hdx, hne, hns⟩
  · rw [hdn, if_neg (by simp [typeHasDict])]
    split
    · rename_i hcd
      cases hcd
    split
    · rename_i c hcd
      rw [hnc] at hcd;cases hcd
    · have hx₁ : (h.push { cls := .type "dict", data := .dict #[] }).get? e=some oe := wU _ hx
      have hxs : e≠h.objs.size := xx (wZ hx)
      refine fu (wpAny_alloc' ?_)
      refine fu (wpAny_update' hx₁ ?_)
      refine xb ?_
      have hgd : ((h.push { cls := .type "dict", data := .dict #[] }).update e fun o => { cls := o.cls, dict := some h.objs.size, data := o.data, slots := o.slots }).get? h.objs.size
          = some { cls := .type "dict", data := .dict #[] } :=
        (Heap.get?_update_ne _ _ _ _ hxs.symm).trans (Heap.get?_push_at rfl rfl)
      have hnd : ((h.push { cls := .type "dict", data := .dict #[] }).update e fun o => { cls := o.cls, dict := some h.objs.size, data := o.data, slots := o.slots }).Ns h.objs.size (fun _ => none) :=
        ⟨_, #[], _, hgd, rfl, fun e he => absurd he (by simp), fun _ => rfl⟩
      show wpAny _ _ (storeInDict h.objs.size (.str name tk) name v) _ _ _
      unfold storeInDict newKeyGuard
      refine fu (xb (fu (wpAny_nsSet1 (Heap.Ns1.of_empty hnd) fun h' hn' hs => ?_)))
      obtain ⟨oD, esD, epD, hoD, hdD, hcD⟩ := hn'.count (Within.cons name v Within.nil)
      refine fu (wpAny_lookBehind hoD (by rw [hdD];exact pastItsLine_dict (xG hcD (by rw [xu, yV, yy];omega))) ?_)
      wp_walk
      refine hq h' _ h.objs.size ⟨?_, ?_, fun b o hbx _ hb => ?_⟩ (fun _ => rfl) fun dy q => by rw [hdn] at q;cases q
      · obtain ⟨o', es, ep, e1, e2, e3, eu, e4⟩ := hn'
        exact ⟨o', es, ep, e1, e2, e3, eu, fun y => by rw [e4 y];by_cases hy : y=name <;> simp [hy, hmA]⟩
      · exact (hs.2 e hxs).trans (xO _ hx₁ (yc hnc))
      · exact (hs.2 b (xx (wZ hb))).trans ((Heap.get?_update_ne _ _ _ _ hbx).trans (wU _ hb))
  · rw [hdx]
    refine xb ?_
    show wpAny _ _ (storeInDict dx (.str name tk) name v) _ _ _
    unfold storeInDict newKeyGuard
    refine fu (xb (fu (wpAny_nsSet1 hns fun h' hn' hs => ?_)))
    obtain ⟨oD, esD, epD, hoD, hdD, hcD⟩ := hn'.count (Within.cons name v hw)
    refine fu (wpAny_lookBehind hoD (by rw [hdD];exact pastItsLine_dict (xG hcD (by rw [xu, yy];omega))) ?_)
    wp_walk
    refine hq h' _ dx ⟨hn', ?_, fun b ob _ hbd hb => (hs.2 b hbd).trans hb⟩ (fun q => by rw [hdx] at q;cases q) fun dy q => by rw [hdx] at q;cases q;rfl
    rw [(hs.2 e hne.symm).trans hx]
    obtain ⟨c, dd, dt, sl⟩ := oe
    simp only at hdx
    subst hdx
    rfl
theorem lz {M : Model}{nameV : Value}{Q : Unit → Shared → Prop}(X : K.In h)(x : XCl K C bm)(hx : h.get? e=some oe)(hc : oe.cls = .ref C)(hq : Q () ⟨h, g, d, t, os⟩) :
    wpAny M A (checkBuiltinCall "object.__setattr__" ⟨[.ref e, nameV, v], []⟩) Q E ⟨h, g, d, t, os⟩ := by
  obtain ⟨T, nm, q, N, bs, sn, sub, ab, col, dd, k0, k1, k2, k3, k5, hC⟩ := x.at X
  have SF := An
  have hcB : (Value.ref C::bm).contains (.type "object")=true := by rw [zi, T.hasType SF.hasOwner, AJ]
  have ha := SF.args (.ref e) nameV v
  simp only [checkBuiltinCall, SF.kind, SF.split]
  refine fu ?_
  unfold isInstance
  repeat (first | (with_reducible refine x9 hx ?_;rw [hc]) | (with_reducible refine yN hC ?_;rw [hcB]) | wp_step)
  exact hq
theorem u5 {Q : Unit → Shared → Prop}{ns : List Str}(X : K.In h)(x : XCl K C bm)(hsa : PySem.W.findIn K (.ref C) "__setattr__" = some (some (.builtin "object.__setattr__")))(hna : PySem.W.findIn K (.ref C) name=some none)
    (hx : h.get? e=some oe) (hc : oe.cls = .ref C) (hnc : oe.data = .fields vs) (hd : (oe.dict=none ∧ ∀ n, mA n=none) ∨ ∃ dx, oe.dict=some dx ∧ dx≠e ∧ h.Ns1 dx mA)
    (hq : ∀ h' tk' dx, vN h h' e oe name v mA dx → (oe.dict=none → dx=h.objs.size) → (∀ dy, oe.dict=some dy → dx=dy) → Q () ⟨h', g, d, tk', os⟩) (hw : Within mA ns) (hsz : ns.length≤1000) :
    wpAny (model prog w) A (setAttr (.ref e) name v) Q E ⟨h, g, d, t, os⟩ := by
  obtain ⟨T, nm, q, N, bs, sn, sub, ab, col, dd, k0, k1, k2, k3, k5, hC⟩ := id (x.at X)
  have SF := An
  have f3 := SF.slot.bind (.ref e)
  have L := y3 (M := model prog w) X hsa
  unfold setAttr callSpecial? specialOf
  repeat (any_goals (first | assumption | (with_reducible refine x9 hx ?_;rw [hc]) | with_reducible refine L.at ?_ | wp_step))
  refine zM SF.slot.plain SF.entry (lz X x hx hc (jQ X x hna hx hc hnc hd (fun h' tk' dx a b c => ?_) hw hsz))
  repeat (any_goals (first | assumption | wp_step))
  exact hq h' tk' dx a b c
end
end
end L2
namespace L2
open PySem PySem.Spec PyProof.Rows
def xdt (d : Addr)(fs : List (Str × V)) : Heap → Prop := fun h => ∃ mA, h.Ns1 d mA ∧ (∀ f, i5 (fs.lookup f) (mA f)) ∧ PySem.Within mA (fs.map (·.1))
abbrev Xdt (d : Addr)(fs : List (Str × V)) : HO := .ext (xdt d fs)
theorem sQ {P : Program}{w : World}{H : Hp}{h : Heap}{d : Addr}{fs : List (Str × V)}(x : xdt d fs h) : bu P w H h d (Xdt d fs) :=
  ⟨x, let ⟨_, ⟨o, _, _, q, _⟩, _⟩ := x;⟨o, q⟩, fun _ _ y k => let ⟨mA, n, r⟩ := y;⟨mA, n.at k, r⟩⟩
structure XAt (K : PySem.W.Frag) (C : Addr) : Prop where
  cl : ∃ bm, XCl K C bm
  sa : PySem.W.findIn K (.ref C) "__setattr__" = some (some (.builtin "object.__setattr__"))
  ga : PySem.W.findIn K (.ref C) "__getattribute__" = some (some (.builtin "BaseException.__getattribute__"))
  gn : PySem.W.findIn K (.ref C) "__getattr__" = some none
section
variable {X : Cx} {pins : List (Addr × Obj)} {σ : St} {H : Hp} {s : Shared} {A : Around} {E : Value → Shared → Prop} {a C : Addr} {b cx : Bool} {f : Str} {y : V} {u : Value} {Q : Unit → Shared → Prop}
theorem ck {P : Program}{w : World}{h : Heap}{d : Option Addr}(ok : HOk P w H h)(e : H a=some (Exo a C d b cx)) : exo a C d b cx h := (ok a _ e).1
theorem qp {P : Program}{w : World}{h : Heap}{d : Addr}{fs : List (Str × V)}(ok : HOk P w H h)(e : H d=some (Xdt d fs)) : xdt d fs h := (ok d _ e).1
theorem nF (I : Inv X pins σ H s)(ea : H a=some (Exo a C none b cx))(x : XAt X.K C)(hna : PySem.W.findIn X.K (.ref C) f=some none)(ry : a7 y u)
    (h : ∀ s' dx, H dx=none → dx≠a → Inv X pins σ (upd (upd H a (Exo a C (some dx) b cx)) dx (Xdt dx [(f, y)])) s' → Q () s') : wpAny (model X.prog X.w) A (setAttr (.ref a) f u) Q E s := by
  obtain ⟨oe, vs, g1, g2, g3, g4, g5, g6⟩ := ck I.hok ea
  obtain ⟨bm, xc⟩ := x.cl
  obtain ⟨hh, g, dr, tk, os⟩ := s
  refine u5 (mA := fun _ => none) (ns := []) I.kIn xc x.sa hna g1 g2 g4 (.inl ⟨g3, fun _ => rfl⟩) (fun h' tk' dx S d1 _ => ?_) (fun n hn => absurd rfl hn) (by simp)
  have hdx : dx=hh.objs.size := d1 g3
  have hfr : H dx=none := I.hok.fresh (Ah hdx.symm)
  have nea : dx≠a := fun z => by rw [z, ea] at hfr;cases hfr
  have nin : ∀ c o, hh.get? c=some o → c≠dx := fun c o q z => absurd (wZ q) (by rw [z, hdx];exact xK _)
  have neA : ∀ c, H c=none → c≠a := fun c n z => by rw [z, ea] at n;cases n
  have neA' : ∀ c v, H c=some v → v≠Exo a C none b cx → c≠a := fun c v q n z => by rw [z, ea] at q;cases q;exact n rfl
  have neD : ∀ c v, H c=some v → c≠dx := fun c v q z => by rw [z, hfr] at q;cases q
  have same : ∀ c v, H c=some v → v≠Exo a C none b cx → upd (upd H a (Exo a C (some dx) b cx)) dx (Xdt dx [(f, y)]) c=some v := fun c v q n => by rw [ao (neD c v q), ao (neA' c v q n)];exact q
  refine h _ dx hfr nea (I.un (t' := tk') ⟨fun c o q n _ _ => S.keep c o (neA c n) (nin c o q) q, fun c o q n _ _ => ⟨o.slots, S.keep c o (neA c n) (nin c o q) q⟩,
    fun c o q n _ => by rw [ao (nin c o q), ao (neA c n)];exact n, fun c o q _ => ?_, fun c xs q => same c _ q (by intro z;cases z), fun c o v q => same c _ q (by intro z;cases z), fun c ps q => ⟨#[], by rw [same c _ q (by intro z;cases z)];simp⟩⟩ fun c v q => ?_)
  · by_cases z : c=a
    · subst z;exact ⟨_, S.exc⟩
    · exact ⟨o, S.keep c o z (nin c o q) q⟩
  · by_cases z : c=dx
    · subst z
      rw [ag] at q;cases q
      refine sQ ⟨_, S.ns, fun n => ?_, fun n hn => ?_⟩
      · show i5 (List.lookup n [(f, y)]) (if n=f then some u else none)
        by_cases z : n=f
        · subst z;rw [if_pos rfl, yh, yr];exact ry
        · rw [if_neg z, yh, zS.mpr z];exact True.intro
      · by_cases z : n=f
        · subst z;exact xv
        · exact absurd (show (if n=f then some u else none)=none by rw [if_neg z]) hn
    · rw [ao z] at q
      by_cases y' : c=a
      · subst y'
        rw [ag] at q;cases q
        exact jo ⟨_, vs, S.exc, g2, rfl, g4, g5, g6⟩
      · rw [ao y'] at q
        have hc := I.hok c v q
        refine hc.stay (fun p o hp r => S.keep p o ?_ (nin p o r) r) (fun p hp => same p _ hp (by intro z;cases z)) fun p xs hp => same p _ hp (by intro z;cases z)
        rcases hp with rfl | hp
        · exact y'
        · exact neA' p _ hp (by intro z;cases z)
end
def wJ (K : PySem.W.Frag)(ta tv : TE)(f : Str) : TS := fun D σ H => tv σ H fun y H1 => ta σ H1 fun x H2 => ∃ a C b cx, x = .ref a ∧ H2 a=some (Exo a C none b cx) ∧ XAt K C ∧ PySem.W.findIn K (.ref C) f=some none ∧
  ∀ dx, H2 dx=none → dx≠a → D.nx σ (upd (upd H2 a (Exo a C (some dx) b cx)) dx (Xdt dx [(f, y)]))
section
variable {X : Cx} {o e value : Expr} {es : List Expr} {f x : Str} {p pos pos' apos : Pos} {ta tv te : TE} {t : TA} {R : Addr} {E : XK}
theorem sR (ha : PE X o ta)(hv : PE X value tv)(hs : swapsWith value (some (.Attribute o f pos')) pos.line X.env=pure false) : PS X (.Assign [.Attribute o f pos'] value pos) (wJ X.K ta tv f) := by
  intro pins s σ H D I h
  refine plainObj_wpAny_Assign_Attribute (thn (hv pins s σ H _ I h) fun u s1 ⟨y, H1, I1, ry, q⟩ => thn (ha pins s1 σ H1 _ I1 q) fun ov s2 zq1 => ?_) hs
  obtain ⟨z, H2, I2, rx, a, C, b, cx, ex, ea, c, n, q2⟩ := zq1
  subst ex
  obtain rfl : ov=Value.ref a := rx
  exact nF I2 ea c n ry fun s3 dx h1 h2 I3 => ⟨σ, _, I3, q2 dx h1 h2⟩
def sS (K : PySem.W.Frag)(t : TA) : TE := fun σ H Q => t σ H fun vs H1 => ∃ a C d b cx rest, vs = .ref a::rest ∧ rest.length≤1000 ∧ H1 a=some (Exo a C d b cx) ∧ XAt K C ∧ Q .non H1
structure qq (K : PySem.W.Frag) (R : Addr) : Prop where
  rd : PySem.W.readsIn K R (.type "type")=true
  at_ : PySem.W.findCls K (.ref R) (.type "type") "__init__" = some (.val (.builtin "ValueError.__init__"))
  ga : PySem.W.specialIn K (.ref R) "__getattribute__" = some (some (.builtin "type.__getattribute__"))
  hd : PySem.W.handedIn (.builtin "ValueError.__init__")=true
theorem nG {pins : List (Addr × Obj)}{σ : St}{H : Hp}{s : Shared}{A : Around}{F : Value → Shared → Prop}{Q : Value → Shared → Prop}{a C : Addr}{d : Option Addr}{b cx : Bool}{rest : List Value}(I : Inv X pins σ H s)(ea : H a=some (Exo a C d b cx))(x : XAt X.K C)(hl : rest.length≤1000)
    (h : ∀ s', Inv X pins σ H s' → Q .none s') : wpAny (model X.prog X.w) A (call (.builtin "ValueError.__init__") (.ref a::rest)) Q F s := by
  obtain ⟨oe, vs, g1, g2, g3, g4, g5, g6⟩ := ck I.hok ea
  obtain ⟨bm, xc⟩ := x.cl
  obtain ⟨hh, g, dr, tk, os⟩ := s
  refine zr (sP I.kIn xc g1 g2 g4 g5 (by rw [yy];omega) (h _ ?_))
  have I1 := I.kept (h' := hh.push (jq rest)) (t' := tk) (fun b u q => wU _ q)
  have g1' := wU (h := hh) (jq rest) g1
  have hd' := xX g4 (·.setIfInBounds 0 (Value.ref hh.objs.size))
  have e' := xO (Obj.mapFields (·.setIfInBounds 0 (Value.ref hh.objs.size))) g1' (yc hd')
  have I2 := I1.write (t' := tk) (x := a) (e := a) (h' := (hh.push (jq rest)).update a (Obj.mapFields (·.setIfInBounds 0 (Value.ref hh.objs.size)))) (o := Exo a C d b cx) (by rw [ea];exact True.intro) (.inl rfl) (fun c o hc q => (xD _ _ (Ne.symm hc)).trans q) ⟨_, e'⟩
    (jo ⟨_, _, e', (zA _ _).trans g2, by
      rw [← g3]
      obtain ⟨c1, c2, c3, c4⟩ := oe
      cases c3 <;> rfl, hd', by rw [Array.size_setIfInBounds];exact g5, (fun z => by rw [yG (by decide)];exact g6.1 z), fun z => by rw [yG (by decide)];exact g6.2 z⟩)
  rwa [fN ea] at I2
theorem nH {pl : Sem Bool}(B : qq X.K R)(hg : Gl X x)(hm : X.mg x=some (.ref R))(ha : PA X (e::es) t)(hdb : (x == ("__debug__" : Str))=false := by decide)
    (hst : starEach (e::es) X.env=(false, eval e X.env)::starEach es X.env := by rfl) (hpl : (backTo pos (starEach es X.env)).any (·.1)=false := by rfl)
    (ht : eval (.Call (.Attribute (.Name x p) "__init__" apos) (e::es) [] pos) X.env=(do
      let ov ← eval (.Name x p) X.env
      standAt apos.atName
      let (f, first) ← holding [ov] (getMethod ov "__init__" pl)
      callWith pos f first (backTo pos (starEach (e::es) X.env)) (backToKw pos (keywordEach [] X.env))) := by rfl) :
    PE X (.Call (.Attribute (.Name x p) "__init__" apos) (e::es) [] pos) (sS X.K t) := by
  intro pins s σ H Q I h
  refine PySem.W.methodCall_KW (pl := pl) (cH I hg hm ?_ hdb) ht
  refine PySem.W.method_cls I.kIn B.ga (PySem.W.cls_value I.kIn B.rd B.at_ B.hd ?_)
  refine zG (thn (ha pos pins _ σ H _ (I.tok _) h) fun us s2 zq3 => ?_) hst hpl
  obtain ⟨vs, H2, I2, r, a, C, d, b, cx, rest, ev, hl, ea, xa, q2⟩ := zq3
  subst ev
  cases r with
  | cons r1 r2 =>
    obtain rfl : _=Value.ref a := r1
    exact nG I2 ea xa (by rw [← r2.length];exact hl) fun s3 I3 => ⟨.non, H2, I3, rfl, q2⟩
def sT (K : PySem.W.Frag)(te : TE)(E : XK) : TS := fun D σ H => te σ H fun v H1 => ∃ a C d cx, v = .ref a ∧ H1 a=some (Exo a C d true cx) ∧ XAt K C ∧ E (.ref a) none (upd H1 a (Exo a C d false cx))
theorem lA (hx : o9 X E)(hc : X.calm=true)(he : PE X e te) : PS X (.Raise (some e) none pos) (sT X.K te E) := by
  intro pins s σ H D I h
  rw [arm_exec_Raise]
  refine fu (zN ?_)
  unfold raiseStmt
  refine fu (fu (thn (he pins s σ H _ I h) fun v s1 ⟨y, H1, I1, ry, a, C, d, cx, ey, ea, xa, q⟩ => fu (zN (xb ?_))))
  subst ey
  obtain rfl : v=Value.ref a := ry
  have fin := hx pins σ H1 s1 a C d cx I1 ea q
  obtain ⟨⟨oc, od, odt, osl⟩, vs, g1, g2, g3, g4, g5, g6⟩ := ck I1.hok ea
  simp only at g2 g3 g4
  subst g2 g3 g4
  obtain ⟨bm, xc⟩ := xa.cl
  obtain ⟨T, nm, q, N, bs, sn, sub, ab, col, dd, k0, k1, k2, k3, k5, hC⟩ := xc.at I1.kIn
  have hcB : (Value.ref C::bm).contains (.type "BaseException")=true := by rw [zi, T.hasType Af.hasBase, AJ]
  have hh := I1.ok.hd hc
  obtain ⟨hp, g, dr, tk, os⟩ := s1
  repeat (first | with_reducible refine x9 g1 ?_ | with_reducible refine x9 hC ?_ | (with_reducible refine yN hC ?_;rw [hcB]) | wp_step)
  rw [g6.1 rfl]
  refine xb ?_
  rw [if_neg (by decide)]
  exact xb (wpAny_raiseNew_none hh fin)
end
end L2
namespace L2
open PySem PySem.Spec PyProof.Rows
theorem XCl.mro {K : PySem.W.Frag}{C : Addr}{bm : List Value}{h : Heap}(x : XCl K C bm)(X : K.In h){T : String}{b : Bool}(hb : bmV.contains (.type T)=b) : PySem.W.mroIn K C (.type T)=some b := by
  have T' := PySem.W.tail_of_in X x.tl
  obtain ⟨dd, cd, k0, k1, k2, k3, k5, hl, hm, hd, hh⟩ := x.obj
  unfold PySem.W.mroIn PySem.W.clsIn
  rw [hl, Option.bind_some, hm, if_neg (by simp), zi, T'.hasType hb]
  rfl
theorem XCl.cls {K : PySem.W.Frag}{C : Addr}{bm : List Value}(x : XCl K C bm) : ∃ cd, PySem.W.clsIn K C=some cd ∧ cd.hasDict=true := by
  obtain ⟨dd, cd, k0, k1, k2, k3, k5, hl, hm, hd, hh⟩ := x.obj
  exact ⟨cd, by unfold PySem.W.clsIn;rw [hl], hh⟩
section
variable {prog : Program} {w : World} {A : Around} {E : Value → Shared → Prop} {s : Shared} {K : PySem.W.Frag} {C a : Addr} {bm : List Value} {oe : Obj} {od : Option Obj} {name : Str} {fill expr : Bool} {tk : Tok}
theorem jr {Q : Value → Shared → Prop}(X : K.In s.heap)(I : PySem.W.InstAt s.heap a oe C od)(x : XAt K C)
    (h : wpAny (model prog w) A.in1 (Builtin.«object.__getattribute__» ⟨[.ref a, .str name tk], []⟩) (fun fin s' => match fin with | .done (.ret v) => wpAny (model prog w) A (handedOut v) Q E s' | _ => False) (fun _ _ => False) s) :
    wpAny (model prog w) A (getAttrBy (.ref a) (.str name tk) fill expr) Q E s := by
  obtain ⟨bm, xc⟩ := x.cl
  have hmB := xc.mro X (T := "BaseException") (b := true) Af.hasBase
  have L0 := I.type (M := model prog w)
  unfold getAttrBy
  refine yd (fu (L0.here (fu ((y3 X x.ga).here ?_))))
  dsimp only
  rw [show (onTheHeap (Value.ref C) && Value.builtin "BaseException.__getattribute__" == Value.builtin "object.__getattribute__")=false from by rw [show (Value.builtin "BaseException.__getattribute__" == Value.builtin "object.__getattribute__")=false from by decide +kernel, AM], if_neg (by decide)]
  unfold getAttrByItsOwn
  refine fu ((PySem.W.looks_hook (mc := .ref C) (r := none) X (by rw [if_pos (show onTheHeap (Value.ref C)=true from rfl)];exact x.gn)).here (fu (yL (yd ?_))))
  unfold callGetattribute
  rw [show (expr && onTheHeap (Value.builtin "BaseException.__getattribute__"))=false from AM _, if_neg (by decide)]
  unfold boundAndCalled
  rw [PySem.F.attr_ValueError.ga.bind]
  refine fu (xb ?_)
  show wpAny _ _ (call (.builtin "BaseException.__getattribute__") [.ref a, .str name tk]) _ _ _
  refine zr (zM PySem.F.attr_ValueError.ga.plain PySem.F.entry_bexc_ga ?_)
  have hk : builtinKind "BaseException.__getattribute__" = some .slot := by decide +kernel
  have hsp : splitId "BaseException.__getattribute__" = some ("BaseException", "__getattribute__") := by decide +kernel
  have LI : PySem.W.Looks (model prog w) s.heap (isInstance (.ref a) (.type "BaseException")) true := L0.andThen (PySem.W.looks_mroIn X hmB)
  refine @PySem.W.check_slot (model prog w) _ _ s "BaseException.__getattribute__" "BaseException" "__getattribute__" (.ref a) [.str name tk] [] _ hk hsp LI (PySem.F.args_bexc_ga (.ref a) (.str name tk)) ?_
  refine xY h (fun fin s' z => ?_) fun _ _ z => z.elim
  rcases fin with (_ | _ | _ | _) | _ <;> first | exact z | exact z.elim
theorem nI {v : Value}{Q : Fin → Shared → Prop}(X : K.In s.heap)(I : PySem.W.InstAt s.heap a oe C od)(hf : PySem.W.findObj K C od name=some (.value v))(h : Q (.done (.ret v)) s) :
    wpAny (model prog w) A (Builtin.«object.__getattribute__» ⟨[.ref a, .str name tk], []⟩) Q E s := by
  have L0 := I.type (M := model prog w)
  have L1 := PySem.W.looks_find (M := model prog w) X I hf
  refine fu (xb (fu (xb (fu (L0.here (fu (L1.here ?_)))))))
  exact xb h
theorem qr {g b : Value}{Q : Fin → Shared → Prop}(X : K.In s.heap)(I : PySem.W.InstAt s.heap a oe C od)(hf : PySem.W.findObj K C od name=some (.bind g b))
    (h : wpAny (model prog w) A (call g [b, .ref a, .ref C]) (fun v s' => Q (.done (.ret v)) s') E s) :
    wpAny (model prog w) A (Builtin.«object.__getattribute__» ⟨[.ref a, .str name tk], []⟩) Q E s := by
  have L0 := I.type (M := model prog w)
  have L1 := PySem.W.looks_find (M := model prog w) X I hf
  refine fu (xb (fu (xb (fu (L0.here (fu (L1.here ?_)))))))
  show wpAny _ _ (holding [b] (call g [b, .ref a, .ref C]) >>= ret) _ _ _
  exact fu (yd (xY h (fun v s' z => xb z) fun _ _ z => z))
end
theorem XCl.hasDict {K : PySem.W.Frag}{C : Addr}{bm : List Value}(x : XCl K C bm) : PySem.W.hasDictIn K C=true := by
  obtain ⟨cd, h1, h2⟩ := x.cls
  unfold PySem.W.hasDictIn
  rw [h1]
  exact h2
structure XCa (K : PySem.W.Frag) (C : Addr) : Prop where
  at_ : XAt K C
  ca : PySem.W.findIn K (.ref C) "__class__" = some (some (.builtin "object.__class__"))
  gt : PySem.W.specialIn K (.builtin "object.__class__") "__get__" = some (some (.builtin "getset_descriptor.__get__"))
  tk : PySem.W.takesIn K (.builtin "object.__class__")=some true
theorem nJ {K : PySem.W.Frag}{C a : Addr}(x : XCa K C) : PySem.W.KitX K (.ref a) (.ref C) (fun h => ∃ oe od, PySem.W.InstAt h a oe C (some od)) where
  ty := fun _ _ _ zq1 => (by obtain ⟨_, _, I⟩ := zq1;exact I.type)
  it := fun _ _ X _ => by
    obtain ⟨bm, xc⟩ := x.at_.cl
    obtain ⟨dd, cd, k0, k1, k2, k3, k5, ho, _⟩ := xc.obj
    intro A' Q' E' s' k q
    unfold isType loadHead
    exact fu (wpAny_loadPart (k _ _ (X _ _ ho)) (xb q))
  ne := fun h tp dd its n sl X htp => by
    obtain ⟨bm, xc⟩ := x.at_.cl
    obtain ⟨dd, cd, k0, k1, k2, k3, k5, ho, _⟩ := xc.obj
    refine Bool.eq_false_iff.mpr fun q => ?_
    have e : C=tp := Value.ref.inj (AL.mp q)
    subst e
    have z := xH Obj.data (w4 ((X _ _ ho).symm.trans htp))
    cases z
  ca := fun {prog w A E Q s} X ⟨oe, od, I⟩ k => by
    obtain ⟨bm, xc⟩ := x.at_.cl
    obtain ⟨cd, hc, _⟩ := xc.cls
    have hf : PySem.W.findObj K C (some od) "__class__" = some (.bind (.builtin "getset_descriptor.__get__") (.builtin "object.__class__")) := PySem.W.findObj_data (by rw [hc];rfl) x.ca x.gt x.tk
    refine fu (wpAny_mkText ?_)
    unfold getAttrBy?
    refine fu (yL ?_)
    refine jr (s := { s with toks := s.toks+1 }) X I x.at_ (qr (s := { s with toks := s.toks+1 }) X I hf (zr ?_))
    exact PySem.W.class_get (s := { s with toks := s.toks+1 }) (ox := oe) (od := some od) X I (xc.mro X An.hasOwner) (PySem.W.handed_on rfl (xb k))
section
variable {X : Cx} {pins : List (Addr × Obj)} {σ : St} {H : Hp} {s : Shared} {A : Around} {E : Value → Shared → Prop} {a C dx : Addr} {b cx : Bool} {fs : List (Str × V)} {f : Str} {v : V}
theorem js (I : Inv X pins σ H s)(ea : H a=some (Exo a C (some dx) b cx))(ed : H dx=some (Xdt dx fs)) : ∃ oe od, PySem.W.InstAt s.heap a oe C (some od) ∧ ∃ mA : Str → Option Value, (∀ n, PySem.W.lookIn n od=some (mA n)) ∧ ∀ n, i5 (fs.lookup n) (mA n) := by
  obtain ⟨oe, vs, g1, g2, g3, g4, g5, g6⟩ := ck I.hok ea
  obtain ⟨mA, n1, n2, n3⟩ := qp I.hok ed
  obtain ⟨od, ho, hl⟩ := kl n1
  exact ⟨oe, od, ⟨g1, g2, by unfold PySem.W.notCls;rw [g4], by rw [g3];exact ho⟩, mA, hl, n2⟩
theorem qt {ex : Bool}{Q : Value → Shared → Prop}(I : Inv X pins σ H s)(ea : H a=some (Exo a C (some dx) b cx))(ed : H dx=some (Xdt dx fs))(x : XAt X.K C)(hna : PySem.W.findIn X.K (.ref C) f=some none)(l : fs.lookup f=some v)
    (h : ∀ u s', Inv X pins σ H s' → a7 v u → Q u s') : wpAny (model X.prog X.w) A (getAttr (.ref a) f ex) Q E s := by
  obtain ⟨oe, od, J, mA, hl, r⟩ := js I ea ed
  obtain ⟨bm, xc⟩ := x.cl
  obtain ⟨u, hu, ru⟩ := i5.some_of (v := v) (o := mA f) (by rw [← l];exact r f)
  have hf : PySem.W.findObj X.K C (some od) f=some (.value u) := PySem.W.findObj_own xc.hasDict hna rfl (by rw [hl, hu])
  refine fu (wpAny_mkText ?_)
  refine jr (s := { s with toks := s.toks+1 }) I.kIn J x (nI (s := { s with toks := s.toks+1 }) I.kIn J hf ?_)
  exact PySem.W.handed_on (km ru) (h u _ (I.tok _) ru)
end
def tFx (K : PySem.W.Frag)(ta : TE)(f : Str) : TE := fun σ H Q => ta σ H fun x H1 => ∃ a C b cx dx fs v, x = .ref a ∧ H1 a=some (Exo a C (some dx) b cx) ∧ H1 dx=some (Xdt dx fs) ∧ XAt K C ∧ PySem.W.findIn K (.ref C) f=some none ∧ fs.lookup f=some v ∧ Q v H1
inductive u6 (K : PySem.W.Frag)(xs : List V)(H : Hp)(Q : VK) : Prop
  | mk : ∀ a C b cx dx fs c t r, (xs=[.ref a, c]) → (H a=some (Exo a C (some dx) b cx)) → (H dx=some (Xdt dx fs)) → (XCa K C) → ((∀ u, a7 c u → u=t)) → (PySem.W.kitOne K (.ref C) t=some r) → (Q (.bl r) H) → u6 K xs H Q
section
variable {X : Cx} {e : Expr} {f : Str} {pos : Pos} {ta : TE}
theorem u7 (he : PE X e ta)(hb : attributeBase e f X.env (eval e X.env)=eval e X.env) : PE X (.Attribute e f pos) (tFx X.K ta f) := by
  intro pins s σ H Q I h
  refine pL hb (thn (he pins s σ H _ I h) fun u s1 zq2 => ?_)
  obtain ⟨x, H1, I1, rx, a, C, b, cx, dx, fs, v, ex, ea, ed, c, n, l, q⟩ := zq2
  subst ex
  obtain rfl : u=Value.ref a := rx
  exact qt I1 ea ed c n l fun u' s2 I2 ru => ⟨v, H1, I2, ru, q⟩
theorem nK : c_ X (.builtin "isinstance") (u6 X.K) := by
  intro pins s σ H xs us Q I r h
  obtain ⟨a, C, b, cx, dx, fs, c, t, rr, rfl, ea, ed, x, hc, e, q⟩ := h
  obtain ⟨u, u2, rfl, rx, r2⟩ := pK r
  obtain rfl := hc _ r2
  obtain rfl : u=Value.ref a := rx
  obtain ⟨oe, od, J, _⟩ := js I ea ed
  exact PySem.W.kia_one (nJ x) I.kIn ⟨oe, _, J⟩ e (fun z => nomatch z) fun tk => ⟨.bl rr, H, I.tok _, rfl, q⟩
end
end L2
namespace L2
open PySem PySem.Spec PyProof.Rows
abbrev Hd (X : Cx)(v : Value) : Cx := { X with A := X.A.mark (some v), calm := false, xe := fun _ _ => False }
theorem Inv.hold {X : Cx}{pins : List (Addr × Obj)}{σ : St}{H : Hp}{s : Shared}(I : Inv X pins σ H s)(v : Value) : Inv (Hd X v) pins σ H s :=
  ⟨⟨I.ok.mod, I.ok.kind, I.ok.glob, I.ok.blt, I.ok.above, I.ok.inj, I.ok.has, I.ok.cab, (fun z => by cases z), I.ok.frames, I.ok.stk, I.ok.exf, I.ok.bs, I.ok.bsz, I.ok.noex, I.ok.exfs, I.ok.funs, I.ok.frf⟩, I.os, I.bare, I.base, I.loc, I.cell, I.free, I.freeC, I.pin, I.hok, I.len⟩
theorem Inv.offHold {X : Cx}{pins : List (Addr × Obj)}{σ : St}{H : Hp}{s : Shared}{v : Value}(ok : X.Ok)(I : Inv (Hd X v) pins σ H s) : Inv X pins σ H s :=
  ⟨ok, I.os, I.bare, I.base, I.loc, I.cell, I.free, I.freeC, I.pin, I.hok, I.len⟩
def XE (X : Cx)(pins : List (Addr × Obj))(σ : St)(E : XK)(e : Value)(s' : Shared) : Prop :=
  ∃ a C d c H', e = .ref a ∧ Inv X pins σ H' s' ∧ H' a=some (Exo a C d false c) ∧ Flt s'.heap a .none ∧ E (.ref a) none H'
def PEE (X : Cx)(E : XK)(e : Expr)(t : TE) : Prop :=
  ∀ (pins : List (Addr × Obj)) (s : Shared) (σ : St) (H : Hp) (Q : VK), Inv X pins σ H s → t σ H Q → wpAny (model X.prog X.w) X.A (eval e X.env) (EP X pins σ Q) (XE X pins σ E) s
section
variable {X : Cx} {pins : List (Addr × Obj)} {σ : St} {H : Hp} {s : Shared}
theorem XE.of {E : XK}{e : Value}{s' : Shared}(I : Inv X pins σ H s)(h : CXe X.prog X.w X.stack H s E e s') : XE X pins σ E e s' := by
  obtain ⟨a, C, d, c, H', he, os, bare, un, hok, ha, hf, hE⟩ := h
  exact ⟨a, C, d, c, H', he, I.call' os un hok bare (fun b z => absurd z (by simp)), ha, hf, hE⟩
theorem fO {M : Model}{A : Around}{E : Value → Shared → Prop}{i : Nat}{x : Str}{pos : Pos}{Q : Unit → Shared → Prop}(I : Inv X pins σ H s)(hN : X.N.Nodup)(hi : X.N[i]? = some x)(hx : X.env.scope.names.lookup x=some .local)
    (h : ∀ s', Inv X pins (σ.set i none) H s' → Q () s') : wpAny M A (do bindName X.env x .none;unbindBehindTheSuite X.env x pos) Q E s := by
  have hcls : (X.env.scope.kind == .class || (X.env.scope.kind == .module && X.env.locals != X.env.globals))=false := by rw [I.ok.kind];rfl
  have hiσ : i < σ.length := by rw [I.len];exact (wW.mp hi).1
  have hk : X.env.kindOf x=some .local := hx
  refine fu (wpAny_bindName (bS (v := .non) (u := .none) I hN hi (.inl hx) rfl (fun s₁ J => ?_) (.inr hx)))
  obtain ⟨m, hn, hl⟩ := id J.loc
  have hm : (m x).isSome=true := by
    obtain ⟨u, _, q⟩ := hl i x .non hi (by rw [yj hiσ]) (.inl hx)
    rcases q with ⟨_, e⟩ | ⟨e, _⟩
    · rw [e];rfl
    · rcases e with e | e <;> (rw [hk] at e;cases e)
  unfold unbindBehindTheSuite
  refine zR ?_
  unfold unbindName
  refine fu (wpAny_point (fu ?_))
  unfold deleteName
  simp only [hk, hcls]
  rw [if_neg (by decide)]
  refine fu (wpAny_nsDel_keeps hn fun h₂ v hn₂ hs₂ => ?_)
  simp only [hm, zu, Option.isSome_some, Bool.not_true, yS, As]
  refine xb (wpAny_point (h _ ?_))
  have I := J
  have cne := I.cne
  obtain ⟨oL, _, _, hoL, _⟩ := id hn
  have ne : ∀ b o, X.s₀.heap.get? b=some o → b≠X.env.locals := fun b o e => xx (w9 (wZ e) I.ok.above)
  refine ⟨I.ok, I.os, I.bare, ⟨fun b o e n hb hx => (hs₂.2 b (ne b o e)).trans (I.base.keep b o e n hb hx), fun b o e n hb hx => ?_, I.base.free, fun b o e hx => ?_, I.base.tups, I.base.frzs, I.base.tbls⟩, ⟨_, hn₂, fun j y v' e1 e2 e3 => ?_⟩, fun y c e => ?_, I.free, I.freeC, fun p hp => ?_, fun b ob e => ?_, by simpa using I.len⟩
  · obtain ⟨sl, e1⟩ := I.base.slot b o e n hb hx
    exact ⟨sl, (hs₂.2 b (ne b o e)).trans e1⟩
  · obtain ⟨o', e1⟩ := I.base.there b o e hx
    exact ⟨o', (hs₂.2 b (ne b o e)).trans e1⟩
  · by_cases hj : j=i
    · subst hj
      rw [yj (by exact hiσ)] at e2
      cases e2
    · rw [yg (Ne.symm hj)] at e2
      obtain ⟨u', r', q⟩ := hl j y v' e1 (by rw [yg (Ne.symm hj)];exact e2) e3
      refine ⟨u', r', ?_⟩
      rcases q with ⟨k, e⟩ | ⟨k, c, e, z⟩
      · refine .inl ⟨k, ?_⟩
        have : y≠x := fun e => hj (dN hN e1 (e ▸ hi))
        simp [this, e]
      · exact .inr ⟨k, c, e, z.sameBut hs₂ (cne y c e)⟩
  · obtain ⟨w', z⟩ := I.cell y c e
    exact ⟨w', z.sameBut hs₂ (cne y c e)⟩
  · obtain ⟨e, n, ne, nf, d⟩ := I.pin p hp
    exact ⟨(hs₂.2 p.1 ne).trans e, n, ne, nf, d⟩
  · refine (I.hok b ob e).stay (fun c w' hc q => (hs₂.2 c ?_).trans q) (fun _ q => q) fun _ _ q => q
    rintro rfl
    rcases hc with rfl | hc
    · rw [I.free] at e;cases e
    · rw [I.free] at hc;cases hc
end
section
variable {M : Model} {A : Around} {E : Value → Shared → Prop} {s : Shared}
theorem qu {base : Heap}{env : Env}{outer : List Env}{L e : Addr}{oe : Obj}{vs : Array Value}{Q : Unit → Shared → Prop}
    (hfr : A.frames=some (env::outer)) (hl : s.heap.FunFrames base (env::outer)) (hf : env.frame=some L)
    (he : s.heap.get? e=some oe) (hd : oe.data = .fields vs) (h1 : vs[1]? = some .none ∨ Flt s.heap e .none)
    (h : ∀ h', Nts (frs (env::outer)) e .none s.heap h' → Q () { s with heap := h' }) : wpAny M A (noteFrame (.ref e) env) (fun _ s₂ => wpAny M A (setFlight (.ref e) none) Q E s₂) E s := by
  refine sN hfr hl hf he hd h1 fun h₁ N => ?_
  obtain ⟨k1, k2, k3, T, hT, k4⟩ := N
  refine iH (s := { s with heap := h₁ }) k4 fun h₂ f1 f2 f3 _ => h h₂ ⟨fun b o hb hbe q => f2 b o (fun z => ?_) (k1 b o hb hbe q), fun b o hb q => ?_, fun oe vs q qd => ?_, T, hT, f1⟩
  · exact absurd (w9 (wZ q) (z ▸ hT)) (xK _)
  · obtain ⟨sl, q'⟩ := k2 b o hb q
    exact ⟨sl, f2 b _ (fun z => absurd (w9 (wZ q) (z ▸ hT)) (xK _)) q'⟩
  · obtain ⟨oe', vs', q1, q2⟩ := k3 oe vs q qd
    exact ⟨oe', vs', f2 e _ (fun z => absurd (w9 (wZ q) (z ▸ hT)) (xK _)) q1, q2⟩
theorem sU {K : PySem.W.Frag}{C R e : Addr}{bm bm' : List Value}{oe : Obj}{h : Heap}{g : Array GenState}{d : Drawn}{t : Nat}{os : OsState}{Q : Bool → Shared → Prop}(X : K.In h)(xC : XCl K C bm)(xR : XCl K R bm')(he : h.get? e=some oe)(hcls : oe.cls = .ref C)
    (hq : Q ((Value.ref C::bm).contains (.ref R)) ⟨h, g, d, t, os⟩) : wpAny M A (excMatches (.ref e) (.ref R)) Q E ⟨h, g, d, t, os⟩ := by
  obtain ⟨T, nm, q, N, bs, sn, sub, ab, col, dd, k0, k1, k2, k3, k5, hC⟩ := xC.at X
  obtain ⟨T', nm', q', N', bs', sn', sub', ab', col', dd', k0', k1', k2', k3', k5', hR⟩ := xR.at X
  have hcB : (Value.ref R::bm').contains (.type "BaseException")=true := by rw [zi, T'.hasType Af.hasBase, AJ]
  have f := tc_notTuple
  generalize hb : (Value.ref C::bm).contains (.ref R)=b at hq
  unfold excMatches
  repeat (first | (with_reducible refine x9 he ?_;rw [hcls]) | with_reducible refine x9 hR ?_ | (with_reducible refine yN hR ?_;rw [hcB]) | (with_reducible refine yN hC ?_;rw [hb]) | wp_step)
  cases b <;> (wp_walk;exact hq)
end
end L2
namespace L2
open PySem PySem.Spec PyProof.Rows
structure sV (P : Program) (w : World) (K : PySem.W.Frag) (mg : Str → Option Value) (base : Heap) (x : Str) (ps : List Str) (k : Nat) (sp : Sp) : Prop where
  ex : ∃ (f : Addr) (fd : FuncData), mg x=some (.ref f) ∧ PySem.W.keepIn K (.ref f)=true ∧ ee K fd ps [] ∧ gm P w K mg base (CXe P w) k f fd ps sp
theorem Df.okX {P : Program}{w : World}{K : PySem.W.Frag}{mg : Str → Option Value}{base : Heap}{x : Str}{st : Stmt}{N ps : List Str}{k : Nat}{sp : Sp}(D : Df K mg x st)(S : aC N ps (aj st))
    (hb : ∀ (kV doc pm : Value) (an : Option Addr) (cdv ct : Value) (us : List Value), us.length=ps.length → bindArgs (PySem.W.fnOf x x (bb st) (aQ st) (aj st) .none kV doc pm an cdv ct) ⟨us, []⟩=pure (ps.zip us))
    (len : ∀ vs H Q E, sp vs H Q E → vs.length=ps.length)
    (hbody : ∀ (f : Addr) (cdv : Value) (A : Around) (outer : List Env) (s : Shared) (H : Hp) (vs : List V) (Q : VK) (E : XK), b0 k (A.deeper (envOfC x (aj st) s.heap.objs.size f cdv)) → sp vs H Q E →
      ∃ t, PSs (iq (CXe P w) P w K mg base N x (aj st) f cdv A outer s H E) (aQ st) t ∧ t { nx := fun _ H' => Q .non H', rt := Q } (start N vs) H) : sV P w K mg base x ps (k+1) sp := by
  obtain ⟨f, fd, hm, F⟩ := D.ex
  refine ⟨f, fd, hm, F.kp, F.binds hb, ?_⟩
  obtain ⟨oc, od, kV, doc, pm, an, cdv, ct, osl, rfl, lk, hcd⟩ := F.ex
  exact pP lk hcd S len fun A outer s H vs Q E hr hsp => hbody f cdv A outer s H vs Q E hr hsp
section
variable {X : Cx} {E : XK} {x : Str} {ps : List Str} {k j : Nat} {sp : Sp} {e a b : Expr} {es : List Expr} {t : TA} {te tb : TE} {tt : TT} {p pos pos' : Pos}
theorem lC (F : sV X.prog X.w X.K X.mg X.base x ps j sp)(hr : b0 k X.A)(hj : j≤k)(hx : gp (CXe X.prog X.w) X E)(hg : Gl X x)(ha : PA X (e::es) t)
    (hdb : (x == ("__debug__" : Str))=false := by decide) (he : starEach (e::es) X.env=(false, eval e X.env)::starEach es X.env := by rfl) (hpl : (backTo pos (starEach es X.env)).any (·.1)=false := by rfl) :
    PE X (.Call (.Name x p) (e::es) [] pos) (pO sp [] E t) := by
  obtain ⟨f, fd, hm, hk, hb, F⟩ := F.ex
  exact ko F (hr.mono hj) hg hm hk hb .nil hx ha hdb he hpl
def PSE (X : Cx)(E : XK)(st : List Stmt)(t : TS) : Prop :=
  ∀ (pins : List (Addr × Obj)) (s : Shared) (σ : St) (H : Hp) (D : dJ), Inv X pins σ H s → t D σ H → wpAny (model X.prog X.w) X.A (execs st X.env) (SP X pins D) (XE X pins σ E) s
theorem qv {i : Nat}(hN : X.N.Nodup)(hi : X.N[i]? = some x)(hx : Loc X.env.scope x)(he : PEE X E e te)(hs : swapsWith e (some (.Name x pos')) pos.line X.env=pure false := by rfl)(hf : X.fn x=true ∨ X.env.scope.names.lookup x=some .local := by first | exact .inl rfl | exact .inr rfl | assumption) :
    PSE X E [.Assign [.Name x pos'] e pos] (uB te (pC i)) := by
  intro pins s σ H D I h
  refine y7 (zq (thn (he pins s σ H _ I h) fun v s1 zq1 => ?_) hs)
  obtain ⟨y, H1, I1, r1, q1⟩ := zq1
  exact bS I1 hN hi hx r1 (fun s2 I2 => zd ⟨_, H1, I2, q1⟩) hf
def dJ.gone (D : dJ)(i : Nat) : dJ := { nx := fun σ H => D.nx (σ.set i none) H, rt := D.rt, bk := fun σ H => D.bk (σ.set i none) H, ct := fun σ H => D.ct (σ.set i none) H }
def wK (K : PySem.W.Frag)(R : Addr)(i : Nat)(tb : XK → TS)(ts : TS) : TS := fun D σ H =>
  tb (fun v _ H' => ∃ a C d c bm, v = .ref a ∧ H' a=some (Exo a C d false c) ∧ XCl K C bm ∧ (Value.ref C::bm).contains (.ref R)=true ∧ ts (D.gone i) (σ.set i (some (.ref a))) H') D σ H
set_option maxHeartbeats 800000 in
theorem sW {n r : Str}{i : Nat}{R : Addr}{bmR : List Value}{body suite : List Stmt}{b₀ : Stmt}{np hpos : Pos}{tb : XK → TS}{ts : TS}(hst : X.stack=X.env::X.outer)(hfr : X.env.frame=some X.env.locals)(hN : X.N.Nodup)(hi : X.N[i]? = some n)(hloc : X.env.scope.names.lookup n=some .local)
    (hg : Gl X r) (hm : X.mg r=some (.ref R)) (xR : XCl X.K R bmR) (hb : ∀ E, PSE X E body (tb E)) (hs : ∀ v, PSs (Hd X v) (b₀ :: suite) ts) (hdb : (r == ("__debug__" : Str))=false := by decide) :
    PS X (.Try body [.ExceptHandler (some (.Name r np)) (some n) (b₀ :: suite) hpos] [] [] pos) (wK X.K R i tb ts) := by
  intro pins s σ H D I h
  refine wpAny_Try_except (xY (hb _ pins s σ H D I h) (fun f s₁ hf => ?_) fun e s₁ he => ?_)
  · cases f with
    | next => exact zd hf
    | brk => exact hf
    | cont => exact hf
    | ret u => exact hf
  · obtain ⟨a, C, d, cx, H', rfl, I1, ha, hF, a', C', d', cx', bm, ea', ha', xC, hc, ht⟩ := he
    cases ea'
    have hCC : C=C' := by
      obtain ⟨oe, vs, g1, g2, _⟩ := ck I1.hok ha
      obtain ⟨oe', vs', g1', g2', _⟩ := ck I1.hok ha'
      rw [g1] at g1';cases g1'
      rw [g2] at g2';cases g2';rfl
    subst hCC
    obtain ⟨oe, vs, g1, g2, g3, g4, g5, g6⟩ := ck I1.hok ha
    refine qu (base := X.base) (env := X.env) (outer := X.outer) (L := X.env.locals) (by rw [I.ok.frames, hst]) (by rw [← hst];exact I1.stack) hfr g1 g4 (.inr hF) fun h' Nt => ?_
    obtain ⟨un, hok⟩ := lu I1.hok ha (by rw [← hst];exact I1.stkFree) Nt
    have J := I1.call' (s' := { s₁ with heap := h' }) rfl (by rw [hst];exact un) hok I1.bare (fun b z => absurd z (by simp))
    rw [fN ha] at J
    obtain ⟨T, _, hT⟩ := Nt.fly
    have JH := J.hold (.ref a)
    refine wpAny_handleBy_cons (codeAny_handlers_test ?_) (by intro q;cases q)
    refine cH (X := Hd X (.ref a)) JH hg hm ?_ hdb
    obtain ⟨oe2, vs2, k1, k2, _⟩ := ck J.hok ha
    refine sU J.kIn xC xR k1 k2 ?_
    rw [hc]
    refine codeAny_handlers_suite_as ?_
    refine iH (s := { s₁ with heap := h' }) hT fun h2 _ _ _ same => ?_
    have J2 : Inv (Hd X (.ref a)) pins σ H' { s₁ with heap := h2 } := JH.kept (t' := s₁.toks) (fun b u q => (same rfl b).trans q)
    refine bS (X := Hd X (.ref a)) J2 hN hi (.inl hloc) (v := .ref a) rfl (fun s₃ J3 => ?_) (.inr hloc)
    refine xY (hs (.ref a) pins s₃ _ H' (D.gone i) J3 ht) (fun f s₄ hf => ?_) fun _ _ z => False.elim z
    cases f with
    | next => obtain ⟨σ', H2, J4, q⟩ := hf;exact fO (J4.offHold I.ok) hN hi hloc fun s' K' => ⟨_, H2, K', q⟩
    | brk => obtain ⟨σ', H2, J4, q⟩ := hf;exact fO (J4.offHold I.ok) hN hi hloc fun s' K' => ⟨_, H2, K', q⟩
    | cont => obtain ⟨σ', H2, J4, q⟩ := hf;exact fO (J4.offHold I.ok) hN hi hloc fun s' K' => ⟨_, H2, K', q⟩
    | ret u => obtain ⟨v, σ', H2, J4, rv, q⟩ := hf;exact fO (J4.offHold I.ok) hN hi hloc fun s' K' => ⟨v, _, H2, K', rv, q⟩
end
end L2
namespace L2
open PySem PySem.Spec PyProof.Rows
section
variable {K : PySem.W.Frag} {C R N : Addr} {dd d0 : Option Addr} {c0 oc : Value} {cd cdR : ClassData} {k0 k1 k2 k3 k5 : Option Value} {sl sl' : Array (Option Value)} {es : Array DictEntry} {n : Nat} {bm bm' : List Value}
theorem gU : PySem.W.tailIn K bmV bmV=true := by
  unfold PySem.W.tailIn
  rw [yr];rfl
theorem qw (l : K.lookup N=some ⟨oc, d0, .dict es n, sl'⟩)(h : (es.toList.all fun e => match e.key with | .str _ _ => true | _ => false)=true) : PySem.W.nsOkIn K N=true := by
  unfold PySem.W.nsOkIn;rw [l];dsimp only;rw [← Array.all_toList];exact h
theorem nL (l : K.lookup R=some ⟨c0, d0, .cls cdR, sl⟩)(ok : PySem.W.nsOkIn K cdR.ns=true)(ni : PySem.W.nsIn K cdR.ns "__init__" = some none)(t : PySem.W.tailIn K bmV bm=true) : PySem.W.tailIn K bmV (.ref R::bm)=true := by
  unfold PySem.W.tailIn
  simp only [l, ok, ni, t, yr, Bool.and_self, AJ]
theorem o_ (l : K.lookup C=some ⟨.type "type", dd, .cls cd, #[k0, k1, k2, k3, some (.builtin "ValueError.__new__"), k5]⟩)(m : cd.mro = .ref C::bm)(h1 : cd.hasDel=false)(h2 : cd.hasDict=true)(t : PySem.W.tailIn K bmV bm=true)(kp : PySem.W.keepIn K (.ref C)=true) : XCl K C bm :=
  ⟨⟨dd, cd, k0, k1, k2, k3, k5, l, m, h1, h2⟩, t, kp⟩
theorem sX {h : Heap}{T : String}{b : Bool}(X : K.In h)(xC : XCl K C bm)(hk : PySem.W.kitMeta T=true)(hb : bmV.contains (.type T)=b) : PySem.W.kitOne K (.ref C) (.type T)=some b := by
  unfold PySem.W.kitOne
  rw [if_neg (show ¬ (Value.ref C == Value.type T)=true from by simp)]
  unfold PySem.W.kitCls
  simp only [hk, zu]
  exact xC.mro X hb
end
def nM : List (Str × V) → List (Str × V) → List (Str × V)
  | acc, [] => acc
  | acc, (f, y)::r => nM (vA f y acc) r
inductive lD (names : List Str)(C : Addr)(vs : List V)(H : Hp)(Q : VK)(E : XK) : Prop
  | mk : ∀ a ys b cx, (vs = .ref a::ys) → (ys.length=names.length) → (H a=some (Exo a C none b cx)) → (∀ dx, H dx=none → dx≠a → Q .non (upd (upd H a (Exo a C (some dx) b cx)) dx (Xdt dx (nM [] (names.zip ys))))) → lD names C vs H Q E
end L2
namespace L2
open PySem PySem.Spec PyProof.Rows
structure XMk (P : Program) (w : World) (K : PySem.W.Frag) (mg : Str → Option Value) (base : Heap) (x : Str) (C : Addr) (names : List Str) (k : Nat) : Prop where
  at_ : mg x=some (.ref C)
  ca : XCa K C
  no : ∀ f∈names, PySem.W.findIn K (.ref C) f=some none
  ex : ∃ (f : Addr) (fd : FuncData) (bm : List Value), XCl K C bm ∧ PySem.W.findIn K (.ref C) "__init__" = some (some (.ref f)) ∧ PySem.W.isFn K (.ref f)=true ∧ ee K fd ("self" :: names) [] ∧ gm P w K mg base CX0 k f fd ("self" :: names) (lD names C)
def u9 (C : Addr)(names : List Str)(t : TA) : TE := fun σ H Q => t σ H fun ys H1 => ys.length=names.length ∧ names.length≤900 ∧ ∀ a dx, H1 a=none → H1 dx=none → dx≠a →
  Q (.ref a) (upd (upd H1 a (Exo a C (some dx) true true)) dx (Xdt dx (nM [] (names.zip ys))))
section
variable {X : Cx} {x : Str} {C : Addr} {names : List Str} {k j : Nat} {e : Expr} {es : List Expr} {t : TA} {p pos : Pos}
theorem u_ (M : XMk X.prog X.w X.K X.mg X.base x C names j)(hr : b0 k X.A)(hj : j+1≤k)(hg : Gl X x)(ha : PA X (e::es) t)
    (hdb : (x == ("__debug__" : Str))=false := by decide) (he : starEach (e::es) X.env=(false, eval e X.env)::starEach es X.env := by rfl) (hpl : (backTo pos (starEach es X.env)).any (·.1)=false := by rfl) :
    PE X (.Call (.Name x p) (e::es) [] pos) (u9 C names t) := by
  obtain ⟨f, fd, bm, xc, hi, hf, hb, F⟩ := M.ex
  intro pins s σ H Q I h
  refine yu (cH I hg M.at_ ?_ hdb)
  refine Ag (h₀ := X.base) I.ok.mod.kin xc.kp (thn (ha pos pins s σ H _ I h) fun us s1 ⟨vs, H1, I1, r, hl, hn, q⟩ => ⟨I1.kIn, ?_⟩) he hpl
  refine ly (k := j) xc hi hf F (hr.mono hj) hb I1 r ⟨by omega, fun a h0 => ⟨a, vs, true, true, rfl, hl, ag .., fun dx hdx ne => ⟨rfl, ?_⟩⟩⟩
  rw [dZ]
  exact q a dx h0 (by rw [ao ne] at hdx;exact hdx) ne
end
section
variable {K : PySem.W.Frag} {C dx a : Addr} {b : Bool} {H : Hp}
end
section
variable {X : Cx} {K : PySem.W.Frag} {e : Expr} {f : Str} {pos : Pos} {ta : TE}
theorem bB (hK : X.K=K) : c_ X (.builtin "isinstance") (u6 K) := by subst hK; exact nK
theorem sY (hK : X.K=K)(he : PE X e ta)(hb : attributeBase e f X.env (eval e X.env)=eval e X.env) : PE X (.Attribute e f pos) (tFx K ta f) := by subst hK; exact u7 he hb
end
end L2
namespace L2
open PySem PySem.Spec PyProof.Rows
section
variable {X : Cx} {E : XK} {e a b c : Expr} {te ta tb : TE} {tA : TT} {pos : Pos}
end
end L2
namespace L2
open PySem PySem.Spec PyProof.Rows
section
variable {X : Cx} {x : Str} {ps : List Str} {k j : Nat} {sp : Sp} {e : Expr} {es : List Expr} {t : TA} {p pos : Pos}
end
section
variable {prog : Program} {w : World} {A : Around} {E : Value → Shared → Prop} {h : Heap} {g : Array GenState} {d : Drawn} {t : Nat} {os : OsState} {K : PySem.W.Frag} {C : Addr} {bm : List Value}
end
end L2
namespace L2
open PySem PySem.Spec PyProof.Rows
def cxL (CX : CXT)(P : Program)(w : World)(K : PySem.W.Frag)(mg : Str → Option Value)(base : Heap)(N : List Str)(qual : Str)(scope : Scope)(f : Addr)(cd : Value)(cl : List (Str × Addr))(A : Around)(outer : List Env)(s : Shared)(H : Hp)(E : XK) : Cx where
  prog := P
  w := w
  K := K
  mg := mg
  base := base
  A := A.deeper (PySem.W.envX qual scope s.heap.objs.size f cd cl)
  N := N
  s₀ := s
  H₀ := H
  env := PySem.W.envX qual scope s.heap.objs.size f cd cl
  outer := outer
  stack := PySem.W.envX qual scope s.heap.objs.size f cd cl::outer
  ex := []
  calm := true
  fn := fun _ => false
  pn := []
  xe := fun e s' => wpAny (model P w) (A.deeper (PySem.W.envX qual scope s.heap.objs.size f cd cl)) (leaving (PySem.W.envX qual scope s.heap.objs.size f cd cl) e) (fun _ s'' => CX outer H s E e s'') (fun e' s'' => CX outer H s E e' s'') s'
structure fP (p fr : Str) (scope : Scope) : Prop where
  kind : scope.kind = .function
  co : scope.isCoroutine=false
  gen : scope.isGenerator=false
  ne : p≠fr
  par : scope.names.lookup p=some .local
  free : scope.names.lookup fr=some .free
  nocell : ∀ x∈scope.names, x.2 ≠ .cell
  only : ∀ y∈scope.names, y.2 = .free → y.1=fr
section
variable {CX : CXT} {P : Program} {w : World} {K : PySem.W.Frag} {mg : Str → Option Value} {base : Heap} {p fr qual : Str} {scope : Scope} {f c c' : Addr} {cd : Value} {A : Around} {outer : List Env} {s : Shared} {H : Hp} {E : XK}
theorem qy {u1 u : Value}{v1 y : V}{h₁ : Heap}{tk : Nat}(S : fP p fr scope)(hd : A.handled=none)(e0 : kn P w K mg base A outer s H)(r1 : a7 v1 u1)(ru : a7 y u)(hc : s.heap.IsCell c (some u))(hHc : H c=none)
    (hns : h₁.Ns s.heap.objs.size (fun x => [(p, u1)].reverse.lookup x)) (hk : ∀ b o, s.heap.get? b=some o → h₁.get? b=some o) :
    Inv (cxL CX P w K mg base [p, fr] qual scope f cd [(fr, c)] A outer s H E) [] [some v1, some y] H { s with heap := h₁, toks := tk } := by
  have noA : ∀ b : Addr, b∉(cxL CX P w K mg base [p, fr] qual scope f cd [(fr, c)] A outer s H E).ex := fun b z => absurd (show b∈([] : List Addr) from z) (by simp)
  have lk : ∀ x d, ([(fr, c)] : List (Str × Addr)).lookup x=some d → x=fr ∧ d=c := fun x d e => by
    rw [yh] at e
    cases hb : x == fr with
    | true => rw [hb] at e;exact ⟨eq_of_beq hb, (w4 e).symm⟩
    | false => rw [hb] at e;cases e
  have lk2 : ([(fr, c)] : List (Str × Addr)).lookup fr=some c := by rw [yh, yr]
  have hc1 : h₁.IsCell c (some u) := by
    obtain ⟨o, ho, hd⟩ := hc
    exact ⟨o, hk _ _ ho, hd⟩
  refine ⟨⟨e0.mod, S.kind, rfl, rfl, wX _, fun y z d h1 h2 => ?_, fun y hy => ?_, fun y d h _ => ?_, fun _ => hd, Around.frames_deeper e0.frames, .inr ⟨rfl, rfl⟩, fun b z => absurd z (noA b), e0.bs, e0.bsz, fun b _ _ => noA b, fun b z => absurd z (noA b), e0.funs, e0.frf⟩,
    rfl, e0.bare, Un.kept hk, ⟨_, hns, fun i x v h1 h2 h3 => ?_⟩, fun x d h => ?_, e0.hok.fresh (wX _), fun x d h => ?_, fun q hq => absurd (show q∈([] : List (Addr × Obj)) from hq) (by simp), e0.hok.kept hk, rfl⟩
  · exact (lk _ _ h1).1.trans (lk _ _ h2).1.symm
  · have hy : scope.names.lookup y=some .cell ∨ scope.names.lookup y=some .free := hy
    rcases hy with hy | hy
    · exact absurd rfl (S.nocell _ (x3 hy))
    · have := S.only _ (x3 hy) rfl
      have this : y=fr := this
      rw [this]
      exact ⟨c, lk2⟩
  · exact absurd (show false=true from h) (by decide)
  · match i, h1, h2 with
    | 0, h1, h2 =>
      have e1 : p=x := w4 h1
      have e2 : v1=v := w4 (w4 h2)
      subst e1
      subst e2
      refine ⟨u1, r1, .inl ⟨S.par, ?_⟩⟩
      show List.lookup p [(p, u1)]=some u1
      rw [yh, yr]
    | 1, h1, h2 =>
      have e1 : fr=x := w4 h1
      have e2 : y=v := w4 (w4 h2)
      subst e1
      subst e2
      exact ⟨u, ru, .inr ⟨.inr S.free, c, lk2, hc1⟩⟩
    | i+2, h1, h2 => exact absurd (show (none : Option Str)=some x from h1) (by simp)
  · obtain ⟨rfl, rfl⟩ := lk _ _ h
    exact ⟨_, hc1⟩
  · obtain ⟨rfl, rfl⟩ := lk _ _ h
    exact hHc
theorem qz {k : Nat}{params : Arguments}{body : Expr}{pm ctv u1 u : Value}{v1 y : V}{Q : VK}(S : fP p fr scope)(hf : s.heap.get? f=some (PySem.W.kla_obj "<lambda>" qual params body scope [(fr, c)] pm c' ctv))(hcd : s.heap.CodeRec (.ref c') qual)
    (hc : s.heap.IsCell c (some u)) (ru : a7 y u) (hHc : H c=none) (hb : bindArgs (PySem.W.kla_fn "<lambda>" qual params body scope [(fr, c)] pm (.ref c') ctv) ⟨[u1], []⟩=pure [(p, u1)]) (hr : b0 (k+1) A) (e0 : kn P w K mg base A outer s H) (r1 : a7 v1 u1)
    (hbody : b0 k (A.deeper (PySem.W.envX qual scope s.heap.objs.size f (.ref c') [(fr, c)])) → ∃ t, PE (cxL CX P w K mg base [p, fr] qual scope f (.ref c') [(fr, c)] A outer s H E) body t ∧ t [some v1, some y] H Q) :
    codeAny (model P w) A (.call (.ref f) ⟨[u1], []⟩) (CR CX outer P w H s Q E) s := by
  have lim : s.heap.NoLimit := e0.mod.nolimit.keeps fun b o e => (e0.bs b o e).1
  refine PySem.W.kla_callFunE hr.depth hf rfl S.co S.gen rfl hcd ?_
  rw [hb]
  refine xb (wpAny_newFunctionEnv S.nocell (by intro z hz;rw [xB] at hz;rw [hz];exact S.par) (fun h₁ hns hsb => ⟨lim.fresh _ hsb, ?_⟩) S.kind)
  have hk₁ : ∀ b o, s.heap.get? b=some o → h₁.get? b=some o := fun b o e => hsb.extBut b o (xx (wZ e)) (wU _ e)
  obtain ⟨t, ht, hq⟩ := hbody (hr.deeper _)
  have I := qy (CX := CX) (qual := qual) (f := f) (cd := .ref c') (E := E) (tk := s.toks+([(p, u1)] : List (Str × Value)).length) S hr.hd e0 r1 ru hc hHc hns hk₁
  refine PySem.W.kla_codeExpr (xY (ht [] _ _ H Q I hq) (fun v s' hs => ?_) fun e s' hs => hs)
  obtain ⟨v2, H2, J, rv, q⟩ := hs
  exact ⟨v2, H2, J.os, J.bare, J.base, J.hok, rv, q⟩
theorem lE {cl : List (Str × Addr)}{N : List Str}{pins : List (Addr × Obj)}{σ : St}{H1 : Hp}{s1 : Shared}{a C : Addr}{d : Option Addr}{b cx : Bool}(I : Inv (cxL (CXe P w) P w K mg base N qual scope f cd cl A outer s H E) pins σ H1 s1)
    (ha : H1 a=some (Exo a C d b cx)) (hf : b=true ∨ Flt s1.heap a .none) (hE : E (.ref a) none (upd H1 a (Exo a C d false cx))) : (cxL (CXe P w) P w K mg base N qual scope f cd cl A outer s H E).xe (.ref a) s1 := by
  obtain ⟨⟨oe, vs, g1, g2, g3, g4, g5, g6, _⟩, _, _⟩ := I.hok a _ ha
  refine o8 (base := base) (outer := outer) I.ok.frames I.stack rfl g1 g4 (hf.imp (fun z => g6 z) id) fun h' Nt => ?_
  obtain ⟨un, hok⟩ := lu I.hok ha I.stkFree Nt
  have J := I.call' (s' := { s1 with heap := h' }) rfl un hok I.bare (fun b z => absurd z (by simp))
  obtain ⟨T, _, hT⟩ := Nt.fly
  exact ⟨a, C, d, cx, _, rfl, J.os, J.bare, J.base, J.hok, ag .., ⟨T, hT⟩, hE⟩
theorem dm {cl : List (Str × Addr)}{N : List Str} : gp (CXe P w) (cxL (CXe P w) P w K mg base N qual scope f cd cl A outer s H E) E := by
  intro pins σ H1 s1 e s' I ⟨a, C, d, cx, H', he, os, bare, un, hok, ha, hf, hE⟩
  subst he
  have J := I.call' os un hok bare (fun b z => absurd z (by simp))
  exact lE J ha (.inr hf) (by rw [fN ha];exact hE)
end
def Cd (c' : Addr)(q : Str) : HO := .ext fun h => ∃ oc vs t, h.get? c'=some oc ∧ oc.data = .fields vs ∧ vs[1]? = some (.str q t)
theorem va {P : Program}{w : World}{H : Hp}{h : Heap}{c' : Addr}{q : Str}(x : h.CodeRec (.ref c') q) : bu P w H h c' (Cd c' q) := by
  obtain ⟨c₂, oc, vs, t, e2, hoc, hd, hv⟩ := x
  cases e2
  refine ⟨⟨oc, vs, t, hoc, hd, hv⟩, ⟨oc, hoc⟩, ?_⟩
  rintro h1 h2 ⟨oc, vs, t, e, hd, hv⟩ k
  exact ⟨oc, vs, t, k _ e, hd, hv⟩
theorem sZ {P : Program}{w : World}{H : Hp}{h : Heap}{c' : Addr}{q : Str}(ok : HOk P w H h)(x : H c'=some (Cd c' q)) : h.CodeRec (.ref c') q := by
  obtain ⟨⟨oc, vs, t, e, hd, hv⟩, _, _⟩ := ok _ _ x
  exact ⟨c', oc, vs, t, rfl, e, hd, hv⟩
def Tab (H : Hp)(P0 : Addr)(q : Str) : Prop := ∃ ps, H P0=some (.tbl ps) ∧ TriplesOk ps.toList ∧ ∀ pos cv, codeAmong pos ps.toList=some cv → ∃ c', cv = .ref c' ∧ H c'=some (Cd c' q)
theorem Tab.same {H H' : Hp}{P0 : Addr}{q : Str}(s : ∀ b o, H b=some o → H' b=some o)(h : Tab H P0 q) : Tab H' P0 q := by
  obtain ⟨ps, e, t, k⟩ := h
  exact ⟨ps, s _ _ e, t, fun pos cv ec => let ⟨c', e1, e2⟩ := k pos cv ec;⟨c', e1, s _ _ e2⟩⟩
structure Mkr (base : Heap) (mg : Str → Option Value) (c0 P0 : Addr) : Prop where
  code : PySem.W.CodeHd base c0 P0
  blt : base.BuiltinsAt mg P0
theorem jR {pos pos' : Pos}{c cv : Value} : ∀ l : List Value, TriplesOk l → codeAmong pos (l++[rawInt pos'.line, rawInt pos'.col, c])=some cv → codeAmong pos l=some cv ∨ cv=c := by
  intro l h e
  fun_induction TriplesOk l with
  | case1 =>
    simp only [AG, codeAmong, rawInt] at e
    split at e
    · exact .inr (w4 e).symm
    · cases e
  | case2 a t b u x rest ih =>
    simp only [List.cons_append, codeAmong] at e ⊢
    split
    · rename_i hc
      rw [if_pos hc] at e
      exact .inl e
    · rename_i hc
      rw [if_neg hc] at e
      exact ih h e
  | case3 l h1 h2 => exact h.elim
section
variable {X : Cx} {pins : List (Addr × Obj)} {σ : St} {H : Hp} {s : Shared}
theorem nN {c0 P0 : Addr}{q fr : Str}{c : Addr}{params : Arguments}{body : Expr}{scope : Scope}{pos : Pos}{line : Nat}{Q : Value → Shared → Prop}(I : Inv X pins σ H s)(hcode : X.env.code = .ref c0)(M : Mkr X.base X.mg c0 P0)(hT : Tab H P0 q)
    (hclos : closureFor scope X.env=pure [(fr, c)])
    (h : ∀ f c' pm ctv s' H', Inv X pins σ H' s' → s'.heap.get? f=some (PySem.W.kla_obj "<lambda>" q params body scope [(fr, c)] pm c' ctv) → H' f=none → f∉frs X.stack → H' c'=some (Cd c' q) → Tab H' P0 q → (∀ b o, b≠P0 → H b=some o → H' b=some o) → (∀ b o, s.heap.get? b=some o → H b=none → s'.heap.get? b=some o) → Q (.ref f) s') :
    wpAny (model X.prog X.w) X.A (makeFunction "<lambda>" q params (.expr body) scope X.env [] [] [] pos line) Q X.xe s := by
  obtain ⟨ps, hP, tri, cds⟩ := hT
  have hg : s.heap.Ns mainGlobals X.mg := I.mod.glob.keeps I.bk
  have hPo : s.heap.get? P0=some (PySem.W.tabObj ps) := I.hok _ _ hP
  have C : PySem.W.CodeHd s.heap c0 P0 := M.code.keeps I.bk
  have B : s.heap.BuiltinsAt X.mg P0 := by
    obtain ⟨bm, ob, b1, b2, b3, b4, b5, b6, b7, b8⟩ := M.blt
    exact ⟨bm, ob, b1, b2, b3, b4, I.bk _ _ b5, b6, b7, b8⟩
  have hgP : mainGlobals≠P0 := fun z => by
    obtain ⟨o, es, ep, e, hd, _⟩ := I.mod.glob
    have := (I.bs _ _ e).2
    rw [z, hP] at this
    cases this
  have fsN : ∀ a, s.heap.objs.size≤a → a∉frs X.stack := fun a ha z => by
    rcases xn.mp (I.stkSub _ z) with z | z
    · exact absurd I.lt (by rw [← z];exact Nat.not_lt.mpr ha)
    · exact I.nofs ha z
  cases hcm : codeAmong pos ps.toList with
  | some cv =>
    obtain ⟨c', rfl, hc'⟩ := cds pos cv hcm
    refine PySem.W.kla_makeFunctionHit (mg := X.mg) hclos I.ok.glob hg hcode C hPo tri hcm B fun ctv h' tk hk hsz => ?_
    have k2 : ∀ b o, s.heap.get? b=some o → (h'.push (PySem.W.kla_obj "<lambda>" q params body scope [(fr, c)] ((X.mg "__name__").getD .none) c' ctv)).get? b=some o := fun b o e => wU _ (hk b o e)
    exact h h'.objs.size c' _ ctv _ H (I.kept k2) (w6 _ rfl) (I.hok.fresh hsz) (fsN _ hsz) hc' ⟨ps, hP, tri, cds⟩ (fun b o _ e => e) fun b o e _ => k2 b o e
  | none =>
    refine PySem.W.kla_makeFunction (mg := X.mg) hclos I.ok.glob hg hcode C hPo tri hcm hgP B fun c' ctv h' tk hx hge hlt hrec htb => ?_
    have hc0 : H c'=none := I.hok.fresh hge
    have nPc : P0≠c' := fun z => by rw [z, hc0] at hP;cases hP
    have hsz : s.heap.objs.size≤h'.objs.size := xG hge (AE hlt)
    have hf0 : H h'.objs.size=none := I.hok.fresh hsz
    have nfc : h'.objs.size≠c' := y9 hlt
    have nfP : h'.objs.size≠P0 := fun z => by rw [z, hP] at hf0;cases hf0
    let fo := PySem.W.kla_obj "<lambda>" q params body scope [(fr, c)] ((X.mg "__name__").getD .none) c' ctv
    have k2 : ∀ b o, b≠P0 → s.heap.get? b=some o → (h'.push fo).get? b=some o := fun b o nb e => wU _ (hx b o nb e)
    have hH' : ∀ b, b≠P0 → b≠c' → (upd (upd H P0 (.tbl (ps ++ #[rawInt pos.line, rawInt pos.col, .ref c']))) c' (Cd c' q)) b=H b := fun b n1 n2 => by rw [ao n2, ao n1]
    have hHP : (upd (upd H P0 (.tbl (ps ++ #[rawInt pos.line, rawInt pos.col, .ref c']))) c' (Cd c' q)) P0=some (.tbl (ps ++ #[rawInt pos.line, rawInt pos.col, .ref c'])) := by rw [ao nPc, ag]
    have hHc : (upd (upd H P0 (.tbl (ps ++ #[rawInt pos.line, rawInt pos.col, .ref c']))) c' (Cd c' q)) c'=some (Cd c' q) := ag
    generalize upd (upd H P0 (.tbl (ps ++ #[rawInt pos.line, rawInt pos.col, .ref c']))) c' (Cd c' q)=H' at hH' hHP hHc
    have nP : ∀ b, H b=none → b≠P0 := fun b n z => by rw [z, hP] at n;cases n
    have nc : ∀ b o, s.heap.get? b=some o → b≠c' := fun b o e z => absurd (wZ e) (by rw [z];exact Nat.not_lt.mpr hge)
    have ncH : ∀ b o, H b=some o → b≠c' := fun b o e z => by rw [z, hc0] at e;cases e
    have keepH : ∀ b o, b≠P0 → H b=some o → H' b=some o := fun b o n e => by rw [hH' b n (ncH b o e)];exact e
    have un : Un X.fs [] H H' s.heap (h'.push fo) := by
      refine ⟨fun b o e n _ _ => k2 b o (nP b n) e, fun b o e n _ _ => ⟨o.slots, k2 b o (nP b n) e⟩, fun b o e n _ => ?_, fun b o e _ => ?_, fun b xs e => ?_, fun b o u e => ?_, fun b qs e => ?_⟩
      · rw [hH' b (nP b n) (nc b o e)];exact n
      · by_cases hb : b=P0
        · rw [hb];exact ⟨_, wU _ htb⟩
        · exact ⟨o, k2 b o hb e⟩
      · exact keepH b _ (fun z => by rw [z, hP] at e;cases e) e
      · exact keepH b _ (fun z => by rw [z, hP] at e;cases e) e
      · by_cases hb : b=P0
        · subst hb
          rw [hP] at e
          cases e
          exact ⟨_, hHP⟩
        · exact ⟨#[], by rw [keepH b _ hb e];simp⟩
    have hok : HOk X.prog X.w H' (h'.push fo) := fun b u e => by
      by_cases hb : b=P0
      · subst hb
        rw [hHP] at e
        cases e
        exact wU _ htb
      · by_cases hb2 : b=c'
        · subst hb2
          rw [hHc] at e
          cases e
          obtain ⟨c₂, oc, vs, t, e2, hoc, hd, hv⟩ := hrec
          cases e2
          exact va ⟨_, oc, vs, t, rfl, wU _ hoc, hd, hv⟩
        · rw [hH' b hb hb2] at e
          have notP : ∀ {x : Addr} {o : HO}, H x=some o → (∀ ps, o ≠ .tbl ps) → x≠P0 := fun {x o} hx n z => by
            rw [z, hP] at hx
            cases hx
            exact n _ rfl
          refine (I.hok b u e).stay (fun x v hx qx => k2 x v ?_ qx) (fun x hx => keepH x _ (notP hx (by intro ps z;cases z)) hx) fun x xs hx => keepH x _ (notP hx (by intro ps z;cases z)) hx
          rcases hx with rfl | hx
          · exact hb
          · exact notP hx (by intro ps z;cases z)
    have J := I.un (t' := tk) un hok
    refine h h'.objs.size c' _ ctv _ H' J (w6 _ rfl) ?_ (fsN _ hsz) hHc ⟨_, hHP, ?_, fun p' cv ec => ?_⟩ keepH fun b o e n => k2 b o (nP b n) e
    · rw [hH' _ nfP nfc];exact hf0
    · rw [Array.toList_append]
      exact TriplesOk_snoc _ _ _ _ tri
    · rw [Array.toList_append] at ec
      rcases jR _ tri ec with z | z
      · obtain ⟨c2, e1, e2⟩ := cds p' cv z
        refine ⟨c2, e1, keepH c2 _ (fun z => ?_) e2⟩
        rw [z, hP] at e2
        cases e2
      · exact ⟨c', z, hHc⟩
end
end L2
namespace PySem
abbrev zu1 (h : Heap)(x : Str)(t : Tok) : Heap := h.push { cls := .type "str_ascii_iterator", data := .fields #[.str x t, .int 0 0] }
abbrev zu2 (h : Heap)(x : Str)(t : Tok)(q : Addr) : Heap := (zu1 h x t).push { cls := .type "tuple_iterator", data := .fields #[.ref q, .int 0 0] }
abbrev zu3 (h : Heap)(x : Str)(t : Tok)(q : Addr) : Heap := (zu2 h x t q).push { cls := .type "tuple", data := .seq #[.ref h.objs.size, .ref (zu1 h x t).objs.size] }
abbrev zu4 (h : Heap)(x : Str)(t : Tok)(q : Addr) : Heap := (zu3 h x t q).push { cls := .type "tuple", data := .seq #[.none, .none] }
abbrev zu5 (h : Heap)(x : Str)(t : Tok)(q : Addr) : Heap := (zu4 h x t q).push { cls := .type "zip", data := .fields #[.none, .bool false, .bool false, .ref (zu2 h x t q).objs.size, .ref (zu3 h x t q).objs.size] }
set_option maxHeartbeats 2000000 in
theorem iK (x : Str)(t : Tok)(q : Addr)(ys : Array Value)(hx : x.cps.all (· < 128)=true) : Meets (Builtin.«zip.__new__» ⟨[.type "zip", .str x t, .ref q], []⟩) (fun _ R s => s.heap.IsTuple q ys ∧ R (.ok (.ret (.ref (zu4 s.heap x t q).objs.size))) { s with heap := zu5 s.heap x t q }) :=
  .of_wp fun prog w A R s h => by
    obtain ⟨hp, gg, dd, tk, os⟩ := s
    obtain ⟨t2, h⟩ := h
    have hsub := sub_zip
    have T2 : Heap.IsTuple (Shared.heap ⟨hp.push { cls := .type "str_ascii_iterator", data := .fields #[.str x t, .int 0 0] }, gg, dd, tk, os⟩) q ys := by
      obtain ⟨o, e, r⟩ := t2
      exact ⟨o, wU _ e, r⟩
    wp_walk using wpAny_pyIter_ascii hx, yR T2
    exact ⟨_, rfl, h⟩
theorem jS {prog : Program}{w : World}{A : Around}{E : Value → Shared → Prop}{s : Shared}{x : Str}{t : Tok}{q : Addr}{ys : Array Value}{Q : Value → Shared → Prop}(hx : x.cps.all (· < 128)=true)(hy : s.heap.IsTuple q ys)
    (h : ∀ h', IsZip h' (s.heap.objs.size+4) (s.heap.objs.size+2) (s.heap.objs.size+3) .none → IsPair h' (s.heap.objs.size+2) (.ref s.heap.objs.size) (.ref (s.heap.objs.size+1)) → IsPair h' (s.heap.objs.size+3) .none .none →
      uZ h' s.heap.objs.size x t 0 → h'.IsTupleIter (s.heap.objs.size+1) q 0 → (∀ c o, s.heap.get? c=some o → h'.get? c=some o) → Q (.ref (s.heap.objs.size+4)) { s with heap := h' }) :
    wpAny (model prog w) A (call (.type "zip") [.str x t, .ref q]) Q E s := by
  refine callType_new F.called_zip (by decide) (F.typeCall_zip_2 _ _) (F.newCall_zip_2 _ _) (fun obj => F.args_object_init_3 obj _ _) F.entry_zip_new (iK x t q ys hx) ⟨hy, ?_⟩
  have n1 : (zu1 s.heap x t).objs.size=s.heap.objs.size+1 := yz ..
  have n2 : (zu2 s.heap x t q).objs.size=s.heap.objs.size+2 := by rw [yz, n1]
  have n3 : (zu3 s.heap x t q).objs.size=s.heap.objs.size+3 := by rw [yz, n2]
  have n4 : (zu4 s.heap x t q).objs.size=s.heap.objs.size+4 := by rw [yz, n3]
  have g5 : (zu5 s.heap x t q).get? (zu4 s.heap x t q).objs.size=some _ := w6 _ rfl
  have g4 : (zu5 s.heap x t q).get? (zu3 s.heap x t q).objs.size=some _ := wU _ (w6 _ rfl)
  have g3 : (zu5 s.heap x t q).get? (zu2 s.heap x t q).objs.size=some _ := wU _ (wU _ (w6 _ rfl))
  have g2 : (zu5 s.heap x t q).get? (zu1 s.heap x t).objs.size=some _ := wU _ (wU _ (wU _ (w6 _ rfl)))
  have g1 : (zu5 s.heap x t q).get? s.heap.objs.size=some _ := wU _ (wU _ (wU _ (wU _ (w6 _ rfl))))
  show _ ∧ _
  rw [n2, n3, n4] at g5
  rw [n1, n2] at g3
  rw [n3] at g4
  rw [n1] at g2
  rw [n4]
  exact ⟨⟨_, g5, rfl⟩, h _ g5 g3 g4 ⟨_, g1, rfl, rfl⟩ ⟨_, g2, rfl, rfl⟩ fun c o q => wU _ (wU _ (wU _ (wU _ (wU _ q))))⟩
end PySem
namespace L2
open PySem PySem.Spec PyProof.Rows Wd
def rG (K : PySem.W.Frag)(x : Str)(q : Addr) : It := ⟨fun i H => ∃ ys y, SqT K H q ys ∧ i < x.cps.size ∧ ys[i]? = some y,
  fun i H v H' => ∃ (T : Addr) (c : Nat) (y : V), H T=none ∧ v = .ref T ∧ x.cps[i]? = some c ∧ (∀ ys, SqT K H q ys → ys[i]? = some y) ∧ H'=upd H T (.tup [.str ⟨#[c]⟩, y]),
  fun i H => ∃ ys, SqT K H q ys ∧ i=min x.cps.size ys.length⟩
theorem s_ {s : Shared}{z TI TO i1 i2 q : Addr}{a c : Value}{i : Nat}{x : Str}{t : Tok}{ys : Array Value}(D : Ap5 z TI TO i1 i2)(s1 : IsZip s.heap z TI TO .none)(s3 : IsPair s.heap TO a c)(s4 : uZ s.heap i1 x t i)(s5 : s.heap.IsTupleIter i2 q i)
    (p2 : IsTup s.heap q ys) (hTO : q≠TO) : q≠i2 ∧ Ap2 z TO i1 i2 [i1] [i2, q] := by
  obtain ⟨o1, g1, c1, _⟩ := s4
  obtain ⟨o2, g2, c2, _⟩ := s5
  obtain ⟨o4, g4, c4, _⟩ := p2
  have n2 : q≠i2 := fun e => by rw [e, g2] at g4;cases g4;rw [c2] at c4;simp at c4
  have n4 : q≠z := fun e => by rw [e, s1] at g4;cases g4;simp at c4
  have n6 : q≠i1 := fun e => by rw [e, g1] at g4;cases g4;rw [c1] at c4;simp at c4
  refine ⟨n2, ?_, ?_, ?_, ?_, ?_, ?_⟩ <;> simp only [xn, xF, yM, not_or]
  · exact D.i1z.symm
  · exact ⟨D.i2z.symm, n4.symm⟩
  · exact D.TOi1
  · exact ⟨D.TOi2, hTO.symm⟩
  · exact ⟨D.i12, n6.symm⟩
  · exact D.i12.symm
theorem jT {P : Program}{w : World}{K : PySem.W.Frag}{elts : List Expr}{k : Nat}{pos : Pos}{z TI TO i1 i2 : Addr}{x : Str}{t : Tok}{q : Addr}(D : Ap5 z TI TO i1 i2)(hTO : q≠TO) :
    oH P w K (.Tuple elts k pos) (rG K x q) [z, TI, TO, i1, i2] z (fun i h => IsZip h z TI TO .none ∧ IsPair h TI (.ref i1) (.ref i2) ∧ (∃ a b, IsPair h TO a b) ∧ uZ h i1 x t i ∧ h.IsTupleIter i2 q i) where
  mem := by simp
  obj := fun i h st b hb => by
    obtain ⟨s1, s2, ⟨a, c, s3⟩, ⟨o1, s4, _, d4⟩, ⟨o2, s5, _, d5⟩⟩ := st
    simp only [xn, xF, yM] at hb
    rcases hb with rfl | rfl | rfl | rfl | rfl
    · exact ⟨_, s1, fun v q => by cases q⟩
    · exact ⟨_, s2, fun v q => by cases q⟩
    · exact ⟨_, s3, fun v q => by cases q⟩
    · exact ⟨_, s4, fun v q => by rw [d4] at q;cases q⟩
    · exact ⟨_, s5, fun v q => by rw [d5] at q;cases q⟩
  keep := fun i h h' st kk => by
    obtain ⟨s1, s2, ⟨a, c, s3⟩, ⟨o1, s4, r4⟩, ⟨o2, s5, r5⟩⟩ := st
    exact ⟨kk z (by simp) _ s1, kk TI (by simp) _ s2, ⟨a, c, kk TO (by simp) _ s3⟩, ⟨o1, kk i1 (by simp) _ s4, r4⟩, ⟨o2, kk i2 (by simp) _ s5, r5⟩⟩
  item := by
    intro X hP hw hK hc i pins s σ H E I hf st hg
    subst hP hw hK
    obtain ⟨ys, vy, hq2, hx, hy⟩ := hg
    obtain ⟨its2, rv2, p2, hz2⟩ := I.tuple hq2
    obtain ⟨u2, hu2, ru2⟩ := rv2.get hy
    obtain ⟨s1, s2, ⟨a, c, s3⟩, s4, s5⟩ := st
    have hu2' : its2.toArray[i]? = some u2 := by simpa using hu2
    obtain ⟨np1, np2⟩ := s_ D s1 s3 s4 s5 p2 hTO
    refine jO (Draws.strAscii (by exact I.ok.hd hc) i1 x t) (lg (by exact I.ok.hd hc) i2 q np1 its2.toArray) D np2 s1 s2 s3 s4 ⟨s5, p2⟩ hx (xA.mp hu2').1 fun h' tk v1 v2 w1 w2 b1 b2 b3 b4 b5 b6 => ⟨_, rfl, ?_⟩
    obtain ⟨cc, uu, hcc, rfl⟩ := w1
    obtain rfl : u2=v2 := by rw [show its2.toArray[i]? = some v2 from w2] at hu2';exact (w4 hu2').symm
    refine wpAny_letOwnedTupleGo_zip b1 fun h2 c1' e2 => ?_
    have there : ∀ b∈[z, TI, TO, i1, i2], ∃ o, s.heap.get? b=some o := fun b hb => by
      obtain ⟨o1, q4, _⟩ := s4
      obtain ⟨o2, q5, _⟩ := s5
      simp only [xn, xF, yM] at hb
      rcases hb with rfl | rfl | rfl | rfl | rfl
      · exact ⟨_, s1⟩
      · exact ⟨_, s2⟩
      · exact ⟨_, s3⟩
      · exact ⟨_, q4⟩
      · exact ⟨_, q5⟩
    have kk : ∀ b o, b∉[z, TI, TO, i1, i2] → s.heap.get? b=some o → h2.get? b=some o := fun b o hb e => by
      simp only [xn, xF, yM, not_or] at hb
      exact e2.extBut _ _ hb.1 (b6 b o hb.1 hb.2.2.1 hb.2.2.2.1 hb.2.2.2.2 e)
    have hTz : s.heap.objs.size≠z := y9 (wZ s1)
    have I2 : Inv X pins σ (upd H s.heap.objs.size (.tup [.str ⟨#[cc]⟩, vy])) { s with heap := h2, toks := tk } :=
      I.stepT (ch := [z, TI, TO, i1, i2]) (its := [.str ⟨#[cc]⟩ uu, u2]) hf kk (wX _) (by show 2≤sizeLine;decide) (.cons ⟨_, rfl⟩ (.cons ru2 .nil)) ⟨_, e2.extBut _ _ hTz b5, rfl, _, rfl⟩ ⟨_, e2.extBut _ _ hTz b5, rfl⟩ there
    have hnT : H s.heap.objs.size=none := I.hok.fresh (wX _)
    have sTI : IsPair h2 TI (.ref i1) (.ref i2) := e2.extBut _ _ D.TIz (b6 _ _ D.TIz D.TITO D.TIi1 D.TIi2 s2)
    refine ⟨.ref s.heap.objs.size, _, I2, rfl, ⟨s.heap.objs.size, cc, vy, hnT, rfl, hcc, fun zs hz => by rw [I.tuple_inj hz hq2];exact hy, rfl⟩,
      ⟨c1', sTI, ⟨_, _, e2.extBut _ _ D.TOz b2⟩, b3.extBut e2.extBut D.i1z, b4.1.at fun o q => e2.extBut _ _ D.i2z q⟩, fun b hb => ?_⟩
    obtain ⟨o, q⟩ := there b hb
    rw [ao (xx (wZ q))]
    exact (hf b hb).1
  done := by
    intro X hP hw hK hc i pins s σ H E I hf st hg
    subst hP hw hK
    obtain ⟨ys, hq2, hi⟩ := hg
    obtain ⟨its2, rv2, p2, hz2⟩ := I.tuple hq2
    have hl2 := rv2.length
    obtain ⟨s1, s2, ⟨a, c, s3⟩, s4, s5⟩ := st
    obtain ⟨np1, np2⟩ := s_ D s1 s3 s4 s5 p2 hTO
    refine lr (Draws.strAscii (by exact I.ok.hd hc) i1 x t) (lg (by exact I.ok.hd hc) i2 q np1 its2.toArray) D np2 s1 s2 s3 s4 ⟨s5, p2⟩ ?_ fun h' tk kk => ⟨rfl, ?_⟩
    · simp only [w5]
      omega
    · have nch : ∀ {b u}, H b=some u → b∉[z, TI, TO, i1, i2] := fun e q => by rw [(hf _ q).1] at e;cases e
      have k2 : ∀ b o, b∉[z, TI, TO, i1, i2] → s.heap.get? b=some o → h'.get? b=some o := fun b o hb e => by
        simp only [xn, xF, yM, not_or] at hb
        exact kk b o hb.1 hb.2.2.1 hb.2.2.2.1 hb.2.2.2.2 e
      refine I.step (g' := s.gens) (d' := s.drawn) (ch := [z, TI, TO, i1, i2]) (fun b hb => ?_) (fun b o _ _ hc e _ => k2 b o hc e) (fun b o _ _ hc e _ => ⟨o.slots, k2 b o hc e⟩) (fun _ _ _ _ n => n) (fun b o hc e => ⟨o, k2 b o hc e⟩)
        (fun _ _ e => e) (fun _ _ _ e => e) (fun b ps e => ⟨#[], by rw [e];simp⟩) (fun m hm => ?_) (fun b u e => ?_) I.bare
      · obtain ⟨_, f1, _, f3, f4, f5⟩ := hf b hb
        exact ⟨f3, f1, f4, f5⟩
      · obtain ⟨o, es, ep, ho, r⟩ := hm
        exact ⟨o, es, ep, k2 _ o (fun q => (hf _ q).2.1 rfl) ho, r⟩
      · refine (I.hok b u e).stay (fun c v hc q => k2 c v ?_ q) (fun _ q => q) fun _ _ q => q
        rcases hc with q | q
        · rw [q];exact nch e
        · exact nch q
  self := fun _ _ _ _ _ st h => wpAny_pyIter_zip st.1 h
section
variable {X : Cx}
def tj (K : PySem.W.Frag)(ta : TA) : TI := fun σ H R => ta σ H fun vs H1 => ∃ x q, vs=[.str x, .ref q] ∧ x.cps.all (· < 128)=true ∧ (∃ ys, SqT K H1 q ys) ∧ R (rG K x q) H1
theorem nO {K : PySem.W.Frag}(hK : X.K=K){a b : Expr}{ta : TA}{p pos tp : Pos}{elts : List Expr}{k : Nat}(hg : Gl X "zip")(hm : X.mg "zip" = none)(hb : bootBuiltins "zip" = some (.type "zip"))(ha : PA X [a, b] ta)(hs : starEach [a, b] X.env=(false, eval a X.env)::starEach [b] X.env := by rfl)(hs2 : (backTo pos (starEach [b] X.env)).any (·.1)=false := by rfl) :
    PI X (.Tuple elts k tp) (.Call (.Name "zip" p) [a, b] [] pos) (tj K ta) := by
  subst hK
  intro pins s σ H R I h
  refine Call_ (dz I hg hm hb (xZ (thn (ha pos pins s σ H _ I h) fun us s1 zq1 => ?_) hs hs2))
  obtain ⟨vs, H1, I1, r1, q1⟩ := zq1
  obtain ⟨x, l2, rfl, hx, ⟨ys, hy⟩, q⟩ := q1
  obtain ⟨u1, u2, rfl, r3, r4⟩ := pK r1
  obtain ⟨tt, rfl⟩ := r3
  cases r4
  obtain ⟨its2, rv2, p2, hz2⟩ := I1.tuple hy
  refine jS hx p2 fun h' b1 b2 b3 b4 b5 b6 => ?_
  have I2 : Inv X pins σ H1 { s1 with heap := h', toks := s1.toks } := I1.kept b6
  have hlt : l2 < s1.heap.objs.size := by obtain ⟨o, e, _⟩ := p2;exact wZ e
  refine wpAny_pyIter_zip (s := { s1 with heap := h', toks := s1.toks }) b1 ?_
  refine ⟨s1.heap.objs.size+4, [s1.heap.objs.size+4, s1.heap.objs.size+2, s1.heap.objs.size+3, s1.heap.objs.size, s1.heap.objs.size+1], _, rG X.K x l2, H1, rfl, I2,
    jT (t := tt) (sI s1.heap.objs.size) (xx (w9 hlt (Nat.le_add_right _ _))), ⟨b1, b2, ⟨_, _, b3⟩, b4, b5⟩, fun b hb => ?_, q⟩
  have hge : s1.heap.objs.size≤b := by
    simp only [xn, xF, yM] at hb
    rcases hb with rfl | rfl | rfl | rfl | rfl <;> omega
  exact I1.fpOk hge (I1.hok.fresh hge)
end
theorem lF {K : PySem.W.Frag}{z : Str}{q : Addr}{ys : List V}{g : TG}{tb : TS}{D : dJ}{σ : St}{H : Hp}(Pv : Nat → St → Hp → Prop)(h0 : Pv 0 σ H)(hl : ∀ i σ H, Pv i σ H → SqT K H q ys)
    (hs : ∀ i c y σ H T, z.cps[i]? = some c → ys[i]? = some y → Pv i σ H → H T=none → g (.ref T) σ (upd H T (.tup [.str ⟨#[c]⟩, y])) fun σ2 H2 => tb { D with nx := Pv (i+1), ct := Pv (i+1), bk := D.nx } σ2 H2) (hd : ∀ σ H, Pv (min z.cps.size ys.length) σ H → D.nx σ H) :
    ∃ W : Nat → Nat → St → Hp → Prop, (∃ m, W 0 m σ H) ∧ ∀ i m σ H, W i m σ H →
      ((rG K z q).stop i H ∧ D.nx σ H) ∨ ((rG K z q).go i H ∧ ∃ N : St → Hp → Prop, (∀ σ' H', N σ' H' → ∃ m', m' < m ∧ W (i+1) m' σ' H') ∧ ∀ x H', (rG K z q).yld i H x H' → g x σ H' fun σ2 H2 => tb { D with nx := N, ct := N, bk := D.nx } σ2 H2) := by
  refine ⟨fun i m σ H => m=min z.cps.size ys.length - i ∧ i≤min z.cps.size ys.length ∧ Pv i σ H, ⟨min z.cps.size ys.length, by simp, xQ _, h0⟩, ?_⟩
  rintro i m σ H ⟨rfl, hi, pv⟩
  have q2 := hl i σ H pv
  by_cases hlt : i < min z.cps.size ys.length
  · refine .inr ⟨⟨ys, ys[i], q2, by omega, xf (by omega)⟩, Pv (i+1), fun σ' H' p' => ⟨min z.cps.size ys.length - (i+1), by omega, rfl, hlt, p'⟩, ?_⟩
    rintro v H' ⟨T, c, y, hT, rfl, hx, hy, rfl⟩
    exact hs i c y σ _ T hx (hy ys q2) pv hT
  · obtain rfl : i=min z.cps.size ys.length := by omega
    exact .inl ⟨⟨ys, q2, rfl⟩, hd σ H pv⟩
end L2
namespace L2
open PySem PySem.Spec PyProof.Rows Wd
end L2
namespace L2
open PySem PySem.Spec PyProof.Rows Wd
section
variable {X : Cx}
end
end L2
namespace Wd
def img (ws : List (List L))(x : L) : List L := if x.val < 6 then ws.getD x.val [] else bk (ws.getD (x.val - 6) [])
def sub (ws : List (List L))(u : List L) : List L := u.flatMap (img ws)
theorem bC (x : L) : (inv x).val=if x.val < 6 then x.val+6 else x.val - 6 := by unfold inv; split <;> rfl
theorem iL (ws : List (List L))(x : L) : img ws (inv x)=bk (img ws x) := by
  unfold img
  rw [bC]
  by_cases h : x.val < 6
  · rw [if_pos h, if_pos h, if_neg (by omega), Nat.add_sub_cancel]
  · have := x.isLt
    rw [if_neg h, if_neg h, if_pos (by omega), nk]
theorem c5 (ws : List (List L))(x : L)(u : List L) : sub ws (x::u)=img ws x++sub ws u := by simp [sub]
theorem bx (ws : List (List L))(u v : List L) : sub ws (u++v)=sub ws u++sub ws v := by simp [sub]
theorem cm (ws : List (List L))(x : L) : sub ws [x]=img ws x := by simp [sub]
theorem lG (ws : List (List L)) : ∀ u, sub ws (bk u)=bk (sub ws u)
  | [] => rfl
  | x::u => by rw [kO, bx, lG ws u, cm, iL, c5, gJ]
theorem iM (ws : List (List L))(v : List L) : ∀ (st : List L), Rd st → act (sub ws (red v)) st=act (sub ws v) st := by
  have all : ∀ (u v : List L) (st : List L), v=u.reverse → Rd st → act (sub ws (red v)) st=act (sub ws v) st := by
    intro u
    induction u with
    | nil => intro v st e _;subst e;rfl
    | cons x u ih =>
      intro v st e h
      subst e
      rw [xN, bx, a8, ← ih _ st rfl h]
      unfold red
      rw [bJ]
      cases hq : act u.reverse [] with
      | nil => 
        show act (sub ws [x]) st=act (sub ws [x]) (act (sub ws []) st)
        rfl
      | cons y r =>
        show act (sub ws (if y=inv x then r else x::y::r).reverse) st=act (sub ws [x]) (act (sub ws (y::r).reverse) st)
        by_cases e : y=inv x
        · have hx : x=inv y := by rw [e, bp]
          rw [if_pos e, xN, bx, a8, hx, cm, cm, iL, kQ _ (gK _ h)]
        · rw [if_neg e, xN, bx, a8]
  exact fun st h => all v.reverse v st (by simp) h
theorem iN (ws : List (List L))(v : List L) : red (sub ws (red v))=red (sub ws v) := by
  unfold red
  rw [show (act v []).reverse=red v from rfl, iM ws v [] jg]
def aF (ws vs : List (List L)) : List (List L) := ws.map fun w => red (sub vs w)
theorem fQ (v : List L) : red (red v)=red v := by
  have := cY v []
  rwa [x_, x_] at this
theorem pb (u : List L) : red (bk (red u))=red (bk u) := by
  have h1 : red (bk u++u)=[] := by
    have := kU (bk u)
    rwa [nk] at this
  have h2 : red (bk (red u)++red u)=[] := by
    have := kU (bk (red u))
    rwa [nk] at this
  have e1 : red (red (bk (red u))++red (u++bk u))=red (bk (red u)) := by rw [kU, x_, fQ]
  have e2 : red (red (bk (red u))++red (u++bk u))=red (bk u) := by
    rw [cY, cZ, ← Al, ← cY, ← cZ (bk (red u)) u, h2]
    rfl
  rw [← e1, e2]
theorem gW (ws vs : List (List L))(x : L) : red (img (aF ws vs) x)=red (sub vs (img ws x)) := by
  have g : ∀ n, (aF ws vs).getD n []=red (sub vs (ws.getD n [])) := fun n => by
    unfold aF
    rw [xk, xk, xq]
    cases ws[n]? with
    | none => rfl
    | some w => rfl
  unfold img
  by_cases h : x.val < 6
  · rw [if_pos h, if_pos h, g, fQ]
  · rw [if_neg h, if_neg h, g, lG, pb]
theorem dG (ws vs : List (List L)) : ∀ u, red (sub (aF ws vs) u)=red (sub vs (sub ws u))
  | [] => rfl
  | x::u => by
    rw [c5, c5, bx, ← cY, gW, cY, ← cZ, dG ws vs u, cZ]
theorem c6 (as bs cs : List (List L)) : aF (aF as bs) cs=aF as (aF bs cs) := by
  unfold aF
  rw [x4]
  apply z_
  intro w _
  show red (sub cs (red (sub bs w)))=red (sub (aF bs cs) w)
  rw [iN, dG]
def ak (n : Nat) : List (List L) := (([0, 1, 2, 3, 4, 5] : List L).take n).map fun x => [x]
def InM (n : Nat)(u : List L) : Prop := ∀ x∈u, x.val % 6 < n
theorem eL : ∀ (n : Nat) (h : n≤6) (x : L), x.val < n → (ak n).getD x.val []=[x] := by
  intro n h x hx
  have : ∀ (n : Fin 7) (x : L), x.val < n.val → (ak n.val).getD x.val []=[x] := by decide
  exact this ⟨n, by omega⟩ x hx
theorem gX {n : Nat}(h : n≤6){x : L}(hx : x.val % 6 < n) : img (ak n) x=[x] := by
  unfold img
  have := x.isLt
  by_cases h1 : x.val < 6
  · rw [if_pos h1, eL n h x (by omega)]
  · rw [if_neg h1]
    have e : (inv x).val=x.val - 6 := by rw [bC, if_neg h1]
    have := eL n h (inv x) (by omega)
    rw [e] at this
    rw [this, dD, bp]
theorem gY {n : Nat}(h : n≤6) : ∀ {u : List L}, InM n u → sub (ak n) u=u
  | [], _ => rfl
  | x::u, hu => by
    rw [c5, gX h (hu x xv), gY h fun y hy => hu y (xm _ hy)]
    rfl
theorem InM.bk {n : Nat}{u : List L}(h : InM n u) : InM n (bk u) := by
  intro x hx
  unfold Wd.bk at hx
  rw [List.mem_reverse, yX] at hx
  obtain ⟨y, hy, rfl⟩ := hx
  have h1 := h y hy
  have := y.isLt
  rw [bC]
  split <;> omega
theorem lH : ∀ (u st : List L) (x : L), x∈act u st → x∈u ∨ x∈st
  | [], st, x, h => .inr h
  | y::u, st, x, h => by
    rw [dU] at h
    rcases lH u _ x h with h | h
    · exact .inl (xm _ h)
    · cases st with
      | nil =>
        have h : x∈[y] := h
        rw [xB] at h
        exact .inl (h ▸ xv)
      | cons z r =>
        have h : x∈(if z=inv y then r else y::z::r) := h
        split at h
        · exact .inr (xm _ h)
        · rcases xn.mp h with h | h
          · exact .inl (h ▸ xv)
          · exact .inr h
theorem qA {u : List L}{x : L}(h : x∈red u) : x∈u := by
  unfold red at h
  rw [List.mem_reverse] at h
  rcases lH u [] x h with h | h
  · exact h
  · cases h
theorem InM.red {n : Nat}{u : List L}(h : InM n u) : InM n (red u) := fun x hx => h x (qA hx)
structure cy (n b : Nat) (ws : List (List L)) : Prop where
  len : ws.length=n
  rd : ∀ w∈ws, red w=w
  ins : ∀ w∈ws, InM n w
  le : ∀ w∈ws, w.length≤b
theorem cy.img {n b : Nat}{ws : List (List L)}(M : cy n b ws)(x : L) : InM n (img ws x) ∧ (img ws x).length≤b := by
  have g : ∀ k, InM n (ws.getD k []) ∧ (ws.getD k []).length≤b := fun k => by
    rw [xk]
    cases h : ws[k]? with
    | none => exact ⟨fun x hx => (by cases hx), xQ _⟩
    | some w => exact ⟨M.ins w (xj h), M.le w (xj h)⟩
  unfold Wd.img
  split
  · exact g _
  · exact ⟨(g _).1.bk, by rw [bP];exact (g _).2⟩
theorem cy.sub {n b : Nat}{ws : List (List L)}(M : cy n b ws) : ∀ u : List L, InM n (sub ws u) ∧ (sub ws u).length≤u.length*b
  | [] => ⟨fun x hx => (by cases hx), xQ _⟩
  | x::u => by
    obtain ⟨h1, h2⟩ := M.sub u
    obtain ⟨h3, h4⟩ := M.img x
    rw [c5]
    refine ⟨fun y hy => ?_, ?_⟩
    · rcases yE.mp hy with hy | hy
      · exact h3 y hy
      · exact h1 y hy
    · rw [wY, xu, AF]
      omega
theorem cy.then {n a b : Nat}{ws vs : List (List L)}(M : cy n a ws)(N : cy n b vs) : cy n (a*b) (aF ws vs) := by
  refine ⟨by unfold aF;rw [wV, M.len], ?_, ?_, ?_⟩
  all_goals
    intro w hw
    obtain ⟨v, hv, rfl⟩ := yX.mp hw
  · exact fQ _
  · exact (N.sub v).1.red
  · have h1 := fi (Wd.sub vs v)
    have h2 := (N.sub v).2
    have h3 := y4 b (M.le v hv)
    omega
theorem aO {n : Nat}(h : n≤6) : cy n 1 (ak n) := by
  have q : ∀ w∈ak n, ∃ x : L, w=[x] ∧ x.val < n := by
    intro w hw
    have : ∀ (n : Fin 7), ∀ w∈ak n.val, ∃ x : L, w=[x] ∧ x.val < n.val := by decide
    exact this ⟨n, by omega⟩ w hw
  refine ⟨by unfold ak;rw [wV, w_];simp;omega, ?_, ?_, ?_⟩
  all_goals
    intro w hw
    obtain ⟨x, rfl, hx⟩ := q w hw
  · rfl
  · intro y hy
    rw [xB] at hy
    subst hy
    omega
  · exact wX _
theorem fv {n b : Nat}{ws : List (List L)}(h : n≤6)(M : cy n b ws) : aF ws (ak n)=ws := by
  unfold aF
  conv => rhs;rw [← List.map_id ws]
  apply z_
  intro w hw
  rw [gY h (M.ins w hw), M.rd w hw]
  rfl
theorem tm : ∀ i : Fin 6, ([0, 1, 2, 3, 4, 5] : List L)[i.val]? = some ⟨i.val, by omega⟩ := by decide
theorem fw {n b : Nat}{ws : List (List L)}(h : n≤6)(M : cy n b ws) : aF (ak n) ws=ws := by
  apply List.ext_getElem?
  intro i
  unfold aF ak
  rw [x4, xq]
  by_cases hi : i < n
  · have e : (([0, 1, 2, 3, 4, 5] : List L).take n)[i]? = some ⟨i, by omega⟩ := by
      rw [zb hi]
      exact tm ⟨i, by omega⟩
    rw [e]
    have hl : i < ws.length := by rw [M.len];exact hi
    rw [xf hl]
    show some (red (Wd.sub ws [⟨i, _⟩]))=_
    rw [cm]
    unfold Wd.img
    rw [if_pos (by show i < 6;omega)]
    show some (red (ws.getD i []))=_
    rw [xk, xf hl]
    show some (red ws[i])=_
    rw [M.rd _ (yt hl)]
  · rw [yY (by rw [w_];simp;omega), yY (by rw [M.len];omega)]
    rfl
end Wd
namespace PySem
section
variable {prog : Program} {w : World} {A : Around} {E : Value → Shared → Prop}
theorem jt {it t : Addr}{items : Array Value}(hne : t≠it) : ∀ (n i : Nat) (s : Shared) (Q : List Value → Shared → Prop), s.heap.IsListIter it t i → s.heap.IsList t items → i+n≤items.size →
    (∀ h', h'.IsListIter it t (i+n) → Heap.SameBut it s.heap h' → Q ((items.toList.drop i).take n) { s with heap := h' }) → wpAny (model prog w) A (draw (.ref it) n) Q E s
  | 0, i, s, Q, hit, _, _, hQ => by
    show wpAny _ _ (pure []) Q E s
    exact xb (by simpa using hQ s.heap hit (Heap.SameBut.refl ..))
  | n+1, i, s, Q, hit, ht, hle, hQ => by
    have hlt : i < items.size := by omega
    show wpAny _ _ (pyNext (.ref it) >>= _) Q E s
    refine fu (wpAny_pyNext_list_item hit ht (x := items[i]) (by simp [hlt]) fun h₁ hit₁ hs₁ => ?_)
    refine fu (yd (jt hne n (i+1) _ _ hit₁ (ht.extBut hs₁.extBut hne) (by omega) fun h₂ hit₂ hs₂ => xb ?_))
    have hd : items.toList.drop i=items[i]::items.toList.drop (i+1) := by simp [yC, hlt]
    have := hQ h₂ (by rw [show i+(n+1)=i+1+n by omega];exact hit₂) (hs₁.trans hs₂)
    rw [hd, List.take_succ_cons] at this
    exact this
theorem eM {s : Shared}{t : Addr}{items : Array Value}{Q : List Value → Shared → Prop}(hh : A.handled=none)(ht : s.heap.IsList t items)
    (hQ : ∀ h', Heap.ExtBut s.heap.objs.size s.heap h' → Q items.toList { s with heap := h' }) : wpAny (model prog w) A (unpackItems (.ref t) items.size none) Q E s := by
  have hlt : t≠s.heap.objs.size := by obtain ⟨o, ho, _⟩ := ht;exact xx (wZ ho)
  unfold unpackItems
  refine fu ?_
  · unfold notIterableAtAll
    refine fu (zY ht.typeIs F.slot_list_iter.lookup ?_)
    refine xb ?_
    simp only [yS, As]
    refine fu (yd (wpAny_pyIter_list ht ?_))
    refine fu (yd (jt hlt items.size 0 _ _ ⟨_, w6 _ rfl, rfl, rfl⟩ (ht.push _) (by omega) fun h₁ hit₁ hs₁ => ?_))
    have hall : List.take items.size (List.drop 0 items.toList)=items.toList := by
      rw [zF];exact xE (by simp)
    rw [hall]
    rw [if_neg (by simp)]
    have ht₁ : h₁.IsList t items := (ht.push _).extBut hs₁.extBut hlt
    refine fu (yd (wpAny_pyNext_list_end hh hit₁ ht₁ (by simp) fun h₂ he₂ => ?_))
    simp only [Option.isSome_none, yS, As]
    refine xb (hQ h₂ fun b o hb e => he₂ b o hb (hs₁.extBut b o hb (wU _ e)))
theorem jU {s : Shared}{t : Addr}{items : Array Value}{targets : List (Bool × (Value → Sem Unit))}{Q : Unit → Shared → Prop}(hh : A.handled=none)(ht : s.heap.IsList t items)
    (hn : targets.length=items.size) (hstar : targets.findIdx? (·.1)=none)
    (h : ∀ h', Heap.ExtBut s.heap.objs.size s.heap h' → wpAny (model prog w) A (assignInOrder (targets.map (·.2)) items.toList) Q E { s with heap := h' }) :
    wpAny (model prog w) A (unpack (.ref t) targets) Q E s := by
  unfold unpack
  rw [hn, hstar]
  exact fu (yd (eM hh ht h))
end
end PySem
namespace L2
open PySem PySem.Spec PyProof.Rows Wd
section
variable {X : Cx} {pos : Pos}
theorem dM {prog : Program}{w : World}{A : Around}{E : Value → Shared → Prop}{s : Shared}{env : Env}{elts : List Expr}{x1}{pos : Pos}{t : Addr}{items : Array Value}{Q : Unit → Shared → Prop}(hh : A.handled=none)(ht : s.heap.IsList t items)
    (hn : (assignEach elts env).length=items.size) (hstar : (assignEach elts env).findIdx? (·.1)=none)
    (h : ∀ h', Heap.ExtBut s.heap.objs.size s.heap h' → wpAny (model prog w) A (assignInOrder ((assignEach elts env).map (·.2)) items.toList) Q E { s with heap := h' }) :
    wpAny (model prog w) A (assign (.Tuple elts x1 pos) env (.ref t)) Q E s := by
  rw [arm_assign_Tuple]
  exact fu (zN (jU hh ht hn hstar h))
def vb (K : PySem.W.Frag)(n : Nat)(t : TGs) : TG := fun v σ H Q => ∃ a xs, v = .ref a ∧ SqL K H a xs ∧ xs.length=n ∧ t xs σ H Q
theorem tq {es : List Expr}{k : Nat}{t : TGs}{n : Nat}(hc : X.calm=true)(h : PGs X es t)
    (hn : (assignEach es X.env).length=n := by rfl) (hst : (assignEach es X.env).findIdx? (·.1)=none := by rfl) : PG X (.Tuple es k pos) (vb X.K n t) := by
  intro pins s σ H v u Q I r hw
  obtain ⟨a, xs, e1, hq, hl, hw⟩ := hw
  subst e1
  cases r
  obtain ⟨its, rv, ht, hz⟩ := I.list hq
  refine dM (I.ok.hd hc) ht.isList (by simp [hn, ← hl, rv.length]) hst fun h' hx => ?_
  have I1 : Inv X pins σ H { s with heap := h' } := I.kept (t' := s.toks) fun b o e => hx b o (xx (wZ e)) e
  exact h pins _ σ H xs _ Q I1 (by simpa using rv) hw
inductive vO (x : V)(y : V)(H : Hp)(Q : VK) : Prop
  | mk : ∀ da db, (Dt H x da) → (Dt H y db) → (da.canLay0=true) → (db.canLay0=true) → (da.depth≤10) → (Q (.bl (!PyData.eqv da db)) H) → vO x y H Q
theorem lI (hu : X.A.units+64 < cLine) : OpR X (compareOp .NotEq) vO := by
  intro pins s σ H x y v u Q I rx ry h
  obtain ⟨da, db, ha, hb, la, lb, dp, q⟩ := h
  obtain ⟨as, ra⟩ := ha.reads I.hok rx
  obtain ⟨bs, rb⟩ := hb.reads I.hok ry
  exact EqBoolInt.of_rcne (SeqAt.rcNeAt_reads ra rb la lb (by omega)) ⟨.bl _, H, I, rfl, q⟩
end
theorem qB (u : List L) : (PyData.str (toS u)).canLay0=true := by
  unfold PyData.canLay0 PyData.strOk
  rw [← Array.all_toList, aZ, zI]
  intro c hc
  obtain ⟨x, _, rfl⟩ := yX.mp hc
  have := nr x
  exact xt (by omega)
theorem gZ : ∀ ws : List (List L), PyData.canLayAll0 (ws.map fun u => .str (toS u))=true
  | [] => rfl
  | u::ws => by
    rw [xM, PyData.canLayAll0, qB, gZ ws]
    rfl
theorem eP (ws : List (List L)) : (PyData.tuple (ws.map fun u => .str (toS u))).canLay0=true := by
  unfold PyData.canLay0
  exact gZ ws
theorem lJ (ws : List (List L)) : PyData.eqv (.tuple (ws.map fun u => .str (toS u))) (.tuple (ws.map fun u => .str (toS u)))=true := SeqAt.eqv_refl _ (eP ws)
end L2
namespace L2
open PySem PySem.Spec PyProof.Rows Wd
section
variable {X : Cx}
inductive pd (x : V)(vs : List V)(H : Hp)(Q : VK) : Prop
  | mk : ∀ z y, (x = .str z) → (vs=[.str y]) → (Q (.int (Txt.find z y)) H) → pd x vs H Q
theorem ju : MtR X "str.find" pd := by
  intro pins s σ H x vs v us Q I rx rv h
  obtain ⟨z, y, rfl, rfl, q⟩ := h
  obtain ⟨t, rfl⟩ := rx
  obtain ⟨u1, rfl, ⟨t1, rfl⟩⟩ := cb rv
  exact SC.find ⟨.int _, H, I.tok _, ⟨_, rfl⟩, q⟩
inductive jv (x : V)(vs : List V)(H : Hp)(Q : VK) : Prop
  | mk : ∀ z, (x = .str z) → (vs=[]) → (Q (.bl (Txt.islower z)) H) → jv x vs H Q
theorem jV : MtR X "str.islower" jv := by
  intro pins s σ H x vs v us Q I rx rv h
  obtain ⟨z, rfl, rfl, q⟩ := h
  obtain ⟨t, rfl⟩ := rx
  cases rv
  exact SC.islower ⟨.bl _, H, I, rfl, q⟩
end
theorem fR : ∀ x : L, Txt.find ("abcdef" : Str) (Txt.lower (toS [x]))=((x.val % 6 : Nat) : Int) := by
  have q : ∀ x : L, Txt.find ("abcdef" : Str) (⟨(([x].map cp).map lo1).toArray⟩ : Str)=((x.val % 6 : Nat) : Int) := by decide +kernel
  intro x
  rw [eD]
  exact q x
theorem lK : ∀ x : L, Txt.islower (toS [x])=decide (x.val < 6) := by decide +kernel
theorem tu : ∀ i : _root_.Fin 6, ("abcdef" : Str).cps[i.val]? = some (cp ⟨i.val, by omega⟩) := by decide +kernel
theorem sm_at {i c : Nat}(h : ("abcdef" : Str).cps[i]? = some c) : ∃ x : L, x.val=i ∧ i < 6 ∧ c=cp x := by
  have hl : i < 6 := by
    obtain ⟨h1, _⟩ := xA.mp h
    have : ("abcdef" : Str).cps.size=6 := by decide +kernel
    omega
  have := tu ⟨i, hl⟩
  rw [this] at h
  exact ⟨⟨i, by omega⟩, rfl, hl, (w4 h).symm⟩
theorem g0 : ∀ ws : List (List L), Txt.join ("" : Str) (ws.map toS)=toS ws.flatten := by
  intro ws
  have e0 : ("" : Str)=Str.empty := by decide +kernel
  unfold Txt.join
  rw [StrLaws.glued_eq_join, e0]
  induction ws with
  | nil => rfl
  | cons x r ih =>
    cases r with
    | nil =>
      show toS x=_
      simp
    | cons y r =>
      show toS x++Str.empty++Str.join Str.empty ((y::r).map toS)=_
      rw [ih, Str.append_empty, az]
      rfl
theorem jw (ws : List (List L)) : ((ws.map toS).map (·.length)).sum=ws.flatten.length := by
  induction ws with
  | nil => rfl
  | cons x r ih =>
    simp only [xM, List.sum_cons, yF, wY]
    rw [ih, af]
theorem nQ (ws : List (List L))(u : List L) : Txt.join ("" : Str) ((u.map (img ws)).map toS)=toS (sub ws u) := by
  rw [g0]
  rfl
end L2
namespace Kx
open PySem PySem.Spec PyProof.Rows L2 Wd
structure pe (n b : Nat) (ws : List (List L)) (H : Hp) (p : Addr) : Prop where
  at_ : H p=some (.tup (ws.map tx))
  ok : cy n b ws
theorem pe.same {n b : Nat}{ws : List (List L)}{H H' : Hp}{p : Addr}(M : pe n b ws H p)(s : aw H H') : pe n b ws H' p := ⟨s _ _ M.at_, M.ok⟩
inductive iO (vs : List V)(H : Hp)(Q : VK)(u3_ : XK) : Prop
  | mk : ∀ (n : Nat), (vs=[.int (n : Int)]) → (1≤n) → (n≤6) → (∀ (r : Addr) (H' : Hp), H r=none → aw H H' → pe n 1 (ak n) H' r → Q (.ref r) H') → iO vs H Q u3_
end Kx
namespace L2
open PySem PySem.Spec PyProof.Rows Wd
section
variable {X : Cx}
inductive lL (x : V)(vs : List V)(H : Hp)(Q : VK) : Prop
  | mk : ∀ l xs i y, (x = .ref l) → (vs=[.int i, y]) → (H l=some (.lst xs)) → (0≤i) → (i≤xs.length) → (xs.length < sizeLine) → (Q .non (upd H l (.lst (xs.take i.toNat++y::xs.drop i.toNat)))) → lL x vs H Q
theorem lM : MtM X "list.insert" lL := by
  intro pins s σ H x vs v us Q I rx rv h
  obtain ⟨l, xs, i, y, rfl, rfl, hH, h0, h1, hz, q⟩ := h
  cases rx
  obtain ⟨u1, u2, rfl, ⟨t1, rfl⟩, r2⟩ := pK rv
  obtain ⟨z, its, n, r, hl, e⟩ := I.lstM hH
  have hn := cB
  have hfit : Builtin.List.listFitsIndex i=true := by
    unfold Builtin.List.listFitsIndex
    rw [yO, Ao, Ao]
    constructor <;> omega
  refine zw Ap ⟨_, e, rfl⟩ PySem.F.entry_list_insert (PySem.F.args_list_insert_3 _ _ _) (PySem.AutoSeq1.list_insert_list_int_val_1 l its.toArray n i t1 u2 (by simp [hfit]) (by rw [w5];omega)) ⟨e, ?_⟩
  refine ⟨.non, _, I.lset (its' := its.take i.toNat++u2::its.drop i.toNat) hH e ?_ ((r.take _).append (.cons r2 (r.drop _))) ?_, rfl, q⟩
  · have hm : min i.toNat its.length=i.toNat := by omega
    simp only [w5, if_neg (show ¬ i < 0 by omega), hm]
    apply Array.toList_inj.mp
    simp
    exact xE (by rw [yb];exact wX _)
  · rw [wY, xu, w_, yb]
    omega
end
end L2
namespace Wd
structure Srf (u : List L) : Prop where
  ne : u≠[]
  nd : u.Nodup
  iv : ∀ x∈u, inv x∈u
  le : u.length≤12
def vP (u : List L)(g : Nat) : L := u.getD ((g+1) % u.length) 0
def vc (u : List L)(g : Nat) : Nat := u.idxOf (inv (vP u g))
structure Sn (u : List L) (S : List Nat) : Prop where
  nd : S.Nodup
  lt : ∀ g∈S, g < u.length
def tw (u : List L) : Nat → Nat → List Nat → List L → List Nat × List L
  | 0, _, S, w => (S, w)
  | n+1, g, S, w => if g∈S then (S, w) else tw u n (vc u g) (S++[g]) (w++[vP u g])
def wk (u : List L)(g : Nat)(S : List Nat)(w : List L) : List Nat × List L := tw u (u.length+1 - S.length) g S w
def rH (u : List L) : Nat → List Nat × List (List L)
  | 0 => ([], [])
  | i+1 => if i∈(rH u i).1 then rH u i else ((wk u i (rH u i).1 []).1, (rH u i).2++[(wk u i (rH u i).1 []).2])
def hol (u : List L) : List (List L) := (rH u u.length).2
end Wd
namespace Kx
open PySem PySem.Spec PyProof.Rows L2 Wd
theorem lN (u : List L)(x : L)(i : Nat) : StrLaws.At (toS u) (toS [x]) (toS u).length i ↔ u[i]? = some x := by
  unfold StrLaws.At
  rw [af, af, StrLaws.subAt_eq, af, aZ, aZ, AL, ← AS, ← zP]
  simp only [xP]
  constructor
  · rintro ⟨h1, h2⟩
    have h2 := dk h2
    have : (u.drop i).take 1=[u[i]] := by rw [yC (by omega)];rfl
    rw [this] at h2
    rw [xf (by omega)]
    exact xH some (AV h2).1
  · intro h
    obtain ⟨hl, e⟩ := wW.mp h
    refine ⟨by omega, ?_⟩
    rw [yC hl, e]
    rfl
theorem tB {u : List L}{x : L}(h : x∈u) : ∃ rest, Builtin.Str.occurrences (toS u) (toS [x]) 0 (toS u).length 1=u.idxOf x::rest := by
  have hlt := List.idxOf_lt_length_of_mem h
  have hx : u[u.idxOf x]? = some x := by rw [xf hlt];exact xH some (List.getElem_idxOf hlt)
  rcases StrLaws.occ_head (toS u) (toS [x]) 1 (wX 1) with ⟨h0, hn⟩ | ⟨i, r, h0, hi, hn⟩
  · exact absurd ((lN u x _).mpr hx) (hn _)
  · refine ⟨r, ?_⟩
    rw [h0]
    have hi := (lN u x i).mp hi
    have : i=u.idxOf x := by
      rcases Nat.lt_trichotomy i (u.idxOf x) with h1 | h1 | h1
      · have q := List.not_of_lt_findIdx (p := (· == x)) h1
        obtain ⟨hl, e⟩ := wW.mp hi
        exact absurd (AL.mpr e) (by simpa using q)
      · exact h1
      · exact absurd ((lN u x _).mpr hx) (hn _ h1)
    rw [this]
theorem none_of {H H' : Hp}{a : Addr}(s : aw H H')(h : H' a=none) : H a=none := by
  cases e : H a with
  | none => rfl
  | some o => exact absurd (s _ _ e) (by rw [h];intro z;cases z)
theorem sm_at {i : Nat}(h : i < 6) : atI ("abcdef" : Str).cps.toList (i : Int)=some (cp ⟨i, by omega⟩) := by
  rw [← gM]
  exact bM (k := i) rfl (sm6 ⟨i, h⟩)
end Kx
namespace Wd
def putM (n : Nat)(e o : L) : List (List L) := (ak n).set (e.val % 6) (if e.val < 6 then [o, e] else bk [o, e])
theorem dn {n : Nat}(h : n≤6){x : L}(hx : x.val < n) : (ak n)[x.val]? = some [x] := by
  have := eL n h x hx
  rw [xk] at this
  have hl : x.val < (ak n).length := by rw [(aO h).len];exact hx
  rw [xf hl] at this ⊢
  exact xH some this
theorem lO {n : Nat}(h : n≤6)(e o : L) : (putM n e o).length=n := by unfold putM; rw [List.length_set, (aO h).len]
theorem lP {n : Nat}(h : n≤6){e o : L}(he : e.val % 6 < n) : (putM n e o)[e.val % 6]? = some (if e.val < 6 then [o, e] else bk [o, e]) := by
  unfold putM
  rw [yj (by rw [(aO h).len];exact he)]
theorem g9 {n k : Nat}{e o : L}(hk : k≠e.val % 6) : (putM n e o)[k]? = (ak n)[k]? := by
  unfold putM
  rw [yg (fun z => hk z.symm)]
theorem qC {n : Nat}(h : n≤6){e o : L}(he : e.val % 6 < n) : img (putM n e o) e=[o, e] := by
  have := e.isLt
  unfold img
  by_cases h1 : e.val < 6
  · have q := lP h (o := o) he
    rw [if_pos h1, Az h1] at q
    rw [if_pos h1, xk, q]
    rfl
  · have q := lP h (o := o) he
    rw [if_neg h1, show e.val % 6=e.val - 6 by omega] at q
    rw [if_neg h1, xk, q]
    show bk (bk [o, e])=_
    rw [nk]
theorem c7 {n : Nat}(h : n≤6){e o x : L}(hx : x.val % 6 < n)(hn : x.val % 6≠e.val % 6) : img (putM n e o) x=[x] := by
  have q := gX h hx
  have := x.isLt
  have g : ∀ k, k≠e.val % 6 → (putM n e o).getD k []=(ak n).getD k [] := fun k hk => by rw [xk, xk, g9 hk]
  unfold img at q ⊢
  by_cases h1 : x.val < 6
  · rw [if_pos h1] at q ⊢
    rw [g _ (by omega)]
    exact q
  · rw [if_neg h1] at q ⊢
    rw [g _ (by omega)]
    exact q
theorem dq {n : Nat}(h : n≤6){e o : L}(he : e.val % 6 < n)(ho : o.val % 6 < n)(hn : o.val % 6≠e.val % 6) : cy n 2 (putM n e o) := by
  have P := aO h
  have hi : e≠inv o := fun z => hn (by rw [z, bC];split <;> omega)
  have r1 : red [o, e]=[o, e] := by
    show (act [e] [o]).reverse=_
    show (push [o] e).reverse=_
    show (if o=inv e then [] else [e, o]).reverse=_
    rw [if_neg (fun z => hi (by rw [z, bp]))]
    rfl
  have r2 : red (bk [o, e])=bk [o, e] := by
    show (push [inv e] (inv o)).reverse=[inv e, inv o]
    show (if inv e=inv (inv o) then [] else [inv o, inv e]).reverse=_
    rw [if_neg (fun z => hi (by rw [bp] at z;rw [← z, bp]))]
    rfl
  have i1 : InM n [o, e] := fun y hy => by
    simp only [xn, xF, yM] at hy
    rcases hy with rfl | rfl
    · exact ho
    · exact he
  have all : ∀ w∈putM n e o, w∈ak n ∨ w=[o, e] ∨ w=bk [o, e] := by
    intro w hw
    rcases List.mem_or_eq_of_mem_set hw with hw | hw
    · exact .inl hw
    · rw [hw]
      split
      · exact .inr (.inl rfl)
      · exact .inr (.inr rfl)
  refine ⟨lO h e o, fun w hw => ?_, fun w hw => ?_, fun w hw => ?_⟩
  all_goals rcases all w hw with hw | rfl | rfl
  · exact P.rd w hw
  · exact r1
  · exact r2
  · exact P.ins w hw
  · exact i1
  · exact i1.bk
  · have := P.le w hw;omega
  · exact wX _
  · exact wX _
theorem lQ {n : Nat}(h : n≤6){e o : L}(he : e.val % 6 < n)(ho : o.val % 6 < n)(hn : o.val % 6≠e.val % 6) : aF (putM n e o) (putM n e (inv o))=ak n := by
  have hio : (inv o).val % 6=o.val % 6 := by have := o.isLt;rw [bC];split <;> omega
  have two : red (sub (putM n e (inv o)) [o, e])=[e] := by
    rw [show [o, e]=[o]++[e] from rfl, bx, cm, cm, qC h he, c7 h ho hn]
    show (act [inv o, e] (push [] o)).reverse=_
    show (act [e] (push [o] (inv o))).reverse=_
    show (act [e] (if o=inv (inv o) then [] else [inv o, o])).reverse=_
    rw [if_pos (bp o).symm]
    rfl
  apply List.ext_getElem?
  intro k
  unfold aF
  rw [xq]
  by_cases hk : k < n
  · by_cases e1 : k=e.val % 6
    · rw [e1, lP h he]
      have hl := e.isLt
      by_cases h1 : e.val < 6
      · rw [if_pos h1, Az h1, dn h (by omega)]
        exact xH some two
      · rw [if_neg h1]
        have e2 : e.val % 6=(inv e).val := by rw [bC, if_neg h1];omega
        rw [e2, dn h (by rw [← e2];exact he)]
        show some (red (sub (putM n e (inv o)) (bk [o, e])))=_
        rw [lG, ← pb, two]
        rfl
    · have hx : (⟨k, by omega⟩ : L).val < n := hk
      have q := dn h hx
      have q : (ak n)[k]? = some [⟨k, by omega⟩] := q
      rw [g9 e1, q]
      show some (red (sub (putM n e (inv o)) [⟨k, by omega⟩]))=_
      rw [cm, c7 h (by show k % 6 < n;omega) (by show k % 6≠_;omega)]
      rfl
  · rw [yY (by rw [lO h];omega), yY (by rw [(aO h).len];omega)]
    rfl
theorem nS {n : Nat}(h : n≤6){e o : L}(he : e.val % 6 < n)(ho : o.val % 6 < n)(hn : o.val % 6≠e.val % 6) : aF (putM n e (inv o)) (putM n e o)=ak n := by
  have hio : (inv o).val % 6=o.val % 6 := by have := o.isLt;rw [bC];split <;> omega
  have := lQ h (o := inv o) he (by omega) (by omega)
  rwa [bp] at this
def farOf (u : List L)(i : Nat)(sd : Int) : L := u.getD (((i : Int)+sd) % (u.length : Int)).toNat 0
structure fS (n : Nat) (u : List L) : Prop where
  len : u.length=2*n
  nd : u.Nodup
  ins : InM n u
theorem dv {u : List L}(h : u≠[])(i : Nat)(sd : Int) : u[(((i : Int)+sd) % (u.length : Int)).toNat]? = some (farOf u i sd) := by
  have hp := xU.mpr h
  have h1 := yp ((i : Int)+sd) (show (u.length : Int)≠0 by omega)
  have h2 := yT ((i : Int)+sd) (show (0 : Int) < (u.length : Int) by omega)
  unfold farOf
  rw [xk, xf (by omega)]
  rfl
theorem far_mem {u : List L}(h : u≠[])(i : Nat)(sd : Int) : farOf u i sd∈u := xj (dv h i sd)
theorem tD {n : Nat}(h6 : n≤6){x : L}(hx : x.val % 6 < n) : x∈([0, 1, 2, 3, 4, 5] : List L).take n++([6, 7, 8, 9, 10, 11] : List L).take n := by
  have q : ∀ (n : Fin 7) (x : L), x.val % 6 < n.val → x∈([0, 1, 2, 3, 4, 5] : List L).take n.val++([6, 7, 8, 9, 10, 11] : List L).take n.val := by decide
  exact q ⟨n, by omega⟩ x hx
theorem nU {n : Nat}{u : List L}(h1 : 1≤n)(h6 : n≤6)(p : u.Perm (([0, 1, 2, 3, 4, 5] : List L).take n++([6, 7, 8, 9, 10, 11] : List L).take n)) : fS n u := by
  have q : ∀ n : Fin 7, (([0, 1, 2, 3, 4, 5] : List L).take n.val++([6, 7, 8, 9, 10, 11] : List L).take n.val).length=2*n.val ∧ (([0, 1, 2, 3, 4, 5] : List L).take n.val++([6, 7, 8, 9, 10, 11] : List L).take n.val).Nodup ∧ ∀ x∈([0, 1, 2, 3, 4, 5] : List L).take n.val++([6, 7, 8, 9, 10, 11] : List L).take n.val, x.val % 6 < n.val := by decide
  obtain ⟨a, b, c⟩ := q ⟨n, by omega⟩
  exact ⟨by rw [p.length_eq, a], p.nodup_iff.mpr b, fun x hx => c x (p.mem_iff.mp hx)⟩
end Wd
namespace L2
open PySem PySem.Spec PyProof.Rows Wd
section
variable {X : Cx}
inductive vQ (x : V)(y : V)(H : Hp)(Q : VK) : Prop
  | mk : ∀ da db, (Dt H x da) → (Dt H y db) → (da.canLay0=true) → (db.canLay0=true) → (da.depth≤10) → (Q (.bl (PyData.eqv da db)) H) → vQ x y H Q
theorem g_ (hu : X.A.units+64 < cLine) : OpR X (compareOp .Eq) vQ := by
  intro pins s σ H x y v u Q I rx ry h
  obtain ⟨da, db, ha, hb, la, lb, dp, q⟩ := h
  obtain ⟨as, ra⟩ := ha.reads I.hok rx
  obtain ⟨bs, rb⟩ := hb.reads I.hok ry
  exact SeqAt.rcAt_reads ra rb la lb (by omega) _ _ _ _ ⟨.bl _, H, I, rfl, q⟩
end
end L2
namespace Kx
open PySem PySem.Spec PyProof.Rows L2 Wd
inductive tE (vs : List V)(H : Hp)(Q : VK)(u3_ : XK) : Prop
  | mk : ∀ (u : List L) (t : Addr) (i : Nat) (sd : Int), (vs=[tx u, .ref t]) → (H t=some (.tup [.int (i : Int), .int sd])) → (u≠[]) → (u.length≤100) → (Q (tx [farOf u i sd]) H) → tE vs H Q u3_
inductive qD (vs : List V)(H : Hp)(Q : VK)(u3_ : XK) : Prop
  | mk : ∀ (u : List L) (t : Addr) (i : Nat) (sd : Int) (e : L), (vs=[tx u, .ref t]) → (H t=some (.tup [.int (i : Int), .int sd])) → (u.length≤100) → (u[i]? = some e) → (∀ H', aw H H' → Q (.bl (!decide (farOf u i sd=inv e))) H') → qD vs H Q u3_
inductive qE (vs : List V)(H : Hp)(Q : VK)(u3_ : XK) : Prop
  | mk : ∀ (n : Nat) (e o : L), (vs=[.int (n : Int), tx [e], tx [o]]) → (1≤n) → (n≤6) → (e.val % 6 < n) → (∀ (r : Addr) (H' : Hp), H r=none → aw H H' → H' r=some (.tup ((putM n e o).map tx)) → Q (.ref r) H') → qE vs H Q u3_
inductive lR (vs : List V)(H : Hp)(Q : VK)(u3_ : XK) : Prop
  | mk : ∀ (u : List L) (t : Addr) (n i : Nat) (sd : Int) (e : L), (vs=[tx u, .ref t]) → (H t=some (.tup [.int (i : Int), .int sd])) → (fS n u) → (1≤n) → (n≤6) → (u[i]? = some e) → (farOf u i sd≠inv e) → (∀ (r a b : Addr) (H' : Hp), H r=none → aw H H' → H' r=some (.tup [.ref a, .ref b]) → H' a=some (.tup ((putM n e (farOf u i sd)).map tx)) → H' b=some (.tup ((putM n e (inv (farOf u i sd))).map tx)) → Q (.ref r) H') → lR vs H Q u3_
end Kx
namespace L2
open PySem PySem.Spec PyProof.Rows Wd
section
variable {X : Cx}
inductive bL  (xs : List V)(H : Hp)(Q : VK) : Prop
  | mk : ∀ z, (xs=[.str z]) → (z.length≤sizeLine) → (∀ p, H p=none → Q (.ref p) (upd H p (.tup (bN z)))) → bL xs H Q
theorem bZ (hc : X.calm=true) : c_ X (.type "tuple") bL := by
  intro pins s σ H xs us Q I r h
  obtain ⟨z, rfl, hz, q⟩ := h
  obtain ⟨u, rfl, t, rfl⟩ := cb r
  refine call_tuple_str (I.ok.hd hc) z t (fun h' tk acc hk hI => ?_) hz
  have hl : (bN z).length≤sizeLine := by unfold bN;rw [wV, yo];exact hz
  have I1 : Inv X pins σ H { s with heap := h', toks := tk } := I.kept hk
  exact ⟨.ref h'.objs.size, _, I1.laid (t' := tk) (fun b o e => wU _ e) (wX _) (show bu X.prog X.w _ _ _ (.tup (bN z)) from ⟨hl, acc.toList, fm hI, ⟨_, w6 _ rfl, rfl, 0, by simp⟩, .new _ _ rfl⟩), rfl, q _ (I1.hok.fresh (wX _))⟩
end
end L2
namespace L2
open PySem PySem.Spec PyProof.Rows
section
variable {X : Cx} {pins : List (Addr × Obj)} {σ : St} {H : Hp} {s : Shared}
theorem lS {x : Str}{i : Nat}{pos : Pos}{v : V}{Q : Value → Shared → Prop}(I : Inv X pins σ H s)(hN : X.N[i]? = some x)(hv : Vis X.env.scope x)(e : σ[i]? = some (some v))(h : ∀ u, a7 v u → Q u s)
    (hd : (x == ("__debug__" : Str))=false := by decide) (hcd : (x == ("__classdict__" : Str))=false := by decide) : wpAny (model X.prog X.w) X.A (eval (.Name x pos) X.env) Q X.xe s := by
  obtain ⟨m, hn, hl⟩ := I.loc
  obtain ⟨u, r, l⟩ := hl i x v hN e hv
  rcases l with ⟨hk, hm⟩ | ⟨hk, c, hc, hcell⟩
  · exact zp (yD I.ok.kind hk hn hm (h u r)) hd
  · rcases hk with hk | hk
    · exact zp (zU I.ok.kind hk hc hcell (h u r)) hd
    · exact zp (wpAny_loadName_free I.ok.kind hk hc hcell (h u r) hcd) hd
theorem lT {M : Model}{A : Around}{E : Value → Shared → Prop}{i : Nat}{x : Str}{v : V}{u : Value}{Q : Unit → Shared → Prop}(I : Inv X pins σ H s)(hN : X.N.Nodup)(hi : X.N[i]? = some x)(hk : X.env.scope.names.lookup x=some .local)(r : a7 v u)
    (h : ∀ h' m, Inv X pins (σ.set i (some v)) H { s with heap := h', toks := s.toks+1 } → h'.Ns X.env.locals m → m x=some u → Q () { s with heap := h', toks := s.toks+1 }) : wpAny M A (storeName X.env x u) Q E s := by
  obtain ⟨m, hn, hl⟩ := id I.loc
  have hcls : (X.env.scope.kind == .class || (X.env.scope.kind == .module && X.env.locals != X.env.globals))=false := by rw [I.ok.kind];rfl
  have hiσ : i < σ.length := by rw [I.len];exact (wW.mp hi).1
  have cne := I.cne
  have tracked : ∀ {a : Addr} {h' : Heap}, (∃ o, s.heap.get? a=some o ∧ H a=none) → Heap.SameBut a s.heap h' → HOk X.prog X.w H h' := fun {a h'} ha hs b ob e => by
    obtain ⟨_, _, hfree⟩ := ha
    refine (I.hok b ob e).stay (fun c w' hc q => (hs.2 c ?_).trans q) (fun _ q => q) fun _ _ q => q
    rintro rfl
    rcases hc with rfl | hc
    · rw [hfree] at e;cases e
    · rw [hfree] at hc;cases hc
  refine wpAny_storeName_local hk hn (fun h' hn' hs => ?_) hcls
  obtain ⟨oL, _, _, hoL, _⟩ := id hn
  refine h _ _ ⟨I.ok, I.os, I.bare, ⟨fun b o e n hb hx => ?_, fun b o e n hb hx => ?_, I.base.free, fun b o e hx => ?_, I.base.tups, I.base.frzs, I.base.tbls⟩, ⟨_, hn', fun j y v' e1 e2 e3 => ?_⟩, fun y c e => ?_, I.free, I.freeC, fun p hp => ?_, tracked ⟨oL, hoL, I.free⟩ hs, by simpa using I.len⟩ hn' (by simp)
  · exact (hs.2 b (xx (w9 (wZ e) I.ok.above))).trans (I.base.keep b o e n hb hx)
  · obtain ⟨sl, e1⟩ := I.base.slot b o e n hb hx
    exact ⟨sl, (hs.2 b (xx (w9 (wZ e) I.ok.above))).trans e1⟩
  · obtain ⟨o', e1⟩ := I.base.there b o e hx
    exact ⟨o', (hs.2 b (xx (w9 (wZ e) I.ok.above))).trans e1⟩
  · by_cases hj : j=i
    · subst hj
      rw [hi] at e1;cases e1
      rw [yj hiσ] at e2
      cases e2
      exact ⟨u, r, .inl ⟨hk, by simp⟩⟩
    · rw [yg (Ne.symm hj)] at e2
      obtain ⟨u', r', q⟩ := hl j y v' e1 e2 e3
      refine ⟨u', r', ?_⟩
      rcases q with ⟨k, e⟩ | ⟨k, c, e, z⟩
      · refine .inl ⟨k, ?_⟩
        have : y≠x := fun e => hj (dN hN e1 (e ▸ hi))
        simp [this, e]
      · exact .inr ⟨k, c, e, z.sameBut hs (cne y c e)⟩
  · obtain ⟨w', z⟩ := I.cell y c e
    exact ⟨w', z.sameBut hs (cne y c e)⟩
  · obtain ⟨e, n, ne, nf, d⟩ := I.pin p hp
    exact ⟨(hs.2 p.1 ne).trans e, n, ne, nf, d⟩
inductive tMv (iz iw ix iy : Nat)(u : TS)(D : dJ)(σ : St)(H : Hp) : Prop
  | mk : ∀ (S : Str) (p : Addr) (i : Int) (r : List V) (c : Nat), σ[iz]? = some (some (.str S)) → σ[iw]? = some (some (.ref p)) → H p=some (.tup (.int i::r)) → S.length≤1000 → atI S.cps.toList i=some c →
      u D ((σ.set ix (some (.str ⟨#[c]⟩))).set iy (some (.str (Txt.replace S ⟨#[c]⟩ "")))) H → tMv iz iw ix iy u D σ H
theorem lU {iz iw ix iy : Nat}{z w x y : Str}{rest : List Stmt}{u : TS}{k0 k1 : Nat}{p1 p2 p3 p4 p5 p6 p7 p8 p9 p10 p11 p12 p13 p14 : Pos}
    (hN : X.N.Nodup) (hNz : X.N[iz]? = some z) (hNw : X.N[iw]? = some w) (hNx : X.N[ix]? = some x) (hNy : X.N[iy]? = some y)
    (hkz : X.env.scope.names.lookup z=some .local) (hkw : X.env.scope.names.lookup w=some .local) (hkx : X.env.scope.names.lookup x=some .local) (hky : X.env.scope.names.lookup y=some .local)
    (hne : ix≠iz) (hp1 : fC (.Constant (.int 0) k0 p4)) (hp2 : fC (.Subscript (.Name w p3) (.Constant (.int 0) k0 p4) p5)) (h2 : PSs X rest u)
    (hs1 : swapsWith (.Subscript (.Name z p2) (.Subscript (.Name w p3) (.Constant (.int 0) k0 p4) p5) p6) (some (.Name x p1)) p7.line X.env=pure false := by rfl)
    (hs2 : swapsWith (.Call (.Attribute (.Name z p9) "replace" p10) [.Name x p11, .Constant (.str "") k1 p12] [] p13) (some (.Name y p8)) p14.line X.env=pure false := by rfl)
    (hd1 : (z == ("__debug__" : Str))=false := by decide) (hd2 : (w == ("__debug__" : Str))=false := by decide) (hd3 : (x == ("__debug__" : Str))=false := by decide)
    (hc1 : (z == ("__classdict__" : Str))=false := by decide) (hc2 : (w == ("__classdict__" : Str))=false := by decide)
    (hbase : attributeBase (.Name z p9) "replace" X.env (eval (.Name z p9) X.env)=eval (.Name z p9) X.env := by rfl)
    (hfew : ((backTo p13 (starEach [.Name x p11, .Constant (.str "") k1 p12] X.env)).all (fun x => !x.1) && (backToKw p13 (keywordEach [] X.env)).all (fun x => x.1.isSome)
      && decide (([.Name x p11, .Constant (.str "") k1 p12] : List Expr).length+([] : List Keyword).length+(if ([] : List Keyword).isEmpty then 0 else 1) < 30))=true := by rfl)
    (hline : (p10.endLine == p13.line)=true := by rfl)
    (hst : backTo p13 (starEach [.Name x p11, .Constant (.str "") k1 p12] X.env)=[(false, eval (.Name x p11) X.env), (false, eval (.Constant (.str "") k1 p12) X.env)] := by rfl) :
    PSs X (.Assign [.Name x p1] (.Subscript (.Name z p2) (.Subscript (.Name w p3) (.Constant (.int 0) k0 p4) p5) p6) p7 :: .Assign [.Name y p8] (.Call (.Attribute (.Name z p9) "replace" p10) [.Name x p11, .Constant (.str "") k1 p12] [] p13) p14::rest) (tMv iz iw ix iy u) := by
  intro pins s σ H D I h
  obtain ⟨S, p, i, r, c, hz, hw, hp, hS, hc, q⟩ := h
  have hn63 := cB
  have l16 : sizeLine=16777216 := yy
  have ixlt : ix < σ.length := by rw [I.len];exact (wW.mp hNx).1
  refine y7 (zq (Ak (lS I hNz (.inl hkz) hz (fun uz rz => Ak (lS I hNw (.inl hkw) hw (fun uw rw' => wpAny_Constant_int ?_) hd2 hc2)) hd1 hc1)) hs1)
  cases rw'
  obtain ⟨tz, rfl⟩ := rz
  have I1 := I.tok (s.toks+1)
  obtain ⟨its, rv, pl, hsz⟩ := I1.tuple (SqT.of hp)
  obtain ⟨u0, e0, t0, rfl⟩ := rv.get (i := 0) rfl
  have hl := rv.length
  have hl : its.length=r.length+1 := hl.symm
  refine zm (x := .int i t0) pl.typeIs slot_tuple_getitem.lookup (getItem_tuple (j := 0) pl (by decide) (by decide) (by rw [AO (by decide) (by rw [w5];omega)];rfl) (by simpa using e0) ⟨rfl, ?_⟩) (hp1 _ _)
  obtain ⟨j, a1, a2, a3, a4, a5⟩ := fA hc
  have hlS : S.cps.toList.length=S.length := by simp [Str.length]
  rw [hlS] at a1 a4 a5
  refine tail_any (zt _ S tz) slot_str_getitem.lookup (getItem_str (c := c) (by
    have e1 : decide (i < -(2 ^ 63 : Int))=false := xi (by omega)
    have e2 : decide (i≥2 ^ 63)=false := xi (by omega)
    rw [e1, e2, AR]) (by rw [a1];simpa using a2) ?_) (hp2 _ _)
  refine lT (I1.tok _) hN hNx hkx (v := .str ⟨#[c]⟩) ⟨_, rfl⟩ fun h' m I2 hm hmx => ?_
  refine y7 (zq (wpAny_Call_method_late hbase hfew hline rfl (lS I2 hNz (.inl hkz) (by rw [yg hne];exact hz) (fun uz rz => ?_) hd1 hc1)) hs2)
  obtain ⟨tz2, rfl⟩ := rz
  refine ⟨"str", "str.replace", xr, PySem.F.slot_str_replace, PySem.F.type_str_replace, zt _ _ _, (fun _ e => nomatch e), ?_⟩
  rw [hst]
  refine zo rfl (Calls.evalArgs_plain ?_)
  refine ye (zp (yD I2.ok.kind hkx hm hmx ?_) hd3)
  refine ye (Calls.Constant_str (y1 ?_))
  have hyz : ((⟨#[c]⟩ : Str) == ("" : Str))=false := by
    cases e : ((⟨#[c]⟩ : Str) == ("" : Str)) with
    | false => rfl
    | true =>
      have e := eq_of_beq e
      have : (⟨#[c]⟩ : Str).length=("" : Str).length := by rw [e]
      have h0 : ("" : Str).length=0 := by decide +kernel
      rw [h0] at this
      exact absurd this (by show ¬ 1=0;decide)
  have e0 : ("" : Str).length=0 := by decide +kernel
  refine SC.replace (by show s.toks+1≠0;omega) (by show s.toks+1+1+1≠0;omega) (by show s.toks+1≠s.toks+1+1+1;omega) hyz (by rw [e0];omega) fun t' k => ?_
  have I3 := I2.tok k
  refine bS I3 hN hNy (.inl hky) (v := .str (Txt.replace S ⟨#[c]⟩ "")) ⟨_, rfl⟩ (fun s' I4 => ?_) (.inr hky)
  exact h2 pins s' _ H D I4 q
end
end L2
namespace L2
open PySem PySem.Spec PyProof.Rows
abbrev SpS := List Env → Shared → Sp
structure vd (P : Program) (w : World) (K : PySem.W.Frag) (mg : Str → Option Value) (base : Heap) (k : Nat) (f : Addr) (fd : FuncData) (ps : List Str) (sp : SpS) : Prop where
  len : ∀ outer s vs H Q E, sp outer s vs H Q E → vs.length=ps.length
  run : ∀ (A : Around) (outer : List Env) (s : Shared) (H : Hp) (args : Args) (us : List Value) (vs : List V) (Q : VK) (E : XK), b0 k A → kn P w K mg base A outer s H → BindsTo s fd args (ps.zip us) → aR vs us → sp outer s vs H Q E →
    codeAny (model P w) A (.call (.ref f) args) (CR CX0 outer P w H s Q E) s
structure uk (P : Program) (w : World) (K : PySem.W.Frag) (mg : Str → Option Value) (base : Heap) (x : Str) (ps : List Str) (k : Nat) (sp : SpS) : Prop where
  ex : ∃ (f : Addr) (fd : FuncData), mg x=some (.ref f) ∧ PySem.W.keepIn K (.ref f)=true ∧ ee K fd ps [] ∧ vd P w K mg base k f fd ps sp
theorem Df.okS {P : Program}{w : World}{K : PySem.W.Frag}{mg : Str → Option Value}{base : Heap}{x : Str}{st : Stmt}{N ps : List Str}{k : Nat}{sp : SpS}(D : Df K mg x st)(S : aC N ps (aj st))
    (hb : ∀ (kV doc pm : Value) (an : Option Addr) (cdv ct : Value) (us : List Value), us.length=ps.length → bindArgs (PySem.W.fnOf x x (bb st) (aQ st) (aj st) .none kV doc pm an cdv ct) ⟨us, []⟩=pure (ps.zip us))
    (len : ∀ outer s vs H Q E, sp outer s vs H Q E → vs.length=ps.length)
    (hbody : ∀ (f : Addr) (cdv : Value) (A : Around) (outer : List Env) (s : Shared) (H : Hp) (vs : List V) (Q : VK) (E : XK), b0 k (A.deeper (envOfC x (aj st) s.heap.objs.size f cdv)) → sp outer s vs H Q E →
      ∃ t, PSs (iq CX0 P w K mg base N x (aj st) f cdv A outer s H E).nox (aQ st) t ∧ t { nx := fun _ H' => Q .non H', rt := Q } (start N vs) H) : uk P w K mg base x ps (k+1) sp := by
  obtain ⟨f, fd, hm, F⟩ := D.ex
  refine ⟨f, fd, hm, F.kp, F.binds hb, ?_⟩
  obtain ⟨oc, od, kV, doc, pm, an, cdv, ct, osl, rfl, lk, hcd⟩ := F.ex
  refine ⟨len, fun A outer s H args us vs Q E hr e0 hbi r hsp => ?_⟩
  have hl := len _ _ _ _ _ _ hsp
  have KX : K.In s.heap := e0.mod.kin.keeps fun b o e => (e0.bs b o e).1
  have lim : s.heap.NoLimit := e0.mod.nolimit.keeps fun b o e => (e0.bs b o e).1
  have hkind : ∀ y∈ps.zip us, (aj st).names.lookup y.1=some .local ∨ ((aj st).names.lookup y.1=some .cell ∧ ((cellsFrom (s.heap.objs.size+1) (aj st).names []).lookup y.1).isSome=true) := fun ⟨n, v⟩ hy => by
    rcases S.par n (zW hy).1 with q | q
    · exact .inl q
    · exact .inr ⟨q, zj _ _ _ (.inl q)⟩
  refine codeAny_call_function hr.depth (KX _ _ lk) rfl S.co S.gen rfl (PySem.W.codeRec_of KX hcd) (hbi _ _ _ _ ?_)
  refine Ae S.kind hkind fun env he s1 x1 => ?_
  subst he
  refine ⟨lim.keeps x1.toInCall.keep, codeAny_func ?_⟩
  obtain ⟨t, ht, hq⟩ := hbody f cdv A outer s H vs Q E (hr.deeper _) hsp
  have I : Inv (iq CX0 P w K mg base N x (aj st) f cdv A outer s H E) [] (start N vs) H s1 := gv S hr.hd e0 hl r x1
  refine xY (ht.nox [] s1 (start N vs) H _ I hq) (fun fl s' hs => ?_) fun e s' hs => hs
  have fin : ∀ {σ' : St} {H' : Hp} {v : V} {u : Value}, Inv (iq CX0 P w K mg base N x (aj st) f cdv A outer s H E) [] σ' H' s' → a7 v u → Q v H' → CE outer P w H s Q u s' :=
    fun {σ' H' v u} J rv q => ⟨v, H', J.os, J.bare, J.base, J.hok, rv, q⟩
  cases fl with
  | ret u =>
    obtain ⟨v, σ', H', J, rv, q⟩ := hs
    exact fin J rv q
  | next =>
    obtain ⟨σ', H', J, q⟩ := hs
    exact fin (v := V.non) (u := Value.none) J rfl q
  | brk =>
    obtain ⟨_, _, _, q⟩ := hs
    exact False.elim q
  | cont =>
    obtain ⟨_, _, _, q⟩ := hs
    exact False.elim q
structure tF (P : Program) (w : World) (K : PySem.W.Frag) (mg : Str → Option Value) (base : Heap) (k : Nat) (outer : List Env) (s : Shared) (H : Hp) (f c' : Addr) (q : Str) (spx : Sp) : Prop where
  fn : PySem.W.FnAt f s.heap
  fr : H f=none
  nf : f∉frs outer
  run : ∀ (A : Around) (outer' : List Env) (s' : Shared) (H' : Hp) (u1 : Value) (v1 : V) (Q : VK) (E : XK), b0 k A → kn P w K mg base A outer' s' H' → (∀ b o, s.heap.get? b=some o → H b=none → b∉frs outer → s'.heap.get? b=some o ∧ H' b=none) →
    H' c'=some (Cd c' q) → a7 v1 u1 → spx [v1] H' Q E → codeAny (model P w) A (.call (.ref f) ⟨[u1], []⟩) (CR (CXe P w) outer' P w H' s' Q E) s'
inductive vR (i : Nat)(f c' : Addr)(q : Str)(spx : Sp)(E : XK)(te : TE)(σ : St)(H : Hp)(Q : VK) : Prop
  | mk : σ[i]? = some (some (.ref f)) → te σ H (fun v H1 => H1 c'=some (Cd c' q) ∧ spx [v] H1 Q E) → vR i f c' q spx E te σ H Q
section
variable {X : Cx} {E : XK} {x : Str} {j k i : Nat} {f c' : Addr} {q : Str} {spx : Sp} {e : Expr} {te : TE} {p pos : Pos}
theorem qF (hA : tF X.prog X.w X.K X.mg X.base j X.outer X.s₀ X.H₀ f c' q spx)(hex : X.ex=[])(hr : b0 k X.A)(hj : j≤k)(hi : X.N[i]? = some x)(hv : X.env.scope.names.lookup x=some .local)(he : PE X.nox e te)
    (hdb : (x == ("__debug__" : Str))=false := by decide) (hcd : (x == ("__classdict__" : Str))=false := by decide) (hs : starEach [e] X.env=(false, eval e X.env)::starEach [] X.env := by rfl) (hpl : (backTo pos (starEach [] X.env)).any (·.1)=false := by rfl) :
    PEE X E (.Call (.Name x p) [e] [] pos) (vR i f c' q spx E te) := by
  intro pins s σ H Q I h
  obtain ⟨hσ, h⟩ := h
  have kp : ∀ {s1 : Shared} {H1 : Hp}, Inv X pins σ H1 s1 → ∀ b o, X.s₀.heap.get? b=some o → X.H₀ b=none → b∉frs X.outer → s1.heap.get? b=some o ∧ H1 b=none := fun J b o eb nb fb =>
    ⟨J.base.keep b o eb nb fb (by rw [hex];simp), J.base.free b o eb nb (by rw [hex];simp)⟩
  have fnA : ∀ {s1 : Shared} {H1 : Hp}, Inv X pins σ H1 s1 → PySem.W.FnAt f s1.heap := fun J => by
    obtain ⟨oc, od, fd, sl, ef⟩ := hA.fn
    exact ⟨oc, od, fd, sl, (kp J _ _ ef hA.fr hA.nf).1⟩
  refine yu ?_
  obtain ⟨m, hn, hl⟩ := I.loc
  obtain ⟨u, r, l⟩ := hl i x _ hi hσ (.inl hv)
  obtain rfl : u=Value.ref f := r
  have hm : m x=some (.ref f) := by
    rcases l with ⟨_, hm⟩ | ⟨hk, _⟩
    · exact hm
    · have hk' : X.env.scope.names.lookup x=some .cell ∨ X.env.scope.names.lookup x=some .free := hk
      rcases hk' with z | z <;> (rw [hv] at z;cases z)
  refine zp (yD I.ok.kind hv hn hm ?_) hdb
  refine PySem.W.callWith_F (fnA I) ?_ hs hpl
  rw [hs]
  show wpAny _ _ (spliced ((false, eval e X.env)::backTo pos (starEach [] X.env))) _ _ s
  refine ye (xY (he pins s σ H _ (I.wish _) h) (fun u1 s1 z => ?_) fun _ _ z => False.elim z)
  obtain ⟨v1, H1, I0, r1, hc1, q1⟩ := z
  have I1 : Inv X pins σ H1 s1 := I0.unwish
  refine y1 ⟨fnA I1, ?_⟩
  refine zr (y_ (hA.run X.A X.stack s1 H1 u1 v1 Q E (hr.mono hj) I1.env0 (kp I1) hc1 r1 q1) fun r s' hq => ?_)
  cases r with
  | error e => exact XE.of I1 hq
  | ok fl =>
    cases fl with
    | ret u => exact I1.after hq
    | next => exact False.elim hq
    | brk => exact False.elim hq
    | cont => exact False.elim hq
theorem nW {a b : Expr}{ta tb : TE}{x1 : Nat}(ha : PE X.nox a ta)(hb : PEE X E b tb)(h1 : starEach [a, b] X.env=(false, eval a X.env)::starEach [b] X.env := by rfl)(h2 : starEach [b] X.env=(false, eval b X.env)::starEach [] X.env := by rfl) :
    PEE X E (.Tuple [a, b] x1 pos) (vC (mY ta (mY tb vB))) := by
  intro pins s σ H Q I hq
  refine wpAny_Tuple_spliced ?_
  rw [h1]
  show wpAny _ _ (spliced ((false, eval a X.env)::backTo pos (starEach [b] X.env))) _ _ s
  refine ye (xY (ha pins s σ H _ (I.wish _) hq) (fun u s1 z => ?_) fun _ _ z => False.elim z)
  obtain ⟨v, H1, I0, r1, q1⟩ := z
  have I1 : Inv X pins σ H1 s1 := I0.unwish
  rw [h2]
  show wpAny _ _ (spliced ((false, eval b X.env)::backTo pos (starEach [] X.env))) _ _ s1
  refine ye (thn (hb pins s1 σ H1 _ I1 q1) fun u2 s2 z => ?_)
  obtain ⟨v2, H2, I2, r2, hz, q⟩ := z
  refine y1 ?_
  have r : aR [v, v2] [u, u2] := .cons r1 (.cons r2 .nil)
  refine ⟨by rw [← r.length];exact hz, ?_⟩
  have hf : H2 s2.heap.objs.size=none := I2.hok.fresh (wX _)
  refine ⟨.ref s2.heap.objs.size, upd H2 s2.heap.objs.size (.tup [v, v2]), I2.laid (t' := s2.toks) (fun b u e => wU _ e) (wX _) ?_, rfl, q _ hf⟩
  exact ⟨hz, [u, u2], r, ⟨_, w6 _ rfl, rfl, _, rfl⟩, .new _ _ rfl⟩
end
inductive tG (P : Program)(w : World)(K : PySem.W.Frag)(mg : Str → Option Value)(base : Heap)(k : Nat)(sp : SpS)(i : Nat)(P0 : Addr)(q p fr : Str)(scope : Scope)(body : Expr)(te : TE)(σ : St)(H : Hp)(Q : VK) : Prop
  | mk : ∀ (y : V), σ[i]? = some (some y) → te σ H (fun v H1 => Tab H1 P0 q ∧ ∀ (outer : List Env) (s : Shared) (H2 : Hp) (f c' : Addr), Tab H2 P0 q → H2 c'=some (Cd c' q) → (∀ b o, b≠P0 → H1 b=some o → H2 b=some o) →
      (∀ spx : Sp, (∀ (A : Around) (outer' : List Env) (s' : Shared) (H' : Hp) (c : Addr) (v1 : V) (Q : VK) (E : XK), b0 k (A.deeper (PySem.W.envX q scope s'.heap.objs.size f (.ref c') [(fr, c)])) → spx [v1] H' Q E →
          ∃ t, PE (cxL (CXe P w) P w K mg base [p, fr] q scope f (.ref c') [(fr, c)] A outer' s' H' E) body t ∧ t [some v1, some y] H' Q) → tF P w K mg base (k+1) outer s H2 f c' q spx) → sp outer s [v, .ref f] H2 Q E0) → tG P w K mg base k sp i P0 q p fr scope body te σ H Q
theorem iP {X : Cx}{x fr pr q : Str}{i j k m : Nat}{c0 P0 : Addr}{sp : SpS}{a body : Expr}{te : TE}{params : Arguments}{scope : Scope}{p pos lpos : Pos}{ps : List Str}(F : uk X.prog X.w X.K X.mg X.base x ps j sp)(hr : b0 k X.A)(hj : j≤k)(hg : Gl X x)
    (M : Mkr X.base X.mg c0 P0) (hcode : X.env.code = .ref c0) (hq : X.env.qual ++ "<lambda>" = q) (ha : PE X a te) (S : fP pr fr scope) (hi : X.N[i]? = some fr) (hv : X.env.scope.names.lookup fr=some .cell) (hfn : X.fn fr=true)
    (hnm : scope.names.filter (fun y => y.2 == NameKind.free)=[(fr, NameKind.free)])
    (hdf : defaultsOf params X.env=([], []))
    (hbi : ∀ (c : Addr) (pm cd ctv u1 : Value), bindArgs (PySem.W.kla_fn "<lambda>" q params body scope [(fr, c)] pm cd ctv) ⟨[u1], []⟩=pure [(pr, u1)])
    (hdb : (x == ("__debug__" : Str))=false := by decide) (h1 : starEach [a, .Lambda params body scope lpos] X.env=(false, eval a X.env)::starEach [.Lambda params body scope lpos] X.env := by rfl)
    (h2 : starEach [.Lambda params body scope lpos] X.env=(false, eval (.Lambda params body scope lpos) X.env)::starEach [] X.env := by rfl) (hpl : (backTo pos (starEach [.Lambda params body scope lpos] X.env)).any (·.1)=false := by rfl) :
    PE X (.Call (.Name x p) [a, .Lambda params body scope lpos] [] pos) (tG X.prog X.w X.K X.mg X.base m sp i P0 q pr fr scope body te) := by
  obtain ⟨f, fd, hm, hk, hb, F⟩ := F.ex
  intro pins s σ H Q I h
  obtain ⟨y, hσ, h⟩ := h
  refine yu (cH I hg hm ?_ hdb)
  obtain ⟨c, hc⟩ := I.ok.has fr (.inl hv)
  have hclos : closureFor scope X.env=pure [(fr, c)] := by
    rw [cW (env := X.env) (scope := scope) fun y hy e => ?_]
    · congr 1
      have all : ∀ (names : List (Str × NameKind)) (acc : List (Str × Addr)), ia X.env.cells names acc=((names.filter (fun y => y.2 == NameKind.free)).map fun y => (y.1, (X.env.cells.lookup y.1).getD 0)).reverse++acc := by
        intro names
        induction names with
        | nil => intro acc;rfl
        | cons z r ih =>
          intro acc
          obtain ⟨zx, zk⟩ := z
          unfold ia
          by_cases hz : (zk == NameKind.free)=true
          · simp only [hz, zu]
            rw [ih, List.filter_cons_of_pos (by exact hz)]
            simp
          · rw [Au (by exact hz), ← ih acc]
            simp [hz]
      rw [all, hnm]
      show [(fr, (X.env.cells.lookup fr).getD 0)]++[]=[(fr, c)]
      rw [hc]
      rfl
    · have e1 := S.only y hy e
      rw [e1]
      exact ⟨c, hc⟩
  have cfs : c∉frs X.stack := fun z => by
    rcases xn.mp (I.stkSub _ z) with z | z
    · exact I.cne fr c hc z
    · obtain ⟨_, o, ho, _⟩ := I.ok.funs.mem z
      exact absurd (wZ ho) (Nat.not_lt.mpr (I.ok.cab fr c hfn hc))
  refine Ag (h₀ := X.base) I.ok.mod.kin hk ?_ h1 hpl
  rw [h1]
  show wpAny _ _ (spliced ((false, eval a X.env)::backTo pos (starEach [.Lambda params body scope lpos] X.env))) _ _ s
  refine ye (thn (ha pins s σ H _ I h) fun u s1 z => ?_)
  obtain ⟨v, H1, I1, r1, hT, hsp⟩ := z
  rw [h2]
  show wpAny _ _ (spliced ((false, eval (.Lambda params body scope lpos) X.env)::backTo pos (starEach [] X.env))) _ _ s1
  refine ye (PySem.W.kla_eval hdf ?_)
  rw [hq]
  refine nN I1 hcode M hT hclos fun g c' pm ctv s2 H2 I2 hg2 hgn hgf hc' hT2 hk2 hu2 => ?_
  refine y1 ⟨I2.kIn, ?_⟩
  have asks : ∀ spx : Sp, (∀ (A : Around) (outer' : List Env) (s' : Shared) (H' : Hp) (c : Addr) (v1 : V) (Q : VK) (E : XK), b0 m (A.deeper (PySem.W.envX q scope s'.heap.objs.size g (.ref c') [(fr, c)])) → spx [v1] H' Q E →
          ∃ t, PE (cxL (CXe X.prog X.w) X.prog X.w X.K X.mg X.base [pr, fr] q scope g (.ref c') [(fr, c)] A outer' s' H' E) body t ∧ t [some v1, some y] H' Q) → tF X.prog X.w X.K X.mg X.base (m+1) X.stack s2 H2 g c' q spx := fun spx hbody => by
    refine ⟨⟨_, _, _, _, hg2⟩, hgn, hgf, fun A outer' s' H' u1 v1 Q E hrA e0 kp hcd r hs => ?_⟩
    obtain ⟨mm, hn, hl⟩ := I2.loc
    obtain ⟨uc, ruc, lk⟩ := hl i fr y hi hσ (.inr (.inl hv))
    have hcell : s2.heap.IsCell c (some uc) := by
      rcases lk with ⟨z, _⟩ | ⟨_, c2, e2, z⟩
      · have z : X.env.scope.names.lookup fr=some .local := z
        rw [hv] at z;cases z
      · rw [hc] at e2;cases e2;exact z
    obtain ⟨o, ho, hd⟩ := hcell
    obtain ⟨ho', hHc'⟩ := kp c o ho (I2.freeC fr c hc) cfs
    exact qz S (kp g _ hg2 hgn hgf).1 (sZ e0.hok hcd) ⟨o, ho', hd⟩ ruc hHc' (hbi c pm (.ref c') ctv u1) hrA e0 r fun hrm => hbody A outer' s' H' c v1 Q E hrm hs
  have hs := hsp X.stack s2 H2 g c' hT2 hc' hk2 asks
  have r2 : aR [v, .ref g] [u, Value.ref g] := .cons r1 (.cons rfl .nil)
  have hl : ([u, Value.ref g]++[]).length=ps.length := by rw [x_, ← r2.length];exact F.len _ _ _ _ _ _ hs
  have hbb := hb s2 [u, .ref g] I2.kIn hl
  rw [x_] at hbb
  refine zr (y_ (F.run X.A X.stack s2 H2 ⟨[u, .ref g], []⟩ [u, .ref g] [v, .ref g] Q E0 (hr.mono hj) I2.env0 hbb r2 hs) fun r s' hq => ?_)
  cases r with
  | error e => exact (show False from hq).elim
  | ok fl =>
    cases fl with
    | ret u => exact I2.after hq
    | next => exact False.elim hq
    | brk => exact False.elim hq
    | cont => exact False.elim hq
end L2
namespace L2
open PySem PySem.Spec PyProof.Rows
theorem qG {H : Hp}{P0 : Addr}{q : Str}(h : H P0=some (.tbl #[])) : Tab H P0 q := ⟨_, h, trivial, fun pos cv e => by cases (show (none : Option Value)=some cv from e)⟩
theorem lV {P : Program}{w : World}{K : PySem.W.Frag}{mg mb : Str → Option Value}{CX : CXT}{k : Nat}{fa a c0 P0 : Addr}{fd : FuncData}{x : Str}{sp : Sp}{s₁ : Shared}{vs : List Value}{ns : List Int}
    (KX : K.In s₁.heap) (hns : s₁.heap.Ns mainGlobals mg) (hb : s₁.heap.Ns builtinsNs mb) (hbb : ∀ x : Str, x ≠ "__name__" → mb x=bootBuiltins x) (hlim : s₁.heap.NoLimit) (hg : s₁.gens=#[])
    (ha : s₁.heap.get? a=some { cls := .type "list", data := .seq vs.toArray }) (hi : IntsAre vs ns) (hl : ns.length≤sizeLine) (hr : b0 k callerA)
    (C : PySem.W.CodeHd s₁.heap c0 P0) (hP : s₁.heap.get? P0=some (PySem.W.tabObj #[])) (hB : s₁.heap.BuiltinsAt mg P0) (hKP : K.lookup P0=none)
    (F : ∀ base : Heap, K.In base → base.Ns mainGlobals mg → Mkr base mg c0 P0 → gm P w K mg base CX k fa fd [x] sp) (hbind : ∀ (s : Shared) (u : Value), BindsTo s fd ⟨[u], []⟩ [(x, u)])
    (hsp : ∀ H : Hp, SqL K H a (ns.map V.int) → H P0=some (.tbl #[]) → sp [.ref a] H (fun v _ => v = .bl true) fun _ _ _ => False)
    (hCX : ∀ H e s', CX [] H s₁ (fun _ _ _ => False) e s' → False) :
    codeAny (model P w) callerA (.call (.ref fa) ⟨[.ref a], []⟩) (fun r s' => r = .ok (.ret (.bool true)) ∧ OldK s₁.heap s'.heap ∧ s'.os=s₁.os ∧ AllBare s'.gens) s₁ := by
  have rv := gF hi
  have lenV := hi.length
  have naP : a≠P0 := fun z => by rw [z, hP] at ha;cases ha
  have core : ∀ H : Hp, H P0=some (.tbl #[]) → (∀ b, b≠P0 → H b=none ∨ ∃ o xs, H b=some (.frz o (.lst xs))) → SqL K H a (ns.map V.int) → HOk P w H s₁.heap → (∀ b, b≠P0 → H b≠none → b=a) → (H a≠none → K.lookup a=none) →
      codeAny (model P w) callerA (.call (.ref fa) ⟨[.ref a], []⟩) (fun r s' => r = .ok (.ret (.bool true)) ∧ OldK s₁.heap s'.heap ∧ s'.os=s₁.os ∧ AllBare s'.gens) s₁ := by
    intro H hHP hO hS hok hA hK
    have base_of : ∀ {b : Addr} {o : Obj}, s₁.heap.get? b=some o → H b=none → (mB s₁.heap H).get? b=some o := fun e n => mH e n
    have noX : ∀ {b : Addr} {o : Obj}, s₁.heap.get? b=some o → (∀ its n, o.data ≠ .seq its n) → b≠P0 → H b=none := fun {b o} e d nb => by
      cases q : H b with
      | none => rfl
      | some u =>
        have e' : b=a := hA b nb (by rw [q];simp)
        subst e'
        rw [ha] at e;cases e
        exact absurd rfl (d _ _)
    have noA : ∀ {b : Addr} {o : Obj} {es : Array DictEntry} {ep : Nat}, s₁.heap.get? b=some o → o.data = .dict es ep → H b=none := fun {b o es ep} e d => noX e (fun its n z => by rw [d] at z;cases z) fun z => by
      rw [z, hP] at e
      cases e
      cases d
    have nsK : ∀ {b : Addr} {m : Str → Option Value}, s₁.heap.Ns b m → (mB s₁.heap H).Ns b m := fun {b m} ⟨o, es, ep, e, d, r⟩ => ⟨o, es, ep, base_of e (noA e d), d, r⟩
    have hKb : K.In (mB s₁.heap H) := fun b o e => base_of (KX b o e) (by
      cases q : H b with
      | none => rfl
      | some u =>
        have nb : b≠P0 := fun z => by rw [z, hKP] at e;cases e
        have e' : b=a := hA b nb (by rw [q];simp)
        subst e'
        rw [hK (by rw [q];simp)] at e;cases e)
    have hM : Mod K mg (mB s₁.heap H) := ⟨hKb, nsK hns, ⟨mb, nsK hb, hbb⟩, let ⟨mc, h1, h2⟩ := hlim;⟨mc, nsK h1, h2⟩⟩
    have mk : Mkr (mB s₁.heap H) mg c0 P0 := by
      refine ⟨?_, ?_⟩
      · obtain ⟨o, vs', file, tf, flags, tg, inF, text, tt, e1, e2, e3, e4, e5, e6, e7, e8, e9, e10⟩ := C
        exact ⟨o, vs', file, tf, flags, tg, inF, text, tt, base_of e1 (noX e1 (fun its n z => by rw [e3] at z;cases z) e10), e2, e3, e4, e5, e6, e7, e8, e9, e10⟩
      · obtain ⟨bm, ob, b1, b2, b3, b4, b5, b6, b7, b8⟩ := hB
        exact ⟨bm, ob, b1, b2, b3, b4, base_of b5 (noX b5 (fun its n z => by rw [b8] at z;cases z) b4), b6, b7, b8⟩
    have e0 : kn P w K mg (mB s₁.heap H) callerA [] s₁ H := ⟨rfl, hM, fun b o e => px e, Ah (j6 _ _), trivial, fun b hb => absurd (show b∈([] : List Addr) from hb) (by simp), hok, .of_eq hg⟩
    refine y_ ((F _ hKb (nsK hns) mk).run callerA [] s₁ H ⟨[.ref a], []⟩ [.ref a] [.ref a] _ _ hr e0 (hbind s₁ (.ref a)) (.cons rfl .nil) (hsp H hS hHP)) fun r s' h => ?_
    cases r with
    | error e => exact (hCX H e s' h).elim
    | ok fl =>
      cases fl with
      | next => exact False.elim h
      | brk => exact False.elim h
      | cont => exact False.elim h
      | ret u =>
        obtain ⟨v, H', os, bare, un, hok', r', q⟩ := h
        have q' : v = .bl true := q
        subst q'
        obtain rfl : u=Value.bool true := r'
        have keepB : ∀ b o, b≠P0 → s₁.heap.get? b=some o → s'.heap.get? b=some o := fun b o nb e => by
          cases q : H b with
          | none => exact un.keep b o e q (by intro z;exact absurd (show b∈([] : List Addr) from z) (by simp)) (by simp)
          | some u =>
            rcases hO b nb with z | ⟨ob, xs, z⟩
            · rw [q] at z;cases z
            · have z2 := un.frzs b ob _ z
              obtain ⟨e1, _⟩ := hok b _ z
              obtain ⟨e2, _⟩ := hok' b _ z2
              rw [e] at e1;cases e1
              exact e2
        obtain ⟨more, hm⟩ := un.tbls P0 _ hHP
        have hT : s'.heap.get? P0=some (PySem.W.tabObj (#[]++more)) := hok' P0 _ hm
        refine ⟨rfl, ⟨fun b o e => ?_, fun b o e => ?_⟩, os, bare⟩
        · by_cases hb : b=P0
          · subst hb
            rw [hP] at e
            cases e
            exact .inr (.inl ⟨(C.tab hP).isCodeTable, rfl, #[], more, rfl, hT⟩)
          · exact .inl (keepB b o hb e)
        · by_cases hb : b=P0
          · rw [hb];exact ⟨_, hT⟩
          · exact ⟨o, keepB b o hb e⟩
  have tblOk : ∀ {H : Hp}, bu P w H s₁.heap P0 (.tbl #[]) := hP
  cases hk : K.lookup a with
  | some o =>
    have e := KX a o hk
    rw [ha] at e
    cases e
    refine core (fun b => if b=P0 then some (.tbl #[]) else none) (if_pos rfl) (fun b nb => .inl (if_neg nb)) (.inr ⟨_, vs.toArray, _, hk, rfl, rfl, rfl, by rw [w5, lenV];exact hl, by simpa using rv⟩) (fun b u z => ?_) (fun b nb z => absurd (if_neg nb) z) fun z => absurd (if_neg naP) z
    by_cases hb : b=P0
    · have z' := (if_pos hb).symm.trans z
      cases z'
      subst hb
      exact tblOk
    · have z' := (if_neg hb).symm.trans z
      cases z'
  | none =>
    refine core (fun b => if b=P0 then some (.tbl #[]) else if b=a then some (.frz { cls := .type "list", data := .seq vs.toArray } (.lst (ns.map V.int))) else none) (if_pos rfl) (fun b nb => ?_) (.inl (.inr ⟨{ cls := .type "list", data := .seq vs.toArray }, (if_neg naP).trans (if_pos rfl)⟩)) (fun b u z => ?_) (fun b nb z => ?_) fun _ => hk
    · by_cases hb : b=a
      · exact .inr ⟨_, _, (if_neg nb).trans (if_pos hb)⟩
      · exact .inl ((if_neg nb).trans (if_neg hb))
    · by_cases hp : b=P0
      · have z' := (if_pos hp).symm.trans z
        cases z'
        subst hp
        exact tblOk
      · by_cases hb : b=a
        · have z' := ((if_neg hp).trans (if_pos hb)).symm.trans z
          cases z'
          subst hb
          exact ⟨ha, by rw [wV];exact hl, vs, _, rv, ha⟩
        · have z' := ((if_neg hp).trans (if_neg hb)).symm.trans z
          cases z'
    · by_cases hb : b=a
      · exact hb
      · exact absurd ((if_neg nb).trans (if_neg hb)) z
theorem nX {l : PySem.W.OpenLaw}{n k : Nat}{q : Program}{loose : List Str}{XP : (Str → Option Value) → Heap → Prop}{YP : World → Heap → Prop}{d dt : DefRec}{K : Params → PySem.W.Frag}{CX : World → CXT}{sp : World → Addr → Sp}{x tn : Str}
    (hn : l.most=some n) (hn2 : n≤sizeLine) (hdf : d.params.defaults=[]) (hr : b0 k callerA)
    (hY : ∀ (w : World) (h : Heap), YP w h → (K w.params).In h) (hrec : (recsOf q).find? (fun e => e.name == tn)=some dt)
    (F : ∀ (w : World) (mg : Str → Option Value) (fa : Addr) (h : Heap), (K w.params).In h → h.Ns mainGlobals mg → mg d.name=some (.ref fa) →
      ∃ (c0 P0 : Addr) (fd : FuncData), PySem.W.tabIn (K w.params) tn=some (c0, P0) ∧ (K w.params).lookup P0=none ∧ (∀ (s : Shared) (u : Value), BindsTo s fd ⟨[u], []⟩ [(x, u)]) ∧
        ∀ base : Heap, (K w.params).In base → base.Ns mainGlobals mg → Mkr base mg c0 P0 → gm l.prog w (K w.params) mg base (CX w) k fa fd [x] (sp w P0))
    (hsp : ∀ (w : World) (H : Hp) (a P0 : Addr) (ns : List Int), ns.length≤n → H P0=some (.tbl #[]) → SqL (K w.params) H a (ns.map V.int) → sp w P0 [.ref a] H (fun v _ => v = .bl true) fun _ _ _ => False)
    (hCX : ∀ (w : World) (H : Hp) (s : Shared) (e : Value) (s' : Shared), CX w [] H s (fun _ _ _ => False) e s' → False) :
    PySem.W.WalkO q loose XP YP l.row.toRowW d [] (fun f vs => PySem.call f vs) := by
  refine Att.attach_call hn hdf fun w s₀ s₁ mg mb fa o pm cd doc a vs ns G Y ho hd hcd hmg hobj hints hlen hg => ?_
  have KX := hY w _ Y
  obtain ⟨c0, P0, fd, ht, hKP, hb, hF⟩ := F w mg fa _ KX G.T.g hmg
  obtain ⟨C, hP⟩ := PySem.W.tab_of G.T KX hrec ht
  have hB : s₁.heap.BuiltinsAt mg P0 := by
    obtain ⟨bm, ob, b1, b2, b3, b4, b5, b6⟩ := G.T.bmain
    refine ⟨bm, ob, b1, b2, ?_, ?_, b3, b4, b5, b6⟩
    · intro z
      obtain ⟨o, es, ep, e, hd, _⟩ := G.T.g
      rw [z, e] at b3;cases b3;rw [hd] at b6;cases b6
    · intro z
      rw [z, hP] at b3;cases b3;cases b4
  exact lV KX G.T.g G.T.b G.T.builtins G.T.nolimit hg hobj hints (xG hlen hn2) hr C hP hB hKP hF hb (fun H hS hH => hsp w H a P0 ns hlen hH hS) fun H e s' => hCX w H s₁ e s'
end L2
namespace Wd
section
variable {α : Type}
theorem lW {w : List α}{x : α}(h : x∈w) : ∃ A B, w=A++x::B := by
  obtain ⟨A, B, e⟩ := List.append_of_mem h
  exact ⟨A, B, e⟩
end
end Wd
namespace Wd
section
variable {α : Type}
end
end Wd
namespace Wd
end Wd
namespace Wd
def J (u v : List L) : Prop := ∀ x y, u.getLast? = some x → v.head? = some y → y≠inv x
end Wd
namespace Wd
end Wd
namespace L2
open PySem PySem.Spec PyProof.Rows Wd
end L2
namespace Wd
end Wd
namespace Wd
section
variable {α : Type}
end
end Wd
namespace Wd
section
variable {α : Type}
end
end Wd
namespace Wd
end Wd
namespace Wd
end Wd
namespace L2
open PySem PySem.Spec PyProof.Rows
section
variable {X : Cx}
end
end L2
namespace L2
open PySem PySem.Spec PyProof.Rows
section
variable {prog : Program} {w : World} {A : Around} {E : Value → Shared → Prop} {s : Shared}
end
section
variable {X : Cx}
inductive pf (K : PySem.W.Frag)(x : V)(vs : List V)(H : Hp)(Q : VK) : Prop
  | mk : ∀ z p ys, (x = .str z) → (vs=[.ref p]) → (SqT K H p (ys.map V.str)) → ((ys.map (·.length)).sum+ys.length*z.length≤16777216) → (Q (.str (Txt.join z ys)) H) → pf K x vs H Q
theorem nY : MtR X "str.join" (pf X.K) := by
  intro pins s σ H x vs v us Q I rx rv h
  obtain ⟨z, p, ys, rfl, rfl, hq, hz, q⟩ := h
  obtain ⟨t, rfl⟩ := rx
  obtain ⟨u, rfl, ru⟩ := cb rv
  cases ru
  obtain ⟨its, r, ht, _⟩ := I.tuple hq
  exact join_tuple ht (by simpa using dj r) hz fun t' k => ⟨.str _, H, I.tok _, ⟨_, rfl⟩, q⟩
end
end L2
namespace Wd
def rfI (u : List L)(a b : L) : Int := ((u.idxOf b : Int) - (u.idxOf a : Int)) % (u.length : Int)
def ic (u : List L)(x z : L) : Int := if rfI u x z < rfI u x (inv x) then 1 else 0
def sd (u : List L)(x y : L) : Int := ic u x y - ic u x (inv y)
def lt6 (j : Nat) : L := if h : j < 12 then ⟨j, h⟩ else 0
end Wd
namespace L2
open PySem PySem.Spec PyProof.Rows
section
variable {X : Cx}
end
end L2
namespace Kx
open PySem PySem.Spec PyProof.Rows L2 Wd
def wR (k : Nat) : List L := (List.range k).map lt6++bk ((List.range k).map lt6)
end Kx
namespace L2
open PySem PySem.Spec PyProof.Rows
section
variable {prog : Program} {w : World} {A : Around} {E : Value → Shared → Prop} {s : Shared}
theorem nZ {t b : Addr}{ws : List Value}{Q : Value → Shared → Prop}(ht : IsTup s.heap t ([] : List Value).toArray)(hb : IsTup s.heap b ws.toArray)(h1 : Q (.ref b) s) : wpAny (model prog w) A (binaryOp .Add (.ref t) (.ref b)) Q E s := by
  obtain ⟨⟨c1, d1, o1, l1⟩, e1, g1, n, k1⟩ := id ht
  obtain ⟨⟨c2, d2, o2, l2⟩, e2, g2, n2, k2⟩ := id hb
  simp only at g1 k1 g2 k2
  subst g1 k1 g2 k2
  exact concat_meets ⟨_, e1, rfl⟩ ⟨_, e2, rfl⟩ Av seq_tuple_add zl zg (zc _ _) (tuple_addW0 t b _ ws.toArray n n2 d1 d2 l1 l2 rfl) ⟨e1, e2, h1⟩
end
section
variable {X : Cx}
inductive tH (K : PySem.W.Frag)(x : V)(y : V)(H : Hp)(Q : VK) : Prop
  | mk : ∀ a b xs ys, (x = .ref a) → (y = .ref b) → (SqT K H a xs) → (SqT K H b ys) → (ys≠[]) → (xs.length+ys.length≤sizeLine) → ((xs=[] → Q (.ref b) H)) → (∀ p, H p=none → Q (.ref p) (upd H p (.tup (xs++ys)))) → tH K x y H Q
theorem qH : OpR X (binaryOp .Add) (tH X.K) := by
  intro pins s σ H x y v u Q I rx ry h
  obtain ⟨a, b, xs, ys, ex, ey, ha, hb, hy, hz, q1, q2⟩ := h
  by_cases hx : xs=[]
  · subst ex ey hx
    cases rx
    cases ry
    obtain ⟨its, r1, p1, _⟩ := I.tuple ha
    obtain ⟨its2, r2, p2, _⟩ := I.tuple hb
    cases r1
    exact nZ p1 p2 ⟨.ref b, H, I, rfl, q1 rfl⟩
  · exact pS pins s σ H x y v u Q I rx ry ⟨a, b, xs, ys, ex, ey, ha, hb, hx, hz, fun e => absurd e hy, fun _ => q2⟩
end
end L2
namespace L2
open PySem PySem.Spec PyProof.Rows Wd
section
variable {X : Cx}
inductive c8  (xs : List V)(H : Hp)(Q : VK) : Prop
  | mk : ∀ v d, (xs=[v]) → (Dt H v d) → (Sh d) → ((∀ i, d = .int i → i.natAbs.log2 < 1920)) → (Q (.str d.shown) H) → c8 xs H Q
theorem cO (hg : X.A.guards=some [])(hu : X.A.units+64 < cLine) : c_ X (.builtin "repr") c8 := by
  intro pins s σ H xs us Q I r h
  obtain ⟨v, d, rfl, q, S, hi, hQ⟩ := h
  obtain ⟨u, rfl, ru⟩ := cb r
  cases q with
  | non => cases ru;exact P.repr_of_none ⟨.str _, H, I.tok _, ⟨_, rfl⟩, hQ⟩
  | bl b => cases ru;exact P.repr_of_bool ⟨.str _, H, I.tok _, ⟨_, rfl⟩, hQ⟩
  | int i => obtain ⟨t, rfl⟩ := ru;exact P.repr_of_int (hi i rfl) ⟨.str _, H, I.tok _, ⟨_, rfl⟩, hQ⟩
  | str x => obtain ⟨t, rfl⟩ := ru;exact P.repr_of_str ⟨.str _, H, I.tok _, ⟨_, rfl⟩, hQ⟩ S.sz
  | lst e qs => exact a6 hg hu pins s σ H _ _ Q I (.cons ru .nil) ⟨_, _, rfl, .lst e qs, S, hQ⟩
  | tup e qs => exact a6 hg hu pins s σ H _ _ Q I (.cons ru .nil) ⟨_, _, rfl, .tup e qs, S, hQ⟩
end
theorem tI {d : PyData}(h : d.leavesShort 40=true)(hw : d.weight≤2 ^ 18) : d.shown.length≤sizeLine := by
  have := PyData.shown_le 40 (by decide) d h
  have e : sizeLine=16777216 := yy
  rw [e]
  omega
structure Sm (d : PyData) : Prop where
  sh : d.showable=true
  nd : d.hasDict=false
  dp : d.depth≤4
  lv : d.leavesShort 40=true
  wt : d.weight≤400
  nt : ∀ i, d = .int i → i.natAbs.log2 < 1920
theorem tJ {ds : List PyData}(h : ∀ d∈ds, Sm d) : PyData.showableAll ds=true ∧ PyData.hasDictAll ds=false ∧ PyData.depthAll ds≤4 ∧ PyData.leavesShortAll 40 ds=true ∧ PyData.weightAll ds≤ds.length*401 := by
  induction ds with
  | nil => exact ⟨rfl, rfl, xQ _, rfl, xQ _⟩
  | cons d r ih =>
    obtain ⟨a, b, c, e, f⟩ := ih fun x hx => h x (xm _ hx)
    have S := h d xv
    refine ⟨?_, ?_, ?_, ?_, ?_⟩
    · show (PyData.showable d && PyData.showableAll r)=true
      rw [S.sh, a];rfl
    · show (PyData.hasDict d || PyData.hasDictAll r)=false
      rw [S.nd, b];rfl
    · show max (PyData.depth d) (PyData.depthAll r)≤4
      have := S.dp
      omega
    · show (PyData.leavesShort 40 d && PyData.leavesShortAll 40 r)=true
      rw [S.lv, e];rfl
    · show PyData.weight d+1+PyData.weightAll r≤(r.length+1)*401
      have := S.wt
      omega
theorem qI {ds : List PyData}(h : ∀ d∈ds, Sm d)(hl : ds.length≤100) : Sh (.tuple ds) := by
  obtain ⟨a, b, c, e, f⟩ := tJ h
  have : ds.length*401≤100*401 := y4 _ hl
  exact ⟨a, b, by show PyData.depthAll ds+1≤10;omega, tI e (by show PyData.weightAll ds≤2 ^ 18;omega)⟩
end L2
namespace Kx
open PySem PySem.Spec PyProof.Rows L2 Wd
end Kx
namespace Kx
open PySem PySem.Spec PyProof.Rows L2 Wd
end Kx
namespace L2
open PySem PySem.Spec PyProof.Rows Wd
section
variable {X : Cx}
end
end L2
namespace Wd
def nm (N : List L)(x : L) : L := if x.val < 6 then N.getD x.val 0 else inv (N.getD (x.val - 6) 0)
end Wd
namespace L2
open PySem PySem.Spec PyProof.Rows Wd
section
variable {X : Cx}
end
end L2
namespace Kx
open PySem PySem.Spec PyProof.Rows L2 Wd
end Kx
namespace Wd
section
variable {α : Type}
theorem lX {h : α → List α} : ∀ {l : List α}, (∀ x∈l, h x=[x]) → l.flatMap h=l
  | [], _ => rfl
  | x::r, k => by rw [zD, k x xv, lX fun y hy => k y (xm _ hy)];rfl
end
def sld (u : List L)(e g : L)(b : Bool) : List L := u.flatMap fun x => if x=g then (if b then [x, e] else [e, x]) else if x=e then [] else [x]
theorem hG {u : List L}{e g : L}(nd : u.Nodup)(he : e∈u)(hg : g∈u)(ne : g≠e)(b : Bool) :
    ∃ A B C D, u=A++e::B ∧ A++B=C++g::D ∧ sld u e g b=(if b then C++g::e::D else C++e::g::D) := by
  obtain ⟨A, B, rfl⟩ := lW he
  have nd2 : (e::(A++B)).Nodup := (AA.nodup_iff).mp nd
  have ni := (yf.mp nd2).1
  have nd3 := (yf.mp nd2).2
  have hg2 : g∈A++B := by
    rcases yE.mp hg with h | h
    · exact xW _ h
    · rcases xn.mp h with h | h
      · exact absurd h ne
      · exact xl _ h
  obtain ⟨C, D, e1⟩ := lW hg2
  refine ⟨A, B, C, D, rfl, e1, ?_⟩
  have e2 : sld (A++e::B) e g b=sld (A++B) e g b := by
    unfold sld
    rw [y8, y8, zD, if_neg (fun z => ne z.symm), if_pos rfl]
    rfl
  rw [e2, e1]
  rw [e1] at nd3 ni
  have nd4 : (g::(C++D)).Nodup := (AA.nodup_iff).mp nd3
  have ng := (yf.mp nd4).1
  have hid : ∀ l : List L, (∀ x∈l, x∈C++D) → (l.flatMap fun x => if x=g then (if b then [x, e] else [e, x]) else if x=e then [] else [x])=l := fun l hl => lX fun x hx => by
    have hx := hl x hx
    have a : ¬ x=g := fun z => ng (z ▸ hx)
    have a2 : ¬ x=e := fun z => ni (by
      subst z
      rcases yE.mp hx with h | h
      · exact xW _ h
      · exact xl _ (xm _ h))
    rw [if_neg a, if_neg a2]
  unfold sld
  rw [y8, zD, if_pos rfl, hid C fun x hx => xW _ hx, hid D fun x hx => xl _ hx]
  cases b <;> rfl
theorem jx {u : List L}{e g : L}(nd : u.Nodup)(he : e∈u)(hg : g∈u)(ne : g≠e)(b : Bool) : (sld u e g b).Perm u := by
  obtain ⟨A, B, C, D, rfl, e1, e2⟩ := hG nd he hg ne b
  rw [e2]
  refine List.Perm.trans ?_ AA.symm
  rw [e1]
  cases b with
  | true =>
    have : (C++g::e::D : List L)=(C++[g])++e::D := by simp
    rw [if_pos rfl, this]
    refine AA.trans ?_
    simp
  | false => exact AA
theorem Srf.perm {u v : List L}(U : Srf u)(p : v.Perm u) : Srf v := ⟨fun e => U.ne (List.Perm.nil_eq (e ▸ p)).symm, p.nodup_iff.mpr U.nd, fun x hx => p.mem_iff.mpr (U.iv x (p.mem_iff.mp hx)), by rw [p.length_eq]; exact U.le⟩
end Wd
namespace Wd
open Kx
theorem fS.perm {n : Nat}{u v : List L}(R : fS n u)(p : v.Perm u) : fS n v := ⟨by rw [p.length_eq, R.len], p.nodup_iff.mpr R.nd, fun x hx => R.ins x (p.mem_iff.mp hx)⟩
end Wd
namespace PySem
open Sem (wp)
end PySem
namespace PySem
open Sem (wp)
section
variable {K : Type} [DecidableEq K] {prog : Program} {w : World} {knd : KeyKind prog w K} {A : Around} {E : Value → Shared → Prop} {s : Shared}
section
variable {R : Result → Shared → Prop} {I : Addr} {fp wr : List Addr} {G : Array GenState → Array GenState → Prop} {n : Nat} {P : Nat → Value → Prop} {St : Nat → Shared → Prop}
end
end
end PySem
namespace PySem
open Sem (wp)
section
variable {prog : Program} {w : World} {A : Around} {E : Value → Shared → Prop} {s : Shared}
end
end PySem
namespace PySem
open Sem (wp)
section
variable {prog : Program} {w : World} {A : Around} {E : Value → Shared → Prop} {s : Shared}
end
end PySem
namespace PySem
open Sem (wp)
section
variable {prog : Program} {w : World} {A : Around} {E : Value → Shared → Prop} {s : Shared}
end
end PySem
namespace Tv
open PySem PyProof.Rows
section
variable {prog : Program} {w : World} {A : Around} {E : Value → Shared → Prop} {s : Shared} {κ : KeyKind} {kd : SortKind}
end
end Tv
namespace Tv
open PySem PyProof.Rows
end Tv
namespace Tv
open PySem PyProof.Rows
variable {κ : KeyKind} {kd : SortKind}
end Tv
namespace Tv
open PySem PyProof.Rows
section
variable {prog : Program} {w : World} {A : Around} {E : Value → Shared → Prop} {s : Shared} {κ : KeyKind} {kd : SortKind}
end
end Tv
namespace Tv
open PySem PyProof.Rows
variable {κ : KeyKind} {kd : SortKind}
section
variable {prog : Program} {w : World} {A : Around} {E : Value → Shared → Prop} {s : Shared}
end
end Tv
namespace Tv
open PySem PyProof.Rows
variable {κ : KeyKind} {kd : SortKind}
section
variable {prog : Program} {w : World} {A : Around} {E : Value → Shared → Prop} {s : Shared}
end
end Tv
namespace Tv
open PySem PyProof.Rows
variable {κ : KeyKind} {kd : SortKind}
section
variable {prog : Program} {w : World} {A : Around} {E : Value → Shared → Prop} {s : Shared}
end
end Tv
namespace Tv
open PySem PyProof.Rows
variable {κ : KeyKind} {kd : SortKind}
section
variable {prog : Program} {w : World} {A : Around} {E : Value → Shared → Prop} {s : Shared}
end
end Tv
namespace Tv
open PySem PyProof.Rows
variable {κ : KeyKind} {kd : SortKind}
section
variable {prog : Program} {w : World} {A : Around} {E : Value → Shared → Prop} {s : Shared}
end
end Tv
namespace Tv
open PySem PyProof.Rows
variable {κ : KeyKind} {kd : SortKind}
section
variable {prog : Program} {w : World} {A : Around} {E : Value → Shared → Prop} {s : Shared}
end
end Tv
namespace Ts
open PySem PyProof.Rows
section
variable {κ : KeyKind} {prog : Program} {w : World} {A : Around} {E : Value → Shared → Prop} {s : Shared}
end
end Ts
namespace L2
open PySem PySem.Spec PyProof.Rows
section
variable {prog : Program} {w : World} {A : Around} {E : Value → Shared → Prop} {s : Shared}
end
section
variable {X : Cx}
end
section
variable {prog : Program} {w : World} {A : Around} {E : Value → Shared → Prop} {s : Shared}
end
section
variable {X : Cx}
end
end L2
namespace Wd
open PySem L2
def lcp : List L → List L → List L
  | x::u, y::v => if x=y then x::lcp u v else []
  | _, _ => []
def wL (t o : List L) : Bool := decide (o≠t) && decide (t.length≤6*(lcp t o).length)
end Wd
namespace Kx
open PySem PySem.Spec PyProof.Rows L2 Wd
theorem eQ : bootBuiltins "enumerate" = some (.type "enumerate") := by kernel_rfl
theorem nl : ¬ ("letter" : Str) = "number" := by decide +kernel
theorem nt : ¬ ("turn" : Str) = "number" := by decide +kernel
theorem tl : ¬ ("turn" : Str) = "letter" := by decide +kernel
end Kx
namespace Kx
open PySem PySem.Spec PyProof.Rows L2 Wd
end Kx
namespace Wd
open PySem L2
end Wd
namespace Kx
open PySem L2 Wd
end Kx
namespace PySem
open Sem (wp)
section
variable {prog : Program} {w : World} {A : Around} {E : Value → Shared → Prop} {s : Shared} {z TI TO i1 i2 : Addr} {x y : Str} {t u : Tok} {k c d : Nat} {a b : Value}
end
end PySem
namespace L2
open PySem PySem.Spec PyProof.Rows
section
variable {X : Cx}
end
end L2
namespace PySem
end PySem
namespace L2
open PySem PySem.Spec PyProof.Rows Wd
section
variable {X : Cx}
end
end L2
namespace HT
open PySem PySem.Spec PyProof.Rows
section
variable {prog : Program} {w : World} {A : Around} {E : Value → Shared → Prop} {s : Shared}
end
end HT
namespace L2
open PySem PySem.Spec PyProof.Rows Wd
section
variable {X : Cx}
end
end L2
namespace L2
open PySem PySem.Spec PyProof.Rows Wd
section
variable {X : Cx}
end
end L2
namespace HT
open PySem PySem.Spec PyProof.Rows PySem.SeqAt
end HT
namespace L2
open PySem PySem.Spec PyProof.Rows Wd
section
variable {X : Cx}
end
end L2
namespace Wd
end Wd
namespace Kx
open PySem PySem.Spec PyProof.Rows L2 Wd
def fst (c : Option (Int × Int)) : Int := match c with | some (i, _) => i | none => 0
end Kx
namespace Kx
open PySem PySem.Spec PyProof.Rows L2 Wd
end Kx
namespace Kx
open PySem PySem.Spec PyProof.Rows L2 Wd
def iv (r : List Nat) : List V := r.map fun i : Nat => V.int (i : Int)
end Kx
namespace Kx
open PySem PySem.Spec PyProof.Rows L2 Wd
def oTx : Option (List L) → V
  | some w => tx w
  | none => .non
theorem qJ {H : Hp}{d l : Addr}{o : HO}{W : List (List L)}(F : Fd H d)(h : H l=some (.lst (W.map tx)))(n : l≠d) : Fd (L2.upd H l o) d := by
  obtain ⟨c, i, ll, t, ns, h1, h2, h3, h4⟩ := F.ex
  have hc : c≠l := fun e => by
    subst e
    rw [h2] at h
    have h := HO.lst.inj (w4 h)
    cases ns with
    | nil => exact h3 rfl
    | cons a ns =>
      cases W with
      | nil => cases h
      | cons w W => cases (AV h).1
  exact ⟨c, i, ll, t, ns, by rw [ao n.symm];exact h1, by rw [ao hc];exact h2, h3, h4⟩
end Kx
namespace Kx
open PySem PySem.Spec PyProof.Rows L2 Wd
theorem n8 {K : PySem.W.Frag}{C : Addr} : PySem.W.kitOne K (.ref C) (.ref C)=some true := by unfold PySem.W.kitOne; rw [if_pos (by simp)]
theorem cz {K : PySem.W.Frag}{C R : Addr}{bm : List Value}{dd' : Option Addr}{cd' : ClassData}{sl' : Array (Option Value)}(xC : XCl K C bm)(hl' : K.lookup R=some ⟨.type "type", dd', .cls cd', sl'⟩) : PySem.W.kitOne K (.ref C) (.ref R)=some ((Value.ref C::bm).contains (.ref R)) := by
  obtain ⟨dd, cd, k0, k1, k2, k3, k5, hl, hm, hd, hh⟩ := xC.obj
  unfold PySem.W.kitOne
  by_cases q : (Value.ref C == Value.ref R)=true
  · rw [if_pos q, AL.mp q];simp
  · rw [if_neg q]
    unfold PySem.W.kitCls
    have h1 : (PySem.W.clsIn K R).isSome=true := by unfold PySem.W.clsIn;rw [hl'];rfl
    have h2 : PySem.W.typeIn K (.ref R)=some (.type "type") := by
      show (K.lookup R).map (·.cls)=_
      rw [hl'];rfl
    simp only [h1, h2, yr, Bool.and_self, zu]
    unfold PySem.W.subIn PySem.W.mroIn PySem.W.clsIn
    simp only [hl, Option.bind_some, hm, List.isEmpty_cons, yS, As]
end Kx
namespace L2
open PySem PySem.Spec PyProof.Rows Wd
section
variable {X : Cx}
def wM (K : PySem.W.Frag)(ta : TA) : TI := fun σ H R => ta σ H fun vs H1 => ∃ a, vs=[.ref a] ∧ (((∃ xs, SqL K H1 a xs) ∧ R (lj K a) H1) ∨ ((∃ xs, SqT K H1 a xs) ∧ R (nB K a) H1))
theorem tK {K : PySem.W.Frag}(hK : X.K=K){a : Expr}{ta : TA}{p pos tp : Pos}{elts : List Expr}{k : Nat}(hg : Gl X "enumerate")(hm : X.mg "enumerate" = none)(hb : bootBuiltins "enumerate" = some (.type "enumerate"))(ha : PA X [a] ta)(hs : starEach [a] X.env=[(false, eval a X.env)] := by rfl) :
    PI X (.Tuple elts k tp) (.Call (.Name "enumerate" p) [a] [] pos) (wM K ta) := by
  subst hK
  intro pins s σ H R I h
  refine Call_ (dz I hg hm hb (xZ (thn (ha pos pins s σ H _ I h) fun us s1 zq2 => ?_) hs rfl))
  obtain ⟨vs, H1, I1, r1, q1⟩ := zq2
  obtain ⟨l, rfl, hq⟩ := q1
  obtain ⟨u1, rfl, ru⟩ := cb r1
  cases ru
  rcases hq with ⟨⟨xs, hq⟩, q⟩ | ⟨⟨xs, hq⟩, q⟩
  · obtain ⟨its, rv, pl, hz⟩ := I1.list hq
    refine call_enumerate_list pl.isList fun h' b1 b2 b3 b4 => ?_
    have I2 : Inv X pins σ H1 { s1 with heap := h', toks := s1.toks } := I1.kept b4
    exact y2 (s := { s1 with heap := h', toks := s1.toks }) b1 ⟨s1.heap.objs.size+1, [s1.heap.objs.size+1, s1.heap.objs.size], _, lj X.K l, H1, rfl, I2, jl (Ay _), ⟨⟨_, b1⟩, b2⟩, fp2 I1, q⟩
  · obtain ⟨its, rv, pl, hz⟩ := I1.tuple hq
    refine nA pl fun h' b1 b2 b4 => ?_
    have I2 : Inv X pins σ H1 { s1 with heap := h', toks := s1.toks } := I1.kept b4
    exact y2 (s := { s1 with heap := h', toks := s1.toks }) b1 ⟨s1.heap.objs.size+1, [s1.heap.objs.size+1, s1.heap.objs.size], _, nB X.K l, H1, rfl, I2, nC (Ay _), ⟨⟨_, b1⟩, b2⟩, fp2 I1, q⟩
end
end L2
namespace Kx
open PySem PySem.Spec PyProof.Rows L2 Wd
def oL (o : Option (List L)) : List V := o.toList.map tx
theorem at1 {α : Type}(a b : α)(t : List α) : atI (a::b::t) (1 : Int)=some b := fB (j := 1) rfl
end Kx
namespace Kx
open PySem PySem.Spec PyProof.Rows L2 Wd
theorem aD {n : Nat}(h : n≤16777216) : n≤sizeLine := by rw [a9]; exact h
theorem qK {t u : TS}{D : dJ}{σ : L2.St}{H : Hp}(h : t D σ H) : il t u D σ true H := sC h
theorem pg {t u : TS}{D : dJ}{σ : L2.St}{H : Hp}(h : u D σ H) : il t u D σ false H := rE h
theorem vS {u : TT}{σ : L2.St}{Q : Bool → Hp → Prop}{H : Hp}(h : Q true H) : j9 u σ Q true H := sC h
theorem vT {u : TT}{σ : L2.St}{Q : Bool → Hp → Prop}{H : Hp}(h : u σ H Q) : j9 u σ Q false H := rE h
theorem ve {u : TT}{σ : L2.St}{Q : Bool → Hp → Prop}{H : Hp}(h : u σ H Q) : j8 u σ Q true H := sC h
end Kx
namespace L2
open PySem PySem.Spec PyProof.Rows Wd
end L2
namespace Kx
open PySem PySem.Spec PyProof.Rows L2 Wd
theorem hJ : bootBuiltins "ValueError" = some (.type "ValueError") := by first | rfl | decide +kernel | kernel_rfl
theorem nkF {Q : Bool → Hp → Prop}{H : Hp}(h : Q true H) : ij Q false H := h
theorem nkT {Q : Bool → Hp → Prop}{H : Hp}(h : Q false H) : ij Q true H := h
def Ok3 (z : Str) : Prop := z.length≤500 ∧ (PyData.str z).canLay0=true
inductive E3 (H : Hp) : V → Prop
  | non : E3 H .non
  | bl (b : Bool) : E3 H (.bl b)
  | int (i : Int) : E3 H (.int i)
  | str (z : Str) (h : Ok3 z) : E3 H (.str z)
  | tupA {a : Addr} (h : H a=some (.tup [.str "a"])) : E3 H (.ref a)
  | nilL {a : Addr} (h : H a=some (.lst [])) : E3 H (.ref a)
theorem E3.mono {H H' : Hp}(st : ∀ a xs, H a=some (.tup xs) → H' a=some (.tup xs))(sl : ∀ a, H a=some (.lst []) → H' a=some (.lst [])){x : V}(h : E3 H x) : E3 H' x := by
  cases h with
  | non => exact .non
  | bl b => exact .bl b
  | int i => exact .int i
  | str z h => exact .str z h
  | tupA h => exact .tupA (st _ _ h)
  | nilL h => exact .nilL (sl _ h)
theorem E3.same {H H' : Hp}{x : V}(s : aw H H')(h : E3 H x) : E3 H' x := h.mono (fun _ _ e => s _ _ e) fun _ e => s _ _ e
theorem E3.sb {H H' : Hp}{f : Addr}(F : Fd H f)(s : bA f H H'){x : V}(h : E3 H x) : E3 H' x := h.mono (fun _ _ e => s _ _ (F.neT e) e) fun _ e => s _ _ (F.nl e) e
inductive T3 (H : Hp) : V → Option (List V) → Prop
  | non : T3 H .non none
  | str (z : Str) : T3 H (.str z) none
  | int (i : Int) : T3 H (.int i) none
  | bl (b : Bool) : T3 H (.bl b) none
  | lst {a : Addr} {xs : List V} (h : H a=some (.lst xs)) : T3 H (.ref a) none
  | tup {a : Addr} {xs : List V} (h : H a=some (.tup xs)) (p : ∀ y∈xs, E3 H y) (hl : xs.length≤50) : T3 H (.ref a) (some xs)
theorem T3.same {H H' : Hp}{x : V}{o : Option (List V)}(s : aw H H')(h : T3 H x o) : T3 H' x o := by
  cases h with
  | non => exact .non
  | str z => exact .str z
  | int i => exact .int i
  | bl b => exact .bl b
  | lst h => exact .lst (s _ _ h)
  | tup h p hl => exact .tup (s _ _ h) (fun y hy => (p y hy).same s) hl
theorem T3.sb {H H' : Hp}{f : Addr}(F : Fd H f)(s : bA f H H'){x : V}{o : Option (List V)}(h : T3 H x o) : T3 H' x o := by
  cases h with
  | non => exact .non
  | str z => exact .str z
  | int i => exact .int i
  | bl b => exact .bl b
  | lst h => exact .lst (s _ _ (F.nl h) h)
  | tup h p hl => exact .tup (s _ _ (F.neT h) h) (fun y hy => (p y hy).sb F s) hl
def XP (C : Addr)(H : Hp)(a : Addr)(z : Str)(k : Nat) : Prop := ∃ dx, H a=some (Exo a C (some dx) false) ∧ H dx=some (Xdt dx [("word", .str z), ("at", .int (k : Nat))])
end Kx
namespace Kx
open PySem PySem.Spec PyProof.Rows L2 Wd
end Kx
namespace Ts
open PySem PyProof.Rows
end Ts
namespace L2
open PySem PySem.Spec PyProof.Rows Wd Ts
section
variable {prog : Program} {w : World} {A : Around} {E : Value → Shared → Prop} {s : Shared}
end
section
variable {X : Cx}
end
end L2
namespace PySem
open Sem (wp)
section
variable {prog : Program} {w : World} {A : Around} {E : Value → Shared → Prop} {s : Shared}
section
variable {R : Result → Shared → Prop} {I : Addr} {fp wr : List Addr} {G : Array GenState → Array GenState → Prop} {n : Nat} {P : Nat → Value → Prop} {St : Nat → Shared → Prop}
end
end
end PySem
namespace L2
open PySem PySem.Spec PyProof.Rows Wd
section
variable {X : Cx}
end
end L2
namespace L2
open PySem PySem.Spec PyProof.Rows Wd
section
variable {X : Cx}
end
theorem jW (u : List L)(e : L) : Txt.replace (toS u) ⟨#[cp e]⟩ "" = toS (u.filter (fun x => decide (x≠e))) := by
  have h := replace_strikes (toS u) (cp e)
  have e0 : ("" : Str)=⟨#[]⟩ := by decide +kernel
  rw [e0]
  have h2 : (toS (u.filter (fun x => decide (x≠e)))).cps.toList=(toS u).cps.toList.filter (· != cp e) := by
    rw [aZ, aZ, List.filter_map]
    congr 1
    refine List.filter_congr fun x _ => ?_
    show decide (x≠e)=(cp x != cp e)
    by_cases z : x=e
    · subst z;simp
    · rw [xt z]
      have : cp x≠cp e := fun q => z (oW x e q)
      simp [this]
  have h3 : (Txt.replace (toS u) ⟨#[cp e]⟩ ⟨#[]⟩).cps=(toS (u.filter (fun x => decide (x≠e)))).cps := Array.toList_inj.mp (h.trans h2.symm)
  generalize Txt.replace (toS u) ⟨#[cp e]⟩ ⟨#[]⟩=z at h3
  cases z
  cases hh : toS (u.filter (fun x => decide (x≠e)))
  rw [hh] at h3
  exact xH Str.mk h3
end L2
namespace Kx
open PySem PySem.Spec PyProof.Rows L2 Wd
inductive iQ (vs : List V)(H : Hp)(Q : VK)(u3_ : XK) : Prop
  | mk : ∀ (d : Addr) (n : Nat), (vs=[.ref d, .int (n : Int)]) → (Fd H d) → (1≤n) → (n≤6) → (∀ (u : List L) (H' : Hp), fS n u → (∀ x : L, x.val % 6 < n → x∈u) → Fd H' d → bA d H H' → Q (tx u) H') → iQ vs H Q u3_
inductive iR (vs : List V)(H : Hp)(Q : VK)(u3_ : XK) : Prop
  | mk : ∀ (u : List L) (t : Addr) (i : Nat) (sd : Int) (e : L), (vs=[tx u, .ref t]) → (H t=some (.tup [.int (i : Int), .int sd])) → (u.Nodup) → (u.length≤12) → (inv (farOf u i sd)∈u) → (u[i]? = some e) → (farOf u i sd≠inv e) → (∀ (H' : Hp), aw H H' → Q (tx (sld u e (inv (farOf u i sd)) (decide (sd=1)))) H') → iR vs H Q u3_
inductive hU (vs : List V)(H : Hp)(Q : VK)(u3_ : XK) : Prop
  | mk : ∀ w, (vs=[tx w]) → (w.length≤1000000) → (∀ H', aw H H' → Q (tx (red w)) H') → hU vs H Q u3_
end Kx
namespace L2
open PySem PySem.Spec PyProof.Rows
structure DfC (K : PySem.W.Frag) (mg : Str → Option Value) (x : Str) (st : Stmt) (c0 : Addr) : Prop where
  ex : ∃ (f : Addr) (oc : Value) (od : Option Addr) (kV doc pm : Value) (an : Option Addr) (ct : Value) (osl : Array (Option Value)), mg x=some (.ref f) ∧
    K.lookup f=some ⟨oc, od, .func (PySem.W.fnOf x x (bb st) (aQ st) (aj st) .none kV doc pm an (.ref c0) ct), osl⟩ ∧ PySem.W.codeIn K (.ref c0) x=true ∧ PySem.W.keepIn K (.ref f)=true
theorem DfC.ok {P : Program}{w : World}{K : PySem.W.Frag}{mg : Str → Option Value}{base : Heap}{x : Str}{st : Stmt}{c0 : Addr}{N ps : List Str}{k : Nat}{sp : Sp}(D : DfC K mg x st c0)(S : aC N ps (aj st))
    (hb : ∀ (kV doc pm : Value) (an : Option Addr) (cdv ct : Value) (us : List Value), us.length=ps.length → bindArgs (PySem.W.fnOf x x (bb st) (aQ st) (aj st) .none kV doc pm an cdv ct) ⟨us, []⟩=pure (ps.zip us))
    (len : ∀ vs H Q E, sp vs H Q E → vs.length=ps.length)
    (hbody : ∀ (f : Addr) (A : Around) (outer : List Env) (s : Shared) (H : Hp) (vs : List V) (Q : VK) (E : XK), b0 k (A.deeper (envOfC x (aj st) s.heap.objs.size f (.ref c0))) → sp vs H Q E →
      ∃ t, PSs (iq CX0 P w K mg base N x (aj st) f (.ref c0) A outer s H E).nox (aQ st) t ∧ t { nx := fun _ H' => Q .non H', rt := Q } (start N vs) H) : Fnc P w K mg base x ps (k+1) sp := by
  obtain ⟨f, oc, od, kV, doc, pm, an, ct, osl, hm, lk, hcd, kp⟩ := D.ex
  refine ⟨f, _, hm, kp, .all (hb kV doc pm an (.ref c0) ct), pP lk hcd S len fun A outer s H vs Q E hr hsp => ?_⟩
  obtain ⟨t, h, q⟩ := hbody f A outer s H vs Q E hr hsp
  exact ⟨t, h.nox, q⟩
theorem Tab.sb {H H' : Hp}{P0 d : Addr}{q : Str}(F : Fd H d)(s : bA d H H')(h : Tab H P0 q) : Tab H' P0 q := by
  obtain ⟨ps, e, t, k⟩ := h
  obtain ⟨c, i, l, tt, ns, h1, _⟩ := F.ex
  refine ⟨ps, s _ _ (fun z => by rw [z, h1] at e;cases e) e, t, fun pos cv ec => ?_⟩
  obtain ⟨c', e1, e2⟩ := k pos cv ec
  exact ⟨c', e1, s _ _ (fun z => by rw [z, h1] at e2;cases e2) e2⟩
theorem Fd.tab {H H' : Hp}{P0 d : Addr}{q : Str}(F : Fd H d)(T : Tab H P0 q)(s : bA P0 H H') : Fd H' d := by
  obtain ⟨ps, e, _⟩ := T
  obtain ⟨c, i, l, tt, ns, h1, h2, h3, h4⟩ := F.ex
  exact ⟨c, i, l, tt, ns, s _ _ (fun z => by rw [z, e] at h1;cases h1) h1, s _ _ (fun z => by rw [z, e] at h2;cases h2) h2, h3, h4⟩
theorem Tab.ne {H : Hp}{P0 b : Addr}{q : Str}{o : HO}(T : Tab H P0 q)(h : H b=some o)(n : ∀ ps, o ≠ .tbl ps) : b≠P0 := by
  obtain ⟨ps, e, _⟩ := T
  intro z
  rw [z, e] at h
  cases h
  exact n _ rfl
section
variable {X : Cx}
end
end L2
namespace Kx
open PySem PySem.Spec PyProof.Rows L2 Wd
def slW (u : List L)(z sd : Int) : Option (List L) := if 0≤z ∧ z < (u.length : Int) then (if farOf u z.toNat sd=inv (u.getD z.toNat 0) then none else some (sld u (u.getD z.toNat 0) (inv (farOf u z.toNat sd)) (decide (sd=1)))) else none
theorem lY {u : List L}{z sd : Int}(h : ¬ (0≤z ∧ z < (u.length : Int))) : slW u z sd=none := by unfold slW; rw [if_neg h]
theorem dH {u : List L}{i : Nat}{sd : Int}{e : L}(he : u[i]? = some e) : slW u (i : Int) sd=if farOf u i sd=inv e then none else some (sld u e (inv (farOf u i sd)) (decide (sd=1))) := by
  have hi := (wW.mp he).1
  unfold slW
  rw [if_pos ⟨by omega, by omega⟩, xh, xk, he]
  rfl
theorem cn {u : List L}{z sd : Int} : (slW u z sd=none ∧ ¬ (0≤z ∧ z < (u.length : Int))) ∨ ∃ i e, z=((i : Nat) : Int) ∧ u[i]? = some e := by
  by_cases h : 0≤z ∧ z < (u.length : Int)
  · refine .inr ⟨z.toNat, u[z.toNat]'(by omega), by omega, xf _⟩
  · exact .inl ⟨lY h, h⟩
def XS (C : Addr)(H : Hp)(a : Addr)(k : Nat) : Prop := ∃ dx c, H a=some (Exo a C (some dx) false c) ∧ H dx=some (Xdt dx [("place", .int (k : Nat))])
theorem tL {C : Addr}{H : Hp}{a dx : Addr}{k : Nat}{c c' : Bool}(ha : H a=none)(hd : H dx=none)(ne : dx≠a) :
    XS C (upd (upd (upd H a (Exo a C (some dx) true c)) dx (Xdt dx (nM [] ((["place"] : List Str).zip [.int (k : Nat)])))) a (Exo a C (some dx) false c')) a k := by
  refine ⟨dx, c', ag, ?_⟩
  rw [ao ne, ag]
  rfl
theorem lZ {H : Hp}{a dx : Addr}{o o' o2 : HO}(ha : H a=none)(hd : H dx=none) : aw H (upd (upd (upd H a o) dx o') a o2) := fun b u e => by
  have ne : ∀ {x : Addr}, H x=none → b≠x := fun h z => by rw [z, h] at e;cases e
  rw [ao (ne ha), ao (ne hd), ao (ne ha)];exact e
inductive jy (vs : List V)(H : Hp)(Q : VK)(u3_ : XK) : Prop
  | mk : ∀ (u : List L) (t : Addr) (z sd : Int), (vs=[tx u, .ref t]) → (H t=some (.tup [.int z, .int sd])) → (u≠[]) → (u.length≤100) → (∀ H', aw H H' → Q (.bl (slW u z sd).isSome) H') → jy vs H Q u3_
inductive eR (vs : List V)(H : Hp)(Q : VK)(u3_ : XK) : Prop
  | mk : ∀ (u : List L) (z sd : Int), (vs=[tx u, .int z, .int sd]) → (u≠[]) → (u.length≤12) → (∀ H', aw H H' → Q (oTx (slW u z sd)) H') → eR vs H Q u3_
def iS (P : Program)(w : World)(K : PySem.W.Frag)(mg : Str → Option Value)(base : Heap)(k : Nat)(CS : Addr) : SpS := fun outer s vs H Q _ => ∃ (x : V) (f c' : Addr) (q : Str) (spx : Sp) (R : V → Hp → Prop) (N : Nat → Hp → Prop), vs=[x, .ref f] ∧ tF P w K mg base k outer s H f c' q spx ∧ H c'=some (Cd c' q) ∧
  (∀ (Q' : VK) (E' : XK), (∀ v H1, R v H1 → Q' v H1) → (∀ i b H1, N i H1 → XS CS H1 b i → E' (.ref b) none H1) → spx [x] H Q' E') ∧
  (∀ v H1 p H2, R v H1 → aw H1 H2 → H2 p=some (.tup [.str "told", v]) → Q (.ref p) H2) ∧ (∀ i H1 p H2, N i H1 → aw H1 H2 → H2 p=some (.tup [.str "slide", .int (i : Nat)]) → Q (.ref p) H2)
abbrev qR : Str := ("_law_right" : Str) ++ ".<locals>." ++ "<lambda>"
theorem l8 {n : Nat}{u : List L}(R : fS n u)(hx : ∀ x : L, x.val % 6 < n → x∈u)(h1 : 1≤n)(h6 : n≤6) : Srf u := by
  have hl := R.len
  refine ⟨fun e => by rw [e] at hl;simp at hl;omega, R.nd, fun x hxu => hx _ ?_, by omega⟩
  have := R.ins x hxu
  revert this
  have : ∀ y : L, (inv y).val % 6=y.val % 6 := by decide
  rw [this]
  exact id
theorem far_mem {u : List L}(S : Srf u)(i : Nat)(sd : Int) : farOf u i sd∈u := xj (dv S.ne i sd)
theorem n9 {u v : List L}{z sd : Int}(S : Srf u)(h : slW u z sd=some v) : v.Perm u := by
  rcases cn (u := u) (z := z) (sd := sd) with ⟨e, _⟩ | ⟨i, e, rfl, he⟩
  · rw [e] at h;cases h
  · rw [dH he] at h
    split at h
    · cases h
    · rename_i hc
      cases h
      exact jx S.nd (xj he) (S.iv _ (far_mem S i sd)) (fun q => hc (by rw [← q, bp])) _
end Kx
namespace L2
open PySem PySem.Spec PyProof.Rows Wd
theorem qL {K : PySem.W.Frag}{a : Addr}{xs : List V}{g : TG}{tb : TS}{D : dJ}{σ : St}{H H0 : Hp}(hq : H0 a=some (.lst xs) ∨ H0 a=some (.tup xs))(s0 : aw H0 H)(Pv : Nat → St → Hp → Prop)(h0 : Pv 0 σ H)(hl : ∀ i σ H', Pv i σ H' → aw H0 H')
    (hs : ∀ i x σ H T, xs[i]? = some x → Pv i σ H → H T=none → g (.ref T) σ (upd H T (.tup [.int i, x])) fun σ2 H2 => tb { D with nx := Pv (i+1), ct := Pv (i+1), bk := D.nx } σ2 H2) (hd : ∀ σ H, Pv xs.length σ H → D.nx σ H) :
    ((∃ xs, SqL K H a xs) ∧ ∃ W : Nat → Nat → St → Hp → Prop, (∃ m, W 0 m σ H) ∧ ∀ i m σ H, W i m σ H →
      ((lj K a).stop i H ∧ D.nx σ H) ∨ ((lj K a).go i H ∧ ∃ N : St → Hp → Prop, (∀ σ' H', N σ' H' → ∃ m', m' < m ∧ W (i+1) m' σ' H') ∧ ∀ x H', (lj K a).yld i H x H' → g x σ H' fun σ2 H2 => tb { D with nx := N, ct := N, bk := D.nx } σ2 H2)) ∨
    ((∃ xs, SqT K H a xs) ∧ ∃ W : Nat → Nat → St → Hp → Prop, (∃ m, W 0 m σ H) ∧ ∀ i m σ H, W i m σ H →
      ((nB K a).stop i H ∧ D.nx σ H) ∨ ((nB K a).go i H ∧ ∃ N : St → Hp → Prop, (∀ σ' H', N σ' H' → ∃ m', m' < m ∧ W (i+1) m' σ' H') ∧ ∀ x H', (nB K a).yld i H x H' → g x σ H' fun σ2 H2 => tb { D with nx := N, ct := N, bk := D.nx } σ2 H2)) := by
  rcases hq with hq | hq
  · exact .inl ⟨⟨_, SqL.of (s0 _ _ hq)⟩, lp Pv h0 (fun i σ H' _ p => SqL.of (hl i σ H' p _ _ hq)) hs hd⟩
  · exact .inr ⟨⟨_, SqT.of (s0 _ _ hq)⟩, qo Pv h0 (fun i σ H' _ p => SqT.of (hl i σ H' p _ _ hq)) hs hd⟩
end L2
namespace Kx
open PySem PySem.Spec PyProof.Rows L2 Wd
theorem iT {n : Nat}{u : List L}(R : fS n u)(hn : 1≤n){i : Nat}(hi : i < u.length){sd : Int}(hs : sd=1 ∨ sd = -1){e : L}(he : u[i]? = some e)(hc : farOf u i sd≠inv e) : (farOf u i sd).val % 6≠e.val % 6 := by
  have hl := R.len
  have hne : u≠[] := xU.mp (by omega)
  have g := dv hne i sd
  have ne : (((i : Int)+sd) % (u.length : Int)).toNat≠i := by
    rcases hs with rfl | rfl
    · by_cases c : i+1=u.length
      · have : ((i : Int)+1) % (u.length : Int)=0 := by rw [show (i : Int)+1=(u.length : Int) by omega, Int.emod_self]
        rw [this]
        show 0≠i
        omega
      · rw [Aq (by omega) (by omega)]
        omega
    · by_cases c : i=0
      · subst c
        have h2 : (((0 : Nat) : Int) + -1) % (u.length : Int)=(u.length : Int) - 1 := by
          rw [← Int.add_emod_right, Aq (by omega) (by omega)]
          omega
        rw [h2]
        omega
      · rw [Aq (by omega) (by omega)]
        omega
  have n1 : farOf u i sd≠e := fun z => by
    have e1 := (wW.mp g).2
    have e2 := (wW.mp he).2
    exact ne ((List.getElem_inj R.nd).mp (by rw [e1, e2, z]))
  intro z
  have l1 := (farOf u i sd).isLt
  have l2 := e.isLt
  by_cases c : (farOf u i sd).val=e.val
  · exact n1 (Fin.ext c)
  · refine hc (Fin.ext ?_)
    rw [bC]
    split <;> omega
abbrev St4 := List L × List (List L) × List (List L)
def stZ (n : Nat)(s : St4)(z sd : Int) : Option St4 := (slW s.1 z sd).map fun v => (v, aF s.2.1 (putM n (s.1.getD z.toNat 0) (farOf s.1 z.toNat sd)), aF (putM n (s.1.getD z.toNat 0) (inv (farOf s.1 z.toNat sd))) s.2.2)
def c9 (n : Nat) : St4 → Nat → List (Int × Int) → Sum Nat St4
  | s, _, [] => .inr s
  | s, k, p::r => match stZ n s p.1 p.2 with
    | none => .inl k
    | some s' => c9 n s' (k+1) r
theorem fT {n : Nat}{s : St4}{z sd : Int}(h : slW s.1 z sd=none) : stZ n s z sd=none := by unfold stZ; rw [h]; rfl
theorem ph {n : Nat}{v : List L}{M N : List (List L)}{i : Nat}{sd : Int}{e : L}(he : v[i]? = some e)(hc : farOf v i sd≠inv e) : stZ n (v, M, N) (i : Int) sd=some (sld v e (inv (farOf v i sd)) (decide (sd=1)), aF M (putM n e (farOf v i sd)), aF (putM n e (inv (farOf v i sd))) N) := by
  unfold stZ
  show (slW v (i : Int) sd).map _=_
  rw [dH he, if_neg hc, xh, xk, he]
  rfl
theorem fU {n k : Nat}{s : St4}{p : Int × Int}{r : List (Int × Int)}(h : stZ n s p.1 p.2=none) : c9 n s k (p::r) = .inl k := by
  show (match stZ n s p.1 p.2 with | none => Sum.inl k | some s' => c9 n s' (k+1) r)=_
  rw [h]
theorem pj {n k : Nat}{s s' : St4}{p : Int × Int}{r : List (Int × Int)}(h : stZ n s p.1 p.2=some s') : c9 n s k (p::r)=c9 n s' (k+1) r := by
  show (match stZ n s p.1 p.2 with | none => Sum.inl k | some s' => c9 n s' (k+1) r)=_
  rw [h]
structure S4 (n k : Nat) (s : St4) : Prop where
  row : fS n s.1
  srf : Srf s.1
  m : cy n (2 ^ k) s.2.1
  h : cy n (2 ^ k) s.2.2
  id : aF s.2.1 s.2.2=ak n
  di : aF s.2.2 s.2.1=ak n
theorem S4.start {n : Nat}{u : List L}(h6 : n≤6)(R : fS n u)(U : Srf u) : S4 n 0 (u, ak n, ak n) := ⟨R, U, aO h6, aO h6, fv h6 (aO h6), fv h6 (aO h6)⟩
theorem S4.on {n k : Nat}{v : List L}{M N : List (List L)}(h1 : 1≤n)(h6 : n≤6)(S : S4 n k (v, M, N)){i : Nat}{e : L}{sd : Int}(he : v[i]? = some e)(hs : sd=1 ∨ sd = -1)(hc : farOf v i sd≠inv e) :
    S4 n (k+1) (sld v e (inv (farOf v i sd)) (decide (sd=1)), aF M (putM n e (farOf v i sd)), aF (putM n e (inv (farOf v i sd))) N) := by
  have row : fS n v := S.row
  have srf : Srf v := S.srf
  have mM : cy n (2 ^ k) M := S.m
  have mN : cy n (2 ^ k) N := S.h
  have id1 : aF M N=ak n := S.id
  have id2 : aF N M=ak n := S.di
  have hi : i < v.length := (wW.mp he).1
  have hev := xj he
  have hfm := iT row h1 hi hs he hc
  have hfv := far_mem srf i sd
  generalize farOf v i sd=f at hc hfm hfv ⊢
  have en := row.ins e hev
  have fn := row.ins f hfv
  have ne' : inv f≠e := fun z => hc (by rw [← z, bp])
  have hif : (inv f).val % 6=f.val % 6 := by have := f.isLt;rw [bC];split <;> omega
  have p := jx srf.nd hev (srf.iv f hfv) ne' (decide (sd=1))
  have P1 := dq h6 en fn hfm
  have P2 := dq (o := inv f) h6 en (by omega) (by omega)
  refine ⟨row.perm p, srf.perm p, ?_, ?_, ?_, ?_⟩
  · show cy n (2 ^ (k+1)) (aF M (putM n e f))
    rw [Nat.pow_succ]
    exact mM.then P1
  · show cy n (2 ^ (k+1)) (aF (putM n e (inv f)) N)
    rw [Nat.pow_succ, Nat.mul_comm]
    exact P2.then mN
  · show aF (aF M (putM n e f)) (aF (putM n e (inv f)) N)=ak n
    rw [c6, ← c6 (putM n e f), lQ h6 en fn hfm, fw h6 mN, id1]
  · show aF (aF (putM n e (inv f)) N) (aF M (putM n e f))=ak n
    rw [c6, ← c6 N, id2, fw h6 P1, nS h6 en fn hfm]
structure SlZ (H : Hp) (ps : List Addr) (ss : List (Int × Int)) : Prop where
  len : ps.length=ss.length
  at_ : ∀ (k : Nat) (s : Int × Int), ss[k]? = some s → ∃ p, ps[k]? = some p ∧ H p=some (.tup [.int s.1, .int s.2])
theorem SlZ.nil (H : Hp) : SlZ H [] [] := ⟨rfl, fun k s h => by simp at h⟩
theorem SlZ.to {H H' : Hp}{ps : List Addr}{ss : List (Int × Int)}(h : SlZ H ps ss)(k : ∀ b xs, H b=some (.tup xs) → H' b=some (.tup xs)) : SlZ H' ps ss := ⟨h.len, fun j s e => by
  obtain ⟨p, h1, h2⟩ := h.at_ j s e
  exact ⟨p, h1, k _ _ h2⟩⟩
theorem SlZ.same {H H' : Hp}{ps : List Addr}{ss : List (Int × Int)}(h : SlZ H ps ss)(s : aw H H') : SlZ H' ps ss := h.to fun b xs e => s _ _ e
theorem SlZ.app {H : Hp}{ps qs : List Addr}{ss ts : List (Int × Int)}(h : SlZ H ps ss)(g : SlZ H qs ts) : SlZ H (ps++qs) (ss++ts) := ⟨by rw [wY, wY, h.len, g.len], fun k t ht => by
  by_cases hk : k < ss.length
  · rw [ya hk] at ht
    rw [ya (by rw [h.len];exact hk)]
    exact h.at_ k t ht
  · rw [xI (by omega)] at ht
    rw [xI (by rw [h.len];omega), h.len]
    exact g.at_ _ t ht⟩
theorem SlZ.one {H : Hp}{p : Addr}{z sd : Int}(e : H p=some (.tup [.int z, .int sd])) : SlZ H [p] [(z, sd)] := ⟨rfl, fun k t ht => by
  match k, ht with
  | 0, ht => cases ht;exact ⟨p, rfl, e⟩⟩
theorem SlZ.take {H : Hp}{ps : List Addr}{ss : List (Int × Int)}(h : SlZ H ps ss)(m : Nat) : SlZ H (ps.take m) (ss.take m) := ⟨by rw [w_, w_, h.len], fun k t ht => by
  have hk : k < m := by
    have := (wW.mp ht).1
    rw [w_] at this
    omega
  rw [zb hk] at ht ⊢
  exact h.at_ k t ht⟩
theorem SlZ.drop {H : Hp}{ps : List Addr}{ss : List (Int × Int)}(h : SlZ H ps ss)(m : Nat) : SlZ H (ps.drop m) (ss.drop m) := ⟨by rw [yb, yb, h.len], fun k t ht => by
  rw [List.getElem?_drop] at ht ⊢
  exact h.at_ _ t ht⟩
def Sd4 (ss : List (Int × Int)) : Prop := ∀ s∈ss, s.2=1 ∨ s.2 = -1
theorem Sd4.app {ss ts : List (Int × Int)}(h : Sd4 ss)(g : Sd4 ts) : Sd4 (ss++ts) := fun s hs => (yE.mp hs).elim (h s) (g s)
theorem Sd4.one {z sd : Int}(h : sd=1 ∨ sd = -1) : Sd4 [(z, sd)] := fun s hs => by rw [xB] at hs; rw [hs]; exact h
theorem Sd4.take {ss : List (Int × Int)}(h : Sd4 ss)(m : Nat) : Sd4 (ss.take m) := fun s hs => h s (List.mem_of_mem_take hs)
theorem Sd4.drop {ss : List (Int × Int)}(h : Sd4 ss)(m : Nat) : Sd4 (ss.drop m) := fun s hs => h s (List.mem_of_mem_drop hs)
def dsl (ss : List (Int × Int)) : List PyData := ss.map fun s => .tuple [.int s.1, .int s.2]
theorem SlZ.dts {H : Hp} : ∀ {ps : List Addr} {ss : List (Int × Int)}, SlZ H ps ss → Dts H (ps.map V.ref) (dsl ss)
  | [], [], _ => .nil
  | [], _::_, h => by have := h.len;simp at this
  | _::_, [], h => by have := h.len;simp at this
  | p::ps, s::ss, h => by
    obtain ⟨q, h1, h2⟩ := h.at_ 0 s rfl
    cases h1
    exact .cons (.tup h2 (.cons (.int _) (.cons (.int _) .nil))) (SlZ.dts ⟨by have := h.len;simpa using this, fun k t ht => h.at_ (k+1) t ht⟩)
theorem hV {n : Nat}{s0 s : St4}{ss : List (Int × Int)}{i : Nat}{sl : Int × Int}(h : c9 n s i (ss.drop i)=c9 n s0 0 ss)(hs : ss[i]? = some sl) : (stZ n s sl.1 sl.2=none → c9 n s0 0 ss = .inl i) ∧ ∀ s', stZ n s sl.1 sl.2=some s' → c9 n s' (i+1) (ss.drop (i+1))=c9 n s0 0 ss := by
  have hl := (wW.mp hs).1
  have e : ss.drop i=sl::ss.drop (i+1) := by
    rw [yC hl, (wW.mp hs).2]
  rw [e] at h
  exact ⟨fun z => h.symm.trans (fU z), fun s' z => (pj z).symm.trans h⟩
inductive jX (vs : List V)(H : Hp)(Q : VK)(u3_ : XK) : Prop
  | mk : ∀ w, (vs=[tx w]) → (w.length≤100000) → (∀ H', aw H H' → Q (tx (bk w)) H') → jX vs H Q u3_
inductive cq (vs : List V)(H : Hp)(Q : VK)(u3_ : XK) : Prop
  | mk : ∀ (p : Addr) (u : List L) (n b : Nat) (ws : List (List L)), (vs=[.ref p, tx u]) → (pe n b ws H p) → (n≤6) → (InM n u) → (u.length≤1000000) → (u.length*b≤1000000) → (b≤100000) → (∀ H', aw H H' → Q (tx (red (sub ws u))) H') → cq vs H Q u3_
inductive fV (vs : List V)(H : Hp)(Q : VK)(u3_ : XK) : Prop
  | mk : ∀ (p q : Addr) (n a b : Nat) (ws us : List (List L)), (vs=[.ref p, .ref q]) → (pe n a ws H p) → (pe n b us H q) → (n≤6) → (a≤100000) → (a*b≤1000000) → (b≤100000) → (∀ (r : Addr) (H' : Hp), H r=none → aw H H' → pe n (a*b) (aF ws us) H' r → Q (.ref r) H') → fV vs H Q u3_
theorem eT {P : Program}{w : World}{K : PySem.W.Frag}{mg : Str → Option Value}{base : Heap}{x : Str}{ps : List Str}{k : Nat}(h : Fnc P w K mg base x ps k jX) : Fnc P w K mg base x ps k ny := by
  obtain ⟨f, fd, h1, h2, h3, h4⟩ := h.ex
  refine ⟨f, fd, h1, h2, h3, h4.imp fun vs H Q E q => ?_⟩
  obtain ⟨w, e, a, k⟩ := q
  exact ⟨w, e, by omega, k⟩
theorem qM {P : Program}{w : World}{K : PySem.W.Frag}{mg : Str → Option Value}{base : Heap}{x : Str}{ps : List Str}{k : Nat}(h : Fnc P w K mg base x ps k jy) : Fnc P w K mg base x ps k qD := by
  obtain ⟨f, fd, h1, h2, h3, h4⟩ := h.ex
  refine ⟨f, fd, h1, h2, h3, h4.imp fun vs H Q E q => ?_⟩
  obtain ⟨u, t, i, sd, e, hv, ht, hl, he, k⟩ := q
  refine ⟨u, t, (i : Int), sd, hv, ht, (fun z => by rw [z] at he;simp at he), hl, fun H' s => ?_⟩
  have := k H' s
  rw [dH he]
  have e2 : (if farOf u i sd=inv e then none else some (sld u e (inv (farOf u i sd)) (decide (sd=1))) : Option (List L)).isSome=!decide (farOf u i sd=inv e) := by
    by_cases h : farOf u i sd=inv e
    · rw [if_pos h, xt h];rfl
    · rw [if_neg h, xi h];rfl
  rw [e2]
  exact this
inductive eU (CS : Addr)(vs : List V)(H : Hp)(Q : VK)(E : XK) : Prop
  | mk : ∀ (u : List L) (t : Addr) (n : Nat) (ss : List (Int × Int)) (ps : List Addr), (vs=[tx u, .ref t]) → (H t=some (.lst (ps.map V.ref)) ∨ H t=some (.tup (ps.map V.ref))) → (SlZ H ps ss) → (Sd4 ss) → (fS n u) → (Srf u) → (1≤n) → (n≤6) → (ss.length≤16) →
    (∀ (r a b : Addr) (s : St4) (H' : Hp), c9 n (u, ak n, ak n) 0 ss = .inr s → S4 n ss.length s → aw H H' → H' r=some (.tup [tx s.1, .ref a, .ref b]) → H' a=some (.tup (s.2.1.map tx)) → H' b=some (.tup (s.2.2.map tx)) → Q (.ref r) H') →
    (∀ k b H', c9 n (u, ak n, ak n) 0 ss = .inl k → XS CS H' b k → aw H H' → E (.ref b) none H') → eU CS vs H Q E
theorem pk {n : Nat} : ∀ (ss : List (Int × Int)) (s : St4) (i k : Nat), c9 n s i ss = .inl k → k < i+ss.length
  | [], s, i, k, h => by cases h
  | p::r, s, i, k, h => by
    cases e : stZ n s p.1 p.2 with
    | none =>
      rw [fU e] at h
      cases h
      rw [xu]
      omega
    | some s' =>
      rw [pj e] at h
      have := pk r s' (i+1) k h
      rw [xu]
      omega
def dw (n m : Nat)(o : Sum Nat St4)(H : Hp)(r : Addr) : Prop := match o with
  | .inl k => k≤16 ∧ H r=some (.tup [.str "slide", .int (k : Nat)])
  | .inr s => S4 n m s ∧ ∃ q a b, H r=some (.tup [.str "told", .ref q]) ∧ H q=some (.tup [tx s.1, .ref a, .ref b]) ∧ H a=some (.tup (s.2.1.map tx)) ∧ H b=some (.tup (s.2.2.map tx))
theorem dw.to {n m : Nat}{o : Sum Nat St4}{H H' : Hp}{r : Addr}(h : dw n m o H r)(k : ∀ b xs, H b=some (.tup xs) → H' b=some (.tup xs)) : dw n m o H' r := by
  cases o with
  | inl i => exact ⟨h.1, k _ _ h.2⟩
  | inr s =>
    obtain ⟨S, q, a, b, e1, e2, e3, e4⟩ := h
    exact ⟨S, q, a, b, k _ _ e1, k _ _ e2, k _ _ e3, k _ _ e4⟩
theorem dw.same {n m : Nat}{o : Sum Nat St4}{H H' : Hp}{r : Addr}(h : dw n m o H r)(s : aw H H') : dw n m o H' r := h.to fun b xs e => s _ _ e
def ddO : Sum Nat St4 → PyData
  | .inl k => .tuple [.str "slide", .int (k : Nat)]
  | .inr s => .tuple [.str "told", .tuple [.str (toS s.1), .tuple (dws s.2.1), .tuple (dws s.2.2)]]
theorem dw.dt {n m : Nat}{o : Sum Nat St4}{H : Hp}{r : Addr}(h : dw n m o H r) : Dt H (.ref r) (ddO o) := by
  cases o with
  | inl i => exact .tup h.2 (.cons (.str _) (.cons (.int _) .nil))
  | inr s =>
    obtain ⟨S, q, a, b, e1, e2, e3, e4⟩ := h
    exact .tup e1 (.cons (.str _) (.cons (.tup e2 (.cons (.str _) (.cons (.tup e3 (bH _)) (.cons (.tup e4 (bH _)) .nil)))) .nil))
theorem n_ {n b : Nat}{v : List L}{M N : List (List L)}(hv : v.length≤12)(A : cy n b M)(B : cy n b N)(h6 : n≤6)(hb : b≤65536) : Sh (.tuple [.str "told", .tuple [.str (toS v), .tuple (dws M), .tuple (dws N)]]) := by
  obtain ⟨a1, a2, a3, a4⟩ := bK M
  obtain ⟨b1, b2, b3, b4⟩ := bK N
  obtain ⟨c1, c2, c3, c4⟩ := bK [v]
  have wa := bh M A.le
  have wb := bh N B.le
  have wv := bh [v] (n := 12) (fun w hw => by rw [xB] at hw;rw [hw];exact hv)
  rw [A.len] at wa
  rw [B.len] at wb
  have hm : n*(b+1)≤6*65537 := Aj h6 (by omega)
  refine ⟨?_, ?_, ?_, ?_⟩
  · show (PyData.showable (.str "told") && ((PyData.showable (.str (toS v)) && (PyData.showable (.tuple (dws M)) && (PyData.showable (.tuple (dws N)) && true))) && true))=true
    rw [show PyData.showable (.tuple (dws M))=true from a1, show PyData.showable (.tuple (dws N))=true from b1]
    rfl
  · show (PyData.hasDict (.str "told") || ((PyData.hasDict (.str (toS v)) || (PyData.hasDict (.tuple (dws M)) || (PyData.hasDict (.tuple (dws N)) || false))) || false))=false
    rw [show PyData.hasDict (.tuple (dws M))=false from a2, show PyData.hasDict (.tuple (dws N))=false from b2]
    rfl
  · show max (PyData.depth (.str "told")) (max (max (PyData.depth (.str (toS v))) (max (PyData.depthAll (dws M)+1) (max (PyData.depthAll (dws N)+1) 0))+1) 0)+1≤10
    rw [a3, b3]
    show max 0 (max (max 0 (max (0+1) (max (0+1) 0))+1) 0)+1≤10
    decide
  · refine Am (B := 13) (by decide) (by decide) ?_ ?_
    · show (PyData.leavesShort 13 (.str "told") && ((PyData.leavesShort 13 (.str (toS v)) && (PyData.leavesShort 13 (.tuple (dws M)) && (PyData.leavesShort 13 (.tuple (dws N)) && true))) && true))=true
      have c4 : (PyData.leavesShort 13 (.str (toS v)) && true)=true := c4
      rw [AU] at c4
      rw [show PyData.leavesShort 13 (.tuple (dws M))=true from a4, show PyData.leavesShort 13 (.tuple (dws N))=true from b4, c4]
      decide +kernel
    · have wv : PyData.weight (.str (toS v))+1+0≤1*(12+1) := wv
      have w0 : PyData.weight (.str "told")≤10 := by decide +kernel
      show PyData.weight (.str "told")+1+((PyData.weight (.str (toS v))+1+(PyData.weightAll (dws M)+1+(PyData.weightAll (dws N)+1+0)))+1+0)≤2 ^ 20
      omega
theorem eV {k : Nat}(h : k≤16) : Sh (.tuple [.str "slide", .int (k : Nat)]) := by
  have q : ∀ k : Fin 17, Sm (.int ((k.val : Nat) : Int)) := fun k => ⟨by revert k;decide, by revert k;decide, by revert k;decide, by revert k;decide +kernel, by revert k;decide +kernel, fun i e => by cases e;revert k;decide⟩
  refine qI (fun d hd => ?_) (by simp)
  rcases xn.mp hd with rfl | hd
  · exact ⟨rfl, rfl, by decide, by decide +kernel, by decide +kernel, fun i e => by cases e⟩
  · rw [xB] at hd
    rw [hd]
    exact q ⟨k, by omega⟩
theorem dw.sh {n m : Nat}{o : Sum Nat St4}{H : Hp}{r : Addr}(h : dw n m o H r)(h6 : n≤6)(hm : m≤16) : Sh (ddO o) := by
  cases o with
  | inl i => exact eV h.1
  | inr s =>
    obtain ⟨S, _⟩ := h
    have hl := S.row.len
    exact n_ (by omega) S.m S.h h6 (y6 (n := 2) (by decide) hm)
theorem fW (ss : List (Int × Int)) : (PyData.list (dsl ss)).canLay0=true ∧ (PyData.list (dsl ss)).depth≤10 := by
  have all : ∀ ss : List (Int × Int), PyData.canLayAll0 (dsl ss)=true ∧ PyData.depthAll (dsl ss)≤1 := by
    intro ss
    induction ss with
    | nil => exact ⟨rfl, by show 0≤1;decide⟩
    | cons s r ih =>
      refine ⟨?_, ?_⟩
      · show (PyData.canLay0 (.tuple [.int s.1, .int s.2]) && PyData.canLayAll0 (dsl r))=true
        rw [ih.1]
        rfl
      · show max (max 0 (max 0 0)+1) (PyData.depthAll (dsl r))≤1
        have := ih.2
        omega
  obtain ⟨a, b⟩ := all ss
  refine ⟨a, ?_⟩
  show PyData.depthAll (dsl ss)+1≤10
  omega
theorem fX (xs : List V)(n : Nat) : mD xs none (some (n : Int))=xs.take n := by
  unfold mD
  rw [HT.eg]
  show (xs.drop 0).take (min n xs.length - 0)=xs.take n
  rw [zF, AX]
  rcases Nat.le_total n xs.length with h | h
  · rw [Aa h]
  · rw [zK h, xE (wX _), xE h]
theorem jY (xs : List V)(n : Nat)(h : n≤xs.length) : mD xs (some (n : Int)) none=xs.drop n := by
  unfold mD
  rw [HT.eg, HT.dP, Aa h, xE (by rw [yb];exact wX _)]
inductive l9 (vs : List V)(H : Hp)(Q : VK)(u3_ : XK) : Prop
  | mk : ∀ (u : List L) (t : Addr) (n : Nat) (ss : List (Int × Int)) (ps : List Addr), (vs=[tx u, .ref t]) → (H t=some (.lst (ps.map V.ref))) → (SlZ H ps ss) → (Sd4 ss) → (fS n u) → (Srf u) → (1≤n) → (n≤6) → (ss.length≤16) →
    (∀ (r : Addr) (H' : Hp), aw H H' → dw n ss.length (c9 n (u, ak n, ak n) 0 ss) H' r → Q (.ref r) H') → l9 vs H Q u3_
theorem vf {P : Program}{w : World}{K : PySem.W.Frag}{mg : Str → Option Value}{base : Heap}{CS : Addr}{u : List L}{n : Nat}{ss : List (Int × Int)}{ps : List Addr}{t g c' : Addr}{q : Str}{H : Hp}{outer : List Env}{s : Shared}{Q : VK}{E : XK}(R : fS n u)(U : Srf u)(h1 : 1≤n)(h6 : n≤6)(h16 : ss.length≤16)(hsl : SlZ H ps ss)(hsd : Sd4 ss)(ht : H t=some (.lst (ps.map V.ref)) ∨ H t=some (.tup (ps.map V.ref)))
    (hA : tF P w K mg base 5 outer s H g c' q (fun vs H' Q E => eU CS [tx u, vs.headD .non] H' Q E)) (hc : H c'=some (Cd c' q)) (k : ∀ p H', aw H H' → dw n ss.length (c9 n (u, ak n, ak n) 0 ss) H' p → Q (.ref p) H') : iS P w K mg base 5 CS outer s [.ref t, .ref g] H Q E := by
  refine ⟨.ref t, g, c', q, _, fun v H1 => ∃ (r a b : Addr) (s : St4), v = .ref r ∧ c9 n (u, ak n, ak n) 0 ss = .inr s ∧ S4 n ss.length s ∧ aw H H1 ∧ H1 r=some (.tup [tx s.1, .ref a, .ref b]) ∧ H1 a=some (.tup (s.2.1.map tx)) ∧ H1 b=some (.tup (s.2.2.map tx)), fun i H1 => c9 n (u, ak n, ak n) 0 ss = .inl i ∧ aw H H1, rfl, hA, hc, fun Q' E' hR hN => ⟨u, t, n, ss, ps, rfl, ht, hsl, hsd, R, U, h1, h6, h16, fun r a b s H' e S s' f1 f2 f3 => hR _ _ ⟨r, a, b, s, rfl, e, S, s', f1, f2, f3⟩, fun i b H' e xs s' => hN i b H' ⟨e, s'⟩ xs⟩, ?_, ?_⟩
  · rintro v H1 p H2 ⟨r, a, b, s, rfl, e, S, s1, f1, f2, f3⟩ s2 f
    refine k p H2 (s1.trans s2) ?_
    rw [e]
    exact ⟨S, r, a, b, f, s2 _ _ f1, s2 _ _ f2, s2 _ _ f3⟩
  · rintro i H1 p H2 ⟨e, s1⟩ s2 f
    refine k p H2 (s1.trans s2) ?_
    have := pk ss _ 0 i e
    rw [e]
    exact ⟨by omega, f⟩
inductive fY (vs : List V)(H : Hp)(Q : VK)(u3_ : XK) : Prop
  | mk : ∀ (d : Addr) (v : List L), (vs=[.ref d, tx v]) → (Fd H d) → (v≠[]) → (v.length≤12) → (∀ (p : Addr) (z sd : Int) (H' : Hp), Fd H' d → bA d H H' → H' p=some (.tup [.int z, .int sd]) → (sd=1 ∨ sd = -1) → Q (.ref p) H') → fY vs H Q u3_
inductive eW (vs : List V)(H : Hp)(Q : VK)(u3_ : XK) : Prop
  | mk : ∀ (d : Addr) (u : List L), (vs=[.ref d, tx u, .int 16]) → (Fd H d) → (Srf u) →
    (∀ (r a b : Addr) (ss : List (Int × Int)) (ps : List Addr) (rows : List (List L)) (H' : Hp), Fd H' d → bA d H H' → H' r=some (.tup [.ref a, .ref b]) → H' a=some (.lst (ps.map V.ref)) → SlZ H' ps ss → Sd4 ss → ss.length≤16 → H' b=some (.lst (rows.map tx)) → rows.length=ss.length+1 → (∀ v∈rows, v.Perm u) → Q (.ref r) H') → eW vs H Q u3_
structure Kp4 (d l r : Addr) (ps : List Addr) (ss : List (Int × Int)) (n : Nat) (o : Sum Nat St4) (H : Hp) : Prop where
  fd : Fd H d
  li : H l=some (.lst (ps.map V.ref))
  sl : SlZ H ps ss
  du : dw n ss.length o H r
theorem Kp4.same {d l r : Addr}{ps : List Addr}{ss : List (Int × Int)}{n : Nat}{o : Sum Nat St4}{H H' : Hp}(h : Kp4 d l r ps ss n o H)(s : aw H H') : Kp4 d l r ps ss n o H' := ⟨h.fd.same s, s _ _ h.li, h.sl.same s, h.du.same s⟩
theorem Kp4.tell {d l r P0 : Addr}{ps : List Addr}{ss : List (Int × Int)}{n : Nat}{o : Sum Nat St4}{H H' : Hp}{q : Str}(h : Kp4 d l r ps ss n o H)(T : Tab H P0 q)(s : bA P0 H H') : Kp4 d l r ps ss n o H' :=
  ⟨h.fd.tab T s, s _ _ (T.ne h.li (by intro ps z;cases z)) h.li, h.sl.to fun b xs e => s _ _ (T.ne e (by intro ps z;cases z)) e, h.du.to fun b xs e => s _ _ (T.ne e (by intro ps z;cases z)) e⟩
theorem iU {P : Program}{w : World}{K : PySem.W.Frag}{mg : Str → Option Value}{base : Heap}{x : Str}{ps : List Str}{k : Nat}{sp sp' : Sp}(F : sV P w K mg base x ps k sp)(h : ∀ vs H Q E, sp' vs H Q E → sp vs H Q E0) : Fnc P w K mg base x ps k sp' :=
  let ⟨f, fd, a, b, c, d⟩ := F.ex
  ⟨f, fd, a, b, c, ⟨fun vs H Q E q => d.len vs H Q E0 (h _ _ _ _ q), fun A outer s H args us vs Q E hr he hb hv hs => y_ (d.run A outer s H args us vs Q E0 hr he hb hv (h _ _ _ _ hs)) fun r s' z => by
    cases r with
    | ok fl => cases fl <;> exact z
    | error e => obtain ⟨_, _, _, _, _, _, _, _, _, _, _, _, z⟩ := z;exact z.elim⟩⟩
inductive fZ (vs : List V)(H : Hp)(Q : VK)(E : XK) : Prop
  | mk : ∀ (u : List L) (t : Addr) (n : Nat), (vs=[tx u, .ref t]) → (H t=some (.tup (([] : List Addr).map V.ref))) → (fS n u) → (Srf u) → (1≤n) → (n≤6) →
    (∀ (r a b : Addr) (H' : Hp), aw H H' → H' r=some (.tup [tx u, .ref a, .ref b]) → H' a=some (.tup ((ak n).map tx)) → H' b=some (.tup ((ak n).map tx)) → Q (.ref r) H') → fZ vs H Q E
theorem fZ.told {CS : Addr}{vs : List V}{H : Hp}{Q : VK}{E E' : XK}(h : fZ vs H Q E) : eU CS vs H Q E' := by
  obtain ⟨u, t, n, e, ht, R, U, h1, h6, k⟩ := h
  refine ⟨u, t, n, [], [], e, .inr ht, SlZ.nil _, (fun _ h => by cases h), R, U, h1, h6, by decide, fun r a b s H' es _ s' f1 f2 f3 => ?_, fun i b H' e _ _ => by cases e⟩
  cases es
  exact k r a b H' s' f1 f2 f3
theorem qN {n b : Nat}{v : List L}{M N : List (List L)}(hv : v.length≤12)(A : cy n b M)(B : cy n b N)(h6 : n≤6)(hb : b≤65536) : Sh (.tuple [.str (toS v), .tuple (dws M), .tuple (dws N)]) := by
  obtain ⟨a1, a2, a3, a4⟩ := bK M
  obtain ⟨b1, b2, b3, b4⟩ := bK N
  obtain ⟨c1, c2, c3, c4⟩ := bK [v]
  have wa := bh M A.le
  have wb := bh N B.le
  have wv := bh [v] (n := 12) (fun w hw => by rw [xB] at hw;rw [hw];exact hv)
  rw [A.len] at wa
  rw [B.len] at wb
  have hm : n*(b+1)≤6*65537 := Aj h6 (by omega)
  refine ⟨?_, ?_, ?_, ?_⟩
  · show (PyData.showable (.str (toS v)) && (PyData.showable (.tuple (dws M)) && (PyData.showable (.tuple (dws N)) && true)))=true
    rw [show PyData.showable (.tuple (dws M))=true from a1, show PyData.showable (.tuple (dws N))=true from b1]
    rfl
  · show (PyData.hasDict (.str (toS v)) || (PyData.hasDict (.tuple (dws M)) || (PyData.hasDict (.tuple (dws N)) || false)))=false
    rw [show PyData.hasDict (.tuple (dws M))=false from a2, show PyData.hasDict (.tuple (dws N))=false from b2]
    rfl
  · show max (PyData.depth (.str (toS v))) (max (PyData.depthAll (dws M)+1) (max (PyData.depthAll (dws N)+1) 0))+1≤10
    rw [a3, b3]
    show max 0 (max (0+1) (max (0+1) 0))+1≤10
    decide
  · refine Am (B := 13) (by decide) (by decide) ?_ ?_
    · show (PyData.leavesShort 13 (.str (toS v)) && (PyData.leavesShort 13 (.tuple (dws M)) && (PyData.leavesShort 13 (.tuple (dws N)) && true)))=true
      have c4 : (PyData.leavesShort 13 (.str (toS v)) && true)=true := c4
      rw [AU] at c4
      rw [show PyData.leavesShort 13 (.tuple (dws M))=true from a4, show PyData.leavesShort 13 (.tuple (dws N))=true from b4, c4]
      rfl
    · have wv : PyData.weight (.str (toS v))+1+0≤1*(12+1) := wv
      show PyData.weight (.str (toS v))+1+(PyData.weightAll (dws M)+1+(PyData.weightAll (dws N)+1+0))≤2 ^ 20
      omega
def l_ : Sp := fun vs H Q _ => ∃ (u : List L) (n i : Nat) (sd : Int) (e : L), vs=[tx u, .int (i : Int), .int sd] ∧ fS n u ∧ 1≤n ∧ n≤6 ∧ u[i]? = some e ∧
  ∀ (r a b : Addr) (H' : Hp), aw H H' → H' r=some (.lst [.ref a, .ref b]) → H' a=some (.tup ((putM n e (farOf u i sd)).map tx)) → H' b=some (.tup ((putM n e (inv (farOf u i sd))).map tx)) → Q (.ref r) H'
inductive f_ (P0 : Addr)(vs : List V)(H : Hp)(Q : VK)(u3_ : XK) : Prop
  | mk : ∀ (d : Addr) (u : List L) (n : Nat), (vs=[.ref d, tx u]) → (Fd H d) → (fS n u) → (Srf u) → (1≤n) → (n≤6) → (Tab H P0 qR) → (∀ H', Fd H' d → Tab H' P0 qR → Q (.bl true) H') → f_ P0 vs H Q u3_
end Kx
namespace Kx
open PySem PySem.Spec PyProof.Rows L2 Wd
def top (i : Nat) : Stmt := PySem.Challenge.pw_ringwords_k64_rows_of_slides.main.body.getD i (.Pass ⟨0, 0, 0, 0⟩)
theorem qO {α : Type}{us : List α}(h : us.length=1) : ∃ a0, us=[a0] := by
  cases us with
  | nil => cases h
  | cons a0 us =>
    cases us with
    | nil => exact ⟨a0, rfl⟩
    | cons b us => cases h
theorem jz {α : Type}{us : List α}(h : us.length=2) : ∃ a0 a1, us=[a0, a1] := by
  cases us with
  | nil => cases h
  | cons a0 us =>
    cases us with
    | nil => cases h
    | cons a1 us =>
      cases us with
      | nil => exact ⟨a0, a1, rfl⟩
      | cons b us => cases h
theorem um {α : Type}{us : List α}(h : us.length=3) : ∃ a0 a1 a2, us=[a0, a1, a2] := by
  cases us with
  | nil => cases h
  | cons a0 us =>
    cases us with
    | nil => cases h
    | cons a1 us =>
      cases us with
      | nil => cases h
      | cons a2 us =>
        cases us with
        | nil => exact ⟨a0, a1, a2, rfl⟩
        | cons b us => cases h
end Kx
namespace Kx
open PySem PySem.Spec PyProof.Rows L2 Wd
section
variable {P : Program} {w : World} {K : PySem.W.Frag} {mg : Str → Option Value} {base : Heap} {aB : Addr}
abbrev md : Stmt := top 28
theorem qP : aC ["_law_feed_here", "_law_many", "_law_cell", "_law_mixed", "_law_found"] ["_law_feed_here", "_law_many"] (aj md) := ⟨rfl, rfl, rfl, by decide +kernel, rfl, by decide +kernel, by decide +kernel⟩
theorem tM (D : Df K mg "_law_draw" md)(T : Bt K w mg aB) : Fnc P w K mg base "_law_draw" ["_law_feed_here", "_law_many"] 1 eG := by
  have sc := qP
  refine D.ok sc (fun _ _ _ _ _ _ us hl => by obtain ⟨_, _, rfl⟩ := jz hl;rfl) (fun vs H Q E h => ?_) (fun f cdv A outer s H vs Q E hr h => ?_)
  · obtain ⟨d, m, rfl, _⟩ := h
    rfl
  · obtain ⟨d, m, rfl, F, m0, m1, k⟩ := h
    have hu := m8 hr
    refine ⟨_, (@ai _ _ _ _ _ (@de _ _ _ _ _ _ _ _ _ hu (pv 0) aA (@aE _ _ _ _ _ _ _ _ bX (@bF _ _ _ _ _ _ hu (pv 0) aA (fun _ _ => rfl)) ar) rfl) (@ai _ _ _ _ _ (@bT _ _ _ _ _ _ _ _ (@aM _ _ _ _ _ _ _ _ d7 (@bF _ _ _ _ _ _ hu (pv 0) aA (fun _ _ => rfl)) ar (aT _)) (@ai _ _ _ _ _ (@ay _ _ (2) _ _ _ _ sc.nd rfl (Or.inl rfl) (@aN _ _ _ _ _ _ _ bU (@bF _ _ _ _ _ _ hu (pv 0) aA (fun _ _ => rfl)) (@aE _ _ _ _ _ _ _ _ cA (@bF _ _ _ _ _ _ hu (pv 0) aA (fun _ _ => rfl)) (@av _ _ _ _ _ _ _ _ _ bg (by rfl) T.len xo (@aa _ _ _ _ _ (@bF _ _ _ _ _ _ hu (pv 0) aA (fun _ _ => rfl)) ah (by rfl)) (by decide) (by decide) (by rfl) (by rfl))) (fun _ _ => rfl)) (by rfl) (by first | exact .inl rfl | exact .inr rfl | assumption)) (@ai _ _ _ _ _ (@de _ _ _ _ _ _ _ _ _ hu (pv 0) aA (@aE _ _ _ _ _ _ _ _ bX (@bF _ _ _ _ _ _ hu (pv 0) aA (fun _ _ => rfl)) ar) rfl) (@ai _ _ _ _ _ (@bT _ _ _ _ _ _ _ _ (@aM _ _ _ _ _ _ _ _ pF (pv 2) (@aE _ _ _ _ _ _ _ _ kg ar ar) (aT _)) (@ai _ _ _ _ _ (@ay _ _ (3) _ _ _ _ sc.nd rfl (Or.inl rfl) (@aE _ _ _ _ _ _ _ _ cA (@aE _ _ _ _ _ _ _ _ e_ (@aE _ _ _ _ _ _ _ _ bX (@aE _ _ _ _ _ _ _ _ cA (pv 2) ar) (@aE _ _ _ _ _ _ _ _ e_ ar (@bF _ _ _ _ _ _ hu (pv 0) aA (fun _ _ => rfl)))) ar) ar) (by rfl) (by first | exact .inl rfl | exact .inr rfl | assumption)) (@ai _ _ _ _ _ (@ay _ _ (3) _ _ _ _ sc.nd rfl (Or.inl rfl) (@aE _ _ _ _ _ _ _ _ cA (@aE _ _ _ _ _ _ _ _ e_ (@aE _ _ _ _ _ _ _ _ bX (@aE _ _ _ _ _ _ _ _ b_ (pv 3) ar) (@aE _ _ _ _ _ _ _ _ e_ ar (@bF _ _ _ _ _ _ hu (pv 0) aA (fun _ _ => rfl)))) ar) ar) (by rfl) (by first | exact .inl rfl | exact .inr rfl | assumption)) (@au _ _ _ (@aJ _ _ _ _ (@aE _ _ _ _ _ _ _ _ cA (@aE _ _ _ _ _ _ _ _ b_ (pv 3) ar) (pv 1)))))) ba) (@au _ _ _ (@de _ _ _ _ _ _ _ _ _ hu (pv 0) aA (pv 2) rfl))))) ba) (@ai _ _ _ _ _ (@ay _ _ (4) _ _ _ _ sc.nd rfl (Or.inl rfl) (@aE _ _ _ _ _ _ _ _ cA (@bF _ _ _ _ _ _ hu (pv 0) aA (fun _ _ => rfl)) (pv 1)) (by rfl) (by first | exact .inl rfl | exact .inr rfl | assumption)) (@ai _ _ _ _ _ (@de _ _ _ _ _ _ _ _ _ hu (pv 0) aA (@aE _ _ _ _ _ _ _ _ b_ (@bF _ _ _ _ _ _ hu (pv 0) aA (fun _ _ => rfl)) (pv 1)) rfl) (@au _ _ _ (@aJ _ _ _ _ (pv 4))))))), ?_⟩
    obtain ⟨c, i, l, t, ns, hd, hc, hne, h64⟩ := F.ex
    have dc : c≠d := dI hc hd (by intro z;cases z)
    have fin : ∀ (r i' l' t' : Int), 0≤r → r < m → Q (.int r) (upd H d (.dK (fkv c i' l' t'))) := fun r i' l' t' h0 h1 =>
      k r _ h0 h1 ⟨c, i', l', t', ns, ag, by rw [ao dc];exact hc, hne, h64⟩ bA.upd
    have c1 : ∀ o, (upd H d o) c=some (.lst (ns.map V.int)) := fun o => by rw [ao dc];exact hc
    have hl0 : (0 : Int) < ((ns.map V.int).length : Int) := by
      rw [wV]
      have := xU.mpr hne
      omega
    refine ⟨_, rfl, d, _, rfl, dg hd (kY c i l t), _, _, rfl, rfl, _, rfl, d, _, rfl, dp hd (eE c i l t) (sF c i l t _), ?_⟩
    refine ⟨_, rfl, d, _, rfl, dg ag (gP c i l _), rfl, _, rfl, ?_⟩
    refine kH (fun _ => ?_) (fun _ => ?_)
    rotate_left
    · refine ⟨_, rfl, d, _, rfl, dg ag (gP c _ _ _), _, rfl, _, _, rfl, rfl, m0, ?_⟩
      refine ⟨_, rfl, d, _, rfl, dg ag (gP c _ _ _), _, rfl, _, _, rfl, rfl, ⟨m0, by omega⟩, _, rfl, d, _, rfl, dp ag (eE c _ _ _) (kZ c _ _ _ _), ?_⟩
      refine ⟨_, rfl, ?_⟩
      rw [dZ]
      exact fin _ _ _ _ (yp _ (by omega)) (yT _ m0)
    obtain ⟨n, hn⟩ := qj hne i
    refine ⟨_, rfl, d, _, rfl, dg ag (kX c i l _), _, rfl, d, _, rfl, dg ag (vM c i l _), _, rfl, d, _, rfl, dg ag (kX c i l _), c, _, rfl, .inl (SqL.of (c1 _)), _, _, rfl, rfl, hl0, c, _, _, _, rfl, rfl, SqL.of (c1 _), hn, ?_⟩
    refine ⟨_, rfl, d, _, rfl, dg ag (vM c i l _), _, _, rfl, rfl, _, rfl, d, _, rfl, dp ag (eE c i l _) (wH c i l _ _), ?_⟩
    rw [dZ]
    refine ⟨_, rfl, _, _, rfl, rfl, ⟨by decide, by decide, by decide⟩, _, _, rfl, rfl, _, rfl, ?_⟩
    refine kH (fun _ => ?_) (fun _ => ?_)
    · refine ⟨_, rfl, _, _, rfl, rfl, (by show (0 : Int) < 2147483629;decide), _, rfl, d, _, rfl, dg ag (kY c _ l _), _, _, rfl, rfl, .inl ⟨by decide, by decide⟩, _, _, rfl, rfl, _, _, rfl, rfl, .inr ⟨by decide, by decide⟩, _, _, rfl, rfl, (by show (0 : Int) < 2147483647;decide), ?_⟩
      refine ⟨_, rfl, _, _, rfl, rfl, ⟨by decide, by decide⟩, _, rfl, d, _, rfl, dg ag (kY c _ l _), _, _, rfl, rfl, .inl ⟨by decide, by decide⟩, _, _, rfl, rfl, _, _, rfl, rfl, .inr ⟨by decide, by decide⟩, _, _, rfl, rfl, (by show (0 : Int) < 2147483587;decide), ?_⟩
      refine ⟨_, rfl, _, _, rfl, rfl, ⟨by decide, by decide⟩, _, rfl, _, _, rfl, rfl, m0, ?_⟩
      exact fin _ _ _ _ (yp _ (by omega)) (yT _ m0)
    · refine ⟨_, rfl, _, rfl, d, _, rfl, dp ag (eE c _ l _) (kZ c _ l _ _), ?_⟩
      rw [dZ]
      refine ⟨_, rfl, d, _, rfl, dg ag (gP c _ _ _), _, rfl, _, _, rfl, rfl, m0, ?_⟩
      refine ⟨_, rfl, d, _, rfl, dg ag (gP c _ _ _), _, rfl, _, _, rfl, rfl, ⟨m0, by omega⟩, _, rfl, d, _, rfl, dp ag (eE c _ _ _) (kZ c _ _ _ _), ?_⟩
      refine ⟨_, rfl, ?_⟩
      rw [dZ]
      exact fin _ _ _ _ (yp _ (by omega)) (yT _ m0)
abbrev me : Stmt := top 27
theorem qQ : aC ["_law_script"] ["_law_script"] (aj me) := ⟨rfl, rfl, rfl, by decide +kernel, rfl, by decide +kernel, by decide +kernel⟩
theorem tN (D : Df K mg "_law_feed" me)(T : Bt K w mg aB) : Fnc P w K mg base "_law_feed" ["_law_script"] 1 (k6 K) := by
  have sc := qQ
  refine D.ok sc (fun _ _ _ _ _ _ us hl => by obtain ⟨_, rfl⟩ := qO hl;rfl) (fun vs H Q E h => ?_) (fun f cdv A outer s H vs Q E hr h => ?_)
  · obtain ⟨a, ns, rfl, _⟩ := h
    rfl
  · obtain ⟨a, ns, rfl, hS, hlen, k⟩ := h
    have hu := m8 hr
    refine ⟨_, (@au _ _ _ (@aJ _ _ _ _ (@qa _ _ _ _ _ (@dR _ _ _ _ _ _ _ _ _ aA (@aE _ _ _ _ _ _ _ _ jc (@aG _ _ _ _ _ _ _ _ _ dC (by rfl) T.list fk (@aa _ _ _ _ _ (@aX _ _ _ _ _ _ _ _ _ _ eh (pv 0) bc (@bf _ _ _ ar)) ah (by rfl)) (by decide) (by decide) (by rfl) (by rfl)) (@aE _ _ _ _ _ _ _ _ su (@bI _ _ _ _ (@aa _ _ _ _ _ ar ah (by rfl))) (@aG _ _ _ _ _ _ _ _ _ d_ (by rfl) T.int qk (@aa _ _ _ _ _ (@cI _ _ _ _ _ _ _ _ d7 (@av _ _ _ _ _ _ _ _ _ bg (by rfl) T.len xo (@aa _ _ _ _ _ (pv 0) ah (by rfl)) (by decide) (by decide) (by rfl) (by rfl)) ar (aT _)) ah (by rfl)) (by decide) (by decide) (by rfl) (by rfl)))) (@dR _ _ _ _ _ _ _ _ _ aA ar (@dR _ _ _ _ _ _ _ _ _ aA ar (@dR _ _ _ _ _ _ _ _ _ aA ar p_)))) rfl rfl (by simp) (by decide)))), ?_⟩
    intro p hp
    have s1 : aw H (upd H p (.dK [])) := aw.new hp
    have p1 : (upd H p (.dK [])) p=some (.dK []) := ag
    generalize upd H p (.dK [])=H1 at s1 p1
    refine ⟨_, rfl, _, rfl, a, _, rfl, s1.seq hS, fun q1 hq1 => ?_⟩
    rw [uY hlen]
    have s2 : aw H1 (upd H1 q1 (.lst (ns.map V.int))) := aw.new hq1
    have l2 : (upd H1 q1 (.lst (ns.map V.int))) q1=some (.lst (ns.map V.int)) := ag
    generalize upd H1 q1 (.lst (ns.map V.int))=H2 at s2 l2 ⊢
    refine ⟨q1, _, rfl, .inl (SqL.of l2), fun q2 hq2 => ?_⟩
    have s3 : aw H2 (upd H2 q2 (.lst (ns.map V.int))) := aw.new hq2
    have l3 : (upd H2 q2 (.lst (ns.map V.int))) q2=some (.lst (ns.map V.int)) := ag
    generalize upd H2 q2 (.lst (ns.map V.int))=H3 at s3 l3 ⊢
    refine ⟨(by show 1≤sizeLine;decide), fun q4 hq4 => ?_⟩
    have s4 : aw H3 (upd H3 q4 (.lst [V.int 0])) := aw.new hq4
    have l4 : (upd H3 q4 (.lst [V.int 0])) q4=some (.lst [V.int 0]) := ag
    generalize upd H3 q4 (.lst [V.int 0])=H4 at s4 l4 ⊢
    have s14 : aw H H4 := ((s1.trans s2).trans s3).trans s4
    refine ⟨_, rfl, a, _, rfl, .inl (s14.seq hS), rfl, .inr ⟨_, rfl, q4, _, _, rfl, rfl, l4, ?_, ?_, ?_, fun q5 hq5 => ?_⟩⟩
    · split <;> decide
    · split <;> decide
    · split <;> decide
    have s5 : aw H4 (upd H4 q5 (.lst (List.replicate ((if decide (V.int ((ns.map V.int).length : Int)=V.int 0)=true then 1 else 0 : Int)).toNat [V.int 0]).flatten)) := aw.new hq5
    have l5 : (upd H4 q5 (.lst (List.replicate ((if decide (V.int ((ns.map V.int).length : Int)=V.int 0)=true then 1 else 0 : Int)).toNat [V.int 0]).flatten)) q5=_ := ag
    generalize upd H4 q5 (.lst (List.replicate ((if decide (V.int ((ns.map V.int).length : Int)=V.int 0)=true then 1 else 0 : Int)).toNat [V.int 0]).flatten)=H5 at s5 l5 ⊢
    refine ⟨q2, q5, _, _, rfl, rfl, s5 _ _ (s4 _ _ l3), l5, ?_, fun q6 hq6 => ?_⟩
    · have e : (List.replicate ((if decide (V.int ((ns.map V.int).length : Int)=V.int 0)=true then 1 else 0 : Int)).toNat [V.int 0]).flatten.length≤1 := by split <;> decide
      have e2 : sizeLine=16777216 := yy
      have e3 : (ns.map V.int).length=ns.length := wV ..
      omega
    have el : ns.map V.int++(List.replicate ((if decide (V.int ((ns.map V.int).length : Int)=V.int 0)=true then 1 else 0 : Int)).toNat [V.int 0]).flatten=(if ns=[] then [0] else ns).map V.int := by
      cases ns with
      | nil => rfl
      | cons n r =>
        have en : ¬ (decide (V.int (((n::r).map V.int).length : Int)=V.int 0)=true) := by
          rw [wV, xu]
          simp only [V.int.injEq, Ao]
          omega
        rw [if_neg en, if_neg (by simp)]
        simp
    rw [el]
    have s6 : aw H5 (upd H5 q6 (.lst ((if ns=[] then [0] else ns).map V.int))) := aw.new hq6
    have l6 : (upd H5 q6 (.lst ((if ns=[] then [0] else ns).map V.int))) q6=_ := ag
    generalize upd H5 q6 (.lst ((if ns=[] then [0] else ns).map V.int))=H6 at s6 l6 ⊢
    have p6 : H6 p=some (.dK []) := s6 _ _ (s5 _ _ (s4 _ _ (s3 _ _ (s2 _ _ p1))))
    have pq : q6≠p := dI l6 p6 (by intro z;cases z)
    refine ⟨p6, fkv q6 0 0 0, rfl, (by show 4≤15;decide), ?_⟩
    rw [uW]
    refine k p _ hp ⟨q6, 0, 0, 0, (if ns=[] then [0] else ns), ag, by rw [ao pq];exact l6, ?_, ?_⟩ fun b o e => ?_
    · split
      · simp
      · assumption
    · split
      · decide
      · omega
    · rw [ao (aq e hp)]
      exact s6 _ _ (s5 _ _ (s14 _ _ e))
end
end Kx
namespace Kx
open PySem PySem.Spec PyProof.Rows L2 Wd
section
variable {P : Program} {w : World} {K : PySem.W.Frag} {mg : Str → Option Value} {base : Heap} {aB : Addr}
abbrev mf : Stmt := top 13
theorem qS : aC ["word"] ["word"] (aj mf) := ⟨rfl, rfl, rfl, by decide +kernel, rfl, by decide +kernel, by decide +kernel⟩
theorem tO (D : Df K mg "back" mf)(T : Bt K w mg aB) : Fnc P w K mg base "back" ["word"] 1 jX := by
  have sc := qS
  refine D.ok sc (fun _ _ _ _ _ _ us hl => by obtain ⟨_, rfl⟩ := qO hl;rfl) (fun vs H Q E h => ?_) (fun f cdv A outer s H vs Q E hr h => ?_)
  · obtain ⟨u, rfl, _⟩ := h
    rfl
  · obtain ⟨u, rfl, hu, k⟩ := h
    have l16 := a9
    refine ⟨_, (@au _ _ _ (@aJ _ _ _ _ (@cJ _ _ _ _ _ _ _ _ _ _ _ _ xr yZ y0 iE aA (@aa _ _ _ _ _ (@dh _ _ _ _ _ _ _ (["letter"]) (["letter"]) ([]) _ _ _ _ (@ff _ _ _ _ _ _ rfl (by kernel_rfl)) rfl (@qc _ _ _ _ _ _ rfl T.reversed jL (@aa _ _ _ _ _ (pv 0) ah (by rfl)) (by rfl)) (fun _ _ _ _ => @aI _ _ (0) _ (show (["letter"] : List Str).Nodup from by decide +kernel) rfl (Or.inl rfl) (by first | exact .inl rfl | exact .inr rfl | assumption)) (fun _ _ _ _ => cX) (fun _ _ _ _ => by (exact (@kM _ _ _ _ _ _ _ _ _ T.dB rfl rfl rfl T.mgB (pv 0) (fun _ _ => rfl) (by decide)))) (by intro _ ;rfl)) ah (by rfl)) (by rfl) (by rfl) (by rfl) (by rfl) (by rfl)))), ?_⟩
    refine ⟨rfl, _, rfl, _, rfl, (by rw [af];omega), ?_⟩
    refine iD (own := ["letter"]) (cap := []) (J := uO (toS u)) u.length (fun i ys σ H' => H'=H ∧ ys=eJ ((bk u).take i) ∧ ∃ v, σ = [v]) ⟨rfl, rfl, none, rfl⟩ (fun i ys σ H' hi ⟨_, e, _⟩ => ?_) (by omega) (fun i ys σ H' hi _ => ?_) (fun ys σ H' _ => ?_) ?_ ?_
    · rw [e, bw, w_];omega
    · show i < (toS u).cps.size;rw [bq];exact hi
    · show _=(toS u).cps.size;rw [bq]
    · rintro i ys σ H1 x H2 N hi ⟨rfl, rfl, v, rfl⟩ ⟨rfl, c, hc, rfl⟩ hN
      rw [bq] at hc
      obtain ⟨y, hy, e⟩ := cL hc
      obtain ⟨t, ht⟩ := T.gB y
      refine ⟨_, rfl, toS [y], toS [inv y], t, by rw [e], ht, hN _ _ _ ⟨rfl, ?_, _, rfl⟩⟩
      rw [bG (sG u hi hy), ← eK]
      rfl
    · rintro ys σ H1 l ⟨rfl, rfl, v, rfl⟩ hl
      rw [xE (by rw [bP];exact wX _)]
      refine ⟨_, l, (bk u).map fun x => toS [x], rfl, rfl, SqL.of (by rw [ag, ji]), gR _ (by rw [bP];omega), ?_⟩
      rw [gQ]
      exact k _ (aw.new hl)
abbrev iV : Stmt := top 29
theorem oa : aC ["_law_word", "_law_found", "_law_sign"] ["_law_word"] (aj iV) := ⟨rfl, rfl, rfl, by decide +kernel, rfl, by decide +kernel, by decide +kernel⟩
theorem qT (D : Df K mg "_law_back" iV) : Fnc P w K mg base "_law_back" ["_law_word"] 1 jX := by
  have sc := oa
  refine D.ok sc (fun _ _ _ _ _ _ us hl => by obtain ⟨_, rfl⟩ := qO hl;rfl) (fun vs H Q E h => ?_) (fun f cdv A outer s H vs Q E hr h => ?_)
  · obtain ⟨u, rfl, _⟩ := h
    rfl
  · obtain ⟨u, rfl, hu, k⟩ := h
    have l16 := a9
    refine ⟨_, (@ai _ _ _ _ _ (@ay _ _ (1) _ _ _ _ sc.nd rfl (Or.inl rfl) aA (by rfl) (by first | exact .inl rfl | exact .inr rfl | assumption)) (@ai _ _ _ _ _ (@bO _ _ _ _ _ _ _ _ x5 rfl (@fg _ _ _ _ (pv 0)) (@aI _ _ (2) _ sc.nd rfl (Or.inl rfl) (by first | exact .inl rfl | exact .inr rfl | assumption)) (@au _ _ _ (@ay _ _ (1) _ _ _ _ sc.nd rfl (Or.inl rfl) (@aE _ _ _ _ _ _ _ _ aK (@dO _ _ _ _ _ _ _ _ (@aM _ _ _ _ _ _ _ _ d9 (pv 2) aA rfl) (@er _ _ _ _ _ _ _ _ _ xr PySem.F.slot_str_upper PySem.F.type_str_upper m_ (pv 2) (by rfl) (by rfl)) (@er _ _ _ _ _ _ _ _ _ xr yP yQ dS (pv 2) (by rfl) (by rfl))) (pv 1)) (by rfl) (by first | exact .inl rfl | exact .inr rfl | assumption))) (by intro _ ;rfl)) (@au _ _ _ (@aJ _ _ _ _ (pv 1))))), ?_⟩
    refine ⟨_, rfl, _, rfl, eC (z := toS u) (fun i σ H' => ∃ v, σ = [some (tx u), some (tx (bk (u.take i))), v] ∧ H'=H) ⟨none, (by rw [List.take_zero];show _=[some (tx u), some (tx []), none];rw [jh];rfl), rfl⟩ ?_ ?_⟩
    · rintro i c σ H1 hc ⟨v, rfl, rfl⟩
      obtain ⟨x, hx, e⟩ := cL hc
      rw [e]
      have hi : i < u.length := (wW.mp hx).1
      have fin : ∀ z, z=toS [inv x] → ∃ v', [some (tx u), some (V.str (z++toS (bk (u.take i)))), some (V.str (toS [x]))]=[some (tx u), some (tx (bk (u.take (i+1)))), v'] ∧ H1=H1 := fun z ez => by
        refine ⟨some (V.str (toS [x])), ?_, rfl⟩
        rw [ez, jj, bG hx, gJ]
        rfl
      have room : ∀ z, z=toS [inv x] → z.length+(toS (bk (u.take i))).length≤sizeLine := fun z ez => by
        rw [ez, af, af, bP, w_]
        simp only [xP]
        omega
      refine ⟨_, rfl, _, _, rfl, rfl, _, rfl, ?_⟩
      rw [fM]
      refine kH (fun h => ?_) (fun h => ?_)
      · have h : x.val < 6 := by simpa using h
        exact ⟨_, rfl, rfl, _, rfl, rfl, (by rw [af];show 1≤5592405;decide), _, rfl, _, _, rfl, rfl, room _ (gN h), fin _ (gN h)⟩
      · have h : ¬ x.val < 6 := by simpa using h
        exact ⟨_, rfl, rfl, _, rfl, rfl, (by rw [af];show 1≤5592405;decide), _, rfl, _, _, rfl, rfl, room _ (gO h), fin _ (gO h)⟩
    · rintro σ H1 ⟨v, rfl, rfl⟩
      rw [bq, yi]
      exact ⟨_, rfl, k _ (aw.refl _)⟩
abbrev qU : Stmt := top 14
theorem tP : aC ["word", "left", "letter"] ["word"] (aj qU) := ⟨rfl, rfl, rfl, by decide +kernel, rfl, by decide +kernel, by decide +kernel⟩
theorem vg (D : Df K mg "reduced" qU)(T : Bt K w mg aB) : Fnc P w K mg base "reduced" ["word"] 1 hU := by
  have sc := tP
  refine D.ok sc (fun _ _ _ _ _ _ us hl => by obtain ⟨_, rfl⟩ := qO hl;rfl) (fun vs H Q E h => ?_) (fun f cdv A outer s H vs Q E hr h => ?_)
  · obtain ⟨u, rfl, _⟩ := h
    rfl
  · obtain ⟨u, rfl, hu, k⟩ := h
    have l16 := a9
    refine ⟨_, (@ai _ _ _ _ _ (@ay _ _ (1) _ _ _ _ sc.nd rfl (Or.inl rfl) (@bI _ _ _ _ ah) (by rfl) (by first | exact .inl rfl | exact .inr rfl | assumption)) (@ai _ _ _ _ _ (@bO _ _ _ _ _ _ _ _ x5 rfl (@fg _ _ _ _ (pv 0)) (@aI _ _ (2) _ sc.nd rfl (Or.inl rfl) (by first | exact .inl rfl | exact .inr rfl | assumption)) (@au _ _ _ (@bT _ _ _ _ _ _ _ _ (@PW.pt _ _ _ (@ka _ _ _ _ _ _ _ (@cS _ _ _ (pv 1) (fun _ => rfl)) (@ik _ _ _ _ (@aM _ _ _ _ _ _ _ _ d7 (@aN _ _ _ _ _ _ _ bU (pv 1) (@ip _ _ _ _ _ _ d6 ar) (fun _ _ => rfl)) (@kM _ _ _ _ _ _ _ _ _ T.dB rfl rfl rfl T.mgB (pv 2) (fun _ _ => rfl) (by decide)) (aT _))))) (@au _ _ _ (@b9 _ _ _ _ (@er _ _ _ _ _ _ _ _ _ xV PySem.F.slot_list_pop PySem.F.type_list_pop so (pv 1) (by rfl) (by rfl)) (by rfl))) (@au _ _ _ (@b9 _ _ _ _ (@cJ _ _ _ _ _ _ _ _ _ _ _ _ xV yH yI cT (pv 1) (@aa _ _ _ _ _ (pv 2) ah (by rfl)) (by rfl) (by rfl) (by rfl) (by rfl) (by rfl)) (by rfl))))) (by intro _ ;rfl)) (@au _ _ _ (@aJ _ _ _ _ (@cJ _ _ _ _ _ _ _ _ _ _ _ _ xr yZ y0 iE aA (@aa _ _ _ _ _ (pv 1) ah (by rfl)) (by rfl) (by rfl) (by rfl) (by rfl) (by rfl)))))), ?_⟩
    refine ⟨(by show 0≤sizeLine;decide), fun l hl => ?_⟩
    refine ⟨_, rfl, _, rfl, eC (z := toS u) (fun i σ H' => ∃ v, σ = [some (tx u), some (.ref l), v] ∧ aw H H' ∧ H' l=some (.lst (eJ (act (u.take i) []).reverse))) ⟨none, rfl, aw.new hl, by rw [ag];rfl⟩ ?_ ?_⟩
    · rintro i c σ H1 hc ⟨v, rfl, s1, l1⟩
      obtain ⟨x, hx, e⟩ := cL hc
      obtain ⟨t, ht⟩ := T.gB x
      have hi : i < u.length := (wW.mp hx).1
      have step : act (u.take (i+1)) []=push (act (u.take i) []) x := by rw [bG hx, bJ]
      have long : (act (u.take i) []).length≤u.length := by
        have := cw (u.take i) []
        rw [yV, w_] at this
        omega
      have nl : ∀ b o, H b=some o → b≠l := fun b o e => aq e hl
      have put : (act (u.take (i+1)) []=x::act (u.take i) []) → ∀ H2 : Hp, H2=upd H1 l (.lst (eJ (act (u.take i) []).reverse++[tx [x]])) → ∃ v, [some (tx u), some (.ref l), some (V.str ⟨#[c]⟩)]=[some (tx u), some (.ref l), v] ∧ aw H H2 ∧ H2 l=some (.lst (eJ (act (u.take (i+1)) []).reverse)) := fun e H2 eH => by
        subst eH
        refine ⟨_, rfl, fun b o q => by rw [ao (nl b o q)];exact s1 b o q, ?_⟩
        rw [ag, e, xN, eK]
      refine ⟨_, rfl, _, .inl ⟨_, SqL.of l1, rfl⟩, ?_⟩
      cases hq : act (u.take i) [] with
      | nil =>
        rw [hq] at l1 step
        refine rE (rE ?_)
        refine ⟨_, rfl, .inl ⟨rfl, _, SqL.of l1⟩, _, rfl, l, _, _, rfl, rfl, l1, (by show 0 < sizeLine;decide), ?_⟩
        rw [hq] at put
        exact put step _ (by rw [e];rfl)
      | cons y r =>
        rw [hq] at l1 step long put
        have long : r.length+1≤u.length := long
        have e1 : eJ (y::r).reverse=eJ r.reverse++[tx [y]] := by rw [xN, eK]
        have e0 : (!(eJ (y::r).reverse).isEmpty)=true := by rw [e1];simp
        rw [e0]
        refine sC ?_
        refine ⟨_, rfl, _, rfl, l, _, _, _, rfl, rfl, SqL.of l1, (by rw [e1];exact m4 _ _), _, rfl, toS [x], toS [inv x], t, by rw [e], ht, rfl, _, rfl, ?_⟩
        · show if decide (tx [y]=tx [inv x])=true then _ else _
          rw [fj]
          refine kH (fun h => ?_) (fun h => ?_)
          · have h : y=inv x := by simpa using h
            refine ⟨_, rfl, .inl ⟨rfl, _, SqL.of l1⟩, l, _, tx [y], rfl, rfl, l1, ?_, ?_⟩
            · rw [e1];simp
            · refine ⟨_, rfl, fun b o q => by rw [ao (nl b o q)];exact s1 b o q, ?_⟩
              rw [ag, e1, List.dropLast_concat, step]
              show _=some (HO.lst (eJ (if y=inv x then r else x::y::r).reverse))
              rw [if_pos h]
          · have h : ¬ y=inv x := by simpa using h
            refine ⟨_, rfl, .inl ⟨rfl, _, SqL.of l1⟩, _, rfl, l, _, _, rfl, rfl, l1, (by rw [bw, yk, xu];omega), ?_⟩
            refine put ?_ _ (by rw [e];rfl)
            rw [step]
            show (if y=inv x then r else x::y::r)=_
            rw [if_neg h]
    · rintro σ H1 ⟨v, rfl, s1, l1⟩
      rw [bq, yi] at l1
      refine ⟨rfl, _, rfl, _, l, (red u).map fun x => toS [x], rfl, rfl, SqL.of (by rw [l1, ← ji];rfl), gR _ ?_, ?_⟩
      · have := fi u;omega
      · rw [gQ]
        exact k _ s1
end
end Kx
namespace Kx
open PySem PySem.Spec PyProof.Rows L2 Wd
section
variable {P : Program} {w : World} {K : PySem.W.Frag} {mg : Str → Option Value} {base : Heap} {aB : Addr}
abbrev mh : Stmt := top 30
theorem qV : aC ["_law_word", "_law_found", "_law_sign"] ["_law_word"] (aj mh) := ⟨rfl, rfl, rfl, by decide +kernel, rfl, by decide +kernel, by decide +kernel⟩
theorem tQ (D : Df K mg "_law_reduced" mh)(T : Bt K w mg aB)(F_lback : Fnc P w K mg base "_law_back" ["_law_word"] 1 ny) : Fnc P w K mg base "_law_reduced" ["_law_word"] 2 hU := by
  have sc := qV
  refine D.ok sc (fun _ _ _ _ _ _ us hl => by obtain ⟨_, rfl⟩ := qO hl;rfl) (fun vs H Q E h => ?_) (fun f cdv A outer s H vs Q E hr h => ?_)
  · obtain ⟨u, rfl, _⟩ := h
    rfl
  · obtain ⟨u, rfl, hu, k⟩ := h
    have l16 := a9
    refine ⟨_, (@ai _ _ _ _ _ (@ay _ _ (1) _ _ _ _ sc.nd rfl (Or.inl rfl) aA (by rfl) (by first | exact .inl rfl | exact .inr rfl | assumption)) (@ai _ _ _ _ _ (@bO _ _ _ _ _ _ _ _ x5 rfl (@fg _ _ _ _ (pv 0)) (@aI _ _ (2) _ sc.nd rfl (Or.inl rfl) (by first | exact .inl rfl | exact .inr rfl | assumption)) (@au _ _ _ (@bT _ _ _ _ _ _ _ _ (@PW.pt _ _ _ (@ka _ _ _ _ _ _ _ (@aM _ _ _ _ _ _ _ _ jE (pv 1) aA (aT _)) (@ik _ _ _ _ (@aM _ _ _ _ _ _ _ _ d7 (@aH _ _ _ _ _ _ _ _ _ _ _ F_lback hr (by decide) rfl (@aa _ _ _ _ _ (pv 2) ah (by rfl)) (by decide) (by rfl) (by rfl)) (@aN _ _ _ _ _ _ _ bY (pv 1) (@aE _ _ _ _ _ _ _ _ kf (@av _ _ _ _ _ _ _ _ _ ax (by rfl) T.len xo (@aa _ _ _ _ _ (pv 1) ah (by rfl)) (by decide) (by decide) (by rfl) (by rfl)) ar) (fun _ _ => rfl)) (aT _))))) (@au _ _ _ (@ay _ _ (1) _ _ _ _ sc.nd rfl (Or.inl rfl) (@aX _ _ _ _ _ _ _ _ _ _ cF (pv 1) bc (@bf _ _ _ (@aE _ _ _ _ _ _ _ _ kf (@av _ _ _ _ _ _ _ _ _ ax (by rfl) T.len xo (@aa _ _ _ _ _ (pv 1) ah (by rfl)) (by decide) (by decide) (by rfl) (by rfl)) ar))) (by rfl) (by first | exact .inl rfl | exact .inr rfl | assumption))) (@au _ _ _ (@ay _ _ (1) _ _ _ _ sc.nd rfl (Or.inl rfl) (@aE _ _ _ _ _ _ _ _ aK (pv 1) (pv 2)) (by rfl) (by first | exact .inl rfl | exact .inr rfl | assumption))))) (by intro _ ;rfl)) (@au _ _ _ (@aJ _ _ _ _ (pv 1))))), ?_⟩
    refine ⟨_, rfl, _, rfl, eC (z := toS u) (fun i σ H' => ∃ v, σ = [some (tx u), some (tx (act (u.take i) []).reverse), v] ∧ aw H H') ⟨none, rfl, aw.refl _⟩ ?_ ?_⟩
    · rintro i c σ H1 hc ⟨v, rfl, s1⟩
      obtain ⟨x, hx, e⟩ := cL hc
      rw [e]
      have hi : i < u.length := (wW.mp hx).1
      have step : act (u.take (i+1)) []=push (act (u.take i) []) x := by rw [bG hx, bJ]
      have long : (act (u.take i) []).length≤u.length := by
        have := cw (u.take i) []
        rw [yV, w_] at this
        omega
      rw [step]
      generalize act (u.take i) []=st at long
      have hst : (toS st.reverse).length≤sizeLine := by rw [af, yk];omega
      cases st with
      | nil =>
        refine ⟨_, rfl, rfl, _, rfl, mF (by rw [List.reverse_nil, jh];simp) (rE ?_)⟩
        refine ⟨_, rfl, _, rfl, _, _, rfl, rfl, (by rw [af, af];simp;omega), ?_⟩
        rw [jj]
        exact ⟨_, rfl, s1⟩
      | cons y r =>
        rw [xu] at long
        have hl : (toS (y::r).reverse).length=r.length+1 := by rw [af, yk, xu]
        refine ⟨_, rfl, rfl, _, rfl, mE (by rw [← jh];simpa using fun e => by have := xH List.length (oX e);simp at this) ?_⟩
        refine ⟨_, rfl, [x], rfl, (by show 1≤5000;decide), fun H2 s2 => ?_⟩
        refine ⟨_, rfl, _, rfl, _, rfl, hst, _, _, rfl, rfl, _, _, cp y, rfl, rfl, hst, bM (k := r.length) (by rw [hl];omega) ?_, rfl, _, rfl, ?_⟩
        · rw [xN, xI (by rw [yk];exact wX _), yk, AY]
          rfl
        · show if decide (tx (bk [x])=tx [y])=true then _ else _
          rw [fj, dD]
          have ep : push (y::r) x=if y=inv x then r else x::y::r := rfl
          rw [ep]
          refine kH (fun h => ?_) (fun h => ?_)
          · have h : inv x=y := by simpa using h
            rw [if_pos h.symm]
            refine ⟨_, rfl, _, rfl, _, rfl, hst, _, _, rfl, rfl, _, rfl, _, rfl, hst, ?_⟩
            rw [hl, aP, cG _ (by omega), show (((r.length+1 : Nat) : Int) - 1).toNat=r.length by omega, xN, List.take_left' (by rw [yk])]
            exact ⟨_, rfl, s1.trans s2⟩
          · have h : ¬ inv x=y := by simpa using h
            rw [if_neg fun e => h e.symm]
            refine ⟨_, rfl, _, rfl, _, _, rfl, rfl, (by rw [af, af, yk, xu];show r.length+1+1≤_;omega), ?_⟩
            rw [jj, xN (a := x)]
            exact ⟨_, rfl, s1.trans s2⟩
    · rintro σ H1 ⟨v, rfl, s1⟩
      rw [bq, yi]
      exact ⟨_, rfl, k _ s1⟩
end
end Kx
namespace Kx
open PySem PySem.Spec PyProof.Rows L2 Wd
section
variable {P : Program} {w : World} {K : PySem.W.Frag} {mg : Str → Option Value} {base : Heap} {aB : Addr}
abbrev gc : Stmt := top 16
theorem mi : aC ["change", "word", "becomes", "letter", "part"] ["change", "word"] (aj gc) := ⟨rfl, rfl, rfl, by decide +kernel, rfl, by decide +kernel, by decide +kernel⟩
theorem og (D : Df K mg "mapped" gc)(T : Bt K w mg aB)(S : ∃ t, mg "SMALL" = some (.str "abcdef" t))(F_back : Fnc P w K mg base "back" ["word"] 1 jX)(F_red : Fnc P w K mg base "reduced" ["word"] 1 hU) : Fnc P w K mg base "mapped" ["change", "word"] 2 cq := by
  have sc := mi
  refine D.ok sc (fun _ _ _ _ _ _ us hl => by obtain ⟨_, _, rfl⟩ := jz hl;rfl) (fun vs H Q E h => ?_) (fun f cdv A outer s H vs Q E hr h => ?_)
  · obtain ⟨p, u, n, b, ws, rfl, _⟩ := h
    rfl
  · obtain ⟨p, u, n, b, ws, rfl, M, n6, hin, hul, hlen, hb, k⟩ := h
    have l16 := a9
    have hu := m8 hr
    obtain ⟨tS, mgS⟩ := S
    refine ⟨_, (@ai _ _ _ _ _ (@ay _ _ (2) _ _ _ _ sc.nd rfl (Or.inr rfl) m7 (by rfl) (by first | exact .inl rfl | exact .inr rfl | assumption)) (@ai _ _ _ _ _ (@bO _ _ _ _ _ _ _ _ x5 rfl (@nO _ _ rfl _ _ _ _ _ _ _ _ rfl T.zip uX (@aa _ _ _ _ _ (@bD _ _ (.str "abcdef") _ _ rfl mgS ⟨_, rfl⟩ (by decide)) (@aa _ _ _ _ _ (pv 0) ah (by rfl)) (by rfl)) (by rfl) (by rfl)) (@i7 _ _ _ _ _ _ rfl (@bz _ _ _ _ _ (@aI _ _ (3) _ sc.nd rfl (Or.inl rfl) (by first | exact .inl rfl | exact .inr rfl | assumption)) (@bz _ _ _ _ _ (@aI _ _ (4) _ sc.nd rfl (Or.inl rfl) (by first | exact .inl rfl | exact .inr rfl | assumption)) d3 (by rfl)) (by rfl)) (by rfl) (by rfl)) (@ai _ _ _ _ _ (@de _ _ _ _ _ _ _ _ _ hu (pv 2) (pv 3) (pv 4) rfl) (@au _ _ _ (@de _ _ _ _ _ _ _ _ _ hu (pv 2) (@aH _ _ _ _ _ _ _ _ _ _ _ F_back hr (by decide) rfl (@aa _ _ _ _ _ (pv 3) ah (by rfl)) (by decide) (by rfl) (by rfl)) (@aH _ _ _ _ _ _ _ _ _ _ _ F_back hr (by decide) rfl (@aa _ _ _ _ _ (pv 4) ah (by rfl)) (by decide) (by rfl) (by rfl)) rfl))) (by intro _ ;rfl)) (@au _ _ _ (@aJ _ _ _ _ (@aH _ _ _ _ _ _ _ _ _ _ _ F_red hr (by decide) rfl (@aa _ _ _ _ _ (@cJ _ _ _ _ _ _ _ _ _ _ _ _ xr yZ y0 iE aA (@aa _ _ _ _ _ (@dh _ _ _ _ _ _ _ (["letter", "becomes"]) (["letter"]) ([2]) _ _ _ _ (@ff _ _ _ _ _ _ rfl (by kernel_rfl)) rfl (@fg _ _ _ _ (pv 1)) (fun _ _ _ _ => @aI _ _ (0) _ (show (["letter", "becomes"] : List Str).Nodup from by decide +kernel) rfl (Or.inl rfl) (by first | exact .inl rfl | exact .inr rfl | assumption)) (fun _ _ _ _ => cX) (fun _ _ _ _ => by (exact (@bF _ _ _ _ _ _ hu (pv 1) (pv 0) (fun _ _ => rfl)))) (by intro _ ;rfl)) ah (by rfl)) (by rfl) (by rfl) (by rfl) (by rfl) (by rfl)) ah (by rfl)) (by decide) (by rfl) (by rfl)))))), ?_⟩
    have asc6 : ("abcdef" : Str).cps.all (· < 128)=true := by decide +kernel
    have sz6 : ("abcdef" : Str).cps.size=6 := by decide +kernel
    have hwl : (ws.map tx).length=n := by rw [wV, M.ok.len]
    intro d hd
    have keep : ∀ {H' : Hp} {o : HO}, aw H H' → aw H (upd H' d o) := fun s b o e => by rw [ao (aq e hd)];exact s b o e
    refine ⟨_, rfl, _, p, rfl, asc6, ⟨_, SqT.of ((aw.new hd) _ _ M.at_)⟩, lF (ys := ws.map tx) (fun i σ H' => ∃ (a c : Option V) (kvs : List (Key × V)), σ = [some (.ref p), some (tx u), some (.ref d), a, c] ∧ aw H H' ∧ H' d=some (.dK kvs) ∧ kvs.length≤2*i ∧ i≤6 ∧ ∀ x : L, x.val % 6 < i → cK kvs (kS (toS [x]))=some (tx (img ws x)))
      ⟨none, none, [], rfl, aw.new hd, ag, by decide, by omega, fun x hx => by omega⟩ (fun i σ H' ⟨_, _, _, _, s1, _⟩ => SqT.of (s1 _ _ M.at_)) ?_ ?_⟩
    · rintro i c y σ H1 T hc hy ⟨a, c', kvs, rfl, s1, hk, hkl, hi6, hv⟩ hT
      obtain ⟨x, hxi, hi, rfl⟩ := L2.sm_at hc
      obtain ⟨v, hv1, rfl⟩ : ∃ v, ws[i]? = some v ∧ y=tx v := by
        rw [xq] at hy
        cases e : ws[i]? with
        | none => rw [e] at hy;cases hy
        | some v => rw [e] at hy;exact ⟨v, rfl, (w4 hy).symm⟩
      have hvl : v.length≤100000 := xG (M.ok.le v (xj hv1)) hb
      have nT : T≠d := (aq hk hT).symm
      have ix : img ws x=v := by
        unfold img
        rw [if_pos (by omega), xk, hxi, hv1]
        rfl
      have iX : img ws (inv x)=bk v := by rw [iL, ix]
      refine ⟨T, _, rfl, SqT.of ag, rfl, _, _, rfl, _, _, rfl, rfl, ?_⟩
      have s2 : aw H (upd H1 T (.tup [.str ⟨#[cp x]⟩, tx v])) := s1.then hT
      have k2 : (upd H1 T (.tup [.str ⟨#[cp x]⟩, tx v])) d=some (.dK kvs) := by rw [ao nT.symm];exact hk
      generalize upd H1 T (.tup [.str ⟨#[cp x]⟩, tx v])=H2 at s2 k2 ⊢
      refine ⟨_, rfl, _, rfl, _, rfl, d, _, rfl, dp k2 (by omega) rfl, ?_⟩
      have s3 : aw H (upd H2 d (.dK (cP kvs (kS ⟨#[cp x]⟩) (tx v)))) := keep s2
      have k3 : (upd H2 d (.dK (cP kvs (kS ⟨#[cp x]⟩) (tx v)))) d=some (.dK (cP kvs (kS (toS [x])) (tx v))) := ag
      generalize upd H2 d (.dK (cP kvs (kS ⟨#[cp x]⟩) (tx v)))=H3 at s3 k3 ⊢
      refine ⟨_, rfl, v, rfl, hvl, fun H4 s4 => ⟨_, rfl, _, rfl, [x], rfl, (by show 1≤100000;decide), fun H5 s5 => ?_⟩⟩
      have k5 := s5 _ _ (s4 _ _ k3)
      have hl5 := bE kvs (kS (toS [x])) (tx v)
      have hl6 := bE (cP kvs (kS (toS [x])) (tx v)) (kS (toS (bk [x]))) (tx (bk v))
      refine ⟨d, _, rfl, dp k5 (by omega) rfl, ?_⟩
      refine ⟨_, _, _, rfl, keep (s3.trans (s4.trans s5)), ag, by omega, by omega, fun z hz => ?_⟩
      rw [je, je, dD]
      by_cases e1 : z=inv x
      · rw [e1, if_pos rfl, iX]
      · rw [if_neg (fun e => e1 (by have := iG (Sum.inr.inj e);simpa using this))]
        by_cases e2 : z=x
        · rw [e2, if_pos rfl, ix]
        · rw [if_neg (fun e => e2 (by have := iG (Sum.inr.inj e);simpa using this))]
          refine hv z ?_
          have hx6 : x.val < 6 := by omega
          have n1 : z.val≠x.val := fun e => e2 (Fin.ext e)
          have n2 : z.val≠x.val+6 := fun e => e1 (Fin.ext (by rw [bC, if_pos hx6];exact e))
          have := z.isLt
          omega
    · rintro σ H1 ⟨a, c, kvs, rfl, s1, hk, hkl, hi6, hv⟩
      rw [hwl, sz6, zK n6] at hv
      refine ⟨rfl, _, rfl, _, rfl, ?_⟩
      refine iD (own := ["letter"]) (cap := [2]) (J := Its (toS u)) u.length (fun i ys σ H' => ∃ v : Option V, σ = [v, some (.ref d)] ∧ ys=(((u.take i).map (img ws)).map toS).map V.str ∧ H'=H1) ⟨none, rfl, rfl, rfl⟩ (fun i ys σ H' hi ⟨v, _, e, _⟩ => ?_) (by omega) (fun i ys σ H' hi _ => ?_) (fun ys σ H' _ => ?_) ?_ ?_
      · rw [e, wV, wV, wV, w_];omega
      · show i < (toS u).cps.size;rw [bq];exact hi
      · show _=(toS u).cps.size;rw [bq]
      · rintro i ys σ H2 x H3 N hi ⟨v, rfl, rfl, rfl⟩ ⟨rfl, c', hc, rfl⟩ hN
        obtain ⟨y, hy, e⟩ := cL hc
        have hyn := hin y (xj hy)
        refine ⟨_, rfl, _, rfl, d, _, rfl, dg hk (by rw [e];exact hv y hyn), hN _ _ _ ⟨_, rfl, ?_, rfl⟩⟩
        rw [bG hy, xy, xy, xy]
        rfl
      · rintro ys σ H2 l ⟨v, rfl, rfl, rfl⟩ hl
        have hsl := (M.ok.sub u).2
        have es : ((u.take u.length).map (img ws))=u.map (img ws) := by rw [yi]
        have ej : ("" : Str).length=0 := by decide +kernel
        refine ⟨_, l, (u.map (img ws)).map toS, rfl, rfl, SqL.of (by rw [ag, es]), ?_, ?_⟩
        · rw [jw, ej, Nat.mul_zero, AZ]
          have : (u.map (img ws)).flatten=sub ws u := rfl
          rw [this]
          omega
        · rw [nQ]
          exact ⟨sub ws u, rfl, by omega, fun H' s' => k _ (s1.trans ((aw.new hl).trans s'))⟩
abbrev mj : Stmt := top 17
theorem qW : aC ["one", "other"] ["one", "other"] (aj mj) := ⟨rfl, rfl, rfl, by decide +kernel, rfl, by decide +kernel, by decide +kernel⟩
theorem tR (D : Df K mg "then" mj)(T : Bt K w mg aB)(F_mapped : Fnc P w K mg base "mapped" ["change", "word"] 2 cq) : Fnc P w K mg base "then" ["one", "other"] 3 fV := by
  have sc := qW
  refine D.ok sc (fun _ _ _ _ _ _ us hl => by obtain ⟨_, _, rfl⟩ := jz hl;rfl) (fun vs H Q E h => ?_) (fun f cdv A outer s H vs Q E hr h => ?_)
  · obtain ⟨p, q, n, a, b, ws, us, rfl, _⟩ := h
    rfl
  · obtain ⟨p, q, n, a, b, ws, us, rfl, M, N, n6, ha, hab, hb, k⟩ := h
    have l16 := a9
    have hwl : (ws.map tx).length=n := by rw [wV, M.ok.len]
    refine ⟨_, (@au _ _ _ (@aJ _ _ _ _ (@aG _ _ _ _ _ _ _ _ _ aY (by rfl) T.tuple bW (@aa _ _ _ _ _ (@dh _ _ _ _ _ _ _ (["part", "other"]) (["part"]) ([1]) _ _ _ _ (@ff _ _ _ _ _ _ rfl (by kernel_rfl)) rfl (@i9 _ _ _ _ (pv 0)) (fun _ _ _ _ => @aI _ _ (0) _ (show (["part", "other"] : List Str).Nodup from by decide +kernel) rfl (Or.inl rfl) (by first | exact .inl rfl | exact .inr rfl | assumption)) (fun _ _ _ _ => cX) (fun _ _ _ _ => by (exact (@aH _ _ _ _ _ _ _ _ _ _ _ F_mapped hr (by decide) rfl (@aa _ _ _ _ _ (pv 1) (@aa _ _ _ _ _ (pv 0) ah (by rfl)) (by rfl)) (by decide) (by rfl) (by rfl)))) (by intro _ ;rfl)) ah (by rfl)) (by decide) (by decide) (by rfl) (by rfl)))), ?_⟩
    refine ⟨_, rfl, p, rfl, ⟨_, SqT.of M.at_⟩, ?_⟩
    refine dY (xs := ws.map tx) (own := ["part"]) (cap := [1]) (fun i ys σ H' => ∃ v : Option V, σ = [v, some (.ref q)] ∧ ys=(aF (ws.take i) us).map tx ∧ aw H H') ⟨none, rfl, rfl, aw.refl _⟩ (fun i ys σ H' hi ⟨v, _, e, _⟩ => ?_) (by omega) (fun i ys σ H' ⟨_, _, _, s1⟩ => SqT.of (s1 _ _ M.at_)) ?_ ?_
    · rw [e, wV]
      unfold aF
      rw [wV, w_]
      omega
    · rintro i ys σ H1 x N' hxi ⟨v, rfl, rfl, s1⟩ hN
      obtain ⟨w', hw, rfl⟩ : ∃ w', ws[i]? = some w' ∧ x=tx w' := by
        rw [xq] at hxi
        cases e : ws[i]? with
        | none => rw [e] at hxi;cases hxi
        | some v => rw [e] at hxi;exact ⟨v, rfl, (w4 hxi).symm⟩
      have hm := xj hw
      have h1 := M.ok.le w' hm
      refine ⟨_, rfl, _, rfl, q, w', n, b, us, rfl, N.same s1, n6, M.ok.ins w' hm, by omega, xG (y4 b h1) hab, hb, fun H2 s2 => hN _ _ _ ⟨_, rfl, ?_, s1.trans s2⟩⟩
      unfold aF
      rw [zB, hw, xy, xy]
      rfl
    · rintro ys σ H1 l ⟨v, rfl, rfl, s1⟩ hl
      refine ⟨l, _, rfl, .inl ⟨SqL.of ag, fun r hr' => ?_⟩⟩
      rw [wV, xE (wX _)] at *
      have hr0 : H r=none := none_of (s1.then (o := .lst ((aF ws us).map tx)) hl) hr'
      exact k r _ hr0 ((s1.then hl).then hr') ⟨ag, M.ok.then N.ok⟩
abbrev iW : Stmt := top 18
theorem oh : aC ["many"] ["many"] (aj iW) := ⟨rfl, rfl, rfl, by decide +kernel, rfl, by decide +kernel, by decide +kernel⟩
theorem qX (D : Df K mg "plain" iW)(T : Bt K w mg aB)(S : ∃ t, mg "SMALL" = some (.str "abcdef" t)) : Fnc P w K mg base "plain" ["many"] 1 iO := by
  have sc := oh
  refine D.ok sc (fun _ _ _ _ _ _ us hl => by obtain ⟨_, rfl⟩ := qO hl;rfl) (fun vs H Q E h => ?_) (fun f cdv A outer s H vs Q E hr h => ?_)
  · obtain ⟨n, rfl, _⟩ := h
    rfl
  · obtain ⟨n, rfl, h1, h6, k⟩ := h
    have l16 := a9
    obtain ⟨tS, mgS⟩ := S
    have e6 : ("abcdef" : Str).length=6 := by decide +kernel
    refine ⟨_, (@au _ _ _ (@aJ _ _ _ _ (@aG _ _ _ _ _ _ _ _ _ aY (by rfl) T.tuple bW (@aa _ _ _ _ _ (@aG _ _ _ _ _ _ _ _ _ (@br _ rfl) (by rfl) T.list fk (@aa _ _ _ _ _ (@aX _ _ _ _ _ _ _ _ _ _ cF (@bD _ _ (.str "abcdef") _ _ rfl mgS ⟨_, rfl⟩ (by decide)) bc (@bf _ _ _ (pv 0))) ah (by rfl)) (by decide) (by decide) (by rfl) (by rfl)) ah (by rfl)) (by decide) (by decide) (by rfl) (by rfl)))), ?_⟩
    have ez : Txt.slice ("abcdef" : Str) none (some (n : Int))=toS (([0, 1, 2, 3, 4, 5] : List L).take n) := by
      rw [← gM, aP, cG _ (by omega), xh]
    refine ⟨_, rfl, _, rfl, _, rfl, by omega, ?_⟩
    rw [ez]
    have es : L2.bN (toS (([0, 1, 2, 3, 4, 5] : List L).take n))=(ak n).map tx := by
      unfold L2.bN ak
      rw [aZ, x4, x4]
      rfl
    refine ⟨_, rfl, (by rw [af, w_];simp;omega), fun l hl => ?_⟩
    rw [es]
    refine ⟨l, _, rfl, .inl ⟨SqL.of ag, fun r hr' => ?_⟩⟩
    exact k r _ (none_of (aw.new hl) hr') ((aw.new hl).then hr') ⟨ag, aO h6⟩
end
end Kx
namespace Kx
open PySem PySem.Spec PyProof.Rows L2 Wd
section
variable {P : Program} {w : World} {K : PySem.W.Frag} {mg : Str → Option Value} {base : Heap} {aB : Addr}
abbrev qY : Stmt := top 12
theorem tT : aC ["letter"] ["letter"] (aj qY) := ⟨rfl, rfl, rfl, by decide +kernel, rfl, by decide +kernel, by decide +kernel⟩
theorem vh (D : Df K mg "number_of" qY)(T : Bt K w mg aB)(S : ∃ t, mg "SMALL" = some (.str "abcdef" t)) : Fnc P w K mg base "number_of" ["letter"] 1 qm := by
  have sc := tT
  refine D.ok sc (fun _ _ _ _ _ _ us hl => by obtain ⟨_, rfl⟩ := qO hl;rfl) (fun vs H Q E h => ?_) (fun f cdv A outer s H vs Q E hr h => ?_)
  · obtain ⟨x, rfl, _⟩ := h
    rfl
  · obtain ⟨x, rfl, k⟩ := h
    obtain ⟨tS, mgS⟩ := S
    refine ⟨_, (@au _ _ _ (@aJ _ _ _ _ (@cJ _ _ _ _ _ _ _ _ _ _ _ _ xr AB AC jk (@bD _ _ (.str "abcdef") _ _ rfl mgS ⟨_, rfl⟩ (by decide)) (@aa _ _ _ _ _ (@er _ _ _ _ _ _ _ _ _ xr yP yQ dS (pv 0) (by rfl) (by rfl)) ah (by rfl)) (by rfl) (by rfl) (by rfl) (by rfl) (by rfl)))), ?_⟩
    exact ⟨rfl, _, rfl, rfl, _, rfl, rfl, (by rw [af];show 1≤5592405;decide), _, _, _, _, rfl, rfl, sJ x, k⟩
abbrev vi : Stmt := top 23
theorem vj : aC ["surface", "slide"] ["surface", "slide"] (aj vi) := ⟨rfl, rfl, rfl, by decide +kernel, rfl, by decide +kernel, by decide +kernel⟩
theorem wN (D : Df K mg "neighbour" vi)(T : Bt K w mg aB) : Fnc P w K mg base "neighbour" ["surface", "slide"] 1 tE := by
  have sc := vj
  refine D.ok sc (fun _ _ _ _ _ _ us hl => by obtain ⟨_, _, rfl⟩ := jz hl;rfl) (fun vs H Q E h => ?_) (fun f cdv A outer s H vs Q E hr h => ?_)
  · obtain ⟨u, t, i, sd, rfl, _⟩ := h
    rfl
  · obtain ⟨u, t, i, sd, rfl, ht, hne, hul, k⟩ := h
    have l16 := a9
    have hp := xU.mpr hne
    have hw : (toS u).length≤sizeLine := by rw [af];omega
    refine ⟨_, (@au _ _ _ (@aJ _ _ _ _ (@aN _ _ _ _ _ _ _ bY (pv 0) (@aE _ _ _ _ _ _ _ _ cA (@aE _ _ _ _ _ _ _ _ bX (@aN _ _ _ _ _ _ _ aU (pv 1) ar (fun _ _ => rfl)) (@aN _ _ _ _ _ _ _ aU (pv 1) ar (fun _ _ => rfl))) (@av _ _ _ _ _ _ _ _ _ ax (by rfl) T.len xo (@aa _ _ _ _ _ (pv 0) ah (by rfl)) (by decide) (by decide) (by rfl) (by rfl))) (fun _ _ => rfl)))), ?_⟩
    refine ⟨_, rfl, _, rfl, t, _, _, _, rfl, rfl, SqT.of ht, rfl, _, rfl, t, _, _, _, rfl, rfl, SqT.of ht, rfl, _, _, rfl, rfl, _, rfl, _, rfl, hw, _, _, rfl, rfl, (by show (0 : Int) < ((toS u).length : Int);rw [af];omega), ?_⟩
    have h1 := yp ((i : Int)+sd) (show (u.length : Int)≠0 by omega)
    have ha : atI (toS u).cps.toList (((i : Int)+sd) % ((toS u).length : Int))=some (cp (farOf u i sd)) := by
      rw [af]
      exact bM (k := (((i : Int)+sd) % (u.length : Int)).toNat) (by omega) (dv hne i sd)
    exact ⟨_, _, _, rfl, rfl, hw, ha, k⟩
abbrev qZ : Stmt := top 22
theorem tU : aC ["surface", "slide"] ["surface", "slide"] (aj qZ) := ⟨rfl, rfl, rfl, by decide +kernel, rfl, by decide +kernel, by decide +kernel⟩
theorem vm (D : Df K mg "can_slide" qZ)(T : Bt K w mg aB)(F_back : Fnc P w K mg base "back" ["word"] 1 ny)(F_nb : Fnc P w K mg base "neighbour" ["surface", "slide"] 1 tE) : Fnc P w K mg base "can_slide" ["surface", "slide"] 2 jy := by
  have sc := tU
  refine D.ok sc (fun _ _ _ _ _ _ us hl => by obtain ⟨_, _, rfl⟩ := jz hl;rfl) (fun vs H Q E h => ?_) (fun f cdv A outer s H vs Q E hr h => ?_)
  · obtain ⟨u, t, z, sd, rfl, _⟩ := h
    rfl
  · obtain ⟨u, t, z, sd, rfl, ht, hne, hul, k⟩ := h
    have l16 := a9
    have hw : (toS u).length≤sizeLine := by rw [af];omega
    refine ⟨_, (@au _ _ _ (@aJ _ _ _ _ (@oF _ _ _ _ _ _ _ (@mU _ _ _ _ _ _ _ _ _ _ _ _ rX pF ar (@aN _ _ _ _ _ _ _ aU (pv 1) ar (fun _ _ => rfl)) (@av _ _ _ _ _ _ _ _ _ ax (by rfl) T.len xo (@aa _ _ _ _ _ (pv 0) ah (by rfl)) (by decide) (by decide) (by rfl) (by rfl)) (by with_unfolding_all rfl)) (@oE _ _ _ _ _ (@cI _ _ _ _ _ _ _ _ jE (@aH _ _ _ _ _ _ _ _ _ _ _ F_nb hr (by decide) rfl (@aa _ _ _ _ _ (pv 0) (@aa _ _ _ _ _ (pv 1) ah (by rfl)) (by rfl)) (by decide) (by rfl) (by rfl)) (@aH _ _ _ _ _ _ _ _ _ _ _ F_back hr (by decide) rfl (@aa _ _ _ _ _ (@aN _ _ _ _ _ _ _ bY (pv 0) (@aN _ _ _ _ _ _ _ aU (pv 1) ar (fun _ _ => rfl)) (fun _ _ => rfl)) ah (by rfl)) (by decide) (by rfl) (by rfl)) (aT _)))))), ?_⟩
    rcases cn (u := u) (z := z) (sd := sd) with ⟨e0, off⟩ | ⟨i, e, rfl, he⟩
    · rw [e0] at k
      by_cases h0 : 0≤z
      · refine ⟨_, rfl, t, _, _, _, rfl, rfl, SqT.of ht, rfl, _, _, rfl, rfl, _, rfl, mE (xt h0) ?_⟩
        exact ⟨_, rfl, _, rfl, hw, _, _, rfl, rfl, _, rfl, mF (by rw [af];exact xi (by omega)) (k _ (aw.refl _))⟩
      · exact ⟨_, rfl, t, _, _, _, rfl, rfl, SqT.of ht, rfl, _, _, rfl, rfl, _, rfl, mF (xi h0) ⟨_, rfl, mF rfl (k _ (aw.refl _))⟩⟩
    · have hi : i < u.length := (wW.mp he).1
      have ae : atI (toS u).cps.toList (i : Int)=some (cp e) := bM rfl he
      refine ⟨_, rfl, t, _, _, _, rfl, rfl, SqT.of ht, rfl, _, _, rfl, rfl, _, rfl, mE (xt (by omega)) ?_⟩
      refine ⟨_, rfl, _, rfl, hw, _, _, rfl, rfl, _, rfl, mE (by rw [af];exact xt (by omega)) ?_⟩
      refine ⟨_, rfl, _, rfl, u, t, i, sd, rfl, ht, hne, hul, ?_⟩
      refine ⟨_, rfl, _, rfl, t, _, _, _, rfl, rfl, SqT.of ht, rfl, _, _, _, rfl, rfl, hw, ae, [e], rfl, (by show 1≤5000;decide), fun H1 s1 => ⟨rfl, ?_⟩⟩
      show Q (.bl (!decide (tx [farOf u i sd]=tx (bk [e])))) H1
      rw [fj, dD]
      have := k H1 s1
      rw [dH he] at this
      have e2 : (if farOf u i sd=inv e then none else some (sld u e (inv (farOf u i sd)) (decide (sd=1))) : Option (List L)).isSome=!decide ([farOf u i sd]=[inv e]) := by
        by_cases h : farOf u i sd=inv e
        · rw [if_pos h, xt (by rw [h])];rfl
        · rw [if_neg h, xi (show ¬ [farOf u i sd]=[inv e] by simpa using h)];rfl
      rwa [e2] at this
abbrev q8 : Stmt := top 25
theorem tV : aC ["many", "end", "other", "parts", "word"] ["many", "end", "other"] (aj q8) := ⟨rfl, rfl, rfl, by decide +kernel, rfl, by decide +kernel, by decide +kernel⟩
theorem vn (D : Df K mg "putting_ahead" q8)(T : Bt K w mg aB)(S : ∃ t, mg "SMALL" = some (.str "abcdef" t))(F_num : Fnc P w K mg base "number_of" ["letter"] 1 qm)(F_back : Fnc P w K mg base "back" ["word"] 1 ny) : Fnc P w K mg base "putting_ahead" ["many", "end", "other"] 2 qE := by
  have sc := tV
  refine D.ok sc (fun _ _ _ _ _ _ us hl => by obtain ⟨_, _, _, rfl⟩ := um hl;rfl) (fun vs H Q E h => ?_) (fun f cdv A outer s H vs Q E hr h => ?_)
  · obtain ⟨n, e, o, rfl, _⟩ := h
    rfl
  · obtain ⟨n, e, o, rfl, h1, h6, he, k⟩ := h
    have l16 := a9
    obtain ⟨tS, mgS⟩ := S
    have e6 : ("abcdef" : Str).length=6 := by decide +kernel
    have ez : Txt.slice ("abcdef" : Str) none (some (n : Int))=toS (([0, 1, 2, 3, 4, 5] : List L).take n) := by
      rw [← gM, aP, cG _ (by omega), xh]
    have es : L2.bN (toS (([0, 1, 2, 3, 4, 5] : List L).take n))=(ak n).map tx := by
      unfold L2.bN ak
      rw [aZ, x4, x4]
      rfl
    refine ⟨_, (@ai _ _ _ _ _ (@ay _ _ (3) _ _ _ _ sc.nd rfl (Or.inl rfl) (@aG _ _ _ _ _ _ _ _ _ (@br _ rfl) (by rfl) T.list fk (@aa _ _ _ _ _ (@aX _ _ _ _ _ _ _ _ _ _ cF (@bD _ _ (.str "abcdef") _ _ rfl mgS ⟨_, rfl⟩ (by decide)) bc (@bf _ _ _ (pv 0))) ah (by rfl)) (by decide) (by decide) (by rfl) (by rfl)) (by rfl) (by first | exact .inl rfl | exact .inr rfl | assumption)) (@ai _ _ _ _ _ (@ay _ _ (4) _ _ _ _ sc.nd rfl (Or.inl rfl) (@aE _ _ _ _ _ _ _ _ aK (pv 2) (pv 1)) (by rfl) (by first | exact .inl rfl | exact .inr rfl | assumption)) (@ai _ _ _ _ _ (@i8 _ _ _ _ _ _ (@dO _ _ _ _ _ _ _ _ (@cS _ _ _ (@er _ _ _ _ _ _ _ _ _ xr PySem.F.slot_str_islower PySem.F.type_str_islower jV (pv 1) (by rfl) (by rfl)) (fun _ => rfl)) (pv 4) (@aH _ _ _ _ _ _ _ _ _ _ _ F_back hr (by decide) rfl (@aa _ _ _ _ _ (pv 4) ah (by rfl)) (by decide) (by rfl) (by rfl))) (@oG _ _ _ _ _ _ _ (pv 3) (@aH _ _ _ _ _ _ _ _ _ _ _ F_num hr (by decide) rfl (@aa _ _ _ _ _ (pv 1) ah (by rfl)) (by decide) (by rfl) (by rfl)) ja (by intro _ ;rfl)) (by rfl) (by rfl) (by rfl)) (@au _ _ _ (@aJ _ _ _ _ (@aG _ _ _ _ _ _ _ _ _ aY (by rfl) T.tuple bW (@aa _ _ _ _ _ (pv 3) ah (by rfl)) (by decide) (by decide) (by rfl) (by rfl))))))), ?_⟩
    refine ⟨_, rfl, _, rfl, _, rfl, by omega, ?_⟩
    rw [ez]
    refine ⟨_, rfl, (by rw [af, w_];simp;omega), fun l hl => ?_⟩
    rw [es]
    refine ⟨_, rfl, _, rfl, _, _, rfl, rfl, (by rw [af, af];show 1+1≤_;omega), ?_⟩
    rw [az]
    have eF : toS ([o]++[e])=toS [o, e] := rfl
    rw [eF]
    have ix : ixN ((ak n).map tx).length ((e.val % 6 : Nat) : Int)=some (e.val % 6) := by
      unfold ixN
      rw [if_pos (by omega), if_pos (by rw [wV, (aO h6).len];omega), xh]
    have f1 : (upd H l (.lst ((ak n).map tx))) l=some (.lst ((ak n).map tx)) := ag
    have s1 : aw H (upd H l (.lst ((ak n).map tx))) := aw.new hl
    generalize upd H l (.lst ((ak n).map tx))=H1 at f1 s1 ⊢
    have keep : ∀ {H2 : Hp} {o' : HO}, aw H H2 → aw H (upd H2 l o') := fun s b o' e => by rw [ao (aq e hl)];exact s b o' e
    refine ⟨_, rfl, rfl, _, rfl, rfl, _, rfl, ?_⟩
    show if Txt.islower (toS [e])=true then _ else _
    rw [lK]
    refine kH (fun h => ?_) (fun h => ?_)
    · have h : e.val < 6 := by simpa using h
      refine ⟨_, rfl, _, rfl, _, rfl, e, rfl, l, _, _, _, rfl, rfl, f1, ix, ?_⟩
      have em : ((ak n).map tx).set (e.val % 6) (V.str (toS [o, e]))=(putM n e o).map tx := by
        unfold putM
        rw [if_pos h, AK]
        rfl
      rw [em]
      refine ⟨_, rfl, l, _, rfl, .inl ⟨SqL.of ag, fun r hr' => ?_⟩⟩
      have s2 : aw H (upd H1 l (.lst ((putM n e o).map tx))) := keep s1
      exact k r _ (none_of s2 hr') (s2.then hr') ag
    · have h : ¬ e.val < 6 := by simpa using h
      refine ⟨_, rfl, [o, e], rfl, (by show 2≤5000;decide), fun H2 s2 => ?_⟩
      refine ⟨_, rfl, _, rfl, e, rfl, l, _, _, _, rfl, rfl, s2 _ _ f1, ix, ?_⟩
      have em : ((ak n).map tx).set (e.val % 6) (tx (bk [o, e]))=(putM n e o).map tx := by
        unfold putM
        rw [if_neg h, AK]
      rw [em]
      refine ⟨_, rfl, l, _, rfl, .inl ⟨SqL.of ag, fun r hr' => ?_⟩⟩
      have s3 : aw H (upd H2 l (.lst ((putM n e o).map tx))) := keep (s1.trans s2)
      exact k r _ (none_of s3 hr') (s3.then hr') ag
abbrev ml : Stmt := top 20
theorem q_ : aC ["surface", "slide", "end", "many", "beside"] ["surface", "slide"] (aj ml) := ⟨rfl, rfl, rfl, by decide +kernel, rfl, by decide +kernel, by decide +kernel⟩
theorem tW (D : Df K mg "maps_of" ml)(T : Bt K w mg aB)(F_back : Fnc P w K mg base "back" ["word"] 1 ny)(F_can : Fnc P w K mg base "can_slide" ["surface", "slide"] 2 qD)(F_nb : Fnc P w K mg base "neighbour" ["surface", "slide"] 1 tE)(F_put : Fnc P w K mg base "putting_ahead" ["many", "end", "other"] 2 qE) : Fnc P w K mg base "maps_of" ["surface", "slide"] 3 lR := by
  have sc := q_
  refine D.ok sc (fun _ _ _ _ _ _ us hl => by obtain ⟨_, _, rfl⟩ := jz hl;rfl) (fun vs H Q E h => ?_) (fun f cdv A outer s H vs Q E hr h => ?_)
  · obtain ⟨u, t, n, i, sd, e, rfl, _⟩ := h
    rfl
  · obtain ⟨u, t, n, i, sd, e, rfl, ht, R, h1, h6, he, hc, k⟩ := h
    have l16 := a9
    have hi : i < u.length := (wW.mp he).1
    have hne : u≠[] := xU.mp (by omega)
    have hlu := R.len
    have hw : (toS u).length≤sizeLine := by rw [af];omega
    refine ⟨_, (@ai _ _ _ _ _ (@bT _ _ _ _ _ _ _ _ (@i6 _ _ _ _ (@cS _ _ _ (@aH _ _ _ _ _ _ _ _ _ _ _ F_can hr (by decide) rfl (@aa _ _ _ _ _ (pv 0) (@aa _ _ _ _ _ (pv 1) ah (by rfl)) (by rfl)) (by decide) (by rfl) (by rfl)) (fun _ => rfl))) (@au _ _ _ mP) ba) (@ai _ _ _ _ _ (@ay _ _ (2) _ _ _ _ sc.nd rfl (Or.inl rfl) (@aN _ _ _ _ _ _ _ bY (pv 0) (@aN _ _ _ _ _ _ _ aU (pv 1) ar (fun _ _ => rfl)) (fun _ _ => rfl)) (by rfl) (by first | exact .inl rfl | exact .inr rfl | assumption)) (@ai _ _ _ _ _ (@ay _ _ (3) _ _ _ _ sc.nd rfl (Or.inl rfl) (@aE _ _ _ _ _ _ _ _ b_ (@av _ _ _ _ _ _ _ _ _ ax (by rfl) T.len xo (@aa _ _ _ _ _ (pv 0) ah (by rfl)) (by decide) (by decide) (by rfl) (by rfl)) ar) (by rfl) (by first | exact .inl rfl | exact .inr rfl | assumption)) (@ai _ _ _ _ _ (@ay _ _ (4) _ _ _ _ sc.nd rfl (Or.inl rfl) (@aH _ _ _ _ _ _ _ _ _ _ _ F_nb hr (by decide) rfl (@aa _ _ _ _ _ (pv 0) (@aa _ _ _ _ _ (pv 1) ah (by rfl)) (by rfl)) (by decide) (by rfl) (by rfl)) (by rfl) (by first | exact .inl rfl | exact .inr rfl | assumption)) (@au _ _ _ (@aJ _ _ _ _ (@bt _ _ _ _ _ (@aa _ _ _ _ _ (@aH _ _ _ _ _ _ _ _ _ _ _ F_put hr (by decide) rfl (@aa _ _ _ _ _ (pv 3) (@aa _ _ _ _ _ (pv 2) (@aa _ _ _ _ _ (pv 4) ah (by rfl)) (by rfl)) (by rfl)) (by decide) (by rfl) (by rfl)) (@aa _ _ _ _ _ (@aH _ _ _ _ _ _ _ _ _ _ _ F_put hr (by decide) rfl (@aa _ _ _ _ _ (pv 3) (@aa _ _ _ _ _ (pv 2) (@aa _ _ _ _ _ (@aH _ _ _ _ _ _ _ _ _ _ _ F_back hr (by decide) rfl (@aa _ _ _ _ _ (pv 4) ah (by rfl)) (by decide) (by rfl) (by rfl)) ah (by rfl)) (by rfl)) (by rfl)) (by decide) (by rfl) (by rfl)) ah (by rfl)) (by rfl))))))))), ?_⟩
    refine ⟨_, rfl, _, rfl, u, t, i, sd, e, rfl, ht, by omega, he, fun H1 s1 => ?_⟩
    refine ⟨_, rfl, mF (by rw [xi hc];rfl) ?_⟩
    have ht1 := s1 _ _ ht
    have ae : atI (toS u).cps.toList (i : Int)=some (cp e) := bM rfl he
    have en : ((toS u).length : Int) / 2=(n : Int) := by rw [af];omega
    refine ⟨_, rfl, _, rfl, t, _, _, _, rfl, rfl, SqT.of ht1, rfl, _, _, _, rfl, rfl, hw, ae, ?_⟩
    refine ⟨_, rfl, _, rfl, hw, _, _, rfl, rfl, ⟨by decide, by decide⟩, ?_⟩
    rw [en]
    refine ⟨_, rfl, _, rfl, u, t, i, sd, rfl, ht1, hne, by omega, ?_⟩
    have hen := R.ins e (xj he)
    refine ⟨_, rfl, _, rfl, _, rfl, n, e, farOf u i sd, rfl, h1, h6, hen, fun ra H2 _ s2 ha => ?_⟩
    refine ⟨_, rfl, _, rfl, _, rfl, [farOf u i sd], rfl, (by show 1≤5000;decide), fun H3 s3 => ?_⟩
    refine ⟨n, e, inv (farOf u i sd), rfl, h1, h6, hen, fun rb H4 _ s4 hb => ?_⟩
    refine ⟨(aD (n := 2) (by decide)), fun r hr' => ?_⟩
    have s5 := s1.trans (s2.trans (s3.trans s4))
    exact k r ra rb _ (none_of s5 hr') (s5.then hr') ag ((aw.new hr') _ _ (s4 _ _ (s3 _ _ ha))) ((aw.new hr') _ _ hb)
end
end Kx
namespace Kx
open PySem PySem.Spec PyProof.Rows L2 Wd
section
variable {P : Program} {w : World} {K : PySem.W.Frag} {mg : Str → Option Value} {base : Heap} {aB : Addr}
theorem oj {u : List L}{e g : L}(nd : u.Nodup)(he : e∈u)(hg : g∈u)(ne : g≠e) : g∈u.filter (fun x => decide (x≠e)) ∧
    ∀ b : Bool, ((u.filter (fun x => decide (x≠e))).take ((u.filter (fun x => decide (x≠e))).idxOf g+(if b then 1 else 0)))++[e]++((u.filter (fun x => decide (x≠e))).drop ((u.filter (fun x => decide (x≠e))).idxOf g+(if b then 1 else 0)))=sld u e g b := by
  refine ⟨AD.mpr ⟨hg, xt ne⟩, fun b => ?_⟩
  obtain ⟨A, B, C, D, rfl, e1, e2⟩ := hG nd he hg ne b
  have nd2 : (e::(A++B)).Nodup := (AA.nodup_iff).mp nd
  have ni := (yf.mp nd2).1
  have nd3 := (yf.mp nd2).2
  have ef : (A++e::B).filter (fun x => decide (x≠e))=C++g::D := by
    rw [List.filter_append, Au (by simp), ← List.filter_append, e1]
    refine List.filter_eq_self.mpr fun x hx => xt fun z => ?_
    subst z
    exact ni (by rw [e1];exact hx)
  rw [e1] at nd3
  have nd4 : (g::(C++D)).Nodup := (AA.nodup_iff).mp nd3
  have ng := (yf.mp nd4).1
  have ei : (C++g::D).idxOf g=C.length := by
    rw [List.idxOf_append, if_neg (fun h => ng (xW _ h)), List.idxOf_cons_self, Nat.zero_add]
  rw [ef, e2, ei]
  cases b with
  | true =>
    rw [if_pos rfl, if_pos rfl]
    have : C++g::D=(C++[g])++D := by simp
    have hl : C.length+1=(C++[g]).length := by simp
    rw [this, hl, List.take_left, List.drop_left]
    simp
  | false =>
    rw [if_neg (by decide), if_neg (by decide), AZ, List.take_left, List.drop_left]
    simp
abbrev iY : Stmt := top 24
theorem om : aC ["surface", "slide", "end", "left", "place"] ["surface", "slide"] (aj iY) := ⟨rfl, rfl, rfl, by decide +kernel, rfl, by decide +kernel, by decide +kernel⟩
theorem rf (D : Df K mg "moved" iY)(T : Bt K w mg aB)(F_back : Fnc P w K mg base "back" ["word"] 1 ny)(F_nb : Fnc P w K mg base "neighbour" ["surface", "slide"] 1 tE) : Fnc P w K mg base "moved" ["surface", "slide"] 2 iR := by
  have sc := om
  refine D.ok sc (fun _ _ _ _ _ _ us hl => by obtain ⟨_, _, rfl⟩ := jz hl;rfl) (fun vs H Q E h => ?_) (fun f cdv A outer s H vs Q E hr h => ?_)
  · obtain ⟨u, t, i, sd, e, rfl, _⟩ := h
    rfl
  · obtain ⟨u, t, i, sd, e, rfl, ht, nd, hul, hg, he, hc, k⟩ := h
    have l16 := a9
    have hi : i < u.length := (wW.mp he).1
    have hne : u≠[] := xU.mp (by omega)
    refine ⟨_, (@lU _ (0) (1) (2) (3) _ _ _ _ _ _ _ _ _ _ _ _ _ _ _ _ _ _ _ _ _ _ sc.nd rfl rfl rfl rfl rfl rfl rfl rfl (by decide) (fun _ _ => rfl) (fun _ _ => rfl) (@ai _ _ _ _ _ (@ay _ _ (4) _ _ _ _ sc.nd rfl (Or.inl rfl) (@cJ _ _ _ _ _ _ _ _ _ _ _ _ xr AB AC jk (pv 3) (@aa _ _ _ _ _ (@aH _ _ _ _ _ _ _ _ _ _ _ F_back hr (by decide) rfl (@aa _ _ _ _ _ (@aH _ _ _ _ _ _ _ _ _ _ _ F_nb hr (by decide) rfl (@aa _ _ _ _ _ (pv 0) (@aa _ _ _ _ _ (pv 1) ah (by rfl)) (by rfl)) (by decide) (by rfl) (by rfl)) ah (by rfl)) (by decide) (by rfl) (by rfl)) ah (by rfl)) (by rfl) (by rfl) (by rfl) (by rfl) (by rfl)) (by rfl) (by first | exact .inl rfl | exact .inr rfl | assumption)) (@ai _ _ _ _ _ (@bT _ _ _ _ _ _ _ _ (@aM _ _ _ _ _ _ _ _ d7 (@aN _ _ _ _ _ _ _ aU (pv 1) ar (fun _ _ => rfl)) ar (aT _)) (@au _ _ _ (@rR _ _ (4) _ _ _ _ _ _ sc.nd rfl (Or.inl rfl) ar rS (by first | exact .inl rfl | exact .inr rfl | assumption))) ba) (@au _ _ _ (@aJ _ _ _ _ (@aE _ _ _ _ _ _ _ _ aK (@aE _ _ _ _ _ _ _ _ aK (@aX _ _ _ _ _ _ _ _ _ _ cF (pv 3) bc (@bf _ _ _ (pv 4))) (pv 2)) (@aX _ _ _ _ _ _ _ _ _ _ cF (pv 3) (@bf _ _ _ (pv 4)) bc)))))) (by rfl) (by rfl) (by decide) (by decide) (by decide) (by decide) (by decide) (by rfl) (by rfl) (by rfl) (by rfl)), ?_⟩
    refine ⟨toS u, t, (i : Int), [.int sd], cp e, rfl, rfl, ht, by rw [af];omega, bM rfl he, ?_⟩
    rw [jW]
    have ne' : inv (farOf u i sd)≠e := fun z => hc (by rw [← z, bp])
    obtain ⟨hm, hb⟩ := oj nd (xj he) hg ne'
    have hfl : (u.filter (fun x => decide (x≠e))).length≤u.length := List.length_filter_le _ _
    generalize u.filter (fun x => decide (x≠e))=l at hm hb hfl ⊢
    obtain ⟨rest, ho⟩ := tB hm
    refine ⟨_, rfl, rfl, _, rfl, _, rfl, u, t, i, sd, rfl, ht, hne, by omega, [farOf u i sd], rfl, (by show 1≤5000;decide), fun H2 s2 => ?_⟩
    rw [dD]
    refine ⟨_, _, _, rest, rfl, rfl, ho, ?_⟩
    have ht2 := s2 _ _ ht
    have hwl : (toS l).length≤sizeLine := by rw [af];omega
    have hil : l.idxOf (inv (farOf u i sd)) < l.length := List.idxOf_lt_length_iff.mpr hm
    generalize inv (farOf u i sd)=g at hb hil k ⊢
    refine ⟨_, rfl, t, _, _, _, rfl, rfl, SqT.of ht2, rfl, rfl, _, rfl, ?_⟩
    by_cases hs : sd=1
    · refine mE (xt (xH V.int hs)) ?_
      have hb := hb true
      rw [if_pos rfl] at hb
      rw [xt hs] at k
      have e1 : (l.idxOf g : Int)+1=((l.idxOf g+1 : Nat) : Int) := by omega
      refine ⟨_, rfl, _, _, rfl, rfl, ?_⟩
      refine ⟨_, rfl, _, rfl, _, rfl, _, rfl, hwl, _, rfl, _, _, rfl, rfl, ?_, _, rfl, _, rfl, _, rfl, _, rfl, hwl, _, _, rfl, rfl, ?_, ?_⟩
      all_goals rw [show ((fun i j : Int => i+j) (l.idxOf g : Int) 1)=((l.idxOf g+1 : Nat) : Int) from e1, aP, cG _ (by omega), xh, dE]
      · rw [af, af, w_];show _+1≤_;omega
      · rw [aP, dW _ (by omega), xh, az, af, af, wY, w_, yb];show _+1+_≤_;omega
      · rw [aP, dW _ (by omega), xh, az, az, hb]
        exact k _ s2
    · refine mF (xi (fun z => hs (V.int.inj z))) ?_
      have hb := hb false
      rw [if_neg (by decide), AZ] at hb
      rw [xi hs] at k
      refine ⟨_, rfl, _, rfl, _, rfl, _, rfl, hwl, _, rfl, _, _, rfl, rfl, ?_, _, rfl, _, rfl, _, rfl, _, rfl, hwl, _, _, rfl, rfl, ?_, ?_⟩
      all_goals rw [aP, cG _ (by omega), xh, dE]
      · rw [af, af, w_];show _+1≤_;omega
      · rw [aP, dW _ (by omega), xh, az, af, af, wY, w_, yb];show _+1+_≤_;omega
      · rw [aP, dW _ (by omega), xh, az, az, hb]
        exact k _ s2
end
end Kx
namespace Kx
open PySem PySem.Spec PyProof.Rows L2 Wd
theorem fz {α : Type} : ∀ {xs : List α} {k : Nat} {x : α}, xs[k]? = some x → xs.Perm (x::xs.eraseIdx k)
  | [], k, x, h => by simp at h
  | y::r, 0, x, h => by simp at h;subst h;exact List.Perm.refl _
  | y::r, k+1, x, h => by
    have := fz (xs := r) (k := k) (x := x) (by simpa using h)
    exact (List.Perm.cons y this).trans (List.Perm.swap _ _ _)
theorem rg {H : Hp}{d l : Addr}{z : Str}{o : HO}{xs : List V}(F : Fd H d)(h : H l=some (.lst xs))(n : l≠d)(hx : V.str z∈xs) : Fd (L2.upd H l o) d := by
  obtain ⟨c, i, ll, t, ns, h1, h2, h3, h4⟩ := F.ex
  have hc : c≠l := fun e => by
    subst e
    rw [h2] at h
    have h := HO.lst.inj (w4 h)
    rw [← h] at hx
    obtain ⟨k, _, e⟩ := yX.mp hx
    cases e
  exact ⟨c, i, ll, t, ns, by rw [ao (fun e => n e.symm)];exact h1, by rw [ao hc];exact h2, h3, h4⟩
theorem jZ (W : List L) : L2.bN (toS W)=eJ W := by
  unfold L2.bN eJ
  rw [aZ, x4]
  rfl
theorem hX {α β : Type}(g : α → β) : ∀ (xs : List α) (k : Nat), (xs.map g).eraseIdx k=(xs.eraseIdx k).map g
  | [], k => by simp
  | x::r, 0 => by simp
  | x::r, k+1 => by
    rw [xM, zh, zh, xM, hX g r k]
theorem j0 (W : List L)(k : Nat) : (eJ W).eraseIdx k=eJ (W.eraseIdx k) := hX _ W k
section
variable {P : Program} {w : World} {K : PySem.W.Frag} {mg : Str → Option Value} {base : Heap} {aB : Addr}
abbrev mn : Stmt := top 31
theorem rh : aC ["_law_feed_here", "_law_many", "_law_left", "_law_found", "_law_k"] ["_law_feed_here", "_law_many"] (aj mn) := ⟨rfl, rfl, rfl, by decide +kernel, rfl, by decide +kernel, by decide +kernel⟩
theorem tX (D : Df K mg "_law_surface" mn)(T : Bt K w mg aB)(F_draw : Fnc P w K mg base "_law_draw" ["_law_feed_here", "_law_many"] 1 eG) : Fnc P w K mg base "_law_surface" ["_law_feed_here", "_law_many"] 2 iQ := by
  have sc := rh
  refine D.ok sc (fun _ _ _ _ _ _ us hl => by obtain ⟨_, _, rfl⟩ := jz hl;rfl) (fun vs H Q E h => ?_) (fun f cdv A outer s H vs Q E hr h => ?_)
  · obtain ⟨d, n, rfl, _⟩ := h
    rfl
  · obtain ⟨d, n, rfl, F, h1, h6, k⟩ := h
    have l16 := a9
    refine ⟨_, (@ai _ _ _ _ _ (@ay _ _ (2) _ _ _ _ sc.nd rfl (Or.inl rfl) (@aG _ _ _ _ _ _ _ _ _ (@br _ rfl) (by rfl) T.list fk (@aa _ _ _ _ _ (@aE _ _ _ _ _ _ _ _ aK (@aX _ _ _ _ _ _ _ _ _ _ cF aA bc (@bf _ _ _ (pv 1))) (@aX _ _ _ _ _ _ _ _ _ _ cF aA bc (@bf _ _ _ (pv 1)))) ah (by rfl)) (by decide) (by decide) (by rfl) (by rfl)) (by rfl) (by first | exact .inl rfl | exact .inr rfl | assumption)) (@ai _ _ _ _ _ (@ay _ _ (3) _ _ _ _ sc.nd rfl (Or.inl rfl) aA (by rfl) (by first | exact .inl rfl | exact .inr rfl | assumption)) (@ai _ _ _ _ _ (@bO _ _ _ _ _ _ _ _ x5 rfl (@cQ _ _ _ _ _ _ rfl T.range (@aa _ _ _ _ _ (@aE _ _ _ _ _ _ _ _ e_ ar (pv 1)) ah (by rfl)) (by rfl)) (@aI _ _ (4) _ sc.nd rfl (Or.inl rfl) (by first | exact .inl rfl | exact .inr rfl | assumption)) (@au _ _ _ (@ay _ _ (3) _ _ _ _ sc.nd rfl (Or.inl rfl) (@aE _ _ _ _ _ _ _ _ aK (pv 3) (@cJ _ _ _ _ _ _ _ _ _ _ _ _ xV PySem.F.slot_list_pop PySem.F.type_list_pop m5 (pv 2) (@aa _ _ _ _ _ (@aH _ _ _ _ _ _ _ _ _ _ _ F_draw hr (by decide) rfl (@aa _ _ _ _ _ (pv 0) (@aa _ _ _ _ _ (@av _ _ _ _ _ _ _ _ _ bg (by rfl) T.len xo (@aa _ _ _ _ _ (pv 2) ah (by rfl)) (by decide) (by decide) (by rfl) (by rfl)) ah (by rfl)) (by rfl)) (by decide) (by rfl) (by rfl)) ah (by rfl)) (by rfl) (by rfl) (by rfl) (by rfl) (by rfl))) (by rfl) (by first | exact .inl rfl | exact .inr rfl | assumption))) (by intro _ ;rfl)) (@au _ _ _ (@aJ _ _ _ _ (pv 3)))))), ?_⟩
    refine ⟨_, rfl, _, rfl, _, rfl, (by rw [oY];omega), _, rfl, _, rfl, _, rfl, (by rw [oZ];omega), _, _, rfl, rfl, ?_, ?_⟩
    · have q1 := zH ("abcdef" : Str) none (some (n : Int))
      have q2 := zH ("ABCDEF" : Str) none (some (n : Int))
      rw [oY] at q1
      rw [oZ] at q2
      omega
    rw [nz (by omega)]
    have hsl : (sg (n : Int)).length=2*n := by rw [k8 (by omega) (by omega)];omega
    refine ⟨_, rfl, (by rw [af, hsl];omega), fun l hl => ?_⟩
    rw [jZ]
    have nl := F.ne hl
    refine ⟨_, rfl, _, _, rfl, rfl, (Or.inl ⟨by decide, by decide⟩), ?_⟩
    refine ⟨_, rfl, by omega, by omega, ?_⟩
    rw [show ((2 : Int)*(n : Int)).toNat=2*n by omega]
    refine cR (lo := 0) (n := 2*n) (fun i σ H' => ∃ (v : Option V) (W left : List L), σ = [some (.ref d), some (.int (n : Int)), some (.ref l), some (tx W), v] ∧ H' l=some (.lst (eJ left)) ∧ (W++left).Perm (sg (n : Int)) ∧ W.length=i ∧ Fd H' d ∧ bA d H H') ⟨none, [], sg (n : Int), (by rw [jh];rfl), ag, List.Perm.refl _, rfl, F.new hl, (aw.new hl).b⟩ ?_ ?_
    · rintro i σ H1 hi ⟨v, W, left, rfl, f1, pW, hW, F1, sb1⟩
      have hll : left.length=2*n - i := by
        have := pW.length_eq
        rw [wY, hW, hsl] at this
        omega
      refine ⟨_, rfl, _, rfl, .inl ⟨rfl, _, SqL.of f1⟩, _, rfl, _, rfl, l, _, rfl, .inl (SqL.of f1), d, _, rfl, F1, by rw [bw];omega, by rw [bw];omega, fun r H2 r0 r1 F2 sb2 => ?_⟩
      rw [bw] at r1
      have f2 := sb2 _ _ nl f1
      have hrk : r.toNat < left.length := by omega
      have gy : left[r.toNat]? = some left[r.toNat] := xf hrk
      generalize left[r.toNat]=y at gy
      refine ⟨l, _, r, r.toNat, tx [y], rfl, rfl, f2, by omega, by omega, (iu (by unfold ixN;rw [if_pos r0, if_pos (by rw [bw];omega)])).1, (by unfold eJ;rw [xq, gy];rfl), ?_⟩
      rw [j0]
      refine ⟨_, _, rfl, rfl, (by rw [af, af];show _+1≤_;omega), ?_⟩
      rw [az]
      have hy : V.str (toS [y])∈eJ left := by
        unfold eJ
        exact yX.mpr ⟨y, xj gy, rfl⟩
      refine ⟨_, W++[y], left.eraseIdx r.toNat, rfl, ag, ?_, by rw [wY, hW];rfl, rg F2 f2 nl hy, fun b o n' e => ?_⟩
      · refine List.Perm.trans ?_ pW
        rw [Al]
        exact List.Perm.append_left W (fz gy).symm
      · rw [ao (aq e hl)]
        exact sb2 _ _ n' (sb1 _ _ n' e)
    · rintro σ H1 ⟨v, W, left, rfl, f1, pW, hW, F1, sb1⟩
      have hll : left.length=0 := by
        have := pW.length_eq
        rw [wY, hW, hsl] at this
        omega
      have : left=[] := zJ hll
      subst this
      rw [x_] at pW
      have pW' : W.Perm (([0, 1, 2, 3, 4, 5] : List L).take n++([6, 7, 8, 9, 10, 11] : List L).take n) := by
        unfold sg at pW
        rwa [xh] at pW
      refine ⟨_, rfl, k W _ (nU h1 h6 pW') (fun x hx => pW'.mem_iff.mpr (tD h6 hx)) F1 sb1⟩
end
end Kx
namespace Kx
open PySem PySem.Spec PyProof.Rows L2 Wd
section
variable {P : Program} {w : World} {K : PySem.W.Frag} {mg : Str → Option Value} {base : Heap} {aB : Addr}
theorem oo (l : List L)(e g x : L)(b : Bool) : sld (l++[x]) e g b=sld l e g b++(if x=g then (if b then [x, e] else [e, x]) else if x=e then [] else [x]) := by
  unfold sld
  rw [y8, zD, List.flatMap_nil, x_]
theorem mq (e g : L)(b : Bool) : ∀ l : List L, (sld l e g b).length≤2*l.length
  | [] => xQ _
  | x::r => by
    have ih := mq e g b r
    have : sld (x::r) e g b=(if x=g then (if b then [x, e] else [e, x]) else if x=e then [] else [x])++sld r e g b := rfl
    rw [this, wY, xu]
    have : (if x=g then (if b then [x, e] else [e, x]) else if x=e then [] else [x] : List L).length≤2 := by
      split
      · cases b <;> exact wX _
      · split
        · exact xQ _
        · show 1≤2
          decide
    omega
theorem rj {α : Type}(a b : α)(sd : Int) : atI [a, b] (if decide (V.int sd=V.int 1)=true then 1 else 0)=some (if decide (sd=1)=true then b else a) := by
  by_cases h : sd=1
  · rw [xt (xH V.int h), xt h];rfl
  · rw [xi (fun z => h (V.int.inj z)), xi h];rfl
abbrev mr : Stmt := top 32
theorem rl : aC ["_law_row", "_law_place", "_law_side", "_law_goal", "_law_found", "_law_sign"] ["_law_row", "_law_place", "_law_side"] (aj mr) := ⟨rfl, rfl, rfl, by decide +kernel, rfl, by decide +kernel, by decide +kernel⟩
theorem tY (D : Df K mg "_law_slid" mr)(T : Bt K w mg aB)(F_lback : Fnc P w K mg base "_law_back" ["_law_word"] 1 ny) : Fnc P w K mg base "_law_slid" ["_law_row", "_law_place", "_law_side"] 2 eR := by
  have sc := rl
  refine D.ok sc (fun _ _ _ _ _ _ us hl => by obtain ⟨_, _, _, rfl⟩ := um hl;rfl) (fun vs H Q E h => ?_) (fun f cdv A outer s H vs Q E hr h => ?_)
  · obtain ⟨u, z, sd, rfl, _⟩ := h
    rfl
  · obtain ⟨u, z, sd, rfl, hne, hul, k⟩ := h
    have l16 := a9
    have hw : (toS u).length≤sizeLine := by rw [af];omega
    refine ⟨_, (@ai _ _ _ _ _ (@bT _ _ _ _ _ _ _ _ (@PW.pt _ _ _ (@pB _ _ _ _ _ _ _ (@i6 _ _ _ _ (@mV _ _ _ _ _ _ _ _ _ _ _ _ rX pF ar (pv 1) (@av _ _ _ _ _ _ _ _ _ ax (by rfl) T.len xo (@aa _ _ _ _ _ (pv 0) ah (by rfl)) (by decide) (by decide) (by rfl) (by rfl)) (by with_unfolding_all rfl))) (@j_ _ _ _ _ (@aM _ _ _ _ _ _ _ _ d7 (@aN _ _ _ _ _ _ _ bY (pv 0) (@aE _ _ _ _ _ _ _ _ cA (@aE _ _ _ _ _ _ _ _ bX (pv 1) (pv 2)) (@av _ _ _ _ _ _ _ _ _ ax (by rfl) T.len xo (@aa _ _ _ _ _ (pv 0) ah (by rfl)) (by decide) (by decide) (by rfl) (by rfl))) (fun _ _ => rfl)) (@aH _ _ _ _ _ _ _ _ _ _ _ F_lback hr (by decide) rfl (@aa _ _ _ _ _ (@aN _ _ _ _ _ _ _ bY (pv 0) (pv 1) (fun _ _ => rfl)) ah (by rfl)) (by decide) (by rfl) (by rfl)) (aT _))))) (@au _ _ _ (@aJ _ _ _ _ gj)) ba) (@ai _ _ _ _ _ (@ay _ _ (3) _ _ _ _ sc.nd rfl (Or.inl rfl) (@aH _ _ _ _ _ _ _ _ _ _ _ F_lback hr (by decide) rfl (@aa _ _ _ _ _ (@aN _ _ _ _ _ _ _ bY (pv 0) (@aE _ _ _ _ _ _ _ _ cA (@aE _ _ _ _ _ _ _ _ bX (pv 1) (pv 2)) (@av _ _ _ _ _ _ _ _ _ ax (by rfl) T.len xo (@aa _ _ _ _ _ (pv 0) ah (by rfl)) (by decide) (by decide) (by rfl) (by rfl))) (fun _ _ => rfl)) ah (by rfl)) (by decide) (by rfl) (by rfl)) (by rfl) (by first | exact .inl rfl | exact .inr rfl | assumption)) (@ai _ _ _ _ _ (@ay _ _ (4) _ _ _ _ sc.nd rfl (Or.inl rfl) aA (by rfl) (by first | exact .inl rfl | exact .inr rfl | assumption)) (@ai _ _ _ _ _ (@bO _ _ _ _ _ _ _ _ x5 rfl (@fg _ _ _ _ (pv 0)) (@aI _ _ (5) _ sc.nd rfl (Or.inl rfl) (by first | exact .inl rfl | exact .inr rfl | assumption)) (@au _ _ _ (@bT _ _ _ _ _ _ _ _ (@aM _ _ _ _ _ _ _ _ d7 (pv 5) (pv 3) (aT _)) (@au _ _ _ (@ay _ _ (4) _ _ _ _ sc.nd rfl (Or.inl rfl) (@aE _ _ _ _ _ _ _ _ aK (pv 4) (@aN _ _ _ _ _ _ _ bU (@bI _ _ _ _ (@aa _ _ _ _ _ (@aE _ _ _ _ _ _ _ _ aK (@aN _ _ _ _ _ _ _ bY (pv 0) (pv 1) (fun _ _ => rfl)) (pv 5)) (@aa _ _ _ _ _ (@aE _ _ _ _ _ _ _ _ aK (pv 5) (@aN _ _ _ _ _ _ _ bY (pv 0) (pv 1) (fun _ _ => rfl))) ah (by rfl)) (by rfl))) (@aG _ _ _ _ _ _ _ _ _ d_ (by rfl) T.int qk (@aa _ _ _ _ _ (@cI _ _ _ _ _ _ _ _ d7 (pv 2) ar (aT _)) ah (by rfl)) (by decide) (by decide) (by rfl) (by rfl)) (fun _ _ => rfl))) (by rfl) (by first | exact .inl rfl | exact .inr rfl | assumption))) (@au _ _ _ (@bT _ _ _ _ _ _ _ _ (@aM _ _ _ _ _ _ _ _ jE (pv 5) (@aN _ _ _ _ _ _ _ bY (pv 0) (pv 1) (fun _ _ => rfl)) (aT _)) (@au _ _ _ (@ay _ _ (4) _ _ _ _ sc.nd rfl (Or.inl rfl) (@aE _ _ _ _ _ _ _ _ aK (pv 4) (pv 5)) (by rfl) (by first | exact .inl rfl | exact .inr rfl | assumption))) ba)))) (by intro _ ;rfl)) (@au _ _ _ (@aJ _ _ _ _ (pv 4))))))), ?_⟩
    rcases cn (u := u) (z := z) (sd := sd) with ⟨e0, off⟩ | ⟨i, e, rfl, he⟩
    · rw [e0] at k
      by_cases h0 : 0≤z
      · refine ⟨_, rfl, _, _, rfl, rfl, _, rfl, mE (xt h0) ?_⟩
        exact ⟨_, rfl, _, rfl, hw, _, _, rfl, rfl, _, rfl, mE (by rw [af, xi (by omega)];rfl) (k _ (aw.refl _))⟩
      · exact ⟨_, rfl, _, _, rfl, rfl, _, rfl, mF (xi h0) ⟨_, rfl, vS (qK (k _ (aw.refl _)))⟩⟩
    have k1 : ∀ H', aw H H' → farOf u i sd=inv e → Q .non H' := fun H' s' h => by
      have := k H' s'
      rw [dH he, if_pos h] at this
      exact this
    have k2 : ∀ H', aw H H' → farOf u i sd≠inv e → Q (tx (sld u e (inv (farOf u i sd)) (decide (sd=1)))) H' := fun H' s' h => by
      have := k H' s'
      rw [dH he, if_neg h] at this
      exact this
    have hi : i < u.length := (wW.mp he).1
    have ae : atI (toS u).cps.toList (i : Int)=some (cp e) := bM rfl he
    have h1 := yp ((i : Int)+sd) (show (u.length : Int)≠0 by omega)
    have ha : atI (toS u).cps.toList (((i : Int)+sd) % ((toS u).length : Int))=some (cp (farOf u i sd)) := by
      rw [af]
      exact bM (k := (((i : Int)+sd) % (u.length : Int)).toNat) (by omega) (dv hne i sd)
    have hp : (fun x j : Int => 0 < j) ((i : Int)+sd) ((toS u).length : Int) := by show (0 : Int) < ((toS u).length : Int);rw [af];omega
    refine ⟨_, rfl, _, _, rfl, rfl, _, rfl, mE (xt (by omega)) ?_⟩
    refine ⟨_, rfl, _, rfl, hw, _, _, rfl, rfl, _, rfl, mF (by rw [af, xt (by omega)];rfl) ?_⟩
    refine ⟨_, rfl, _, rfl, _, rfl, _, _, rfl, rfl, _, rfl, _, rfl, hw, _, _, rfl, rfl, hp, _, _, _, rfl, rfl, hw, ha, ?_⟩
    refine ⟨_, rfl, _, rfl, _, _, _, rfl, rfl, hw, ae, [e], rfl, (by show 1≤5000;decide), fun H1 s1 => ⟨rfl, _, rfl, ?_⟩⟩
    show if decide (tx [farOf u i sd]=tx (bk [e]))=true then _ else _
    rw [fj, dD]
    refine kH (fun h => ?_) (fun h => ?_)
    · have h : farOf u i sd=inv e := by simpa using h
      exact k1 _ s1 h
    · have h : ¬ farOf u i sd=inv e := by simpa using h
      refine ⟨_, rfl, _, rfl, _, rfl, _, _, rfl, rfl, _, rfl, _, rfl, hw, _, _, rfl, rfl, hp, _, _, _, rfl, rfl, hw, ha, [farOf u i sd], rfl, (by show 1≤5000;decide), fun H2 s2 => ?_⟩
      rw [dD]
      refine ⟨_, rfl, _, rfl, eC (z := toS u) (fun j σ H' => ∃ (v : Option V), σ = [some (tx u), some (.int (i : Int)), some (.int sd), some (tx [inv (farOf u i sd)]), some (tx (sld (u.take j) e (inv (farOf u i sd)) (decide (sd=1)))), v] ∧ aw H H') ⟨none, rfl, s1.trans s2⟩ ?_ ?_⟩
      · rintro j c σ H3 hc ⟨v, rfl, s3⟩
        obtain ⟨x, hx, ex⟩ := cL hc
        rw [ex]
        have hj : j < u.length := (wW.mp hx).1
        have hz := mq e (inv (farOf u i sd)) (decide (sd=1)) (u.take j)
        have hz2 : (u.take j).length≤12 := by rw [w_];omega
        have eS := oo (u.take j) e (inv (farOf u i sd)) x (decide (sd=1))
        rw [← bG hx] at eS
        rw [eS]
        generalize sld (u.take j) e (inv (farOf u i sd)) (decide (sd=1))=Z at hz ⊢
        generalize inv (farOf u i sd)=g
        refine ⟨_, rfl, _, rfl, rfl, _, rfl, ?_⟩
        show if decide (tx [x]=tx [g])=true then _ else _
        rw [fj]
        refine kH (fun h => ?_) (fun h => ?_)
        · have h : x=g := by simpa using h
          refine ⟨_, rfl, _, rfl, _, rfl, _, _, _, rfl, rfl, hw, ae, _, rfl, _, _, rfl, rfl, (by rw [af];show 1+1≤_;omega), ?_⟩
          refine ⟨_, rfl, _, rfl, _, rfl, _, _, _, rfl, rfl, hw, ae, _, _, rfl, rfl, (by rw [af];show 1+1≤_;omega), (aD (n := 2) (by decide)), fun p hp => ?_⟩
          refine ⟨_, rfl, rfl, .inr ⟨_, rfl, p, _, _, _, rfl, rfl, SqL.of ag, rj _ _ sd, ?_⟩⟩
          rw [if_pos h]
          cases decide (sd=1) with
          | true =>
            refine ⟨_, _, rfl, rfl, (by rw [dE, az, af, af, wY];show _+(1+1)≤_;omega), ?_⟩
            rw [dE, az, az]
            exact ⟨_, rfl, s3.then hp⟩
          | false =>
            refine ⟨_, _, rfl, rfl, (by rw [dE, az, af, af, wY];show _+(1+1)≤_;omega), ?_⟩
            rw [dE, az, az]
            exact ⟨_, rfl, s3.then hp⟩
        · have h : ¬ x=g := by simpa using h
          rw [if_neg h]
          refine ⟨_, rfl, _, rfl, _, rfl, _, _, _, rfl, rfl, hw, ae, rfl, _, rfl, ?_⟩
          show if (!decide (tx [x]=tx [e]))=true then _ else _
          rw [fj]
          refine kH (fun h2 => ?_) (fun h2 => ?_)
          · have h2 : ¬ x=e := by simpa using h2
            rw [if_neg h2]
            refine ⟨_, rfl, _, rfl, _, _, rfl, rfl, (by rw [af, af];show _+1≤_;omega), ?_⟩
            rw [az]
            exact ⟨_, rfl, s3⟩
          · have h2 : x=e := by simpa using h2
            rw [if_pos h2, x_]
            exact ⟨_, rfl, s3⟩
      · rintro σ H3 ⟨v, rfl, s3⟩
        rw [bq, yi]
        exact ⟨_, rfl, k2 _ s3 h⟩
end
end Kx
namespace Kx
open PySem PySem.Spec PyProof.Rows L2 Wd
section
variable {P : Program} {w : World} {K : PySem.W.Frag} {mg : Str → Option Value} {base : Heap} {aB : Addr}
abbrev eX : Stmt := top 33
theorem j3 : aC ["_law_change", "_law_word", "_law_found", "_law_sign", "_law_own"] ["_law_change", "_law_word"] (aj eX) := ⟨rfl, rfl, rfl, by decide +kernel, rfl, by decide +kernel, by decide +kernel⟩
theorem mv (D : Df K mg "_law_mapped" eX)(F_lback : Fnc P w K mg base "_law_back" ["_law_word"] 1 jX)(F_lred : Fnc P w K mg base "_law_reduced" ["_law_word"] 2 hU) : Fnc P w K mg base "_law_mapped" ["_law_change", "_law_word"] 3 cq := by
  have sc := j3
  refine D.ok sc (fun _ _ _ _ _ _ us hl => by obtain ⟨_, _, rfl⟩ := jz hl;rfl) (fun vs H Q E h => ?_) (fun f cdv A outer s H vs Q E hr h => ?_)
  · obtain ⟨p, u, n, b, ws, rfl, _⟩ := h
    rfl
  · obtain ⟨p, u, n, b, ws, rfl, M, n6, hin, hul, hlen, hb, k⟩ := h
    have l16 := a9
    refine ⟨_, (@ai _ _ _ _ _ (@ay _ _ (2) _ _ _ _ sc.nd rfl (Or.inl rfl) aA (by rfl) (by first | exact .inl rfl | exact .inr rfl | assumption)) (@ai _ _ _ _ _ (@bO _ _ _ _ _ _ _ _ x5 rfl (@fg _ _ _ _ (pv 1)) (@aI _ _ (3) _ sc.nd rfl (Or.inl rfl) (by first | exact .inl rfl | exact .inr rfl | assumption)) (@ai _ _ _ _ _ (@ay _ _ (4) _ _ _ _ sc.nd rfl (Or.inl rfl) (@aN _ _ _ _ _ _ _ aU (pv 0) (@cJ _ _ _ _ _ _ _ _ _ _ _ _ xr PySem.F.slot_str_find PySem.F.type_str_find ju aA (@aa _ _ _ _ _ (@er _ _ _ _ _ _ _ _ _ xr yP yQ dS (pv 3) (by rfl) (by rfl)) ah (by rfl)) (by rfl) (by rfl) (by rfl) (by rfl) (by rfl)) (fun _ _ => rfl)) (by rfl) (by first | exact .inl rfl | exact .inr rfl | assumption)) (@au _ _ _ (@ay _ _ (2) _ _ _ _ sc.nd rfl (Or.inl rfl) (@aE _ _ _ _ _ _ _ _ aK (pv 2) (@dO _ _ _ _ _ _ _ _ (@aM _ _ _ _ _ _ _ _ d9 (pv 3) aA rfl) (pv 4) (@aH _ _ _ _ _ _ _ _ _ _ _ F_lback hr (by decide) rfl (@aa _ _ _ _ _ (pv 4) ah (by rfl)) (by decide) (by rfl) (by rfl)))) (by rfl) (by first | exact .inl rfl | exact .inr rfl | assumption)))) (by intro _ ;rfl)) (@au _ _ _ (@aJ _ _ _ _ (@aH _ _ _ _ _ _ _ _ _ _ _ F_lred hr (by decide) rfl (@aa _ _ _ _ _ (pv 2) ah (by rfl)) (by decide) (by rfl) (by rfl)))))), ?_⟩
    refine ⟨_, rfl, _, rfl, eC (z := toS u) (fun i σ H' => ∃ a c, σ = [some (.ref p), some (tx u), some (tx (sub ws (u.take i))), a, c] ∧ aw H H') ⟨none, none, rfl, aw.refl _⟩ ?_ ?_⟩
    · rintro i c σ H1 hc ⟨a, c', rfl, s1⟩
      obtain ⟨x, hx, e⟩ := cL hc
      rw [e]
      have hxn := hin x (xj hx)
      have hi : i < u.length := (wW.mp hx).1
      have hsl : (sub ws (u.take i)).length≤1000000 := by
        have := (M.ok.sub (u.take i)).2
        have h2 : (u.take i).length*b≤u.length*b := y4 _ (by rw [w_];omega)
        omega
      have hwx : x.val % 6 < ws.length := by rw [M.ok.len];exact hxn
      have at1 : atI (ws.map tx) ((x.val % 6 : Nat) : Int)=some (tx ws[x.val % 6]) := by
        unfold atI ixN
        rw [if_pos (by omega), if_pos (by rw [wV];omega)]
        show (ws.map tx)[_]? = _
        rw [xh, xq, xf hwx]
        rfl
      have hvl : (ws[x.val % 6]).length≤100000 := xG (M.ok.le _ (yt hwx)) hb
      have eI : sub ws (u.take (i+1))=sub ws (u.take i)++img ws x := by rw [bG hx, bx, cm]
      have gI : ws.getD (x.val % 6) []=ws[x.val % 6] := by rw [xk, xf hwx];rfl
      rw [eI]
      refine ⟨_, rfl, rfl, _, rfl, rfl, _, rfl, rfl, (by rw [af];show 1≤5592405;decide), _, _, rfl, rfl, ?_⟩
      rw [fR]
      refine ⟨p, _, _, _, rfl, rfl, SqT.of (s1 _ _ M.at_), at1, ?_⟩
      refine ⟨_, rfl, _, rfl, _, _, rfl, rfl, _, rfl, ?_⟩
      rw [fM]
      refine kH (fun h => ?_) (fun h => ?_)
      · have h : x.val < 6 := by simpa using h
        have ei : img ws x=ws[x.val % 6] := by
          unfold img
          rw [if_pos h, ← gI, Az h]
        refine ⟨_, rfl, _, _, rfl, rfl, (by rw [af, af];omega), ?_⟩
        rw [az, ei]
        exact ⟨_, _, rfl, s1⟩
      · have h : ¬ x.val < 6 := by simpa using h
        have ei : img ws x=bk ws[x.val % 6] := by
          unfold img
          have := x.isLt
          rw [if_neg h, ← gI, show x.val % 6=x.val - 6 by omega]
        refine ⟨_, rfl, ws[x.val % 6], rfl, hvl, fun H2 s2 => ⟨_, _, rfl, rfl, (by rw [af, af, bP];omega), ?_⟩⟩
        rw [az, ei]
        exact ⟨_, _, rfl, s1.trans s2⟩
    · rintro σ H1 ⟨a, c', rfl, s1⟩
      rw [bq, yi]
      have h1 := (M.ok.sub u).2
      exact ⟨_, rfl, sub ws u, rfl, by omega, fun H2 s2 => k _ (s1.trans s2)⟩
abbrev iZ : Stmt := top 34
theorem oq : aC ["_law_row", "_law_place", "_law_side", "_law_end", "_law_far", "_law_found", "_law_word", "_law_change"] ["_law_row", "_law_place", "_law_side"] (aj iZ) := ⟨rfl, rfl, rfl, by decide +kernel, rfl, by decide +kernel, by decide +kernel⟩
theorem rm (D : Df K mg "_law_maps" iZ)(T : Bt K w mg aB)(F_lback : Fnc P w K mg base "_law_back" ["_law_word"] 1 ny) : Fnc P w K mg base "_law_maps" ["_law_row", "_law_place", "_law_side"] 2 l_ := by
  have sc := oq
  refine D.ok sc (fun _ _ _ _ _ _ us hl => by obtain ⟨_, _, _, rfl⟩ := um hl;rfl) (fun vs H Q E h => ?_) (fun f cdv A outer s H vs Q E hr h => ?_)
  · obtain ⟨u, n, i, sd, e, rfl, _⟩ := h
    rfl
  · obtain ⟨u, n, i, sd, e, rfl, R, h1, h6, he, k⟩ := h
    have l16 := a9
    have hlu := R.len
    have hi : i < u.length := (wW.mp he).1
    have hne : u≠[] := xU.mp (by omega)
    have hw : (toS u).length≤sizeLine := by rw [af];omega
    have ae : atI (toS u).cps.toList (i : Int)=some (cp e) := bM rfl he
    have hm := yp ((i : Int)+sd) (show (u.length : Int)≠0 by omega)
    have ha : atI (toS u).cps.toList (((i : Int)+sd) % ((toS u).length : Int))=some (cp (farOf u i sd)) := by
      rw [af]
      exact bM (k := (((i : Int)+sd) % (u.length : Int)).toNat) (by omega) (dv hne i sd)
    have hp : (fun x j : Int => 0 < j) ((i : Int)+sd) ((toS u).length : Int) := by show (0 : Int) < ((toS u).length : Int);rw [af];omega
    have hen := R.ins e (xj he)
    have e6 : ("abcdef" : Str).length=6 := by decide +kernel
    have ez : Txt.slice ("abcdef" : Str) none (some (n : Int))=toS (([0, 1, 2, 3, 4, 5] : List L).take n) := by
      rw [← gM, aP, cG _ (by omega), xh]
    have es : L2.bN (toS (([0, 1, 2, 3, 4, 5] : List L).take n))=(ak n).map tx := by
      unfold L2.bN ak
      rw [aZ, x4, x4]
      rfl
    have en : ((toS u).length : Int) / 2=(n : Int) := by rw [af];omega
    have ix : ixN ((ak n).map tx).length ((e.val % 6 : Nat) : Int)=some (e.val % 6) := by
      unfold ixN
      rw [if_pos (by omega), if_pos (by rw [wV, (aO h6).len];omega), xh]
    refine ⟨_, (@ai _ _ _ _ _ (@ay _ _ (3) _ _ _ _ sc.nd rfl (Or.inl rfl) (@aN _ _ _ _ _ _ _ bY (pv 0) (pv 1) (fun _ _ => rfl)) (by rfl) (by first | exact .inl rfl | exact .inr rfl | assumption)) (@ai _ _ _ _ _ (@ay _ _ (4) _ _ _ _ sc.nd rfl (Or.inl rfl) (@aN _ _ _ _ _ _ _ bY (pv 0) (@aE _ _ _ _ _ _ _ _ cA (@aE _ _ _ _ _ _ _ _ bX (pv 1) (pv 2)) (@av _ _ _ _ _ _ _ _ _ ax (by rfl) T.len xo (@aa _ _ _ _ _ (pv 0) ah (by rfl)) (by decide) (by decide) (by rfl) (by rfl))) (fun _ _ => rfl)) (by rfl) (by first | exact .inl rfl | exact .inr rfl | assumption)) (@ai _ _ _ _ _ (@ay _ _ (5) _ _ _ _ sc.nd rfl (Or.inl rfl) (@bI _ _ _ _ ah) (by rfl) (by first | exact .inl rfl | exact .inr rfl | assumption)) (@ai _ _ _ _ _ (@bO _ _ _ _ _ _ _ _ x5 rfl (@pE _ _ _ _ (@bI _ _ _ _ (@aa _ _ _ _ _ (@aE _ _ _ _ _ _ _ _ aK (pv 4) (pv 3)) (@aa _ _ _ _ _ (@aE _ _ _ _ _ _ _ _ aK (@aH _ _ _ _ _ _ _ _ _ _ _ F_lback hr (by decide) rfl (@aa _ _ _ _ _ (pv 4) ah (by rfl)) (by decide) (by rfl) (by rfl)) (pv 3)) ah (by rfl)) (by rfl)))) (@aI _ _ (6) _ sc.nd rfl (Or.inl rfl) (by first | exact .inl rfl | exact .inr rfl | assumption)) (@ai _ _ _ _ _ (@ay _ _ (7) _ _ _ _ sc.nd rfl (Or.inl rfl) (@aG _ _ _ _ _ _ _ _ _ (@br _ rfl) (by rfl) T.list fk (@aa _ _ _ _ _ (@aX _ _ _ _ _ _ _ _ _ _ cF aA bc (@bf _ _ _ (@aE _ _ _ _ _ _ _ _ b_ (@av _ _ _ _ _ _ _ _ _ ax (by rfl) T.len xo (@aa _ _ _ _ _ (pv 0) ah (by rfl)) (by decide) (by decide) (by rfl) (by rfl)) ar))) ah (by rfl)) (by decide) (by decide) (by rfl) (by rfl)) (by rfl) (by first | exact .inl rfl | exact .inr rfl | assumption)) (@ai _ _ _ _ _ (@i8 _ _ _ _ _ _ (@dO _ _ _ _ _ _ _ _ (@aM _ _ _ _ _ _ _ _ d9 (pv 3) aA rfl) (pv 6) (@aH _ _ _ _ _ _ _ _ _ _ _ F_lback hr (by decide) rfl (@aa _ _ _ _ _ (pv 6) ah (by rfl)) (by decide) (by rfl) (by rfl))) (@oG _ _ _ _ _ _ _ (pv 7) (@cJ _ _ _ _ _ _ _ _ _ _ _ _ xr PySem.F.slot_str_find PySem.F.type_str_find ju aA (@aa _ _ _ _ _ (@er _ _ _ _ _ _ _ _ _ xr yP yQ dS (pv 3) (by rfl) (by rfl)) ah (by rfl)) (by rfl) (by rfl) (by rfl) (by rfl) (by rfl)) ja (by intro _ ;rfl)) (by rfl) (by rfl) (by rfl)) (@au _ _ _ (@b9 _ _ _ _ (@cJ _ _ _ _ _ _ _ _ _ _ _ _ xV yH yI cT (pv 5) (@aa _ _ _ _ _ (@aG _ _ _ _ _ _ _ _ _ aY (by rfl) T.tuple bW (@aa _ _ _ _ _ (pv 7) ah (by rfl)) (by decide) (by decide) (by rfl) (by rfl)) ah (by rfl)) (by rfl) (by rfl) (by rfl) (by rfl) (by rfl)) (by rfl))))) (by intro _ ;rfl)) (@au _ _ _ (@aJ _ _ _ _ (pv 5))))))), ?_⟩
    refine ⟨_, rfl, _, rfl, _, _, _, rfl, rfl, hw, ae, ?_⟩
    refine ⟨_, rfl, _, rfl, _, rfl, _, _, rfl, rfl, _, rfl, _, rfl, hw, _, _, rfl, rfl, hp, _, _, _, rfl, rfl, hw, ha, ?_⟩
    refine ⟨(by show 0≤sizeLine;decide), fun f0 hf0 => ?_⟩
    have hf1 : (upd H f0 (.lst [])) f0=some (.lst []) := ag
    have s1 : aw H (upd H f0 (.lst [])) := aw.new hf0
    generalize upd H f0 (.lst [])=H1 at hf1 s1 ⊢
    generalize hfar : farOf u i sd=o at *
    refine ⟨_, rfl, _, rfl, _, _, rfl, rfl, (by show 1+1≤sizeLine;omega), ?_⟩
    refine ⟨_, rfl, [o], rfl, (by show 1≤5000;decide), fun H2 s2 => ⟨_, rfl, _, _, rfl, rfl, (by rw [af, bP];show 1+1≤sizeLine;omega), (aD (n := 2) (by decide)), fun q hq => ?_⟩⟩
    have s3 : aw H1 (upd H2 q (.lst [V.str (⟨#[cp o]⟩++⟨#[cp e]⟩), V.str (toS (bk [o])++⟨#[cp e]⟩)])) := s2.trans (aw.new hq)
    have fq : (upd H2 q (.lst [V.str (⟨#[cp o]⟩++⟨#[cp e]⟩), V.str (toS (bk [o])++⟨#[cp e]⟩)])) q=some (.lst [tx [o, e], tx [inv o, e]]) := by
      rw [ag, dE, dE, az, dD, az]
      rfl
    generalize upd H2 q (.lst [V.str (⟨#[cp o]⟩++⟨#[cp e]⟩), V.str (toS (bk [o])++⟨#[cp e]⟩)])=H3 at s3 fq ⊢
    have nq : q≠f0 := (aq (s2 _ _ hf1) hq).symm
    refine ⟨q, rfl, ⟨_, SqL.of fq⟩, mS (xs := [tx [o, e], tx [inv o, e]]) (fun j σ H' => ∃ (ps : List Addr) (v c : Option V), σ = [some (tx u), some (.int (i : Int)), some (.int sd), some (tx [e]), some (tx [o]), some (.ref f0), v, c] ∧ H' f0=some (.lst (ps.map V.ref)) ∧ ps.length=j ∧ (∀ (m : Nat) (a : Addr), ps[m]? = some a → ∃ x, [o, inv o][m]? = some x ∧ H' a=some (.tup ((putM n e x).map tx))) ∧ aw H H' ∧ H' q=some (.lst [tx [o, e], tx [inv o, e]]))
      ⟨[], none, none, rfl, s3 _ _ hf1, rfl, (fun m a h => by simp at h), s1.trans s3, fq⟩ (fun j σ H' hj ⟨_, _, _, _, _, _, _, _, h⟩ => SqL.of h) ?_ ?_⟩
    · rintro j x σ H4 hx ⟨ps, v, c, rfl, f4, hpl, hps, s4, q4⟩
      have hj : j < 2 := (wW.mp hx).1
      obtain ⟨y, hy, rfl⟩ : ∃ y, [o, inv o][j]? = some y ∧ x=tx [y, e] := by
        have : j=0 ∨ j=1 := by omega
        rcases this with rfl | rfl
        · exact ⟨o, rfl, (w4 hx).symm⟩
        · exact ⟨inv o, rfl, (w4 hx).symm⟩
      refine ⟨_, rfl, _, rfl, hw, _, _, rfl, rfl, ⟨by decide, by decide⟩, ?_⟩
      rw [en]
      refine ⟨_, rfl, _, rfl, by omega, ?_⟩
      rw [ez]
      refine ⟨_, rfl, (by rw [af, w_];simp;omega), fun l hl => ?_⟩
      rw [es]
      have fl : (upd H4 l (.lst ((ak n).map tx))) l=some (.lst ((ak n).map tx)) := ag
      have s5 : aw H4 (upd H4 l (.lst ((ak n).map tx))) := aw.new hl
      have hl0 : H l=none := none_of s4 hl
      have nl0 : l≠f0 := (aq f4 hl).symm
      have nlq : l≠q := (aq q4 hl).symm
      have nla : ∀ a o', H4 a=some o' → a≠l := fun a o' h => aq h hl
      generalize upd H4 l (.lst ((ak n).map tx))=H5 at fl s5 ⊢
      refine ⟨_, rfl, _, _, rfl, rfl, _, rfl, ?_⟩
      rw [show (Builtin.Str.occurrences ("abcdef" : Str) (toS [e]) 0 ("abcdef" : Str).length 1).isEmpty=!decide (e.val < 6) by rw [← fM, Bool.not_not]]
      rw [Bool.not_not]
      refine kH (fun h => ?_) (fun h => ?_)
      · have h : e.val < 6 := by simpa using h
        refine ⟨_, rfl, ?_⟩
        refine ⟨_, rfl, rfl, _, rfl, rfl, _, rfl, rfl, (by rw [af];show 1≤5592405;decide), _, _, rfl, rfl, ?_⟩
        rw [fR]
        refine ⟨l, _, _, _, rfl, rfl, fl, ix, ?_⟩
        have em : ((ak n).map tx).set (e.val % 6) (tx [y, e])=(putM n e y).map tx := by
          unfold putM
          rw [if_pos h, AK]
        rw [em]
        have s7 : aw H (upd H5 l (.lst ((putM n e y).map tx))) := fun b o' z => by rw [ao (aq z hl0)];exact s5 b o' (s4 b o' z)
        have k7 : ∀ a o', H4 a=some o' → (upd H5 l (.lst ((putM n e y).map tx))) a=some o' := fun a o' z => by rw [ao (nla a o' z)];exact s5 a o' z
        have l7 : (upd H5 l (.lst ((putM n e y).map tx))) l=some (.lst ((putM n e y).map tx)) := ag
        generalize upd H5 l (.lst ((putM n e y).map tx))=H7 at s7 k7 l7 ⊢
        refine ⟨_, rfl, .inl ⟨rfl, _, SqL.of (k7 _ _ f4)⟩, _, rfl, l, _, rfl, .inl ⟨SqL.of l7, fun r hr' => ?_⟩⟩
        have nrf : r≠f0 := (aq (k7 _ _ f4) hr').symm
        refine ⟨f0, _, _, rfl, rfl, (aw.new hr') _ _ (k7 _ _ f4), (by rw [wV, hpl];omega), ?_⟩
        refine ⟨ps++[r], _, _, rfl, by rw [ag, xy];rfl, by rw [wY, hpl];rfl, fun m a hma => ?_, fun b o' z => by rw [ao (aq z hf0)];exact (s7.then hr') b o' z, by rw [ao nq];exact (aw.new hr') _ _ (k7 _ _ q4)⟩
        by_cases hmp : m < ps.length
        · rw [ya hmp] at hma
          obtain ⟨x, hx1, hx2⟩ := hps m a hma
          have naf : a≠f0 := dI hx2 f4 (by intro z;cases z)
          exact ⟨x, hx1, by rw [ao naf];exact (aw.new hr') _ _ (k7 _ _ hx2)⟩
        · have hm1 : m < (ps++[r]).length := (wW.mp hma).1
          rw [wY, xP] at hm1
          have hmj : m=ps.length := by omega
          subst hmj
          rw [xI (wX _), AY] at hma
          obtain rfl : r=a := w4 hma
          rw [hpl]
          exact ⟨y, hy, by rw [ao nrf];exact ag⟩
      · have h : ¬ e.val < 6 := by simpa using h
        refine ⟨_, rfl, [y, e], rfl, (by show 2≤5000;decide), fun H6 s6 => ?_⟩
        refine ⟨_, rfl, rfl, _, rfl, rfl, _, rfl, rfl, (by rw [af];show 1≤5592405;decide), _, _, rfl, rfl, ?_⟩
        rw [fR]
        refine ⟨l, _, _, _, rfl, rfl, s6 _ _ fl, ix, ?_⟩
        have em : ((ak n).map tx).set (e.val % 6) (tx (bk [y, e]))=(putM n e y).map tx := by
          unfold putM
          rw [if_neg h, AK]
        rw [em]
        have s7 : aw H (upd H6 l (.lst ((putM n e y).map tx))) := fun b o' z => by rw [ao (aq z hl0)];exact (s5.trans s6) b o' (s4 b o' z)
        have k7 : ∀ a o', H4 a=some o' → (upd H6 l (.lst ((putM n e y).map tx))) a=some o' := fun a o' z => by rw [ao (nla a o' z)];exact (s5.trans s6) a o' z
        have l7 : (upd H6 l (.lst ((putM n e y).map tx))) l=some (.lst ((putM n e y).map tx)) := ag
        generalize upd H6 l (.lst ((putM n e y).map tx))=H7 at s7 k7 l7 ⊢
        refine ⟨_, rfl, .inl ⟨rfl, _, SqL.of (k7 _ _ f4)⟩, _, rfl, l, _, rfl, .inl ⟨SqL.of l7, fun r hr' => ?_⟩⟩
        have nrf : r≠f0 := (aq (k7 _ _ f4) hr').symm
        refine ⟨f0, _, _, rfl, rfl, (aw.new hr') _ _ (k7 _ _ f4), (by rw [wV, hpl];omega), ?_⟩
        refine ⟨ps++[r], _, _, rfl, by rw [ag, xy];rfl, by rw [wY, hpl];rfl, fun m a hma => ?_, fun b o' z => by rw [ao (aq z hf0)];exact (s7.then hr') b o' z, by rw [ao nq];exact (aw.new hr') _ _ (k7 _ _ q4)⟩
        by_cases hmp : m < ps.length
        · rw [ya hmp] at hma
          obtain ⟨x, hx1, hx2⟩ := hps m a hma
          have naf : a≠f0 := dI hx2 f4 (by intro z;cases z)
          exact ⟨x, hx1, by rw [ao naf];exact (aw.new hr') _ _ (k7 _ _ hx2)⟩
        · have hm1 : m < (ps++[r]).length := (wW.mp hma).1
          rw [wY, xP] at hm1
          have hmj : m=ps.length := by omega
          subst hmj
          rw [xI (wX _), AY] at hma
          obtain rfl : r=a := w4 hma
          rw [hpl]
          exact ⟨y, hy, by rw [ao nrf];exact ag⟩
    · rintro σ H4 ⟨ps, v, c, rfl, f4, hpl, hps, s4, q4⟩
      obtain ⟨a, b, rfl⟩ : ∃ a b, ps=[a, b] := by
        match ps, hpl with
        | [a, b], _ => exact ⟨a, b, rfl⟩
      obtain ⟨x, hx, ha4⟩ := hps 0 a rfl
      obtain ⟨y, hy, hb4⟩ := hps 1 b rfl
      obtain rfl : o=x := w4 hx
      obtain rfl : inv o=y := w4 hy
      exact ⟨_, rfl, k f0 a b H4 s4 f4 ha4 hb4⟩
end
end Kx
namespace Kx
open PySem PySem.Spec PyProof.Rows L2 Wd
section
variable {P : Program} {w : World} {K : PySem.W.Frag} {mg : Str → Option Value} {base : Heap} {aB : Addr}
def wO (st : Stmt)(j : Nat) : Stmt := match st with | .ClassDef (body := b) .. => b.getD j (.Pass ⟨0, 0, 0, 0⟩) | _ => .Pass ⟨0, 0, 0, 0⟩
abbrev eY : Stmt := wO (top 4) 0
theorem mw : aC ["self", "place"] ["self", "place"] (aj eY) := ⟨rfl, rfl, rfl, by decide +kernel, rfl, by decide +kernel, by decide +kernel⟩
theorem ou {R C f : Addr}{fd : FuncData}(D : Fun K "__init__" "NoSlide.__init__" eY f fd)(B : qq K R)(hR : mg "RingError" = some (.ref R))(x : XAt K C)(n0 : PySem.W.findIn K (.ref C) "place" = some none) :
    ee K fd ["self", "place"] [] ∧ gm P w K mg base CX0 1 f fd ["self", "place"] (lD ["place"] C) := by
  have sc := mw
  refine ⟨D.binds fun _ _ _ _ _ _ us hl => match us, hl with | [_, _], _ => rfl, D.ok sc (fun vs H Q E h => ?_) (fun cdv A outer s H vs Q E hr h => ?_)⟩
  · obtain ⟨a, ys, b, c, rfl, hl, _⟩ := h
    rw [xu, hl];rfl
  · obtain ⟨a, ys, b, c, rfl, hl, ea, k⟩ := h
    match ys, hl with
    | [y], _ =>
    refine ⟨_, (@ai _ _ _ _ _ (@b9 _ _ _ _ (@nH _ _ _ _ _ _ _ _ _ _ B rfl hR (@aa _ _ _ _ _ (pv 0) (@aa _ _ _ _ _ aA ah (by rfl)) (by rfl)) (by decide) (by rfl) (by rfl) (by rfl)) (by rfl))
      (@au _ _ _ (@sR _ _ _ _ _ _ _ _ (pv 0) (pv 1) (by rfl)))), ?_⟩
    refine ⟨_, rfl, a, C, none, b, c, [_], rfl, by simp, ea, x, ?_⟩
    refine ⟨_, rfl, _, rfl, a, C, b, c, rfl, ea, x, n0, fun dx hdx ne => ?_⟩
    exact k dx hdx ne
end
end Kx
namespace Kx
open PySem PySem.Spec PyProof.Rows L2 Wd
section
variable {P : Program} {w : World} {K : PySem.W.Frag} {mg : Str → Option Value} {base : Heap} {aB : Addr}
abbrev mx : Stmt := top 21
theorem rn : aC ["surface", "slides", "over", "home", "k", "slide", "maps"] ["surface", "slides"] (aj mx) := ⟨rfl, rfl, rfl, by decide +kernel, rfl, by decide +kernel, by decide +kernel⟩
theorem tZ {CS : Addr}(D : Df K mg "told_by" mx)(T : Bt K w mg aB)(Te : mg "enumerate" = none)(F_then : Fnc P w K mg base "then" ["one", "other"] 3 fV)(F_plain : Fnc P w K mg base "plain" ["many"] 1 iO)(F_maps : Fnc P w K mg base "maps_of" ["surface", "slide"] 3 lR)(F_can : Fnc P w K mg base "can_slide" ["surface", "slide"] 2 jy)(F_moved : Fnc P w K mg base "moved" ["surface", "slide"] 2 iR)(M_slide : XMk P w K mg base "NoSlide" CS ["place"] 1) : sV P w K mg base "told_by" ["surface", "slides"] 4 (eU CS) := by
  have sc := rn
  refine D.okX sc (fun _ _ _ _ _ _ us hl => by obtain ⟨_, _, rfl⟩ := jz hl;rfl) (fun vs H Q E h => ?_) (fun f cdv A outer s H vs Q E hr h => ?_)
  · obtain ⟨u, t, n, ss, ps, rfl, _⟩ := h
    rfl
  · obtain ⟨u, t, n, ss, ps, rfl, ht, hsl, hsd, R, U, h1, h6, h16, k, kx⟩ := h
    have l16 := a9
    have hlu := R.len
    have hw : (toS u).length≤sizeLine := by rw [af];omega
    refine ⟨_, (@ai _ _ _ _ _ (@ay _ _ (2) _ _ _ _ sc.nd rfl (Or.inl rfl) (@aH _ _ _ _ _ _ _ _ _ _ _ F_plain hr (by decide) rfl (@aa _ _ _ _ _ (@aE _ _ _ _ _ _ _ _ b_ (@av _ _ _ _ _ _ _ _ _ ax (by rfl) T.len xo (@aa _ _ _ _ _ (pv 0) ah (by rfl)) (by decide) (by decide) (by rfl) (by rfl)) ar) ah (by rfl)) (by decide) (by rfl) (by rfl)) (by rfl) (by first | exact .inl rfl | exact .inr rfl | assumption)) (@ai _ _ _ _ _ (@ay _ _ (3) _ _ _ _ sc.nd rfl (Or.inl rfl) (pv 2) (by rfl) (by first | exact .inl rfl | exact .inr rfl | assumption)) (@ai _ _ _ _ _ (@bO _ _ _ _ _ _ _ _ PassesOwn.leaving rfl (@tK _ _ rfl _ _ _ _ _ _ _ rfl Te eQ (@aa _ _ _ _ _ (pv 1) ah (by rfl)) (by rfl)) (@i7 _ _ _ _ _ _ rfl (@bz _ _ _ _ _ (@aI _ _ (4) _ sc.nd rfl (Or.inl rfl) (by first | exact .inl rfl | exact .inr rfl | assumption)) (@bz _ _ _ _ _ (@aI _ _ (5) _ sc.nd rfl (Or.inl rfl) (by first | exact .inl rfl | exact .inr rfl | assumption)) d3 (by rfl)) (by rfl)) (by rfl) (by rfl)) (@ai _ _ _ _ _ (@bT _ _ _ _ _ _ _ _ (@i6 _ _ _ _ (@cS _ _ _ (@aH _ _ _ _ _ _ _ _ _ _ _ F_can hr (by decide) rfl (@aa _ _ _ _ _ (pv 0) (@aa _ _ _ _ _ (pv 5) ah (by rfl)) (by rfl)) (by decide) (by rfl) (by rfl)) (fun _ => rfl))) (@au _ _ _ (@lA _ _ _ _ _ jP rfl (@u_ _ _ _ _ _ _ _ _ _ _ _ M_slide hr (by decide) rfl (@aa _ _ _ _ _ (pv 4) ah (by rfl)) (by decide) (by rfl) (by rfl)))) ba) (@ai _ _ _ _ _ (@ay _ _ (6) _ _ _ _ sc.nd rfl (Or.inl rfl) (@aH _ _ _ _ _ _ _ _ _ _ _ F_maps hr (by decide) rfl (@aa _ _ _ _ _ (pv 0) (@aa _ _ _ _ _ (pv 5) ah (by rfl)) (by rfl)) (by decide) (by rfl) (by rfl)) (by rfl) (by first | exact .inl rfl | exact .inr rfl | assumption)) (@ai _ _ _ _ _ (@ay _ _ (2) _ _ _ _ sc.nd rfl (Or.inl rfl) (@aH _ _ _ _ _ _ _ _ _ _ _ F_then hr (by decide) rfl (@aa _ _ _ _ _ (pv 2) (@aa _ _ _ _ _ (@aN _ _ _ _ _ _ _ aU (pv 6) ar (fun _ _ => rfl)) ah (by rfl)) (by rfl)) (by decide) (by rfl) (by rfl)) (by rfl) (by first | exact .inl rfl | exact .inr rfl | assumption)) (@ai _ _ _ _ _ (@ay _ _ (3) _ _ _ _ sc.nd rfl (Or.inl rfl) (@aH _ _ _ _ _ _ _ _ _ _ _ F_then hr (by decide) rfl (@aa _ _ _ _ _ (@aN _ _ _ _ _ _ _ aU (pv 6) ar (fun _ _ => rfl)) (@aa _ _ _ _ _ (pv 3) ah (by rfl)) (by rfl)) (by decide) (by rfl) (by rfl)) (by rfl) (by first | exact .inl rfl | exact .inr rfl | assumption)) (@au _ _ _ (@ay _ _ (0) _ _ _ _ sc.nd rfl (Or.inl rfl) (@aH _ _ _ _ _ _ _ _ _ _ _ F_moved hr (by decide) rfl (@aa _ _ _ _ _ (pv 0) (@aa _ _ _ _ _ (pv 5) ah (by rfl)) (by rfl)) (by decide) (by rfl) (by rfl)) (by rfl) (by first | exact .inl rfl | exact .inr rfl | assumption))))))) (by intro _ ;rfl)) (@au _ _ _ (@aJ _ _ _ _ (@bt _ _ _ _ _ (@aa _ _ _ _ _ (pv 0) (@aa _ _ _ _ _ (pv 2) (@aa _ _ _ _ _ (pv 3) ah (by rfl)) (by rfl)) (by rfl)))))))), ?_⟩
    have en : ((toS u).length : Int) / 2=(n : Int) := by rw [af];omega
    refine ⟨_, rfl, _, rfl, hw, _, _, rfl, rfl, ⟨by decide, by decide⟩, ?_⟩
    rw [en]
    refine ⟨n, rfl, h1, h6, fun a H1 ha s1 M1 => ?_⟩
    refine ⟨_, rfl, ?_⟩
    refine ⟨_, rfl, t, rfl, ?_⟩
    refine qL (xs := ps.map V.ref) ht s1 (fun i σ H' => ∃ (v1 v2 v3 : Option V) (v : List L) (M N : List (List L)) (a b : Addr), σ = [some (tx v), some (.ref t), some (.ref a), some (.ref b), v1, v2, v3] ∧ c9 n (v, M, N) i (ss.drop i)=c9 n (u, ak n, ak n) 0 ss ∧ S4 n i (v, M, N) ∧ H' a=some (.tup (M.map tx)) ∧ H' b=some (.tup (N.map tx)) ∧ aw H H')
      ⟨none, none, none, _, _, _, a, a, rfl, rfl, S4.start h6 R U, M1.at_, M1.at_, s1⟩ (fun i σ H' ⟨_, _, _, _, _, _, _, _, _, _, _, _, _, q⟩ => q) ?_ ?_
    · rintro i x σ H2 t2 hx ⟨v1, v2, v3, v, M, N, a, b, rfl, ho, S, ga, gb, s2⟩ ht2
      have hil : i < ss.length := by
        have := (wW.mp hx).1
        rwa [wV, hsl.len] at this
      have hss : ss[i]? = some ss[i] := xf hil
      have hsm := yt hil
      generalize ss[i]=sl at hss hsm
      have hsd := hsd sl hsm
      obtain ⟨p, hp, hpt⟩ := hsl.at_ i sl hss
      rw [xq, hp] at hx
      cases hx
      obtain ⟨o1, o2⟩ := hV ho hss
      have row : fS n v := S.row
      have srf : Srf v := S.srf
      have mM : cy n (2 ^ i) M := S.m
      have mN : cy n (2 ^ i) N := S.h
      have hlv := row.len
      have hne : v≠[] := srf.ne
      have pw : 2 ^ i≤65536 := y6 (n := 2) (by decide) (show i≤16 by omega)
      have s3 : aw H (upd H2 t2 (.tup [.int i, .ref p])) := s2.then ht2
      have ga := (aw.new (o := .tup [.int i, .ref p]) ht2) _ _ ga
      have gb := (aw.new (o := .tup [.int i, .ref p]) ht2) _ _ gb
      refine ⟨t2, _, rfl, SqT.of ag, rfl, _, _, rfl, _, _, rfl, rfl, ?_⟩
      generalize upd H2 t2 (.tup [.int i, .ref p])=H3 at s3 ga gb ⊢
      refine ⟨_, rfl, _, rfl, v, p, sl.1, sl.2, rfl, s3 _ _ hpt, hne, by omega, fun H4 s4 => ⟨_, rfl, ?_⟩⟩
      have s5 := s3.trans s4
      cases e : slW v sl.1 sl.2 with
      | none =>
        refine nkF (qK ?_)
        exact ⟨_, rfl, rfl, by decide, fun b dx hb hd ne => ⟨b, CS, some dx, true, rfl, by rw [ao ne.symm, ag], M_slide.ca.1, kx i b _ (o1 (fT e)) (tL (k := i) hb hd ne) (s5.trans (lZ hb hd))⟩⟩
      | some v' =>
        refine nkT (pg ?_)
        rcases cn (u := v) (z := sl.1) (sd := sl.2) with ⟨e0, _⟩ | ⟨j, c, ej, he⟩
        · rw [e0] at e;cases e
        obtain ⟨z, sd⟩ := sl
        have ej : z=(j : Int) := ej
        subst ej
        have hsd : sd=1 ∨ sd = -1 := hsd
        have e : slW v (j : Int) sd=some v' := e
        rw [dH he] at e
        have hc : farOf v j sd≠inv c := fun z => by rw [if_pos z] at e;cases e
        have o2 := o2 _ (ph he hc)
        have Sn := S.on h1 h6 he hsd hc
        have hj2 : j < v.length := (wW.mp he).1
        refine ⟨_, rfl, _, rfl, v, p, n, j, sd, c, rfl, s5 _ _ hpt, row, h1, h6, he, hc, fun r ma mb H5 _ s6 hr5 hma hmb => ?_⟩
        have ga := s6 _ _ (s4 _ _ ga)
        have gb := s6 _ _ (s4 _ _ gb)
        have s7 := s5.trans s6
        have hf := row.ins _ (far_mem srf j sd)
        have hen := row.ins _ (xj he)
        have hfe := iT row h1 hj2 hsd he hc
        have hif : (inv (farOf v j sd)).val % 6=(farOf v j sd).val % 6 := by have := (farOf v j sd).isLt;rw [bC];split <;> omega
        have P1 := dq h6 hen hf hfe
        have P2 := dq (o := inv (farOf v j sd)) h6 hen (by omega) (by omega)
        have hiv := srf.iv _ (far_mem srf j sd)
        refine ⟨_, rfl, _, rfl, r, _, _, _, rfl, rfl, SqT.of hr5, rfl, a, ma, n, 2 ^ i, 2, M, putM n c (farOf v j sd), rfl, ⟨ga, mM⟩, ⟨hma, P1⟩, h6, by omega, by omega, by decide, fun a2 H6 _ s8 A2 => ?_⟩
        refine ⟨_, rfl, r, _, _, _, rfl, rfl, SqT.of (s8 _ _ hr5), rfl, _, rfl, mb, b, n, 2, 2 ^ i, putM n c (inv (farOf v j sd)), N, rfl, ⟨s8 _ _ hmb, P2⟩, ⟨s8 _ _ gb, mN⟩, h6, by decide, by omega, by omega, fun b2 H7 _ s9 B2 => ?_⟩
        have s10 := s7.trans (s8.trans s9)
        refine ⟨_, rfl, _, rfl, v, p, j, sd, c, rfl, s10 _ _ hpt, row.nd, by omega, hiv, he, hc, fun H8 s11 => ?_⟩
        exact ⟨_, _, _, _, _, _, a2, b2, rfl, o2, Sn, s11 _ _ (s9 _ _ A2.at_), s11 _ _ B2.at_, s10.trans s11⟩
    · rintro σ H2 ⟨v1, v2, v3, v, M, N, a, b, rfl, ho, S, ga, gb, s2⟩
      rw [wV, hsl.len] at S ho
      rw [Ax] at ho
      refine ⟨_, rfl, _, rfl, _, rfl, (aD (n := 3) (by decide)), fun r hr' => ?_⟩
      exact k r a b (v, M, N) _ ho.symm S (s2.then hr') ag ((aw.new hr') _ _ ga) ((aw.new hr') _ _ gb)
end
end Kx
namespace Kx
open PySem PySem.Spec PyProof.Rows L2 Wd
section
variable {P : Program} {w : World} {K : PySem.W.Frag} {mg : Str → Option Value} {base : Heap} {aB : Addr}
theorem i0 {H : Hp}{d l : Addr}{o : HO}{ps : List Addr}(F : Fd H d)(h : H l=some (.lst (ps.map V.ref)))(n : l≠d) : Fd (L2.upd H l o) d := by
  obtain ⟨c, i, ll, t, ns, h1, h2, h3, h4⟩ := F.ex
  have hc : c≠l := fun e => by
    subst e
    rw [h2] at h
    have h := HO.lst.inj (w4 h)
    cases ns with
    | nil => exact h3 rfl
    | cons x r =>
      cases ps with
      | nil => cases h
      | cons y q => exact absurd (AV h).1 (by intro z;cases z)
  exact ⟨c, i, ll, t, ns, by rw [ao (fun e => n e.symm)];exact h1, by rw [ao hc];exact h2, h3, h4⟩
theorem ow (Rs : List (List L))(v : List L) : atI ((Rs++[v]).map tx) ((((Rs++[v]).map tx).length : Int) - 1)=some (tx v) := by
  have hl : ((Rs++[v]).map tx).length=Rs.length+1 := by simp
  have := fB (xs := (Rs++[v]).map tx) (j := Rs.length) (v := tx v) (by simp)
  rw [hl, show ((Rs.length+1 : Nat) : Int) - 1=(Rs.length : Int) by omega]
  exact this
theorem my {r : Int}(h0 : 0≤r)(h1 : r < 2) : ∃ sd : Int, atI [V.int 1, V.int (-1)] r=some (.int sd) ∧ (sd=1 ∨ sd = -1) := by
  have : r=0 ∨ r=1 := by omega
  rcases this with rfl | rfl
  · exact ⟨1, rfl, .inl rfl⟩
  · exact ⟨-1, rfl, .inr rfl⟩
abbrev gf : Stmt := top 35
theorem mz : aC ["_law_feed_here", "_law_row", "_law_most", "_law_slides_here", "_law_rows", "_law_k", "_law_place", "_law_side", "_law_after"] ["_law_feed_here", "_law_row", "_law_most"] (aj gf) := ⟨rfl, rfl, rfl, by decide +kernel, rfl, by decide +kernel, by decide +kernel⟩
theorem oy (D : Df K mg "_law_slides" gf)(T : Bt K w mg aB)(F_draw : Fnc P w K mg base "_law_draw" ["_law_feed_here", "_law_many"] 1 eG)(F_slid : Fnc P w K mg base "_law_slid" ["_law_row", "_law_place", "_law_side"] 2 eR) : Fnc P w K mg base "_law_slides" ["_law_feed_here", "_law_row", "_law_most"] 3 eW := by
  have sc := mz
  refine D.ok sc (fun _ _ _ _ _ _ us hl => by obtain ⟨_, _, _, rfl⟩ := um hl;rfl) (fun vs H Q E h => ?_) (fun f cdv A outer s H vs Q E hr h => ?_)
  · obtain ⟨d, u, rfl, _⟩ := h
    rfl
  · obtain ⟨d, u, rfl, F, U, k⟩ := h
    have l16 := a9
    have hlu := U.le
    have hlp := xU.mpr U.ne
    have hw : (toS u).length≤sizeLine := by rw [af];omega
    refine ⟨_, (@ai _ _ _ _ _ (@ay _ _ (3) _ _ _ _ sc.nd rfl (Or.inl rfl) (@bI _ _ _ _ ah) (by rfl) (by first | exact .inl rfl | exact .inr rfl | assumption)) (@ai _ _ _ _ _ (@ay _ _ (4) _ _ _ _ sc.nd rfl (Or.inl rfl) (@bI _ _ _ _ (@aa _ _ _ _ _ (pv 1) ah (by rfl))) (by rfl) (by first | exact .inl rfl | exact .inr rfl | assumption)) (@ai _ _ _ _ _ (@bO _ _ _ _ _ _ _ _ x5 rfl (@cQ _ _ _ _ _ _ rfl T.range (@aa _ _ _ _ _ (@aE _ _ _ _ _ _ _ _ e_ (@aH _ _ _ _ _ _ _ _ _ _ _ F_draw hr (by decide) rfl (@aa _ _ _ _ _ (pv 0) (@aa _ _ _ _ _ (@aE _ _ _ _ _ _ _ _ bX (pv 2) ar) ah (by rfl)) (by rfl)) (by decide) (by rfl) (by rfl)) (@aG _ _ _ _ _ _ _ _ _ d_ (by rfl) T.int qk (@aa _ _ _ _ _ (@cI _ _ _ _ _ _ _ _ rY (@av _ _ _ _ _ _ _ _ _ ax (by rfl) T.len xo (@aa _ _ _ _ _ (pv 1) ah (by rfl)) (by decide) (by decide) (by rfl) (by rfl)) ar (aT _)) ah (by rfl)) (by decide) (by decide) (by rfl) (by rfl))) ah (by rfl)) (by rfl)) (@aI _ _ (5) _ sc.nd rfl (Or.inl rfl) (by first | exact .inl rfl | exact .inr rfl | assumption)) (@ai _ _ _ _ _ (@ay _ _ (6) _ _ _ _ sc.nd rfl (Or.inl rfl) (@aH _ _ _ _ _ _ _ _ _ _ _ F_draw hr (by decide) rfl (@aa _ _ _ _ _ (pv 0) (@aa _ _ _ _ _ (@av _ _ _ _ _ _ _ _ _ ax (by rfl) T.len xo (@aa _ _ _ _ _ (pv 1) ah (by rfl)) (by decide) (by decide) (by rfl) (by rfl)) ah (by rfl)) (by rfl)) (by decide) (by rfl) (by rfl)) (by rfl) (by first | exact .inl rfl | exact .inr rfl | assumption)) (@ai _ _ _ _ _ (@ay _ _ (7) _ _ _ _ sc.nd rfl (Or.inl rfl) (@aN _ _ _ _ _ _ _ bU (@bI _ _ _ _ (@aa _ _ _ _ _ ar (@aa _ _ _ _ _ (@ip _ _ _ _ _ _ d6 ar) ah (by rfl)) (by rfl))) (@aH _ _ _ _ _ _ _ _ _ _ _ F_draw hr (by decide) rfl (@aa _ _ _ _ _ (pv 0) (@aa _ _ _ _ _ ar ah (by rfl)) (by rfl)) (by decide) (by rfl) (by rfl)) (fun _ _ => rfl)) (by rfl) (by first | exact .inl rfl | exact .inr rfl | assumption)) (@ai _ _ _ _ _ (@ay _ _ (8) _ _ _ _ sc.nd rfl (Or.inl rfl) (@aH _ _ _ _ _ _ _ _ _ _ _ F_slid hr (by decide) rfl (@aa _ _ _ _ _ (@aN _ _ _ _ _ _ _ bU (pv 4) (@aE _ _ _ _ _ _ _ _ kf (@av _ _ _ _ _ _ _ _ _ bg (by rfl) T.len xo (@aa _ _ _ _ _ (pv 4) ah (by rfl)) (by decide) (by decide) (by rfl) (by rfl)) ar) (fun _ _ => rfl)) (@aa _ _ _ _ _ (pv 6) (@aa _ _ _ _ _ (pv 7) ah (by rfl)) (by rfl)) (by rfl)) (by decide) (by rfl) (by rfl)) (by rfl) (by first | exact .inl rfl | exact .inr rfl | assumption)) (@au _ _ _ (@bT _ _ _ _ _ _ _ _ (@aM _ _ _ _ _ _ _ _ pG (pv 8) gj (aT _)) (@ai _ _ _ _ _ (@b9 _ _ _ _ (@cJ _ _ _ _ _ _ _ _ _ _ _ _ xV yH yI cT (pv 3) (@aa _ _ _ _ _ (@bt _ _ _ _ _ (@aa _ _ _ _ _ (pv 6) (@aa _ _ _ _ _ (pv 7) ah (by rfl)) (by rfl))) ah (by rfl)) (by rfl) (by rfl) (by rfl) (by rfl) (by rfl)) (by rfl)) (@au _ _ _ (@b9 _ _ _ _ (@cJ _ _ _ _ _ _ _ _ _ _ _ _ xV yH yI cT (pv 4) (@aa _ _ _ _ _ (pv 8) ah (by rfl)) (by rfl) (by rfl) (by rfl) (by rfl) (by rfl)) (by rfl)))) ba))))) (by intro _ ;rfl)) (@au _ _ _ (@aJ _ _ _ _ (@bt _ _ _ _ _ (@aa _ _ _ _ _ (pv 3) (@aa _ _ _ _ _ (pv 4) ah (by rfl)) (by rfl)))))))), ?_⟩
    refine ⟨(by show 0≤sizeLine;decide), fun l1 hl1 => ?_⟩
    have n1 := F.ne hl1
    have s1 : aw H (upd H l1 (.lst [])) := aw.new hl1
    have f1 : (upd H l1 (.lst [])) l1=some (.lst (([] : List Addr).map V.ref)) := ag
    generalize upd H l1 (.lst [])=H1 at s1 f1 ⊢
    refine ⟨_, rfl, (aD (n := 1) (by decide)), fun l2 hl2 => ?_⟩
    have hl20 := none_of s1 hl2
    have n2 := F.ne hl20
    have n12 : l1≠l2 := aq f1 hl2
    have s2 := s1.trans (aw.new (o := .lst [tx u]) hl2)
    have g1 := (aw.new (o := .lst [tx u]) hl2) _ _ f1
    have f2 : (upd H1 l2 (.lst [tx u])) l2=some (.lst (([]++[u] : List (List L)).map tx)) := ag
    generalize upd H1 l2 (.lst [tx u])=H2 at s2 f2 g1 ⊢
    have F2 := F.same s2
    refine ⟨_, rfl, _, rfl, _, _, rfl, rfl, d, _, rfl, F2, by decide, by decide, fun r H3 r0 r1 F3 sb3 => ?_⟩
    have g1 := sb3 _ _ n1 g1
    have f2 := sb3 _ _ n2 f2
    have sb3 : bA d H H3 := s2.b.trans sb3
    have hmul : ∀ b : Bool, ∃ m : Nat, r*(if b=true then 1 else 0)=(m : Int) ∧ m≤16 := by
      intro b
      cases b with
      | false => exact ⟨0, by simp, by decide⟩
      | true => exact ⟨r.toNat, by rw [if_pos rfl];omega, by omega⟩
    refine ⟨_, rfl, _, rfl, hw, _, _, rfl, rfl, .inr ⟨_, rfl, _, _, rfl, rfl, ?_, ?_⟩⟩
    · cases decide ((2 : Int) < ((toS u).length : Int)) with
      | true => exact Or.inr ⟨by decide, by decide⟩
      | false => exact Or.inr ⟨by decide, by decide⟩
    obtain ⟨m, em, hm⟩ := hmul (decide ((2 : Int) < ((toS u).length : Int)))
    rw [em]
    refine ⟨_, rfl, by omega, by omega, ?_⟩
    rw [xh]
    refine cR (lo := 0) (n := m) (fun i σ H' => ∃ (vk v6 v7 v8 : Option V) (ss : List (Int × Int)) (ps : List Addr) (Rs : List (List L)) (v : List L), σ = [some (.ref d), some (tx u), some (.int 16), some (.ref l1), some (.ref l2), vk, v6, v7, v8] ∧
      H' l1=some (.lst (ps.map V.ref)) ∧ H' l2=some (.lst ((Rs++[v]).map tx)) ∧ Rs.length=ss.length ∧ (∀ x∈Rs++[v], x.Perm u) ∧ SlZ H' ps ss ∧ Sd4 ss ∧ ss.length≤i ∧ Fd H' d ∧ bA d H H') ⟨none, none, none, none, [], [], [], u, rfl, g1, f2, rfl, (fun x hx => by rw [AG, xB] at hx;rw [hx]), SlZ.nil _, (fun _ h => by cases h), wX _, F3, sb3⟩ ?_ ?_
    · rintro i σ H4 hi ⟨vk, v6, v7, v8, ss, ps, Rs, v, rfl, q1, q2, hR, hP, hS, hD, hss, F4, sb4⟩
      have pv := hP v (xl _ xv)
      have hlv := pv.length_eq
      have srf := U.perm pv
      refine ⟨_, rfl, _, rfl, _, rfl, hw, d, _, rfl, F4, by rw [af];omega, by rw [af];omega, fun pl H5 p0 p1 F5 sb5 => ?_⟩
      rw [af] at p1
      have q1 := sb5 _ _ (F4.nl q1) q1
      have q2 := sb5 _ _ (F4.nl q2) q2
      have hS := hS.to (H' := H5) fun b xs e => sb5 _ _ (F4.neT e) e
      have sb5 := sb4.trans sb5
      refine ⟨_, rfl, (aD (n := 2) (by decide)), fun p hp => ?_⟩
      have np := F5.ne hp
      have sp : aw H5 (upd H5 p (.lst [.int 1, .int (-1)])) := aw.new hp
      have fp : (upd H5 p (.lst [.int 1, .int (-1)])) p=some (.lst [.int 1, .int (-1)]) := ag
      have F6 := F5.same sp
      have sb6 := sb5.trans sp.b (d := d)
      have q1 := sp _ _ q1
      have q2 := sp _ _ q2
      have hS := hS.same sp
      refine ⟨_, rfl, d, _, rfl, F6, by decide, by decide, fun sr H7 t0 t1 F7 sb7 => ?_⟩
      obtain ⟨sd, hsd, hs1⟩ := my t0 t1
      refine ⟨p, _, _, _, rfl, rfl, SqL.of (sb7 _ _ np fp), hsd, ?_⟩
      have q1 := sb7 _ _ (F6.nl q1) q1
      have q2 := sb7 _ _ (F6.nl q2) q2
      have hS := hS.to (H' := H7) fun b xs e => sb7 _ _ (F6.neT e) e
      have sb7 := sb6.trans sb7
      refine ⟨_, rfl, _, rfl, l2, _, rfl, .inl (SqL.of q2), _, _, rfl, rfl, l2, _, _, _, rfl, rfl, SqL.of q2, ow Rs v, _, rfl, _, rfl, v, pl, sd, rfl, srf.ne, by omega, fun H8 s8 => ?_⟩
      cases e : slW v pl sd with
      | none =>
        refine ⟨_, rfl, rfl, _, rfl, mF rfl ?_⟩
        exact ⟨_, _, _, _, ss, ps, Rs, v, rfl, s8 _ _ q1, s8 _ _ q2, hR, hP, hS.same s8, hD, by omega, F7.same s8, sb7.trans s8.b⟩
      | some v2 =>
        refine ⟨_, rfl, rfl, _, rfl, mE rfl ?_⟩
        have pv2 := (n9 srf e).trans pv
        have q1 := s8 _ _ q1
        have q2 := s8 _ _ q2
        have hS := hS.same s8
        have F8 := F7.same s8
        have sb8 := sb7.trans s8.b (d := d)
        refine ⟨_, rfl, .inl ⟨rfl, _, SqL.of q1⟩, _, rfl, _, rfl, (aD (n := 2) (by decide)), fun t ht => ?_⟩
        have st : aw H8 (upd H8 t (.tup [.int pl, .int sd])) := aw.new ht
        have ft : (upd H8 t (.tup [.int pl, .int sd])) t=some (.tup [.int pl, .int sd]) := ag
        have q1 := st _ _ q1
        have q2 := st _ _ q2
        have hS := hS.same st
        have F9 := F8.same st
        have sb9 := sb8.trans st.b (d := d)
        generalize upd H8 t (.tup [.int pl, .int sd])=H9 at ft q1 q2 hS F9 sb9 ⊢
        have hps := hS.len
        refine ⟨l1, _, _, rfl, rfl, q1, (by rw [wV];omega), ?_⟩
        have tupk : ∀ {G : Hp} {l : Addr} {xs ys : List V} {o : HO}, G l=some (.lst xs) → ∀ b zs, G b=some (.tup zs) → (upd G l o) b=some (.tup zs) := fun {G l xs ys o} hl b zs e => by
          rw [ao (dI e hl (by intro z;cases z))];exact e
        have ft := tupk (ys := []) (o := .lst (ps.map V.ref++[.ref t])) q1 _ _ ft
        have hS := hS.to (H' := upd H9 l1 (.lst (ps.map V.ref++[.ref t]))) (tupk (ys := []) q1)
        have F10 := i0 (o := .lst (ps.map V.ref++[.ref t])) F9 q1 n1
        have q2 : (upd H9 l1 (.lst (ps.map V.ref++[.ref t]))) l2=_ := (ao n12.symm).trans q2
        have q1 : (upd H9 l1 (.lst (ps.map V.ref++[.ref t]))) l1=some (.lst ((ps++[t]).map V.ref)) := by rw [xy];exact ag
        have sb10 : bA d H (upd H9 l1 (.lst (ps.map V.ref++[.ref t]))) := fun b o nb e => by rw [ao (aq e hl1)];exact sb9 _ _ nb e
        generalize upd H9 l1 (.lst (ps.map V.ref++[.ref t]))=H10 at ft q1 q2 hS F10 sb10 ⊢
        refine ⟨_, rfl, .inl ⟨rfl, _, SqL.of q2⟩, _, rfl, l2, _, _, rfl, rfl, q2, (by rw [wV, wY, xP];omega), ?_⟩
        refine ⟨_, _, _, _, ss++[(pl, sd)], ps++[t], Rs++[v], v2, rfl, ?_, ?_, ?_, ?_, ?_, ?_, ?_, ?_, ?_⟩
        · rw [ao n12];exact q1
        · rw [ag, xy, xy, xy]
          rfl
        · rw [wY, wY, hR];rfl
        · exact fun x hx => (yE.mp hx).elim (hP x) (fun h => by rw [xB] at h;rw [h];exact pv2)
        · exact (hS.app (SlZ.one ft)).to (tupk (ys := []) q2)
        · exact hD.app (Sd4.one hs1)
        · rw [wY, xP];omega
        · exact qJ F10 q2 n2
        · exact fun b o nb e => by rw [ao (aq e hl20)];exact sb10 _ _ nb e
    · rintro σ H4 ⟨vk, v6, v7, v8, ss, ps, Rs, v, rfl, q1, q2, hR, hP, hS, hD, hss, F4, sb4⟩
      refine ⟨_, rfl, _, rfl, (aD (n := 2) (by decide)), fun rr hrr => ?_⟩
      have sn : aw H4 (upd H4 rr (.tup [.ref l1, .ref l2])) := aw.new hrr
      exact k rr l1 l2 ss ps _ _ (F4.same sn) (sb4.trans sn.b) ag (sn _ _ q1) (hS.same sn) hD (by omega) (sn _ _ q2) (by rw [wY, hR];rfl) hP
end
end Kx
namespace Kx
open PySem PySem.Spec PyProof.Rows L2 Wd
section
variable {P : Program} {w : World} {K : PySem.W.Frag} {mg : Str → Option Value} {base : Heap} {aB : Addr}
abbrev i3 : Stmt := top 36
theorem oz : aC ["_law_slides_here", "_law_ask", "_law_found", "e", "_law_others"] ["_law_slides_here", "_law_ask"] (aj i3) := ⟨rfl, rfl, rfl, by decide +kernel, rfl, by decide +kernel, by decide +kernel⟩
structure vU (K : PySem.W.Frag) (mg : Str → Option Value) (CT CR : Addr) (bmT bmR : List Value) (c : Nat → Addr) : Prop where
  nT : mg "NoSlide" = some (.ref CT)
  nR : mg "RingError" = some (.ref CR)
  nV : mg "ValueError" = none
  n0 : mg "NoBand" = some (.ref (c 0))
  n1 : mg "NoPaper" = some (.ref (c 1))
  n2 : mg "NoStep" = some (.ref (c 2))
  n3 : mg "NoSurface" = some (.ref (c 3))
  n4 : mg "NoRow" = some (.ref (c 4))
  n5 : mg "NoWay" = some (.ref (c 5))
  xT : XCl K CT bmT
  up : (Value.ref CT::bmT).contains (.ref CR)=true
  k0 : PySem.W.kitOne K (.ref CT) (.ref (c 0))=some false
  k1 : PySem.W.kitOne K (.ref CT) (.ref (c 1))=some false
  k2 : PySem.W.kitOne K (.ref CT) (.ref (c 2))=some false
  k3 : PySem.W.kitOne K (.ref CT) (.ref (c 3))=some false
  k4 : PySem.W.kitOne K (.ref CT) (.ref (c 4))=some false
  k5 : PySem.W.kitOne K (.ref CT) (.ref (c 5))=some false
  kt : PySem.W.kitOne K (.ref CT) (.ref CT)=some true
  kv : PySem.W.kitOne K (.ref CT) (.type "ValueError")=some true
  ca : XCa K CT
  xp : PySem.W.findIn K (.ref CT) "place" = some none
theorem rp {CT CR : Addr}{bmT bmR : List Value}{c : Nat → Addr}(D : Df K mg "_law_told" i3)(T : Bt K w mg aB)(C : vU K mg CT CR bmT bmR c)(xR : XCl K CR bmR) : uk P w K mg base "_law_told" ["_law_slides_here", "_law_ask"] 6 (iS P w K mg base 5 CT) := by
  have sc := oz
  have cNoSlide := C.nT
  have cRingError := C.nR
  have TV := C.nV
  have cNoBand := C.n0
  have cNoPaper := C.n1
  have cNoStep := C.n2
  have cNoSurface := C.n3
  have cNoRow := C.n4
  have cNoWay := C.n5
  refine D.okS sc (fun _ _ _ _ _ _ us hl => by obtain ⟨_, _, rfl⟩ := jz hl;rfl) (fun outer s vs H Q E h => ?_) (fun f cdv A outer s H vs Q E hr h => ?_)
  · obtain ⟨x, f, c', q, spx, R, N, rfl, _⟩ := h
    rfl
  · obtain ⟨x, f, c', q, spx, R, N, rfl, hA, hc', hsp, kR, kN⟩ := h
    have l16 := a9
    have hu := m8 hr
    refine ⟨_, (@ai _ _ _ _ _ (@ay _ _ (2) _ _ _ _ sc.nd rfl (Or.inl rfl) gj (by rfl) (by first | exact .inl rfl | exact .inr rfl | assumption)) (@ai _ _ _ _ _ (@sW _ _ _ _ (3) _ _ _ _ _ _ _ _ _ rfl rfl sc.nd rfl rfl rfl cRingError xR (fun _ => (@qv _ _ _ _ _ _ _ (2) sc.nd rfl (Or.inl rfl) (@nW _ _ _ _ _ _ _ _ aA (@qF _ _ _ _ _ (1) _ _ _ _ _ _ _ _ hA rfl hr (by decide) rfl rfl (pv 0) (by decide) (by decide) (by rfl) (by rfl)) (by rfl) (by rfl)) (by rfl) (by first | exact .inl rfl | exact .inr rfl | assumption))) (fun _ => (@ai _ _ _ _ _ (@ay _ _ (4) _ _ _ _ sc.nd rfl (Or.inl rfl) (@bI _ _ _ _ (@aa _ _ _ _ _ (@av _ _ _ _ _ _ _ _ _ (@bB _ (K) rfl) (by rfl) T.isinstance aV (@aa _ _ _ _ _ (pv 3) (@aa _ _ _ _ _ (@bD _ _ (.ref _) _ _ rfl cNoBand rfl (by decide)) ah (by rfl)) (by rfl)) (by decide) (by decide) (by rfl) (by rfl)) (@aa _ _ _ _ _ (@av _ _ _ _ _ _ _ _ _ (@bB _ (K) rfl) (by rfl) T.isinstance aV (@aa _ _ _ _ _ (pv 3) (@aa _ _ _ _ _ (@bD _ _ (.ref _) _ _ rfl cNoPaper rfl (by decide)) ah (by rfl)) (by rfl)) (by decide) (by decide) (by rfl) (by rfl)) (@aa _ _ _ _ _ (@av _ _ _ _ _ _ _ _ _ (@bB _ (K) rfl) (by rfl) T.isinstance aV (@aa _ _ _ _ _ (pv 3) (@aa _ _ _ _ _ (@bD _ _ (.ref _) _ _ rfl cNoStep rfl (by decide)) ah (by rfl)) (by rfl)) (by decide) (by decide) (by rfl) (by rfl)) (@aa _ _ _ _ _ (@av _ _ _ _ _ _ _ _ _ (@bB _ (K) rfl) (by rfl) T.isinstance aV (@aa _ _ _ _ _ (pv 3) (@aa _ _ _ _ _ (@bD _ _ (.ref _) _ _ rfl cNoSurface rfl (by decide)) ah (by rfl)) (by rfl)) (by decide) (by decide) (by rfl) (by rfl)) ah (by rfl)) (by rfl)) (by rfl)) (by rfl))) (by rfl) (by first | exact .inl rfl | exact .inr rfl | assumption)) (@ai _ _ _ _ _ (@ay _ _ (4) _ _ _ _ sc.nd rfl (Or.inl rfl) (@aE _ _ _ _ _ _ _ _ jc (pv 4) (@bI _ _ _ _ (@aa _ _ _ _ _ (@av _ _ _ _ _ _ _ _ _ (@bB _ (K) rfl) (by rfl) T.isinstance aV (@aa _ _ _ _ _ (pv 3) (@aa _ _ _ _ _ (@bD _ _ (.ref _) _ _ rfl cNoRow rfl (by decide)) ah (by rfl)) (by rfl)) (by decide) (by decide) (by rfl) (by rfl)) (@aa _ _ _ _ _ (@av _ _ _ _ _ _ _ _ _ (@bB _ (K) rfl) (by rfl) T.isinstance aV (@aa _ _ _ _ _ (pv 3) (@aa _ _ _ _ _ (@bD _ _ (.ref _) _ _ rfl cNoWay rfl (by decide)) ah (by rfl)) (by rfl)) (by decide) (by decide) (by rfl) (by rfl)) (@aa _ _ _ _ _ (@rO _ _ _ _ (@av _ _ _ _ _ _ _ _ _ (@bB _ (K) rfl) (by rfl) T.isinstance aV (@aa _ _ _ _ _ (pv 3) (@aa _ _ _ _ _ (@pA _ _ (.ty "ValueError") _ _ rfl TV hJ rfl (by decide) (by decide)) ah (by rfl)) (by rfl)) (by decide) (by decide) (by rfl) (by rfl))) ah (by rfl)) (by rfl)) (by rfl)))) (by rfl) (by first | exact .inl rfl | exact .inr rfl | assumption)) (@ai _ _ _ _ _ (@ay _ _ (2) _ _ _ _ sc.nd rfl (Or.inl rfl) (@bt _ _ _ _ _ (@aa _ _ _ _ _ aA (@aa _ _ _ _ _ ig ah (by rfl)) (by rfl))) (by rfl) (by first | exact .inl rfl | exact .inr rfl | assumption)) (@au _ _ _ (@bT _ _ _ _ _ _ _ _ (@PW.pt _ _ _ (@ka _ _ _ _ _ _ _ (@u4 _ _ _ (@av _ _ _ _ _ _ _ _ _ (@bB _ (K) rfl) (by rfl) T.isinstance aV (@aa _ _ _ _ _ (pv 3) (@aa _ _ _ _ _ (@bD _ _ (.ref _) _ _ rfl cNoSlide rfl (by decide)) ah (by rfl)) (by rfl)) (by decide) (by decide) (by rfl) (by rfl)) (fun _ => rfl)) (@ik _ _ _ _ (@aM _ _ _ _ _ _ _ _ (@jM _ (K) rfl) ig (pv 4) rfl)))) (@au _ _ _ (@ay _ _ (2) _ _ _ _ sc.nd rfl (Or.inl rfl) (@bt _ _ _ _ _ (@aa _ _ _ _ _ aA (@aa _ _ _ _ _ (@sY _ (K) _ _ _ _ rfl (pv 3) rfl) ah (by rfl)) (by rfl))) (by rfl) (by first | exact .inl rfl | exact .inr rfl | assumption))) ba)))))) (by decide)) (@au _ _ _ (@aJ _ _ _ _ (pv 2))))), ?_⟩
    refine ⟨rfl, _, rfl, hc', hsp _ _ (fun v H1 hR => ⟨(aD (n := 2) (by decide)), fun p hp => ⟨_, rfl, kR v H1 p _ hR (aw.new hp) ag⟩⟩) fun i b H1 hN xs => ?_⟩
    obtain ⟨dx, cx, fa, fd⟩ := xs
    refine ⟨b, CT, some dx, cx, bmT, rfl, fa, C.xT, C.up, ?_⟩
    refine ⟨_, rfl, b, CT, false, cx, dx, _, _, _, false, rfl, fa, fd, C.ca, (fun u r => r), C.k0, ?_⟩
    refine ⟨_, rfl, b, CT, false, cx, dx, _, _, _, false, rfl, fa, fd, C.ca, (fun u r => r), C.k1, ?_⟩
    refine ⟨_, rfl, b, CT, false, cx, dx, _, _, _, false, rfl, fa, fd, C.ca, (fun u r => r), C.k2, ?_⟩
    refine ⟨_, rfl, b, CT, false, cx, dx, _, _, _, false, rfl, fa, fd, C.ca, (fun u r => r), C.k3, (aD (n := 4) (by decide)), fun l1 hl1 => ?_⟩
    have s1 : aw H1 (upd H1 l1 (.lst [.bl false, .bl false, .bl false, .bl false])) := aw.new hl1
    have f1 : (upd H1 l1 (.lst [.bl false, .bl false, .bl false, .bl false])) l1=some (.lst [.bl false, .bl false, .bl false, .bl false]) := ag
    generalize upd H1 l1 (.lst [.bl false, .bl false, .bl false, .bl false])=H2 at s1 f1 ⊢
    have fa2 := s1 _ _ fa
    have fd2 := s1 _ _ fd
    refine ⟨_, rfl, _, rfl, b, CT, false, cx, dx, _, _, _, false, rfl, fa2, fd2, C.ca, (fun u r => r), C.k4, ?_⟩
    refine ⟨_, rfl, b, CT, false, cx, dx, _, _, _, false, rfl, fa2, fd2, C.ca, (fun u r => r), C.k5, ?_⟩
    refine ⟨_, rfl, b, CT, false, cx, dx, _, _, _, true, rfl, fa2, fd2, C.ca, (fun u r => r), C.kv, ?_⟩
    refine ⟨_, rfl, (aD (n := 3) (by decide)), fun l2 hl2 => ?_⟩
    have s2 : aw H2 (upd H2 l2 (.lst [.bl false, .bl false, .bl (!true)])) := aw.new hl2
    have f2 : (upd H2 l2 (.lst [.bl false, .bl false, .bl (!true)])) l2=some (.lst [.bl false, .bl false, .bl (!true)]) := ag
    generalize upd H2 l2 (.lst [.bl false, .bl false, .bl (!true)])=H3 at s2 f2 ⊢
    refine ⟨l1, l2, _, _, rfl, rfl, s2 _ _ f1, f2, (aD (n := 7) (by decide)), fun l3 hl3 => ?_⟩
    have s3 : aw H3 (upd H3 l3 (.lst ([.bl false, .bl false, .bl false, .bl false]++[.bl false, .bl false, .bl (!true)]))) := aw.new hl3
    have f3 : (upd H3 l3 (.lst ([.bl false, .bl false, .bl false, .bl false]++[.bl false, .bl false, .bl (!true)]))) l3=some (.lst [.bl false, .bl false, .bl false, .bl false, .bl false, .bl false, .bl false]) := ag
    generalize upd H3 l3 (.lst ([.bl false, .bl false, .bl false, .bl false]++[.bl false, .bl false, .bl (!true)]))=H4 at s3 f3 ⊢
    refine ⟨(aD (n := 2) (by decide)), fun t ht => ?_⟩
    have s4 : aw H4 (upd H4 t (.tup [.str "other", .bl true])) := aw.new ht
    generalize upd H4 t (.tup [.str "other", .bl true])=H5 at s4 ⊢
    have s25 := (s2.trans s3).trans s4
    have fa5 := s25 _ _ fa2
    have fd5 := s25 _ _ fd2
    refine ⟨_, rfl, b, CT, false, cx, dx, _, _, _, true, rfl, fa5, fd5, C.ca, (fun u r => r), C.kt, _, rfl, ve ?_⟩
    refine ⟨_, rfl, l3, _, rfl, .inl (SqL.of (s4 _ _ f3)), rfl, rfl, _, rfl, qK ?_⟩
    refine ⟨_, rfl, b, CT, false, cx, dx, _, _, rfl, fa5, fd5, C.ca.1, C.xp, rfl, (aD (n := 2) (by decide)), fun p hp => ⟨_, rfl, kN i H1 p _ hN ((s1.trans s25).then hp) ag⟩⟩
end
end Kx
namespace Kx
open PySem PySem.Spec PyProof.Rows L2 Wd
section
variable {P : Program} {w : World} {K : PySem.W.Frag} {mg : Str → Option Value} {base : Heap} {aB : Addr}
abbrev rq : Stmt := top 37
theorem t_ : aC ["_law_row", "_law_slides_here", "_law_over", "_law_home", "_law_now", "_law_number", "_law_slide", "_law_after", "_law_there", "_law_back_again"] ["_law_row", "_law_slides_here"] (aj rq) := ⟨rfl, rfl, rfl, by decide +kernel, rfl, by decide +kernel, by decide +kernel⟩
theorem vo (D : Df K mg "_law_due" rq)(T : Bt K w mg aB)(Te : mg "enumerate" = none)(F_slid : Fnc P w K mg base "_law_slid" ["_law_row", "_law_place", "_law_side"] 2 eR)(F_lmapped : Fnc P w K mg base "_law_mapped" ["_law_change", "_law_word"] 3 cq)(F_lmaps : Fnc P w K mg base "_law_maps" ["_law_row", "_law_place", "_law_side"] 2 l_) : Fnc P w K mg base "_law_due" ["_law_row", "_law_slides_here"] 4 l9 := by
  have sc := t_
  refine D.ok sc (fun _ _ _ _ _ _ us hl => by obtain ⟨_, _, rfl⟩ := jz hl;rfl) (fun vs H Q E h => ?_) (fun f cdv A outer s H vs Q E hr h => ?_)
  · obtain ⟨u, t, n, ss, ps, rfl, _⟩ := h
    rfl
  · obtain ⟨u, t, n, ss, ps, rfl, ht, hsl, hsd, R, U, h1, h6, h16, K1⟩ := h
    have kx : ∀ i r H', c9 n (u, ak n, ak n) 0 ss = .inl i → i≤16 → aw H H' → H' r=some (.tup [.str "slide", .int (i : Nat)]) → Q (.ref r) H' := fun i r H' e hi s f => K1 r H' s (by rw [e];exact ⟨hi, f⟩)
    have k : ∀ (r q a b : Addr) (s : St4) (H' : Hp), c9 n (u, ak n, ak n) 0 ss = .inr s → S4 n ss.length s → aw H H' → H' r=some (.tup [.str "told", .ref q]) → H' q=some (.tup [tx s.1, .ref a, .ref b]) → H' a=some (.tup (s.2.1.map tx)) → H' b=some (.tup (s.2.2.map tx)) → Q (.ref r) H' := fun r q a b s H' e S s' f1 f2 f3 f4 => K1 r H' s' (by rw [e];exact ⟨S, q, a, b, f1, f2, f3, f4⟩)
    have l16 := a9
    have hlu := R.len
    have hw : (toS u).length≤sizeLine := by rw [af];omega
    have e6 : ("abcdef" : Str).length=6 := by decide +kernel
    have ez : Txt.slice ("abcdef" : Str) none (some (n : Int))=toS (([0, 1, 2, 3, 4, 5] : List L).take n) := by
      rw [← gM, aP, cG _ (by omega), xh]
    have es : L2.bN (toS (([0, 1, 2, 3, 4, 5] : List L).take n))=(ak n).map tx := by
      unfold L2.bN ak
      rw [aZ, x4, x4]
      rfl
    have en : ((toS u).length : Int) / 2=(n : Int) := by rw [af];omega
    refine ⟨_, (@ai _ _ _ _ _ (@ay _ _ (2) _ _ _ _ sc.nd rfl (Or.inl rfl) (@aG _ _ _ _ _ _ _ _ _ (@bZ _ rfl) (by rfl) T.tuple bW (@aa _ _ _ _ _ (@aX _ _ _ _ _ _ _ _ _ _ cF aA bc (@bf _ _ _ (@aE _ _ _ _ _ _ _ _ b_ (@av _ _ _ _ _ _ _ _ _ ax (by rfl) T.len xo (@aa _ _ _ _ _ (pv 0) ah (by rfl)) (by decide) (by decide) (by rfl) (by rfl)) ar))) ah (by rfl)) (by decide) (by decide) (by rfl) (by rfl)) (by rfl) (by first | exact .inl rfl | exact .inr rfl | assumption)) (@ai _ _ _ _ _ (@ay _ _ (3) _ _ _ _ sc.nd rfl (Or.inr rfl) (pv 2) (by rfl) (by first | exact .inl rfl | exact .inr rfl | assumption)) (@ai _ _ _ _ _ (@ay _ _ (4) _ _ _ _ sc.nd rfl (Or.inl rfl) (pv 0) (by rfl) (by first | exact .inl rfl | exact .inr rfl | assumption)) (@ai _ _ _ _ _ (@bO _ _ _ _ _ _ _ _ x5 rfl (@sM _ _ rfl _ _ _ _ _ _ _ rfl Te eQ (@aa _ _ _ _ _ (pv 1) ah (by rfl)) (by rfl)) (@i7 _ _ _ _ _ _ rfl (@bz _ _ _ _ _ (@aI _ _ (5) _ sc.nd rfl (Or.inl rfl) (by first | exact .inl rfl | exact .inr rfl | assumption)) (@bz _ _ _ _ _ (@aI _ _ (6) _ sc.nd rfl (Or.inl rfl) (by first | exact .inl rfl | exact .inr rfl | assumption)) d3 (by rfl)) (by rfl)) (by rfl) (by rfl)) (@ai _ _ _ _ _ (@ay _ _ (7) _ _ _ _ sc.nd rfl (Or.inl rfl) (@aH _ _ _ _ _ _ _ _ _ _ _ F_slid hr (by decide) rfl (@aa _ _ _ _ _ (pv 4) (@aa _ _ _ _ _ (@aN _ _ _ _ _ _ _ aU (pv 6) ar (fun _ _ => rfl)) (@aa _ _ _ _ _ (@aN _ _ _ _ _ _ _ aU (pv 6) ar (fun _ _ => rfl)) ah (by rfl)) (by rfl)) (by rfl)) (by decide) (by rfl) (by rfl)) (by rfl) (by first | exact .inl rfl | exact .inr rfl | assumption)) (@ai _ _ _ _ _ (@bT _ _ _ _ _ _ _ _ (@aM _ _ _ _ _ _ _ _ oJ (pv 7) gj (aT _)) (@au _ _ _ (@aJ _ _ _ _ (@bt _ _ _ _ _ (@aa _ _ _ _ _ aA (@aa _ _ _ _ _ (pv 5) ah (by rfl)) (by rfl))))) ba) (@ai _ _ _ _ _ (@i8 _ _ _ _ _ _ (@aH _ _ _ _ _ _ _ _ _ _ _ F_lmaps hr (by decide) rfl (@aa _ _ _ _ _ (pv 4) (@aa _ _ _ _ _ (@aN _ _ _ _ _ _ _ aU (pv 6) ar (fun _ _ => rfl)) (@aa _ _ _ _ _ (@aN _ _ _ _ _ _ _ aU (pv 6) ar (fun _ _ => rfl)) ah (by rfl)) (by rfl)) (by rfl)) (by decide) (by rfl) (by rfl)) (@tq _ _ _ _ _ _ rfl (@bz _ _ _ _ _ (@aI _ _ (8) _ sc.nd rfl (Or.inr rfl) (by first | exact .inl rfl | exact .inr rfl | assumption)) (@bz _ _ _ _ _ (@aI _ _ (9) _ sc.nd rfl (Or.inl rfl) (by first | exact .inl rfl | exact .inr rfl | assumption)) d3 (by rfl)) (by rfl)) (by rfl) (by rfl)) (by rfl) (by rfl) (by rfl)) (@ai _ _ _ _ _ (@ay _ _ (2) _ _ _ _ sc.nd rfl (Or.inl rfl) (@aG _ _ _ _ _ _ _ _ _ aY (by rfl) T.tuple bW (@aa _ _ _ _ _ (@dh _ _ _ _ _ _ _ (["_law_word", "_law_there"]) (["_law_word"]) ([8]) _ _ _ _ (@ff _ _ _ _ _ _ rfl (by kernel_rfl)) rfl (@i9 _ _ _ _ (pv 2)) (fun _ _ _ _ => @aI _ _ (0) _ (show (["_law_word", "_law_there"] : List Str).Nodup from by decide +kernel) rfl (Or.inl rfl) (by first | exact .inl rfl | exact .inr rfl | assumption)) (fun _ _ _ _ => cX) (fun _ _ _ _ => by (exact (@aH _ _ _ _ _ _ _ _ _ _ _ F_lmapped hr (by decide) rfl (@aa _ _ _ _ _ (pv 1) (@aa _ _ _ _ _ (pv 0) ah (by rfl)) (by rfl)) (by decide) (by rfl) (by rfl)))) (by intro _ ;rfl)) ah (by rfl)) (by decide) (by decide) (by rfl) (by rfl)) (by rfl) (by first | exact .inl rfl | exact .inr rfl | assumption)) (@ai _ _ _ _ _ (@ay _ _ (3) _ _ _ _ sc.nd rfl (Or.inr rfl) (@aG _ _ _ _ _ _ _ _ _ aY (by rfl) T.tuple bW (@aa _ _ _ _ _ (@dh _ _ _ _ _ _ _ (["_law_word", "_law_home"]) (["_law_word"]) ([3]) _ _ _ _ (@ff _ _ _ _ _ _ rfl (by kernel_rfl)) rfl (@i9 _ _ _ _ (pv 9)) (fun _ _ _ _ => @aI _ _ (0) _ (show (["_law_word", "_law_home"] : List Str).Nodup from by decide +kernel) rfl (Or.inl rfl) (by first | exact .inl rfl | exact .inr rfl | assumption)) (fun _ _ _ _ => cX) (fun _ _ _ _ => by (exact (@aH _ _ _ _ _ _ _ _ _ _ _ F_lmapped hr (by decide) rfl (@aa _ _ _ _ _ (pv 1) (@aa _ _ _ _ _ (pv 0) ah (by rfl)) (by rfl)) (by decide) (by rfl) (by rfl)))) (by intro _ ;rfl)) ah (by rfl)) (by decide) (by decide) (by rfl) (by rfl)) (by rfl) (by first | exact .inl rfl | exact .inr rfl | assumption)) (@au _ _ _ (@ay _ _ (4) _ _ _ _ sc.nd rfl (Or.inl rfl) (pv 7) (by rfl) (by first | exact .inl rfl | exact .inr rfl | assumption)))))))) (by intro _ ;rfl)) (@au _ _ _ (@aJ _ _ _ _ (@bt _ _ _ _ _ (@aa _ _ _ _ _ aA (@aa _ _ _ _ _ (@bt _ _ _ _ _ (@aa _ _ _ _ _ (pv 4) (@aa _ _ _ _ _ (pv 2) (@aa _ _ _ _ _ (pv 3) ah (by rfl)) (by rfl)) (by rfl))) ah (by rfl)) (by rfl))))))))), ?_⟩
    refine ⟨_, rfl, _, rfl, hw, _, _, rfl, rfl, ⟨by decide, by decide⟩, ?_⟩
    rw [en]
    refine ⟨_, rfl, _, rfl, by omega, ?_⟩
    rw [ez]
    refine ⟨_, rfl, (by rw [af, w_];simp;omega), fun a ha => ?_⟩
    rw [es]
    have s1 : aw H (upd H a (.tup ((ak n).map tx))) := aw.new ha
    have fa : (upd H a (.tup ((ak n).map tx))) a=some (.tup ((ak n).map tx)) := ag
    generalize upd H a (.tup ((ak n).map tx))=H1 at s1 fa ⊢
    refine ⟨_, rfl, _, rfl, _, rfl, t, rfl, ⟨_, SqL.of (s1 _ _ ht)⟩, ?_⟩
    refine lp (xs := ps.map V.ref) (fun i σ H' => ∃ (v5 v6 v7 v8 v9 : Option V) (v : List L) (M N : List (List L)) (a b : Addr), σ = [some (tx u), some (.ref t), some (.ref a), some (.ref b), some (tx v), v5, v6, v7, v8, v9] ∧ c9 n (v, M, N) i (ss.drop i)=c9 n (u, ak n, ak n) 0 ss ∧ S4 n i (v, M, N) ∧ H' a=some (.tup (M.map tx)) ∧ H' b=some (.tup (N.map tx)) ∧ aw H H')
      ⟨none, none, none, none, none, _, _, _, a, a, rfl, rfl, S4.start h6 R U, fa, fa, s1⟩ (fun i σ H' _ ⟨_, _, _, _, _, _, _, _, _, _, _, _, _, _, _, q⟩ => SqL.of (q _ _ ht)) ?_ ?_
    · rintro i x σ H2 t2 hx ⟨v5, v6, v7, v8, v9, v, M, N, a, b, rfl, ho, S, ga, gb, s2⟩ ht2
      have hil : i < ss.length := by
        have := (wW.mp hx).1
        rwa [wV, hsl.len] at this
      have hss : ss[i]? = some ss[i] := xf hil
      have hsm := yt hil
      generalize ss[i]=sl at hss hsm
      have hsd := hsd sl hsm
      obtain ⟨p, hp, hpt⟩ := hsl.at_ i sl hss
      rw [xq, hp] at hx
      cases hx
      obtain ⟨o1, o2⟩ := hV ho hss
      obtain ⟨z, sd⟩ := sl
      have hsd : sd=1 ∨ sd = -1 := hsd
      have hpt : H p=some (.tup [.int z, .int sd]) := hpt
      have o1 : stZ n (v, M, N) z sd=none → c9 n (u, ak n, ak n) 0 ss = .inl i := o1
      have o2 : ∀ s', stZ n (v, M, N) z sd=some s' → c9 n s' (i+1) (ss.drop (i+1))=c9 n (u, ak n, ak n) 0 ss := o2
      have row : fS n v := S.row
      have srf : Srf v := S.srf
      have mM : cy n (2 ^ i) M := S.m
      have mN : cy n (2 ^ i) N := S.h
      have hlv := row.len
      have hne : v≠[] := srf.ne
      have pw : 2 ^ i≤65536 := y6 (n := 2) (by decide) (show i≤16 by omega)
      have s3 : aw H (upd H2 t2 (.tup [.int i, .ref p])) := s2.then ht2
      have ga := (aw.new (o := .tup [.int i, .ref p]) ht2) _ _ ga
      have gb := (aw.new (o := .tup [.int i, .ref p]) ht2) _ _ gb
      refine ⟨t2, _, rfl, SqT.of ag, rfl, _, _, rfl, _, _, rfl, rfl, ?_⟩
      generalize upd H2 t2 (.tup [.int i, .ref p])=H3 at s3 ga gb ⊢
      refine ⟨_, rfl, _, rfl, p, _, _, _, rfl, rfl, SqT.of (s3 _ _ hpt), rfl, _, rfl, p, _, _, _, rfl, rfl, SqT.of (s3 _ _ hpt), rfl, v, z, sd, rfl, hne, by omega, fun H4 s4 => ?_⟩
      have s5 := s3.trans s4
      cases e : slW v z sd with
      | none =>
        refine ⟨_, rfl, rfl, _, rfl, qK ?_⟩
        refine ⟨_, rfl, (aD (n := 2) (by decide)), fun r hr' => ?_⟩
        exact kx i r _ (o1 (fT e)) (by omega) (s5.then hr') ag
      | some v' =>
        refine ⟨_, rfl, rfl, _, rfl, pg ?_⟩
        rcases cn (u := v) (z := z) (sd := sd) with ⟨e0, _⟩ | ⟨j, c, rfl, he⟩
        · rw [e0] at e;cases e
        have e' := e
        rw [dH he] at e'
        have hc : farOf v j sd≠inv c := fun z => by rw [if_pos z] at e';cases e'
        rw [if_neg hc] at e'
        have e' := w4 e'
        subst e'
        have o2 := o2 _ (ph he hc)
        have Sn := S.on h1 h6 he hsd hc
        have hj2 : j < v.length := (wW.mp he).1
        have hpt5 := s5 _ _ hpt
        refine ⟨_, rfl, _, rfl, p, _, _, _, rfl, rfl, SqT.of hpt5, rfl, _, rfl, p, _, _, _, rfl, rfl, SqT.of hpt5, rfl, v, n, j, sd, c, rfl, row, h1, h6, he, fun r ma mb H5 s6 hr5 hma hmb => ?_⟩
        have ga := s6 _ _ (s4 _ _ ga)
        have gb := s6 _ _ (s4 _ _ gb)
        have s7 := s5.trans s6
        have hf := row.ins _ (far_mem srf j sd)
        have hen := row.ins _ (xj he)
        have hfe := iT row h1 hj2 hsd he hc
        have hif : (inv (farOf v j sd)).val % 6=(farOf v j sd).val % 6 := by have := (farOf v j sd).isLt;rw [bC];split <;> omega
        have P1 := dq h6 hen hf hfe
        have P2 := dq (o := inv (farOf v j sd)) h6 hen (by rw [hif];exact hf) (by rw [hif];exact hfe)
        generalize sld v c (inv (farOf v j sd)) (decide (sd=1))=v2 at o2 Sn ⊢
        generalize putM n c (farOf v j sd)=A1 at o2 Sn hma P1 ⊢
        generalize putM n c (inv (farOf v j sd))=A2 at o2 Sn hmb P2 ⊢
        refine ⟨r, _, rfl, SqL.of hr5, rfl, _, _, rfl, _, _, rfl, rfl, ?_⟩
        refine ⟨_, rfl, a, rfl, ⟨_, SqT.of ga⟩, ?_⟩
        refine dY (xs := M.map tx) (own := ["_law_word"]) (cap := [8]) (fun q ys σ H' => ∃ x : Option V, σ = [x, some (.ref ma)] ∧ ys=(aF (M.take q) A1).map tx ∧ aw H5 H') ⟨none, rfl, rfl, aw.refl _⟩ (fun q ys σ H' hi ⟨x, _, e, _⟩ => ?_) (by rw [wV, mM.len];omega) (fun q ys σ H' ⟨_, _, _, s'⟩ => SqT.of (s' _ _ ga)) ?_ ?_
        · rw [e, wV]
          unfold aF
          rw [wV, w_]
          rw [wV] at hi
          omega
        · rintro q ys σ H6 x N' hxi ⟨y, rfl, rfl, s8⟩ hN
          obtain ⟨w', hw', rfl⟩ : ∃ w', M[q]? = some w' ∧ x=tx w' := by
            rw [xq] at hxi
            cases e : M[q]? with
            | none => rw [e] at hxi;cases hxi
            | some v => rw [e] at hxi;exact ⟨v, rfl, (w4 hxi).symm⟩
          have hm := xj hw'
          have h1' := mM.le w' hm
          refine ⟨_, rfl, _, rfl, ma, w', n, 2, A1, rfl, ⟨s8 _ _ hma, P1⟩, h6, mM.ins w' hm, by omega, by omega, by decide, fun H7 s9 => hN _ _ _ ⟨_, rfl, ?_, s8.trans s9⟩⟩
          unfold aF
          rw [zB, hw', xy, xy]
          rfl
        rintro ys σ H6 l ⟨y, rfl, rfl, s8⟩ hl
        rw [wV, xE (wX _)]
        refine ⟨l, _, rfl, .inl ⟨SqL.of ag, fun a2 ha2 => ?_⟩⟩
        have s9 : aw H5 (upd (upd H6 l (.lst ((aF M A1).map tx))) a2 (.tup ((aF M A1).map tx))) := (s8.then hl).then ha2
        have fa2 : (upd (upd H6 l (.lst ((aF M A1).map tx))) a2 (.tup ((aF M A1).map tx))) a2=some (.tup ((aF M A1).map tx)) := ag
        generalize upd (upd H6 l (.lst ((aF M A1).map tx))) a2 (.tup ((aF M A1).map tx))=H8 at s9 fa2 ⊢
        have gb := s9 _ _ gb
        have hmb := s9 _ _ hmb
        have s10 := s7.trans s9
        refine ⟨_, rfl, mb, rfl, ⟨_, SqT.of hmb⟩, ?_⟩
        refine dY (xs := A2.map tx) (own := ["_law_word"]) (cap := [3]) (fun q ys σ H' => ∃ x : Option V, σ = [x, some (.ref b)] ∧ ys=(aF (A2.take q) N).map tx ∧ aw H8 H') ⟨none, rfl, rfl, aw.refl _⟩ (fun q ys σ H' hi ⟨x, _, e, _⟩ => ?_) (by rw [wV, P2.len];omega) (fun q ys σ H' ⟨_, _, _, s'⟩ => SqT.of (s' _ _ hmb)) ?_ ?_
        · rw [e, wV]
          unfold aF
          rw [wV, w_]
          rw [wV] at hi
          omega
        · rintro q ys σ H6 x N' hxi ⟨y, rfl, rfl, s11⟩ hN
          obtain ⟨w', hw', rfl⟩ : ∃ w', A2[q]? = some w' ∧ x=tx w' := by
            rw [xq] at hxi
            cases e : A2[q]? with
            | none => rw [e] at hxi;cases hxi
            | some v => rw [e] at hxi;exact ⟨v, rfl, (w4 hxi).symm⟩
          have hm := xj hw'
          have h1' := P2.le w' hm
          have h2' : w'.length*2 ^ i≤2*65536 := Aj h1' pw
          refine ⟨_, rfl, _, rfl, b, w', n, 2 ^ i, N, rfl, ⟨s11 _ _ gb, mN⟩, h6, P2.ins w' hm, by omega, by omega, by omega, fun H7 s9 => hN _ _ _ ⟨_, rfl, ?_, s11.trans s9⟩⟩
          unfold aF
          rw [zB, hw', xy, xy]
          rfl
        rintro ys σ H6 l2 ⟨y, rfl, rfl, s11⟩ hl2
        rw [wV, xE (wX _)]
        refine ⟨l2, _, rfl, .inl ⟨SqL.of ag, fun b2 hb2 => ?_⟩⟩
        have s12 : aw H8 (upd (upd H6 l2 (.lst ((aF A2 N).map tx))) b2 (.tup ((aF A2 N).map tx))) := (s11.then hl2).then hb2
        refine ⟨_, rfl, ?_⟩
        exact ⟨_, _, _, _, _, _, _, _, a2, b2, rfl, o2, Sn, s12 _ _ fa2, ag, s10.trans s12⟩
    · rintro σ H2 ⟨v5, v6, v7, v8, v9, v, M, N, a, b, rfl, ho, S, ga, gb, s2⟩
      rw [wV, hsl.len] at S ho
      rw [Ax] at ho
      refine ⟨_, rfl, _, rfl, _, rfl, (aD (n := 3) (by decide)), fun q hq => ⟨(aD (n := 2) (by decide)), fun r hr' => ?_⟩⟩
      have sq := aw.new (o := .tup [tx v, .ref a, .ref b]) hq
      have sr := aw.new (o := .tup [.str "told", .ref q]) hr'
      exact k r q a b (v, M, N) _ ho.symm S ((s2.trans sq).trans sr) ag (sr _ _ ag) (sr _ _ (sq _ _ ga)) (sr _ _ (sq _ _ gb))
end
end Kx
namespace Kx
open PySem PySem.Spec PyProof.Rows L2 Wd
section
variable {P : Program} {w : World} {K : PySem.W.Frag} {mg : Str → Option Value} {base : Heap} {aB : Addr}
abbrev i4 : Stmt := top 38
theorem oA : aC ["_law_feed_here", "_law_row", "_law_odd", "_law_some", "_law_place"] ["_law_feed_here", "_law_row"] (aj i4) := ⟨rfl, rfl, rfl, by decide +kernel, rfl, by decide +kernel, by decide +kernel⟩
theorem rA (D : Df K mg "_law_wrong" i4)(T : Bt K w mg aB)(F_draw : Fnc P w K mg base "_law_draw" ["_law_feed_here", "_law_many"] 1 eG)(F_slid : Fnc P w K mg base "_law_slid" ["_law_row", "_law_place", "_law_side"] 2 eR) : Fnc P w K mg base "_law_wrong" ["_law_feed_here", "_law_row"] 3 fY := by
  have sc := oA
  refine D.ok sc (fun _ _ _ _ _ _ us hl => by obtain ⟨_, _, rfl⟩ := jz hl;rfl) (fun vs H Q E h => ?_) (fun f cdv A outer s H vs Q E hr h => ?_)
  · obtain ⟨d, v, rfl, _⟩ := h
    rfl
  · obtain ⟨d, v, rfl, F, hne, hle, k⟩ := h
    have l16 := a9
    have hlp := xU.mpr hne
    have hw : (toS v).length≤sizeLine := by rw [af];omega
    refine ⟨_, (@ai _ _ _ _ _ (@ay _ _ (2) _ _ _ _ sc.nd rfl (Or.inl rfl) (@bI _ _ _ _ (@rF _ _ _ _ _ (@ip _ _ _ _ _ _ d6 ar) (@rF _ _ _ _ _ (@av _ _ _ _ _ _ _ _ _ ax (by rfl) T.len xo (@aa _ _ _ _ _ (pv 1) ah (by rfl)) (by decide) (by decide) (by rfl) (by rfl)) (@rF _ _ _ _ _ (@aE _ _ _ _ _ _ _ _ kg ar ar) (@rF _ _ _ _ _ (@ip _ _ _ _ _ _ d6 (@aE _ _ _ _ _ _ _ _ kg ar ar)) (@rF _ _ _ _ _ (@ip _ _ _ _ _ _ d6 (@av _ _ _ _ _ _ _ _ _ ax (by rfl) T.len xo (@aa _ _ _ _ _ (pv 1) ah (by rfl)) (by decide) (by decide) (by rfl) (by rfl))) (@rF _ _ _ _ _ (@aE _ _ _ _ _ _ _ _ bX (@av _ _ _ _ _ _ _ _ _ ax (by rfl) T.len xo (@aa _ _ _ _ _ (pv 1) ah (by rfl)) (by decide) (by decide) (by rfl) (by rfl)) ar) ah (by rfl)) (by rfl)) (by rfl)) (by rfl)) (by rfl)) (by rfl))) (by rfl) (by first | exact .inl rfl | exact .inr rfl | assumption)) (@ai _ _ _ _ _ (@ay _ _ (3) _ _ _ _ sc.nd rfl (Or.inl rfl) (@bI _ _ _ _ (@aa _ _ _ _ _ (@bt _ _ _ _ _ (@aa _ _ _ _ _ (@aN _ _ _ _ _ _ _ bU (pv 2) (@aH _ _ _ _ _ _ _ _ _ _ _ F_draw hr (by decide) rfl (@aa _ _ _ _ _ (pv 0) (@aa _ _ _ _ _ ar ah (by rfl)) (by rfl)) (by decide) (by rfl) (by rfl)) (fun _ _ => rfl)) (@aa _ _ _ _ _ (@aN _ _ _ _ _ _ _ bU (@bI _ _ _ _ (@aa _ _ _ _ _ ar (@aa _ _ _ _ _ (@ip _ _ _ _ _ _ d6 ar) ah (by rfl)) (by rfl))) (@aH _ _ _ _ _ _ _ _ _ _ _ F_draw hr (by decide) rfl (@aa _ _ _ _ _ (pv 0) (@aa _ _ _ _ _ ar ah (by rfl)) (by rfl)) (by decide) (by rfl) (by rfl)) (fun _ _ => rfl)) ah (by rfl)) (by rfl))) ah (by rfl))) (by rfl) (by first | exact .inl rfl | exact .inr rfl | assumption)) (@ai _ _ _ _ _ (@bO _ _ _ _ _ _ _ _ x5 rfl (@cQ _ _ _ _ _ _ rfl T.range (@aa _ _ _ _ _ (@av _ _ _ _ _ _ _ _ _ ax (by rfl) T.len xo (@aa _ _ _ _ _ (pv 1) ah (by rfl)) (by decide) (by decide) (by rfl) (by rfl)) ah (by rfl)) (by rfl)) (@aI _ _ (4) _ sc.nd rfl (Or.inr rfl) (by first | exact .inl rfl | exact .inr rfl | assumption)) (@au _ _ _ (@b9 _ _ _ _ (@cJ _ _ _ _ _ _ _ _ _ _ _ _ xV PySem.F.slot_list_extend PySem.F.type_list_extend ku (pv 3) (@aa _ _ _ _ _ (@dh _ _ _ _ _ _ _ (["_law_side", "_law_place", "_law_row"]) (["_law_side"]) ([4, 1]) _ _ _ _ (@ff _ _ _ _ _ _ rfl (by kernel_rfl)) rfl (@i9 _ _ _ _ (@bt _ _ _ _ _ (@aa _ _ _ _ _ ar (@aa _ _ _ _ _ (@ip _ _ _ _ _ _ d6 ar) ah (by rfl)) (by rfl)))) (fun _ _ _ _ => @aI _ _ (0) _ (show (["_law_side", "_law_place", "_law_row"] : List Str).Nodup from by decide +kernel) rfl (Or.inl rfl) (by first | exact .inl rfl | exact .inr rfl | assumption)) (fun _ _ _ _ => (@m9 _ _ _ (by exact (@aM _ _ _ _ _ _ _ _ oJ (@aH _ _ _ _ _ _ _ _ _ _ _ F_slid hr (by decide) rfl (@aa _ _ _ _ _ (pv 2) (@aa _ _ _ _ _ (pv 1) (@aa _ _ _ _ _ (pv 0) ah (by rfl)) (by rfl)) (by rfl)) (by decide) (by rfl) (by rfl)) gj (aT _))))) (fun _ _ _ _ => by (exact (@bt _ _ _ _ _ (@aa _ _ _ _ _ (pv 1) (@aa _ _ _ _ _ (pv 0) ah (by rfl)) (by rfl))))) (by intro _ ;rfl)) ah (by rfl)) (by rfl) (by rfl) (by rfl) (by rfl) (by rfl)) (by rfl))) (by intro _ ;rfl)) (@au _ _ _ (@aJ _ _ _ _ (@aN _ _ _ _ _ _ _ bU (pv 3) (@aH _ _ _ _ _ _ _ _ _ _ _ F_draw hr (by decide) rfl (@aa _ _ _ _ _ (pv 0) (@aa _ _ _ _ _ (@av _ _ _ _ _ _ _ _ _ bg (by rfl) T.len xo (@aa _ _ _ _ _ (pv 3) ah (by rfl)) (by decide) (by decide) (by rfl) (by rfl)) ah (by rfl)) (by rfl)) (by decide) (by rfl) (by rfl)) (fun _ _ => rfl))))))), ?_⟩
    refine ⟨_, rfl, _, rfl, _, rfl, hw, _, _, rfl, rfl, ⟨by decide, by decide⟩, _, _, rfl, rfl, ⟨by decide, by decide⟩, _, rfl, _, rfl, _, rfl, hw, _, rfl, _, rfl, _, rfl, hw, _, _, rfl, rfl, (aD (n := 6) (by decide)), fun l0 hl0 => ?_⟩
    have s1 := aw.new (o := .lst [.int (-1), .int ((toS v).length : Int), .int (10 ^ Int.toNat 30), .int (-10 ^ Int.toNat 20), .int (-((toS v).length : Int)), .int (((toS v).length : Int)+3)]) hl0
    have hin : ∀ x∈([.int (-1), .int ((toS v).length : Int), .int (10 ^ Int.toNat 30), .int (-10 ^ Int.toNat 20), .int (-((toS v).length : Int)), .int (((toS v).length : Int)+3)] : List V), ∃ z, x = .int z := by
      intro x hx
      simp only [xn, xF, yM] at hx
      rcases hx with rfl | rfl | rfl | rfl | rfl | rfl <;> exact ⟨_, rfl⟩
    have hol : ([.int (-1), .int ((toS v).length : Int), .int (10 ^ Int.toNat 30), .int (-10 ^ Int.toNat 20), .int (-((toS v).length : Int)), .int (((toS v).length : Int)+3)] : List V).length=6 := rfl
    generalize ([.int (-1), .int ((toS v).length : Int), .int (10 ^ Int.toNat 30), .int (-10 ^ Int.toNat 20), .int (-((toS v).length : Int)), .int (((toS v).length : Int)+3)] : List V)=os at s1 hin hol ⊢
    have f1 : (upd H l0 (.lst os)) l0=some (.lst os) := ag
    generalize upd H l0 (.lst os)=H1 at s1 f1 ⊢
    have F1 := F.same s1
    refine ⟨_, rfl, _, rfl, d, _, rfl, F1, by decide, by decide, fun r H2 r0 r1 F2 sb2 => ?_⟩
    obtain ⟨y, hy, hym⟩ := sL (xs := os) r0 (by rw [hol];exact r1)
    obtain ⟨z, rfl⟩ := hin y hym
    refine ⟨l0, _, _, _, rfl, rfl, SqL.of (sb2 _ _ (F1.nl f1) f1), hy, ?_⟩
    have SB2 : bA d H H2 := s1.b.trans sb2
    refine ⟨_, rfl, (aD (n := 2) (by decide)), fun p hp => ?_⟩
    have np := F2.ne hp
    have sp : aw H2 (upd H2 p (.lst [.int 1, .int (-1)])) := aw.new hp
    have fp : (upd H2 p (.lst [.int 1, .int (-1)])) p=some (.lst [.int 1, .int (-1)]) := ag
    generalize upd H2 p (.lst [.int 1, .int (-1)])=H3 at sp fp ⊢
    have F3 := F2.same sp
    have SB3 : bA d H H3 := SB2.trans sp.b
    refine ⟨_, rfl, d, _, rfl, F3, by decide, by decide, fun sr H4 t0 t1 F4 sb4 => ?_⟩
    obtain ⟨sd, hsd, hs1⟩ := my t0 t1
    refine ⟨p, _, _, _, rfl, rfl, SqL.of (sb4 _ _ np fp), hsd, ?_⟩
    have SB4 : bA d H H4 := SB3.trans sb4
    refine ⟨(aD (n := 2) (by decide)), fun t ht => ?_⟩
    have st : aw H4 (upd H4 t (.tup [.int z, .int sd])) := aw.new ht
    have ft : (upd H4 t (.tup [.int z, .int sd])) t=some (.tup [.int z, .int sd]) := ag
    generalize upd H4 t (.tup [.int z, .int sd])=H5 at st ft ⊢
    refine ⟨(aD (n := 1) (by decide)), fun l hl => ?_⟩
    have sl : aw H5 (upd H5 l (.lst [.ref t])) := aw.new hl
    have fl : (upd H5 l (.lst [.ref t])) l=some (.lst ([t].map V.ref)) := ag
    have ft := sl _ _ ft
    have n0 : H l=none := by
      cases e : H l with
      | none => rfl
      | some o =>
        by_cases c : l=d
        · rw [c] at hl
          exact absurd rfl ((F4.same st).ne hl)
        · rw [st _ _ (SB4 _ _ c e)] at hl
          cases hl
    have nl := (F4.same st).ne hl
    generalize upd H5 l (.lst [.ref t])=H6 at sl fl ft ⊢
    have F6 := F4.same (st.trans sl)
    have SB6 : bA d H H6 := SB4.trans (st.trans sl).b
    refine ⟨_, rfl, _, rfl, hw, _, rfl, by rw [af];omega, by rw [af];omega, ?_⟩
    rw [af, xh]
    refine cR (lo := 0) (n := v.length) (fun i σ H' => ∃ (b4 : Option V) (ps : List Addr) (ss : List (Int × Int)), σ = [some (.ref d), some (tx v), some (.ref l0), some (.ref l), b4] ∧ H' l=some (.lst (ps.map V.ref)) ∧ SlZ H' ps ss ∧ Sd4 ss ∧ 1≤ss.length ∧ ss.length≤1+2*i ∧ Fd H' d ∧ bA d H H') ⟨none, [t], [(z, sd)], rfl, fl, SlZ.one ft, Sd4.one hs1, (by show 1≤1;decide), (by show 1≤1+2*0;decide), F6, SB6⟩ ?_ ?_
    · rintro i σ H7 hi ⟨b4, ps, ss, rfl, f7, hS, hD, h1, h2, F7, SB7⟩
      refine ⟨_, rfl, .inl ⟨rfl, _, SqL.of f7⟩, _, rfl, (aD (n := 2) (by decide)), fun tt htt => ?_⟩
      have s8 : aw H7 (upd H7 tt (.tup [.int 1, .int (-1)])) := aw.new htt
      have f8 : (upd H7 tt (.tup [.int 1, .int (-1)])) tt=some (.tup [.int 1, .int (-1)]) := ag
      generalize upd H7 tt (.tup [.int 1, .int (-1)])=H8 at s8 f8 ⊢
      refine ⟨tt, rfl, ⟨_, SqT.of f8⟩, ?_⟩
      refine dY (xs := [.int 1, .int (-1)]) (own := ["_law_side"]) (cap := [4, 1]) (fun q ys σ H' => ∃ (x : Option V) (qs : List Addr) (ts : List (Int × Int)), σ = [x, some (.int (0+(i : Int))), some (tx v)] ∧ ys=qs.map V.ref ∧ SlZ H' qs ts ∧ Sd4 ts ∧ ts.length≤q ∧ aw H8 H') ⟨none, [], [], rfl, rfl, SlZ.nil _, (fun _ h => by cases h), wX _, aw.refl _⟩ (fun q ys σ H' hi ⟨x, qs, ts, _, e, hz, _, hle, _⟩ => ?_) (aD (n := 2) (by decide)) (fun q ys σ H' ⟨_, _, _, _, _, _, _, _, s'⟩ => SqT.of (s' _ _ f8)) ?_ ?_
      · rw [e, wV, hz.len];exact hle
      · rintro q ys σ H9 x N' hx ⟨x0, qs, ts, rfl, rfl, hz, hd, hle, s9⟩ hN
        obtain ⟨sd, rfl, hsd⟩ : ∃ sd : Int, x = .int sd ∧ (sd=1 ∨ sd = -1) := by
          have hj : q < 2 := (wW.mp hx).1
          have : q=0 ∨ q=1 := by omega
          rcases this with rfl | rfl
          · exact ⟨1, (w4 hx).symm, .inl rfl⟩
          · exact ⟨-1, (w4 hx).symm, .inr rfl⟩
        refine ⟨_, rfl, _, rfl, _, rfl, v, _, sd, rfl, hne, by assumption, fun H10 s10 => ⟨rfl, _, rfl, ?_⟩⟩
        cases e : slW v (0+(i : Int)) sd with
        | none =>
          refine mE (xt rfl) ?_
          refine ⟨_, rfl, _, rfl, (aD (n := 2) (by decide)), fun t2 ht2 => hN _ _ _ ?_⟩
          have s11 := aw.new (o := .tup [.int (0+(i : Int)), .int sd]) ht2
          refine ⟨_, qs++[t2], ts++[(0+(i : Int), sd)], rfl, ?_, ((hz.same s10).same s11).app (SlZ.one ag), hd.app (Sd4.one hsd), ?_, (s9.trans s10).trans s11⟩
          · rw [xy];rfl
          · rw [wY, xP];omega
        | some w2 =>
          refine mF (xi (by intro z;cases z)) ?_
          exact hN _ _ _ ⟨_, qs, ts, rfl, rfl, hz.same s10, hd, by omega, s9.trans s10⟩
      rintro ys σ H9 D2 ⟨x0, qs, ts, rfl, rfl, hz, hd, hle', s9⟩ hD2
      have hle' : ts.length≤2 := hle'
      have s10 : aw H7 (upd H9 D2 (.lst (qs.map V.ref))) := (s8.trans s9).then hD2
      have f10 : (upd H9 D2 (.lst (qs.map V.ref))) D2=some (.lst (qs.map V.ref)) := ag
      have hz := hz.same (aw.new (o := .lst (qs.map V.ref)) hD2)
      generalize upd H9 D2 (.lst (qs.map V.ref))=H10 at s10 f10 hz ⊢
      have q1 := s10 _ _ f7
      have hl1 := hS.len
      have hl2 := hz.len
      refine ⟨l, D2, _, _, rfl, rfl, q1, f10, (by rw [wV, wV];omega), ?_⟩
      have tupk : ∀ (b : Addr) (zs : List V), H10 b=some (.tup zs) → (upd H10 l (.lst (ps.map V.ref++qs.map V.ref))) b=some (.tup zs) := fun b zs e => by
        rw [ao (dI e q1 (by intro z;cases z))];exact e
      refine ⟨_, ps++qs, ss++ts, rfl, (by rw [ag, xy]), ((hS.same s10).app hz).to tupk, hD.app hd, ?_, ?_, i0 (F7.same s10) q1 nl, fun b o nb e => ?_⟩
      · rw [wY];omega
      · rw [wY];omega
      · rw [ao (aq e n0)]
        exact s10 _ _ (SB7 _ _ nb e)
    · rintro σ H7 ⟨b4, ps, ss, rfl, f7, hS, hD, h1, h2, F7, SB7⟩
      have hl1 := hS.len
      refine ⟨_, rfl, _, rfl, _, rfl, l, _, rfl, .inl (SqL.of f7), d, _, rfl, F7, by rw [wV];omega, by rw [wV];omega, fun r2 H8 q0 q1 F8 sb8 => ?_⟩
      rw [wV] at q1
      obtain ⟨m, rfl⟩ := x8 q0
      have hm : m < ss.length := by omega
      obtain ⟨p2, hp2, ht2⟩ := hS.at_ m _ (xf hm)
      have hsd := hD _ (yt hm)
      refine ⟨l, _, _, .ref p2, rfl, rfl, SqL.of (sb8 _ _ (F7.nl f7) f7), fB (j := m) (by rw [xq, hp2];rfl), ?_⟩
      exact k p2 _ _ _ F8 (SB7.trans sb8) (sb8 _ _ (F7.neT ht2) ht2) hsd
end
end Kx
namespace Kx
open PySem PySem.Spec PyProof.Rows L2 Wd
section
variable {P : Program} {w : World} {K : PySem.W.Frag} {mg : Str → Option Value} {base : Heap} {aB : Addr}
abbrev eZ : Stmt := top 39
theorem oB : aC ["_law_feed_here", "_law_row", "_law_slides_here", "_law_rows", "_law_at", "_law_due_here", "_law_handed", "_law_own"] ["_law_feed_here", "_law_row"] (aj eZ) := ⟨rfl, rfl, rfl, by decide +kernel, rfl, by decide +kernel, by decide +kernel⟩
theorem gh {b : Nat} : ∀ (ws : List (List L)), (∀ w∈ws, w.length≤b) → ws.flatten.length≤ws.length*b
  | [], _ => xQ _
  | w::r, h => by
    have ih := gh r fun v hv => h v (xm _ hv)
    have hw := h w xv
    rw [yF, wY, xu, AF]
    omega
theorem cy.cut4 {n b c : Nat}{ws vs : List (List L)}(M : cy n b ws)(hs : ∀ w∈ws, w∈vs)(h : vs.flatten.length≤c) : cy n c ws := ⟨M.len, M.rd, M.ins, fun w hw => xG (List.Sublist.length_le (List.sublist_flatten_of_mem (hs w hw))) h⟩
theorem rB {t u : TS}{D : dJ}{σ : L2.St}{H : Hp}(R : L2.St → Hp → Prop)(h1 : ∀ D' : dJ, (∀ σ2 H2, R σ2 H2 → D'.nx σ2 H2) → t D' σ H)(h2 : ∀ σ2 H2, R σ2 H2 → u D σ2 H2) : vt t u D σ H := h1 _ h2
theorem rC {CT c0 P0 : Addr}(D : DfC K mg "_law_right" eZ c0)(T : Bt K w mg aB)(M : Mkr base mg c0 P0)(F_draw : Fnc P w K mg base "_law_draw" ["_law_feed_here", "_law_many"] 1 eG)(F_slides : Fnc P w K mg base "_law_slides" ["_law_feed_here", "_law_row", "_law_most"] 3 eW)(F_ltold : uk P w K mg base "_law_told" ["_law_slides_here", "_law_ask"] 6 (iS P w K mg base 5 CT))(F_due : Fnc P w K mg base "_law_due" ["_law_row", "_law_slides_here"] 4 l9)(F_wrong : Fnc P w K mg base "_law_wrong" ["_law_feed_here", "_law_row"] 3 fY)(F_told : sV P w K mg base "told_by" ["surface", "slides"] 4 (eU CT))(F_then : Fnc P w K mg base "then" ["one", "other"] 3 fV) : Fnc P w K mg base "_law_right" ["_law_feed_here", "_law_row"] 7 (f_ P0) := by
  have sc := oB
  refine D.ok sc (fun _ _ _ _ _ _ us hl => by obtain ⟨_, _, rfl⟩ := jz hl;rfl) (fun vs H Q E h => ?_) (fun f A outer s H vs Q E hr h => ?_)
  · obtain ⟨d, u, n, rfl, _⟩ := h
    rfl
  · obtain ⟨d, u, n, rfl, F, R, U, h1, h6, hT, k⟩ := h
    have l16 := a9
    have hlu := R.len
    have hw : (toS u).length≤sizeLine := by rw [af];omega
    refine ⟨_, (@ai _ _ _ _ _ (@i8 _ _ _ _ _ _ (@aH _ _ _ _ _ _ _ _ _ _ _ F_slides hr (by decide) rfl (@aa _ _ _ _ _ (pv 0) (@aa _ _ _ _ _ (pv 1) (@aa _ _ _ _ _ ar ah (by rfl)) (by rfl)) (by rfl)) (by decide) (by rfl) (by rfl)) (@i7 _ _ _ _ _ _ rfl (@bz _ _ _ _ _ (@aI _ _ (2) _ sc.nd rfl (Or.inl rfl) (by first | exact .inl rfl | exact .inr rfl | assumption)) (@bz _ _ _ _ _ (@aI _ _ (3) _ sc.nd rfl (Or.inl rfl) (by first | exact .inl rfl | exact .inr rfl | assumption)) d3 (by rfl)) (by rfl)) (by rfl) (by rfl)) (by rfl) (by rfl) (by rfl)) (@ai _ _ _ _ _ (@bT _ _ _ _ _ _ _ _ (@aM _ _ _ _ _ _ _ _ d7 (@aH _ _ _ _ _ _ _ _ _ _ _ F_draw hr (by decide) rfl (@aa _ _ _ _ _ (pv 0) (@aa _ _ _ _ _ ar ah (by rfl)) (by rfl)) (by decide) (by rfl) (by rfl)) ar (aT _)) (@ai _ _ _ _ _ (@ay _ _ (4) _ _ _ _ sc.nd rfl (Or.inl rfl) (@aH _ _ _ _ _ _ _ _ _ _ _ F_draw hr (by decide) rfl (@aa _ _ _ _ _ (pv 0) (@aa _ _ _ _ _ (@aE _ _ _ _ _ _ _ _ bX (@av _ _ _ _ _ _ _ _ _ bg (by rfl) T.len xo (@aa _ _ _ _ _ (pv 2) ah (by rfl)) (by decide) (by decide) (by rfl) (by rfl)) ar) ah (by rfl)) (by rfl)) (by decide) (by rfl) (by rfl)) (by rfl) (by first | exact .inl rfl | exact .inr rfl | assumption)) (@au _ _ _ (@ay _ _ (2) _ _ _ _ sc.nd rfl (Or.inl rfl) (@aX _ _ _ _ _ _ _ _ _ _ eh (@aE _ _ _ _ _ _ _ _ jc (@aE _ _ _ _ _ _ _ _ jc (@aX _ _ _ _ _ _ _ _ _ _ eh (pv 2) bc (@bf _ _ _ (pv 4))) (@bI _ _ _ _ (@aa _ _ _ _ _ (@aH _ _ _ _ _ _ _ _ _ _ _ F_wrong hr (by decide) rfl (@aa _ _ _ _ _ (pv 0) (@aa _ _ _ _ _ (@aN _ _ _ _ _ _ _ bU (pv 3) (pv 4) (fun _ _ => rfl)) ah (by rfl)) (by rfl)) (by decide) (by rfl) (by rfl)) ah (by rfl)))) (@aX _ _ _ _ _ _ _ _ _ _ eh (pv 2) (@bf _ _ _ (pv 4)) bc)) bc (@bf _ _ _ ar)) (by rfl) (by first | exact .inl rfl | exact .inr rfl | assumption)))) ba) (@ai _ _ _ _ _ (@ay _ _ (5) _ _ _ _ sc.nd rfl (Or.inl rfl) (@aH _ _ _ _ _ _ _ _ _ _ _ F_due hr (by decide) rfl (@aa _ _ _ _ _ (pv 1) (@aa _ _ _ _ _ (pv 2) ah (by rfl)) (by rfl)) (by decide) (by rfl) (by rfl)) (by rfl) (by first | exact .inl rfl | exact .inr rfl | assumption)) (@ai _ _ _ _ _ (@ay _ _ (6) _ _ _ _ sc.nd rfl (Or.inl rfl) (@aG _ _ _ _ _ _ _ _ _ dC (by rfl) T.list fk (@aa _ _ _ _ _ (pv 2) ah (by rfl)) (by decide) (by decide) (by rfl) (by rfl)) (by rfl) (by first | exact .inl rfl | exact .inr rfl | assumption)) (@ai _ _ _ _ _ (@bT _ _ _ _ _ _ _ _ (@PW.pt _ _ _ (@pB _ _ _ _ _ _ _ (@aM _ _ _ _ _ _ _ _ jE (@av _ _ _ _ _ _ _ _ _ (@cO _ (by exact hr.gd) (by exact hr.units)) (by rfl) T.repr dF (@aa _ _ _ _ _ (@iP _ _ _ _ _ (1) _ _ (4) _ _ _ _ _ _ _ _ _ _ _ _ F_ltold hr (by decide) rfl M rfl rfl (pv 6) (by exact ⟨rfl, rfl, rfl, by decide, rfl, rfl, by decide +kernel, by decide +kernel⟩) rfl rfl rfl (by decide +kernel) rfl (fun _ _ _ _ _ => rfl) (by decide) (by rfl) (by rfl) (by rfl)) ah (by rfl)) (by decide) (by decide) (by rfl) (by rfl)) (@av _ _ _ _ _ _ _ _ _ (@a6 _ (by exact hr.gd) (by exact hr.units)) (by rfl) T.repr dF (@aa _ _ _ _ _ (pv 5) ah (by rfl)) (by decide) (by decide) (by rfl) (by rfl)) (aT _)) (@j_ _ _ _ _ (@aM _ _ _ _ _ _ _ _ (@lI _ (by exact hr.units)) (pv 6) (pv 2) (aT _))))) (@au _ _ _ (@aJ _ _ _ _ ig)) ba) (@ai _ _ _ _ _ (@b9 _ _ _ _ (@cJ _ _ _ _ _ _ _ _ _ _ _ _ xV Ap PySem.F.type_list_insert lM (pv 6) (@aa _ _ _ _ _ ar (@aa _ _ _ _ _ (@bt _ _ _ _ _ (@aa _ _ _ _ _ (@av _ _ _ _ _ _ _ _ _ ax (by rfl) T.len xo (@aa _ _ _ _ _ (pv 1) ah (by rfl)) (by decide) (by decide) (by rfl) (by rfl)) (@aa _ _ _ _ _ ar ah (by rfl)) (by rfl))) ah (by rfl)) (by rfl)) (by rfl) (by rfl) (by rfl) (by rfl) (by rfl)) (by rfl)) (@ai _ _ _ _ _ (@bT _ _ _ _ _ _ _ _ (@aM _ _ _ _ _ _ _ _ jE (@av _ _ _ _ _ _ _ _ _ (@cO _ (by exact hr.gd) (by exact hr.units)) (by rfl) T.repr dF (@aa _ _ _ _ _ (@iP _ _ _ _ _ (1) _ _ (4) _ _ _ _ _ _ _ _ _ _ _ _ F_ltold hr (by decide) rfl M rfl rfl (@aX _ _ _ _ _ _ _ _ _ _ eh (pv 6) bc (@bf _ _ _ ar)) (by exact ⟨rfl, rfl, rfl, by decide, rfl, rfl, by decide +kernel, by decide +kernel⟩) rfl rfl rfl (by decide +kernel) rfl (fun _ _ _ _ _ => rfl) (by decide) (by rfl) (by rfl) (by rfl)) ah (by rfl)) (by decide) (by decide) (by rfl) (by rfl)) (@av _ _ _ _ _ _ _ _ _ (@a6 _ (by exact hr.gd) (by exact hr.units)) (by rfl) T.repr dF (@aa _ _ _ _ _ (@bt _ _ _ _ _ (@aa _ _ _ _ _ aA (@aa _ _ _ _ _ ar ah (by rfl)) (by rfl))) ah (by rfl)) (by decide) (by decide) (by rfl) (by rfl)) (aT _)) (@au _ _ _ (@aJ _ _ _ _ ig)) ba) (@ai _ _ _ _ _ (@bT _ _ _ _ _ _ _ _ (@aM _ _ _ _ _ _ _ _ jE (@av _ _ _ _ _ _ _ _ _ (@cO _ (by exact hr.gd) (by exact hr.units)) (by rfl) T.repr dF (@aa _ _ _ _ _ (@iP _ _ _ _ _ (1) _ _ (4) _ _ _ _ _ _ _ _ _ _ _ _ F_ltold hr (by decide) rfl M rfl rfl (@aG _ _ _ _ _ _ _ _ _ aY (by rfl) T.tuple bW (@aa _ _ _ _ _ (pv 2) ah (by rfl)) (by decide) (by decide) (by rfl) (by rfl)) (by exact ⟨rfl, rfl, rfl, by decide, rfl, rfl, by decide +kernel, by decide +kernel⟩) rfl rfl rfl (by decide +kernel) rfl (fun _ _ _ _ _ => rfl) (by decide) (by rfl) (by rfl) (by rfl)) ah (by rfl)) (by decide) (by decide) (by rfl) (by rfl)) (@av _ _ _ _ _ _ _ _ _ (@a6 _ (by exact hr.gd) (by exact hr.units)) (by rfl) T.repr dF (@aa _ _ _ _ _ (pv 5) ah (by rfl)) (by decide) (by decide) (by rfl) (by rfl)) (aT _)) (@au _ _ _ (@aJ _ _ _ _ ig)) ba) (@ai _ _ _ _ _ (@bT _ _ _ _ _ _ _ _ (@PW.pt _ _ _ (@pB _ _ _ _ _ _ _ (@aM _ _ _ _ _ _ _ _ d7 (@aN _ _ _ _ _ _ _ aU (pv 5) ar (fun _ _ => rfl)) aA (aT _)) (@j_ _ _ _ _ (@aM _ _ _ _ _ _ _ _ rY (@av _ _ _ _ _ _ _ _ _ ax (by rfl) T.len xo (@aa _ _ _ _ _ (@cJ _ _ _ _ _ _ _ _ _ _ _ _ xr yZ y0 nY aA (@aa _ _ _ _ _ (@aE _ _ _ _ _ _ _ _ qH (@aN _ _ _ _ _ _ _ aU (@aN _ _ _ _ _ _ _ aU (pv 5) ar (fun _ _ => rfl)) ar (fun _ _ => rfl)) (@aN _ _ _ _ _ _ _ aU (@aN _ _ _ _ _ _ _ aU (pv 5) ar (fun _ _ => rfl)) ar (fun _ _ => rfl))) ah (by rfl)) (by rfl) (by rfl) (by rfl) (by rfl) (by rfl)) ah (by rfl)) (by decide) (by decide) (by rfl) (by rfl)) ar (aT _))))) (@au _ _ _ (@aJ _ _ _ _ ig)) ba) (@ai _ _ _ _ _ (@ay _ _ (7) _ _ _ _ sc.nd rfl (Or.inl rfl) (@aG _ _ _ _ _ _ _ _ _ (@bZ _ rfl) (by rfl) T.tuple bW (@aa _ _ _ _ _ (@aX _ _ _ _ _ _ _ _ _ _ cF aA bc (@bf _ _ _ (@aE _ _ _ _ _ _ _ _ b_ (@av _ _ _ _ _ _ _ _ _ ax (by rfl) T.len xo (@aa _ _ _ _ _ (pv 1) ah (by rfl)) (by decide) (by decide) (by rfl) (by rfl)) ar))) ah (by rfl)) (by decide) (by decide) (by rfl) (by rfl)) (by rfl) (by first | exact .inl rfl | exact .inr rfl | assumption)) (@au _ _ _ (@aJ _ _ _ _ (@oF _ _ _ _ _ _ _ (@cI _ _ _ _ _ _ _ _ (@g_ _ (by exact hr.units)) (@aH _ _ _ _ _ _ _ _ _ _ _ F_then hr (by decide) rfl (@aa _ _ _ _ _ (@aN _ _ _ _ _ _ _ aU (@aN _ _ _ _ _ _ _ aU (pv 5) ar (fun _ _ => rfl)) ar (fun _ _ => rfl)) (@aa _ _ _ _ _ (@aN _ _ _ _ _ _ _ aU (@aN _ _ _ _ _ _ _ aU (pv 5) ar (fun _ _ => rfl)) ar (fun _ _ => rfl)) ah (by rfl)) (by rfl)) (by decide) (by rfl) (by rfl)) (pv 7) (aT _)) (@oE _ _ _ _ _ (@cI _ _ _ _ _ _ _ _ (@g_ _ (by exact hr.units)) (@aH _ _ _ _ _ _ _ _ _ _ _ F_then hr (by decide) rfl (@aa _ _ _ _ _ (@aN _ _ _ _ _ _ _ aU (@aN _ _ _ _ _ _ _ aU (pv 5) ar (fun _ _ => rfl)) ar (fun _ _ => rfl)) (@aa _ _ _ _ _ (@aN _ _ _ _ _ _ _ aU (@aN _ _ _ _ _ _ _ aU (pv 5) ar (fun _ _ => rfl)) ar (fun _ _ => rfl)) ah (by rfl)) (by rfl)) (by decide) (by rfl) (by rfl)) (pv 7) (aT _)))))))))))))))), ?_⟩
    refine ⟨_, rfl, _, rfl, d, u, rfl, F, U, fun r0 l b ss ps rows H1 F1 sb1 hr1 ha hS hD h16 hb hrl hP => ?_⟩
    have T1 := hT.sb F sb1
    clear sb1
    refine ⟨r0, _, rfl, SqT.of hr1, rfl, _, _, rfl, _, _, rfl, rfl, ?_⟩
    dsimp only
    refine rB (fun σ2 H2 => ∃ (l : Addr) (ps : List Addr) (ss : List (Int × Int)) (v4 : Option V), σ2=[some (.ref d), some (tx u), some (.ref l), some (.ref b), v4, none, none, none] ∧ H2 l=some (.lst (ps.map V.ref)) ∧ SlZ H2 ps ss ∧ Sd4 ss ∧ ss.length≤16 ∧ Fd H2 d ∧ Tab H2 P0 qR) (fun D' nx => ?_) ?_
    · refine ⟨_, rfl, d, _, rfl, F1, by decide, by decide, fun r H2 r0 r1 F2 sb2 => ⟨rfl, _, rfl, ?_⟩⟩
      have T2 := T1.sb F1 sb2
      have ha := sb2 _ _ (F1.nl ha) ha
      have hb := sb2 _ _ (F1.nl hb) hb
      have hS := hS.to (H' := H2) fun b xs e => sb2 _ _ (F1.neT e) e
      by_cases h0 : r=0
      rotate_left
      · rw [xi (fun z => h0 (V.int.inj z))]
        exact pg (nx _ _ ⟨l, ps, ss, none, rfl, ha, hS, hD, h16, F2, T2⟩)
      rw [xt (xH V.int h0)]
      refine qK ?_
      have hsl := hS.len
      refine ⟨_, rfl, _, rfl, l, _, rfl, .inl (SqL.of ha), _, _, rfl, rfl, d, _, rfl, F2, by rw [wV];omega, by rw [wV];omega, fun at' H3 q0 q1 F3 sb3 => ?_⟩
      rw [wV] at q1
      obtain ⟨m, rfl⟩ := x8 q0
      have T3 := T2.sb F2 sb3
      have ha := sb3 _ _ (F2.nl ha) ha
      have hb := sb3 _ _ (F2.nl hb) hb
      have hS := hS.to (H' := H3) fun b xs e => sb3 _ _ (F2.neT e) e
      have hm : m < rows.length := by omega
      have hP := hP _ (yt hm)
      have hat : atI (rows.map tx) (m : Int)=some (tx rows[m]) := fB (j := m) (by rw [xq, xf hm];rfl)
      generalize rows[m]=v at hP hat
      have hvl := hP.length_eq
      have srf := U.perm hP
      refine ⟨_, rfl, _, rfl, _, rfl, l, _, rfl, SqL.of ha, fun q1 hq1 => ?_⟩
      rw [fX, ← zP]
      have s4 : aw H3 (upd H3 q1 (.lst ((ps.take m).map V.ref))) := aw.new hq1
      have f4 : (upd H3 q1 (.lst ((ps.take m).map V.ref))) q1=some (.lst ((ps.take m).map V.ref)) := ag
      generalize upd H3 q1 (.lst ((ps.take m).map V.ref))=H4 at s4 f4 ⊢
      have F4 := F3.same s4
      refine ⟨_, rfl, _, rfl, _, rfl, b, _, _, _, rfl, rfl, SqL.of (s4 _ _ hb), hat, d, v, rfl, F4, srf.ne, by omega, fun p z sd H5 F5 sb5 fp hsd => ?_⟩
      have T5 := (T3.same s4).sb F4 sb5
      have f5 := sb5 _ _ (F4.nl f4) f4
      have ha := sb5 _ _ (F4.nl (s4 _ _ ha)) (s4 _ _ ha)
      have hS := (hS.same s4).to (H' := H5) fun b xs e => sb5 _ _ (F4.neT e) e
      refine ⟨(aD (n := 1) (by decide)), fun q2 hq2 => ?_⟩
      have s6 : aw H5 (upd H5 q2 (.lst [.ref p])) := aw.new hq2
      have f6 : (upd H5 q2 (.lst [.ref p])) q2=some (.lst [.ref p]) := ag
      generalize upd H5 q2 (.lst [.ref p])=H6 at s6 f6 ⊢
      refine ⟨q1, q2, _, _, rfl, rfl, s6 _ _ f5, f6, (by rw [wV, w_];show _+1≤_;omega), fun q3 hq3 => ?_⟩
      have e3 : (ps.take m).map V.ref++[.ref p]=(ps.take m++[p]).map V.ref := by rw [xy];rfl
      rw [e3]
      have s7 : aw H6 (upd H6 q3 (.lst ((ps.take m++[p]).map V.ref))) := aw.new hq3
      have f7 : (upd H6 q3 (.lst ((ps.take m++[p]).map V.ref))) q3=some (.lst ((ps.take m++[p]).map V.ref)) := ag
      generalize upd H6 q3 (.lst ((ps.take m++[p]).map V.ref))=H7 at s7 f7 ⊢
      have s57 := s6.trans s7
      refine ⟨_, rfl, _, rfl, _, rfl, l, _, rfl, SqL.of (s57 _ _ ha), fun q4 hq4 => ?_⟩
      rw [jY _ _ (by rw [wV];omega), ← AS]
      have s8 : aw H7 (upd H7 q4 (.lst ((ps.drop m).map V.ref))) := aw.new hq4
      have f8 : (upd H7 q4 (.lst ((ps.drop m).map V.ref))) q4=some (.lst ((ps.drop m).map V.ref)) := ag
      generalize upd H7 q4 (.lst ((ps.drop m).map V.ref))=H8 at s8 f8 ⊢
      refine ⟨q3, q4, _, _, rfl, rfl, s8 _ _ f7, f8, (by rw [wV, wV, wY, w_, yb];show _+1+_≤_;omega), fun q5 hq5 => ?_⟩
      rw [← xy]
      have s9 : aw H8 (upd H8 q5 (.lst ((ps.take m++[p]++ps.drop m).map V.ref))) := aw.new hq5
      have f9 : (upd H8 q5 (.lst ((ps.take m++[p]++ps.drop m).map V.ref))) q5=some (.lst ((ps.take m++[p]++ps.drop m).map V.ref)) := ag
      generalize upd H8 q5 (.lst ((ps.take m++[p]++ps.drop m).map V.ref))=H9 at s9 f9 ⊢
      refine ⟨_, rfl, q5, _, rfl, SqL.of f9, fun q6 hq6 => ?_⟩
      rw [show (16 : Int)=((16 : Nat) : Int) from rfl, fX, ← zP]
      have s59 := (s57.trans s8).trans s9
      have s10 := s59.then (o := .lst (((ps.take m++[p]++ps.drop m).take 16).map V.ref)) hq6
      refine nx _ _ ⟨q6, (ps.take m++[p]++ps.drop m).take 16, (ss.take m++[(z, sd)]++ss.drop m).take 16, _, rfl, ag, ?_, ((((hD.take m).app (Sd4.one hsd)).app (hD.drop m)).take 16), by rw [w_];omega, F5.same s10, T5.same s10⟩
      exact (((((hS.same s10).take m).app (SlZ.one (s10 _ _ fp))).app ((hS.same s10).drop m)).take 16)
    clear hS hD h16 hP hrl hb ha hr1 F1 T1 ss ps l
    rintro σ2 H2 ⟨l, ps, ss, v4, rfl, ha, hS, hD, h16, F2, T2⟩
    refine ⟨_, rfl, _, rfl, u, l, n, ss, ps, rfl, ha, hS, hD, R, U, h1, h6, h16, fun r H3 s3 D3 => ?_⟩
    have K3 : Kp4 d l r ps ss n _ H3 := ⟨F2.same s3, s3 _ _ ha, hS.same s3, D3⟩
    have T3 := T2.same s3
    have hsl := hS.len
    clear ha hS F2 T2 s3 D3
    have shO := K3.du.sh h6 h16
    generalize ho : c9 n (u, ak n, ak n) 0 ss=o at K3 shO
    refine ⟨_, rfl, l, _, rfl, .inl (SqL.of K3.li), fun lh hlh => ?_⟩
    have nld : lh≠d := K3.fd.ne hlh
    have nll : l≠lh := aq K3.li hlh
    have s4 : aw H3 (upd H3 lh (.lst (ps.map V.ref))) := aw.new hlh
    have fh : (upd H3 lh (.lst (ps.map V.ref))) lh=some (.lst (ps.map V.ref)) := ag
    generalize upd H3 lh (.lst (ps.map V.ref))=H4 at s4 fh ⊢
    have K4 := K3.same s4
    have T4 := T3.same s4
    refine ⟨tx u, rfl, _, rfl, T4, fun outer' s' H5 g c' T5 hc5 k5 asks => ?_⟩
    have K5 := K4.tell T4 k5
    have fh := k5 _ _ (T4.ne fh (by intro ps z;cases z)) fh
    refine vf R U h1 h6 h16 K5.sl hD (.inl fh) (asks _ (fun A outer' s'' H' c v1 Q E hrm hs => ⟨_, lC F_told hrm (by decide) dm rfl (aa (pv 1) (aa (pv 0) ah)), ⟨_, rfl, _, rfl, hs⟩⟩)) hc5 fun p H6 s6 D6 => ?_
    rw [ho] at D6
    have K6 := K5.same s6
    have T6 := T5.same s6
    have fh := s6 _ _ fh
    refine ⟨.ref p, _, rfl, D6.dt, shO, (fun i e => by cases o <;> cases e), ?_⟩
    refine ⟨_, rfl, r, _, rfl, K6.du.dt, shO, ?_⟩
    have eN : (!decide (V.str (ddO o).shown=V.str (ddO o).shown))=false := by simp
    refine ⟨rfl, ?_⟩
    rw [eN]
    refine ⟨_, rfl, vT ?_⟩
    refine ⟨_, rfl, _, rfl, _, _, .lst fh K6.sl.dts, .lst K6.li K6.sl.dts, (fW ss).1, (fW ss).1, (fW ss).2, ?_⟩
    rw [SeqAt.eqv_refl _ (fW ss).1]
    refine ⟨_, rfl, pg ?_⟩
    -- one more ahead
    refine ⟨_, rfl, .inl ⟨rfl, _, SqL.of fh⟩, _, rfl, _, rfl, hw, (aD (n := 2) (by decide)), fun t ht => ?_⟩
    have s7 : aw H6 (upd H6 t (.tup [.int ((toS u).length : Int), .int 1])) := aw.new ht
    have ft : (upd H6 t (.tup [.int ((toS u).length : Int), .int 1])) t=some (.tup [.int ((toS u).length : Int), .int 1]) := ag
    generalize upd H6 t (.tup [.int ((toS u).length : Int), .int 1])=H7 at s7 ft ⊢
    have K7 := K6.same s7
    have T7 := T6.same s7
    have fh := s7 _ _ fh
    refine ⟨lh, _, 0, .ref t, rfl, rfl, fh, by decide, by omega, (by rw [wV];omega), ?_⟩
    have tupk : ∀ (b : Addr) (zs : List V), H7 b=some (.tup zs) → (upd H7 lh (.lst ((t::ps).map V.ref))) b=some (.tup zs) := fun b zs e => by
      rw [ao (dI e fh (by intro z;cases z))];exact e
    have K8 : Kp4 d l r ps ss n o (upd H7 lh (.lst ((t::ps).map V.ref))) := ⟨i0 K7.fd fh nld, by rw [ao nll];exact K7.li, K7.sl.to tupk, K7.du.to tupk⟩
    have T8 : Tab (upd H7 lh (.lst ((t::ps).map V.ref))) P0 qR := by
      obtain ⟨pz, e, tz, kz⟩ := T7
      refine ⟨pz, by rw [ao (dI e fh (by intro z;cases z))];exact e, tz, fun pos cv ec => ?_⟩
      obtain ⟨c1, e1, e2⟩ := kz pos cv ec
      exact ⟨c1, e1, by rw [ao (dI e2 fh (by intro z;cases z))];exact e2⟩
    have S8 := (SlZ.one (tupk _ _ ft)).app K8.sl
    have fh8 : (upd H7 lh (.lst ((t::ps).map V.ref))) lh=some (.lst ((t::ps).map V.ref)) := ag
    have eI : (ps.map V.ref).take (0 : Int).toNat++V.ref t::(ps.map V.ref).drop (0 : Int).toNat=(t::ps).map V.ref := rfl
    rw [eI]
    generalize upd H7 lh (.lst ((t::ps).map V.ref))=H8 at K8 T8 S8 fh8 ⊢
    refine ⟨tx u, rfl, _, rfl, _, rfl, lh, _, rfl, SqL.of fh8, fun q9 hq9 => ?_⟩
    rw [show (16 : Int)=((16 : Nat) : Int) from rfl, fX, ← zP]
    have s9 : aw H8 (upd H8 q9 (.lst (((t::ps).take 16).map V.ref))) := aw.new hq9
    have f9 : (upd H8 q9 (.lst (((t::ps).take 16).map V.ref))) q9=some (.lst (((t::ps).take 16).map V.ref)) := ag
    generalize upd H8 q9 (.lst (((t::ps).take 16).map V.ref))=H9 at s9 f9 ⊢
    have K9 := K8.same s9
    have T9 := T8.same s9
    have S9 := (S8.same s9).take 16
    refine ⟨T9, fun outer' s' H10 g c' T10 hc10 k10 asks => ?_⟩
    have K10 := K9.tell T9 k10
    have S10 := S9.to (H' := H10) fun b xs e => k10 _ _ (T9.ne e (by intro ps z;cases z)) e
    have f10 := k10 _ _ (T9.ne f9 (by intro ps z;cases z)) f9
    refine vf R U h1 h6 (by rw [w_];omega) S10 ((Sd4.app (Sd4.one (.inl rfl)) hD).take 16) (.inl f10) (asks _ (fun A outer' s'' H' c v1 Q E hrm hs => ⟨_, lC F_told hrm (by decide) dm rfl (aa (pv 1) (aa (pv 0) ah)), ⟨_, rfl, _, rfl, hs⟩⟩)) hc10 fun p H11 s11 D11 => ?_
    have eO : c9 n (u, ak n, ak n) 0 (([(((toS u).length : Int), (1 : Int))]++ss).take 16) = .inl 0 := fU (fT (lY (by rw [af];show ¬ (0≤(u.length : Int) ∧ (u.length : Int) < (u.length : Int));omega)))
    rw [eO] at D11
    have K11 := K10.same s11
    have T11 := T10.same s11
    refine ⟨.ref p, _, rfl, D11.dt, eV (xQ _), (fun i e => by cases e), ?_⟩
    refine ⟨(aD (n := 2) (by decide)), fun t12 ht12 => ?_⟩
    have s12 : aw H11 (upd H11 t12 (.tup [.str "slide", .int 0])) := aw.new ht12
    have f12 : (upd H11 t12 (.tup [.str "slide", .int 0])) t12=some (.tup [.str "slide", .int ((0 : Nat) : Int)]) := ag
    generalize upd H11 t12 (.tup [.str "slide", .int 0])=H12 at s12 f12 ⊢
    have K12 := K11.same s12
    have T12 := T11.same s12
    refine ⟨t12, ddO (.inl 0), rfl, .tup f12 (.cons (.str _) (.cons (.int _) .nil)), eV (xQ _), ?_⟩
    have eN0 : (!decide (V.str (ddO (.inl 0)).shown=V.str (ddO (.inl 0)).shown))=false := by simp
    refine ⟨rfl, ?_⟩
    rw [eN0]
    refine ⟨_, rfl, pg ?_⟩
    -- as a tuple
    refine ⟨tx u, rfl, _, rfl, l, _, rfl, .inl ⟨SqL.of K12.li, fun q13 hq13 => ?_⟩⟩
    have s13 : aw H12 (upd H12 q13 (.tup (ps.map V.ref))) := aw.new hq13
    have f13 : (upd H12 q13 (.tup (ps.map V.ref))) q13=some (.tup (ps.map V.ref)) := ag
    generalize upd H12 q13 (.tup (ps.map V.ref))=H13 at s13 f13 ⊢
    have K13 := K12.same s13
    have T13 := T12.same s13
    refine ⟨T13, fun outer' s' H14 g c' T14 hc14 k14 asks => ?_⟩
    have K14 := K13.tell T13 k14
    have f14 := k14 _ _ (T13.ne f13 (by intro ps z;cases z)) f13
    refine vf R U h1 h6 h16 K14.sl hD (.inr f14) (asks _ (fun A outer' s'' H' c v1 Q E hrm hs => ⟨_, lC F_told hrm (by decide) dm rfl (aa (pv 1) (aa (pv 0) ah)), ⟨_, rfl, _, rfl, hs⟩⟩)) hc14 fun p H15 s15 D15 => ?_
    rw [ho] at D15
    have K15 := K14.same s15
    have T15 := T14.same s15
    refine ⟨.ref p, _, rfl, D15.dt, shO, (fun i e => by cases o <;> cases e), ?_⟩
    refine ⟨_, rfl, r, _, rfl, K15.du.dt, shO, rfl, ?_⟩
    rw [eN]
    refine ⟨_, rfl, pg ?_⟩
    have D15 := K15.du
    have F15 := K15.fd
    cases o with
    | inl i =>
      refine ⟨_, rfl, r, _, _, _, rfl, rfl, SqT.of D15.2, rfl, rfl, ?_⟩
      rw [xt rfl]
      exact ⟨_, rfl, vS (qK (k _ F15 T15))⟩
    | inr st =>
      obtain ⟨S, q, a, b2, e1, e2, e3, e4⟩ := D15
      refine ⟨_, rfl, r, _, _, _, rfl, rfl, SqT.of e1, rfl, rfl, ?_⟩
      rw [xi (by decide +kernel)]
      refine ⟨_, rfl, vT ?_⟩
      obtain ⟨v, M1, N1⟩ := st
      have mM : cy n (2 ^ ss.length) M1 := S.m
      have mN : cy n (2 ^ ss.length) N1 := S.h
      have id1 : aF M1 N1=ak n := S.id
      have id2 : aF N1 M1=ak n := S.di
      have e3 : H15 a=some (.tup (M1.map tx)) := e3
      have e4 : H15 b2=some (.tup (N1.map tx)) := e4
      have pw : 2 ^ ss.length≤65536 := y6 (n := 2) (by decide) h16
      have hM := gh M1 mM.le
      have hN := gh N1 mN.le
      rw [mM.len] at hM
      rw [mN.len] at hN
      have hx : n*2 ^ ss.length≤6*65536 := Aj h6 pw
      have hfl : (M1++N1).flatten.length≤1000000 := by rw [List.flatten_append, wY];omega
      have el : (M1.map tx).length+(N1.map tx).length=2*n := by rw [wV, wV, mM.len, mN.len];omega
      have ej : ("" : Str).length=0 := by decide +kernel
      refine ⟨rfl, _, rfl, r, _, _, _, rfl, rfl, SqT.of e1, rfl, q, _, _, _, rfl, rfl, SqT.of e2, rfl, _, rfl, r, _, _, _, rfl, rfl, SqT.of e1, rfl, q, _, _, _, rfl, rfl, SqT.of e2, rfl, a, b2, _, _, rfl, rfl, SqT.of e3, SqT.of e4, (fun e => by have := xH List.length e;rw [wV, mN.len] at this;simp at this;omega), (by rw [el];omega), (fun e => by have := xH List.length e;rw [wV, mM.len] at this;simp at this;omega), fun p16 hp16 => ?_⟩
      have s16 : aw H15 (upd H15 p16 (.tup (M1.map tx++N1.map tx))) := aw.new hp16
      have f16 : (upd H15 p16 (.tup (M1.map tx++N1.map tx))) p16=some (.tup (((M1++N1).map toS).map V.str)) := by
        rw [ag, ← xy, x4]
        rfl
      generalize upd H15 p16 (.tup (M1.map tx++N1.map tx))=H16 at s16 f16 ⊢
      refine ⟨_, p16, (M1++N1).map toS, rfl, rfl, SqT.of f16, (by rw [jw, ej, Nat.mul_zero];omega), ?_⟩
      rw [g0]
      refine ⟨_, rfl, (by rw [af];omega), _, _, rfl, rfl, _, rfl, ?_⟩
      have F16 := F15.same s16
      have T16 := T15.same s16
      by_cases hlt : (120 : Int) < ((toS (M1++N1).flatten).length : Int)
      · rw [xt hlt]
        exact qK (k _ F16 T16)
      rw [xi hlt]
      refine pg ?_
      rw [af] at hlt
      have cM := cy.cut4 (c := 120) mM (vs := M1++N1) (fun w hw => xW _ hw) (by omega)
      have cN := cy.cut4 (c := 120) mN (vs := M1++N1) (fun w hw => xl _ hw) (by omega)
      have e6 : ("abcdef" : Str).length=6 := by decide +kernel
      have ez : Txt.slice ("abcdef" : Str) none (some (n : Int))=toS (([0, 1, 2, 3, 4, 5] : List L).take n) := by
        rw [← gM, aP, cG _ (by omega), xh]
      have es : L2.bN (toS (([0, 1, 2, 3, 4, 5] : List L).take n))=(ak n).map tx := by
        unfold L2.bN ak
        rw [aZ, x4, x4]
        rfl
      have en : ((toS u).length : Int) / 2=(n : Int) := by rw [af];omega
      refine ⟨_, rfl, _, rfl, hw, _, _, rfl, rfl, ⟨by decide, by decide⟩, ?_⟩
      rw [en]
      refine ⟨_, rfl, _, rfl, by omega, ?_⟩
      rw [ez]
      refine ⟨_, rfl, (by rw [af, w_];simp;omega), fun p17 hp17 => ?_⟩
      rw [es]
      have s17 : aw H16 (upd H16 p17 (.tup ((ak n).map tx))) := aw.new hp17
      have f17 : (upd H16 p17 (.tup ((ak n).map tx))) p17=some (.tup ((ak n).map tx)) := ag
      generalize upd H16 p17 (.tup ((ak n).map tx))=H17 at s17 f17 ⊢
      have sA := s16.trans s17
      have e1 := sA _ _ e1
      have e2 := sA _ _ e2
      have e3 := sA _ _ e3
      have e4 := sA _ _ e4
      have dpl : (PyData.tuple (dws (ak n))).depth≤10 := (sH (n := 1) (aO h6).le (by rw [(aO h6).len];omega)).dp
      refine ⟨_, rfl, r, _, _, _, rfl, rfl, SqT.of e1, rfl, q, _, _, _, rfl, rfl, SqT.of e2, rfl, _, rfl, r, _, _, _, rfl, rfl, SqT.of e1, rfl, q, _, _, _, rfl, rfl, SqT.of e2, rfl, a, b2, n, 120, 120, M1, N1, rfl, ⟨e3, cM⟩, ⟨e4, cN⟩, h6, by decide, by decide, by decide, fun r18 H18 _ s18 M18 => ?_⟩
      rw [id1] at M18
      refine ⟨_, rfl, _, _, .tup M18.at_ (bH _), .tup (s18 _ _ f17) (bH _), eP _, eP _, dpl, ?_⟩
      rw [show PyData.eqv (.tuple (dws (ak n))) (.tuple (dws (ak n)))=true from lJ _]
      refine ⟨_, rfl, sC ?_⟩
      have e1 := s18 _ _ e1
      have e2 := s18 _ _ e2
      refine ⟨_, rfl, r, _, _, _, rfl, rfl, SqT.of e1, rfl, q, _, _, _, rfl, rfl, SqT.of e2, rfl, _, rfl, r, _, _, _, rfl, rfl, SqT.of e1, rfl, q, _, _, _, rfl, rfl, SqT.of e2, rfl, b2, a, n, 120, 120, N1, M1, rfl, ⟨s18 _ _ e4, cN⟩, ⟨s18 _ _ e3, cM⟩, h6, by decide, by decide, by decide, fun r19 H19 _ s19 M19 => ?_⟩
      rw [id2] at M19
      refine ⟨_, rfl, _, _, .tup M19.at_ (bH _), .tup (s19 _ _ (s18 _ _ f17)) (bH _), eP _, eP _, dpl, ?_⟩
      rw [show PyData.eqv (.tuple (dws (ak n))) (.tuple (dws (ak n)))=true from lJ _]
      have sB := (s17.trans s18).trans s19
      exact k _ (F16.same sB) (T16.same sB)
end
end Kx
namespace Kx
open PySem PySem.Spec PyProof.Rows L2 Wd
section
variable {P : Program} {w : World} {K : PySem.W.Frag} {mg : Str → Option Value} {base : Heap} {aB : Addr}
inductive hZ (K : PySem.W.Frag)(P0 : Addr)(vs : List V)(H : Hp)(Q : VK)(u3_ : XK) : Prop
  | mk : ∀ (a : Addr) (ns : List Int), (vs=[.ref a]) → (SqL K H a (ns.map V.int)) → (ns.length≤63) → (Tab H P0 qR) → (∀ H', Q (.bl true) H') → hZ K P0 vs H Q u3_
abbrev h_ : Stmt := top 40
theorem ua : aC ["_law_script", "_law_feed_here", "_law_k", "_law_row"] ["_law_script"] (aj h_) := ⟨rfl, rfl, rfl, by decide +kernel, rfl, by decide +kernel, by decide +kernel⟩
theorem vp {f : Addr}{fd : FuncData}{P0 : Addr}(D : Fun K "law" "law" h_ f fd)(T : Bt K w mg aB)(F_feed : Fnc P w K mg base "_law_feed" ["_law_script"] 1 (k6 K))(F_draw : Fnc P w K mg base "_law_draw" ["_law_feed_here", "_law_many"] 1 eG)(F_surf : Fnc P w K mg base "_law_surface" ["_law_feed_here", "_law_many"] 2 iQ)(F_right : Fnc P w K mg base "_law_right" ["_law_feed_here", "_law_row"] 7 (f_ P0))(F_told : Fnc P w K mg base "told_by" ["surface", "slides"] 4 fZ) : gm P w K mg base CX0 9 f fd ["_law_script"] (hZ K P0) := by
  have sc := ua
  refine D.ok sc (fun vs H Q E h => ?_) (fun cdv A outer s H vs Q E hr h => ?_)
  · obtain ⟨a, ns, rfl, _⟩ := h
    rfl
  · obtain ⟨a, ns, rfl, hS, hlen, hT, k⟩ := h
    have l16 := a9
    refine ⟨_, (@ai _ _ _ _ _ (@ay _ _ (1) _ _ _ _ sc.nd rfl (Or.inl rfl) (@aH _ _ _ _ _ _ _ _ _ _ _ F_feed hr (by decide) rfl (@aa _ _ _ _ _ (pv 0) ah (by rfl)) (by decide) (by rfl) (by rfl)) (by rfl) (by first | exact .inl rfl | exact .inr rfl | assumption)) (@ai _ _ _ _ _ (@bO _ _ _ _ _ _ _ _ x5 rfl (@cQ _ _ _ _ _ _ rfl T.range (@aa _ _ _ _ _ ar ah (by rfl)) (by rfl)) (@aI _ _ (2) _ sc.nd rfl (Or.inl rfl) (by first | exact .inl rfl | exact .inr rfl | assumption)) (@au _ _ _ (@bT _ _ _ _ _ _ _ _ (@i6 _ _ _ _ (@cS _ _ _ (@aH _ _ _ _ _ _ _ _ _ _ _ F_right hr (by decide) rfl (@aa _ _ _ _ _ (pv 1) (@aa _ _ _ _ _ (@aH _ _ _ _ _ _ _ _ _ _ _ F_surf hr (by decide) rfl (@aa _ _ _ _ _ (pv 1) (@aa _ _ _ _ _ (@aE _ _ _ _ _ _ _ _ bX ar (@aH _ _ _ _ _ _ _ _ _ _ _ F_draw hr (by decide) rfl (@aa _ _ _ _ _ (pv 1) (@aa _ _ _ _ _ ar ah (by rfl)) (by rfl)) (by decide) (by rfl) (by rfl))) ah (by rfl)) (by rfl)) (by decide) (by rfl) (by rfl)) ah (by rfl)) (by rfl)) (by decide) (by rfl) (by rfl)) (fun _ => rfl))) (@au _ _ _ (@aJ _ _ _ _ ig)) ba)) (by intro _ ;rfl)) (@ai _ _ _ _ _ (@ay _ _ (3) _ _ _ _ sc.nd rfl (Or.inl rfl) (@aH _ _ _ _ _ _ _ _ _ _ _ F_surf hr (by decide) rfl (@aa _ _ _ _ _ (pv 1) (@aa _ _ _ _ _ ar ah (by rfl)) (by rfl)) (by decide) (by rfl) (by rfl)) (by rfl) (by first | exact .inl rfl | exact .inr rfl | assumption)) (@au _ _ _ (@aJ _ _ _ _ (@cI _ _ _ _ _ _ _ _ d7 (@av _ _ _ _ _ _ _ _ _ (@a6 _ (by exact hr.gd) (by exact hr.units)) (by rfl) T.repr dF (@aa _ _ _ _ _ (@aH _ _ _ _ _ _ _ _ _ _ _ F_told hr (by decide) rfl (@aa _ _ _ _ _ (pv 3) (@aa _ _ _ _ _ (@bt _ _ _ _ _ ah) ah (by rfl)) (by rfl)) (by decide) (by rfl) (by rfl)) ah (by rfl)) (by decide) (by decide) (by rfl) (by rfl)) (@av _ _ _ _ _ _ _ _ _ (@a6 _ (by exact hr.gd) (by exact hr.units)) (by rfl) T.repr dF (@aa _ _ _ _ _ (@bt _ _ _ _ _ (@aa _ _ _ _ _ (pv 3) (@aa _ _ _ _ _ (@bt _ _ _ _ _ (@aa _ _ _ _ _ aA (@aa _ _ _ _ _ aA ah (by rfl)) (by rfl))) (@aa _ _ _ _ _ (@bt _ _ _ _ _ (@aa _ _ _ _ _ aA (@aa _ _ _ _ _ aA ah (by rfl)) (by rfl))) ah (by rfl)) (by rfl)) (by rfl))) ah (by rfl)) (by decide) (by decide) (by rfl) (by rfl)) (aT _))))))), ?_⟩
    refine ⟨_, rfl, a, ns, rfl, hS, hlen, fun d H1 _ F1 s1 => ?_⟩
    refine ⟨_, rfl, by decide, by decide, cR (lo := 0) (n := 4) (fun i σ H' => ∃ (b2 : Option V), σ = [some (.ref a), some (.ref d), b2, none] ∧ Fd H' d ∧ Tab H' P0 qR) ⟨none, rfl, F1, hT.same s1⟩ ?_ ?_⟩
    · rintro i σ H2 hi ⟨b2, rfl, F2, T2⟩
      refine ⟨_, rfl, _, rfl, _, rfl, d, _, rfl, F2, by decide, by decide, fun r H3 r0 r1 F3 sb3 => ⟨_, _, rfl, rfl, ?_⟩⟩
      have T3 := T2.sb F2 sb3
      obtain ⟨m, rfl⟩ := x8 r0
      refine ⟨d, m+1, ?_, F3, by omega, by omega, fun u H4 R hall F4 sb4 => ?_⟩
      · show [V.ref d, V.int (1+(m : Int))]=_
        rw [show 1+(m : Int)=((m+1 : Nat) : Int) by omega]
      have T4 := T3.sb F3 sb4
      refine ⟨d, u, m+1, rfl, F4, R, l8 R hall (by omega) (by omega), by omega, by omega, T4, fun H5 F5 T5 => ?_⟩
      exact ⟨_, rfl, nkT (pg ⟨_, rfl, F5, T5⟩)⟩
    · rintro σ H2 ⟨b2, rfl, F2, T2⟩
      refine ⟨_, rfl, d, 2, rfl, F2, by decide, by decide, fun u H3 R hall F3 sb3 => ?_⟩
      have U := l8 R hall (by decide) (by decide)
      have hlu := R.len
      refine ⟨_, rfl, (aD (n := 0) (by decide)), fun t ht => ?_⟩
      have s4 : aw H3 (upd H3 t (.tup [])) := aw.new ht
      have f4 : (upd H3 t (.tup [])) t=some (.tup (([] : List Addr).map V.ref)) := ag
      generalize upd H3 t (.tup [])=H4 at s4 f4 ⊢
      refine ⟨u, t, 2, rfl, f4, R, U, by decide, by decide, fun r a2 b2 H5 s5 g1 g2 g3 => ?_⟩
      have A := aO (n := 2) (by decide)
      have shA : Sh (.tuple [.str (toS u), .tuple (dws (ak 2)), .tuple (dws (ak 2))]) := qN (by omega) A A (by decide) (by decide)
      refine ⟨r, _, rfl, .tup g1 (.cons (.str _) (.cons (.tup g2 (bH _)) (.cons (.tup g3 (bH _)) .nil))), shA, ?_⟩
      have ea : ([.str "a", .str "b"] : List V)=(ak 2).map tx := by
        show _=[tx [0], tx [1]]
        rw [show tx [0]=V.str "a" from xH V.str (by decide +kernel), show tx [1]=V.str "b" from xH V.str (by decide +kernel)]
      refine ⟨_, rfl, (aD (n := 2) (by decide)), fun p1 hp1 => ⟨(aD (n := 2) (by decide)), fun p2 hp2 => ⟨(aD (n := 3) (by decide)), fun p3 hp3 => ?_⟩⟩⟩
      have x1 : (upd H5 p1 (.tup [.str "a", .str "b"])) p1=some (.tup ((ak 2).map tx)) := by rw [ag, ea]
      generalize upd H5 p1 (.tup [.str "a", .str "b"])=H6 at x1 hp2 hp3 ⊢
      have x1 := (aw.new (o := .tup [.str "a", .str "b"]) hp2) _ _ x1
      have x2 : (upd H6 p2 (.tup [.str "a", .str "b"])) p2=some (.tup ((ak 2).map tx)) := by rw [ag, ea]
      generalize upd H6 p2 (.tup [.str "a", .str "b"])=H7 at x1 x2 hp3 ⊢
      have s8 := aw.new (o := .tup [tx u, .ref p1, .ref p2]) hp3
      refine ⟨p3, _, rfl, .tup ag (.cons (.str _) (.cons (.tup (s8 _ _ x1) (bH _)) (.cons (.tup (s8 _ _ x2) (bH _)) .nil))), shA, rfl, ?_⟩
      rw [xt rfl]
      exact k _
end
end Kx
namespace Kx
open PySem PySem.Spec PyProof.Rows L2 Wd
theorem vq {K : PySem.W.Frag}{h : Heap}{mg : Str → Option Value}{x : Str}{st : Stmt}{f : Addr}{oc : Value}{od an : Option Addr}{osl : Array (Option Value)}{kV doc pm cdv ct : Value}(X : K.In h)(G : h.Ns mainGlobals mg)(a : PySem.W.nsIn K mainGlobals x=some (some (.ref f)))
    (l : K.lookup f=some ⟨oc, od, .func (PySem.W.fnOf x x (bb st) (aQ st) (aj st) .none kV doc pm an cdv ct), osl⟩) (c : PySem.W.codeIn K cdv x=true) (k : PySem.W.keepIn K (.ref f)=true) : Df K mg x st := ⟨f, _, xS X G a, kG l c k⟩
inductive DI (K : PySem.W.Frag)(x : Str)(st : Stmt) : Prop
  | mk {f : Addr} {oc : Value} {od an : Option Addr} {osl : Array (Option Value)} {kV doc pm cdv ct : Value} (a : PySem.W.nsIn K mainGlobals x=some (some (.ref f))) (l : K.lookup f=some ⟨oc, od, .func (PySem.W.fnOf x x (bb st) (aQ st) (aj st) .none kV doc pm an cdv ct), osl⟩) (c : PySem.W.codeIn K cdv x=true) (k : PySem.W.keepIn K (.ref f)=true) : DI K x st
theorem DI.df {K : PySem.W.Frag}{h : Heap}{mg : Str → Option Value}{x : Str}{st : Stmt}(d : DI K x st)(X : K.In h)(G : h.Ns mainGlobals mg) : Df K mg x st := by
  cases d with
  | mk a l c k => exact vq X G a l c k
inductive DL where
  | n
  | c (x : Str) (st : Stmt) (r : DL)
def DIs (K : PySem.W.Frag) : DL → Prop
  | .n => True
  | .c x st r => DI K x st ∧ DIs K r
theorem DIs.on {K : PySem.W.Frag}{x : Str}{st : Stmt}{r : DL}{f : Addr}{oc : Value}{od an : Option Addr}{osl : Array (Option Value)}{kV doc pm cdv ct : Value}(a : PySem.W.nsIn K mainGlobals x=some (some (.ref f)))(l : K.lookup f=some ⟨oc, od, .func (PySem.W.fnOf x x (bb st) (aQ st) (aj st) .none kV doc pm an cdv ct), osl⟩)(c : PySem.W.codeIn K cdv x=true)(k : PySem.W.keepIn K (.ref f)=true)(hr : DIs K r) : DIs K (.c x st r) := ⟨.mk a l c k, hr⟩
theorem ub {l : PySem.W.OpenLaw}{w : World}{K : PySem.W.Frag}{h : Heap}{mg : Str → Option Value}{fa : Addr}(X : K.In h)(G : h.Ns mainGlobals mg)(hfa : mg "law" = some (.ref fa))
    {fQ9 c0Q9 P0Q9 : Addr} {odQ9 anQ9 : Option Addr} {slQ9 : Array (Option Value)} {ocQ9 kVQ9 dcQ9 pmQ9 ctQ9 : Value} {f25 : Addr} {od25 an25 : Option Addr} {sl25 : Array (Option Value)} {oc25 kV25 dc25 pm25 cd25 ct25 : Value} {aB : Addr} {es : Array DictEntry} {en : Nat} {tS : Tok}   {CR : Addr} {ddCR : Option Addr} {cdCR : ClassData} {sCR0 sCR1 sCR2 sCR3 sCR5 : Option Value}         {nsCR : Addr} {onCR : Value} {dnCR : Option Addr} {esCR : Array DictEntry} {nnCR : Nat} {snCR : Array (Option Value)}         {CT : Addr} {ddCT : Option Addr} {cdCT : ClassData} {sCT0 sCT1 sCT2 sCT3 sCT5 : Option Value}          {fCT : Addr} {ocCT kVCT dcCT pmCT cvCT ctCT : Value} {odCT anCT : Option Addr} {slCT : Array (Option Value)}    {ck0 : Addr} {ck1 : Addr} {ck2 : Addr} {ck3 : Addr} {ck4 : Addr} {ck5 : Addr} {dk0 : Option Addr} {xk0 : ClassData} {sk0 : Array (Option Value)}  {dk1 : Option Addr} {xk1 : ClassData} {sk1 : Array (Option Value)}  {dk2 : Option Addr} {xk2 : ClassData} {sk2 : Array (Option Value)}  {dk3 : Option Addr} {xk3 : ClassData} {sk3 : Array (Option Value)}  {dk4 : Option Addr} {xk4 : ClassData} {sk4 : Array (Option Value)}  {dk5 : Option Addr} {xk5 : ClassData} {sk5 : Array (Option Value)}  {t0 t1 t2 t3 t4 t5 t6 t7 t8 t9 t10 t11 : Tok}
    (hs : DIs K (.c "number_of" qY <| .c "back" mf <| .c "reduced" qU <| .c "mapped" gc <| .c "then" mj <| .c "plain" iW <| .c "maps_of" ml <| .c "told_by" mx <| .c "can_slide" qZ <| .c "neighbour" vi <| .c "moved" iY <| .c "putting_ahead" q8 <| .c "_law_feed" me <| .c "_law_draw" md <| .c "_law_back" iV <| .c "_law_reduced" mh <| .c "_law_surface" mn <| .c "_law_slid" mr <| .c "_law_mapped" eX <| .c "_law_maps" iZ <| .c "_law_slides" gf <| .c "_law_told" i3 <| .c "_law_due" rq <| .c "_law_wrong" i4 <| .n))
    (aQ9 : PySem.W.nsIn K mainGlobals "_law_right" = some (some (.ref fQ9)))
    (lQ9 : K.lookup fQ9=some ⟨ocQ9, odQ9, .func (PySem.W.fnOf "_law_right" "_law_right" (bb eZ) (aQ eZ) (aj eZ) .none kVQ9 dcQ9 pmQ9 anQ9 (.ref c0Q9) ctQ9), slQ9⟩)
    (cQ9 : PySem.W.codeIn K (.ref c0Q9) "_law_right" = true)
    (kQ9 : PySem.W.keepIn K (.ref fQ9)=true)
    (tQ9 : PySem.W.tabIn K "_law_right" = some (c0Q9, P0Q9))
    (nQ9 : K.lookup P0Q9=none)
    (a25 : PySem.W.nsIn K mainGlobals "law" = some (some (.ref f25)))
    (l25 : K.lookup f25=some ⟨oc25, od25, .func (PySem.W.fnOf "law" "law" (bb h_) (aQ h_) (aj h_) .none kV25 dc25 pm25 an25 cd25 ct25), sl25⟩)
    (c25 : PySem.W.codeIn K cd25 "law" = true)
    (k25 : PySem.W.keepIn K (.ref f25)=true)
    (z_len : PySem.W.nsIn K mainGlobals "len" = some none)
    (z_repr : PySem.W.nsIn K mainGlobals "repr" = some none)
    (z_abs : PySem.W.nsIn K mainGlobals "abs" = some none)
    (z_max : PySem.W.nsIn K mainGlobals "max" = some none)
    (z_int : PySem.W.nsIn K mainGlobals "int" = some none)
    (z_list : PySem.W.nsIn K mainGlobals "list" = some none)
    (z_range : PySem.W.nsIn K mainGlobals "range" = some none)
    (z_reversed : PySem.W.nsIn K mainGlobals "reversed" = some none)
    (z_min : PySem.W.nsIn K mainGlobals "min" = some none)
    (z_sorted : PySem.W.nsIn K mainGlobals "sorted" = some none)
    (z_tuple : PySem.W.nsIn K mainGlobals "tuple" = some none)
    (z_isinstance : PySem.W.nsIn K mainGlobals "isinstance" = some none)
    (z_all : PySem.W.nsIn K mainGlobals "all" = some none)
    (z_str : PySem.W.nsIn K mainGlobals "str" = some none)
    (z_zip : PySem.W.nsIn K mainGlobals "zip" = some none)
    (aBk : PySem.W.nsIn K mainGlobals "BACKS" = some (some (.ref aB)))
    (lB : K.lookup aB=some ⟨.type "dict", none, .dict es en, #[]⟩)
    (kB : PySem.W.KeysLit w.params es.toList)
    (aS : PySem.W.nsIn K mainGlobals "SMALL" = some (some (.str "abcdef" tS)))
    (zE : PySem.W.nsIn K mainGlobals "enumerate" = some none)
    (zV : PySem.W.nsIn K mainGlobals "ValueError" = some none)
    (aCR : PySem.W.nsIn K mainGlobals "RingError" = some (some (.ref CR)))
    (lCR : K.lookup CR=some ⟨.type "type", ddCR, .cls cdCR, #[sCR0, sCR1, sCR2, sCR3, some (.builtin "ValueError.__new__"), sCR5]⟩)
    (mCR : cdCR.mro = .ref CR::bmV)
    (eCR : cdCR.hasDel=false)
    (dCR : cdCR.hasDict=true)
    (kCR : PySem.W.keepIn K (.ref CR)=true)
    (saCR : PySem.W.findIn K (.ref CR) "__setattr__" = some (some (.builtin "object.__setattr__")))
    (gaCR : PySem.W.findIn K (.ref CR) "__getattribute__" = some (some (.builtin "BaseException.__getattribute__")))
    (gnCR : PySem.W.findIn K (.ref CR) "__getattr__" = some (none))
    (caCR : PySem.W.findIn K (.ref CR) "__class__" = some (some (.builtin "object.__class__")))
    (nCR : cdCR.ns=nsCR)
    (oCR : K.lookup nsCR=some ⟨onCR, dnCR, .dict esCR nnCR, snCR⟩)
    (pCR : (esCR.toList.all fun e => match e.key with | .str _ _ => true | _ => false)=true)
    (qCR : PySem.W.nsIn K nsCR "__init__" = some none)
    (rdCR : PySem.W.readsIn K CR (.type "type")=true)
    (atCR : PySem.W.findCls K (.ref CR) (.type "type") "__init__" = some (.val (.builtin "ValueError.__init__")))
    (gtCR : PySem.W.specialIn K (.ref CR) "__getattribute__" = some (some (.builtin "type.__getattribute__")))
    (hdI : PySem.W.handedIn (.builtin "ValueError.__init__")=true)
    (cgt : PySem.W.specialIn K (.builtin "object.__class__") "__get__" = some (some (.builtin "getset_descriptor.__get__")))
    (ctk : PySem.W.takesIn K (.builtin "object.__class__")=some true)
    (aCT : PySem.W.nsIn K mainGlobals "NoSlide" = some (some (.ref CT)))
    (lCT : K.lookup CT=some ⟨.type "type", ddCT, .cls cdCT, #[sCT0, sCT1, sCT2, sCT3, some (.builtin "ValueError.__new__"), sCT5]⟩)
    (mCT : cdCT.mro = .ref CT :: .ref CR::bmV)
    (eCT : cdCT.hasDel=false)
    (dCT : cdCT.hasDict=true)
    (kCT : PySem.W.keepIn K (.ref CT)=true)
    (saCT : PySem.W.findIn K (.ref CT) "__setattr__" = some (some (.builtin "object.__setattr__")))
    (gaCT : PySem.W.findIn K (.ref CT) "__getattribute__" = some (some (.builtin "BaseException.__getattribute__")))
    (gnCT : PySem.W.findIn K (.ref CT) "__getattr__" = some (none))
    (caCT : PySem.W.findIn K (.ref CT) "__class__" = some (some (.builtin "object.__class__")))
    (xCT0 : PySem.W.findIn K (.ref CT) "place" = some none)
    (iCT : PySem.W.findIn K (.ref CT) "__init__" = some (some (.ref fCT)))
    (uCT : K.lookup fCT=some ⟨ocCT, odCT, .func (PySem.W.fnOf "__init__" "NoSlide.__init__" (bb eY) (aQ eY) (aj eY) .none kVCT dcCT pmCT anCT cvCT ctCT), slCT⟩)
    (vCT : PySem.W.codeIn K cvCT "NoSlide.__init__" = true)
    (wCT : PySem.W.keepIn K (.ref fCT)=true)
    (jCT : PySem.W.isFn K (.ref fCT)=true)
    (ak0 : PySem.W.nsIn K mainGlobals "NoBand" = some (some (.ref ck0)))
    (ak1 : PySem.W.nsIn K mainGlobals "NoPaper" = some (some (.ref ck1)))
    (ak2 : PySem.W.nsIn K mainGlobals "NoStep" = some (some (.ref ck2)))
    (ak3 : PySem.W.nsIn K mainGlobals "NoSurface" = some (some (.ref ck3)))
    (ak4 : PySem.W.nsIn K mainGlobals "NoRow" = some (some (.ref ck4)))
    (ak5 : PySem.W.nsIn K mainGlobals "NoWay" = some (some (.ref ck5)))
    (lk0 : K.lookup ck0=some ⟨.type "type", dk0, .cls xk0, sk0⟩)
    (nk0 : (Value.ref CT :: .ref CR::bmV).contains (.ref ck0)=false)
    (lk1 : K.lookup ck1=some ⟨.type "type", dk1, .cls xk1, sk1⟩)
    (nk1 : (Value.ref CT :: .ref CR::bmV).contains (.ref ck1)=false)
    (lk2 : K.lookup ck2=some ⟨.type "type", dk2, .cls xk2, sk2⟩)
    (nk2 : (Value.ref CT :: .ref CR::bmV).contains (.ref ck2)=false)
    (lk3 : K.lookup ck3=some ⟨.type "type", dk3, .cls xk3, sk3⟩)
    (nk3 : (Value.ref CT :: .ref CR::bmV).contains (.ref ck3)=false)
    (lk4 : K.lookup ck4=some ⟨.type "type", dk4, .cls xk4, sk4⟩)
    (nk4 : (Value.ref CT :: .ref CR::bmV).contains (.ref ck4)=false)
    (lk5 : K.lookup ck5=some ⟨.type "type", dk5, .cls xk5, sk5⟩)
    (nk5 : (Value.ref CT :: .ref CR::bmV).contains (.ref ck5)=false)
    (gl0 : PySem.W.nsIn K aB "a" = some (some (.str "A" t0)))
    (gl1 : PySem.W.nsIn K aB "b" = some (some (.str "B" t1)))
    (gl2 : PySem.W.nsIn K aB "c" = some (some (.str "C" t2)))
    (gl3 : PySem.W.nsIn K aB "d" = some (some (.str "D" t3)))
    (gl4 : PySem.W.nsIn K aB "e" = some (some (.str "E" t4)))
    (gl5 : PySem.W.nsIn K aB "f" = some (some (.str "F" t5)))
    (gl6 : PySem.W.nsIn K aB "A" = some (some (.str "a" t6)))
    (gl7 : PySem.W.nsIn K aB "B" = some (some (.str "b" t7)))
    (gl8 : PySem.W.nsIn K aB "C" = some (some (.str "c" t8)))
    (gl9 : PySem.W.nsIn K aB "D" = some (some (.str "d" t9)))
    (gl10 : PySem.W.nsIn K aB "E" = some (some (.str "e" t10)))
    (gl11 : PySem.W.nsIn K aB "F" = some (some (.str "f" t11))) :
    ∃ (c0 P0 : Addr) (fd : FuncData), PySem.W.tabIn K "_law_right" = some (c0, P0) ∧ K.lookup P0=none ∧ (∀ (s : Shared) (v : Value), BindsTo s fd ⟨[v], []⟩ [("_law_script", v)]) ∧ ∀ base : Heap, K.In base → base.Ns mainGlobals mg → Mkr base mg c0 P0 → gm l.prog w K mg base CX0 9 fa fd ["_law_script"] (hZ K P0) := by
  have e := hfa.symm.trans (xS X G a25)
  cases e
  have gB : ∀ x : L, ∃ t, PySem.W.nsIn K aB (toS [x])=some (some (.str (toS [inv x]) t)) := by
    have q : ∀ (x : L) (u v : Str) (t : Tok), PySem.W.nsIn K aB u=some (some (.str v t)) → toS [x]=u → toS [inv x]=v → ∃ t, PySem.W.nsIn K aB (toS [x])=some (some (.str (toS [inv x]) t)) := fun x u v t g e1 e2 => ⟨t, by rw [e1, e2];exact g⟩
    intro x
    match x with
    | ⟨0, _⟩ => exact q 0 "a" "A" _ gl0 (by decide +kernel) (by decide +kernel)
    | ⟨1, _⟩ => exact q 1 "b" "B" _ gl1 (by decide +kernel) (by decide +kernel)
    | ⟨2, _⟩ => exact q 2 "c" "C" _ gl2 (by decide +kernel) (by decide +kernel)
    | ⟨3, _⟩ => exact q 3 "d" "D" _ gl3 (by decide +kernel) (by decide +kernel)
    | ⟨4, _⟩ => exact q 4 "e" "E" _ gl4 (by decide +kernel) (by decide +kernel)
    | ⟨5, _⟩ => exact q 5 "f" "F" _ gl5 (by decide +kernel) (by decide +kernel)
    | ⟨6, _⟩ => exact q 6 "A" "a" _ gl6 (by decide +kernel) (by decide +kernel)
    | ⟨7, _⟩ => exact q 7 "B" "b" _ gl7 (by decide +kernel) (by decide +kernel)
    | ⟨8, _⟩ => exact q 8 "C" "c" _ gl8 (by decide +kernel) (by decide +kernel)
    | ⟨9, _⟩ => exact q 9 "D" "d" _ gl9 (by decide +kernel) (by decide +kernel)
    | ⟨10, _⟩ => exact q 10 "E" "e" _ gl10 (by decide +kernel) (by decide +kernel)
    | ⟨11, _⟩ => exact q 11 "F" "f" _ gl11 (by decide +kernel) (by decide +kernel)
  have T : Bt K w mg aB := ⟨xw X G z_len, xw X G z_repr, xw X G z_abs, xw X G z_max, xw X G z_int, xw X G z_list, xw X G z_range, xw X G z_reversed, xw X G z_min, xw X G z_sorted, xw X G z_tuple, xw X G z_isinstance, xw X G z_all, xw X G z_str, xw X G z_zip, xS X G aBk, ⟨es, en, lB, kB⟩, gB⟩
  have S : ∃ t, mg "SMALL" = some (.str "abcdef" t) := ⟨_, xS X G aS⟩
  have Te : mg "enumerate" = none := xw X G zE
  have XCR : XCl K CR bmV := o_ lCR mCR eCR dCR gU kCR
  have ACR : XAt K CR := ⟨⟨_, XCR⟩, saCR, gaCR, gnCR⟩
  have GCR : mg "RingError" = some (.ref CR) := xS X G aCR
  have BCR : qq K CR := ⟨rdCR, atCR, gtCR, hdI⟩
  have XCT : XCl K CT (.ref CR::bmV) := o_ lCT mCT eCT dCT (nL lCR (by rw [nCR];exact qw oCR pCR) (by rw [nCR];exact qCR) gU) kCT
  have ACT : XAt K CT := ⟨⟨_, XCT⟩, saCT, gaCT, gnCT⟩
  have CCT : XCa K CT := ⟨ACT, caCT, cgt, ctk⟩
  have ICT := fun base : Heap => ou (P := l.prog) (w := w) (mg := mg) (base := base) (kG uCT vCT wCT) BCR GCR ACT xCT0
  have MCT : ∀ base : Heap, XMk l.prog w K mg base "NoSlide" CT ["place"] 1 := fun base => ⟨xS X G aCT, CCT, by intro f hf;simp only [xn, xF, yM] at hf;rcases hf with rfl <;> assumption, ⟨_, _, _, XCT, iCT, jCT, (ICT base).1, (ICT base).2⟩⟩
  have TCL : vU K mg CT CR (.ref CR::bmV) bmV (fun n => [ck0, ck1, ck2, ck3, ck4, ck5].getD n ck0) := ⟨xS X G aCT, xS X G aCR, xw X G zV, xS X G ak0, xS X G ak1, xS X G ak2, xS X G ak3, xS X G ak4, xS X G ak5, XCT, by simp, (cz XCT lk0).trans (xH some nk0), (cz XCT lk1).trans (xH some nk1), (cz XCT lk2).trans (xH some nk2), (cz XCT lk3).trans (xH some nk3), (cz XCT lk4).trans (xH some nk4), (cz XCT lk5).trans (xH some nk5), n8, sX X XCT rfl rfl, CCT, xCT0⟩
  refine ⟨c0Q9, P0Q9, PySem.W.fnOf "law" "law" (bb h_) (aQ h_) (aj h_) .none kV25 dc25 pm25 an25 cd25 ct25, tQ9, nQ9, fun s v => .of_eq rfl, fun base _ _ M => ?_⟩
  obtain ⟨h0, h1, h2, h3, h4, h5, h6, h7, h8, h9, h10, h11, h12, h13, h14, h15, h16, h17, h18, h19, h20, h21, h22, h23, _⟩ := hs
  have F_num := vh (P := l.prog) (w := w) (base := base) (h0.df X G) T S
  have F_back := tO (P := l.prog) (w := w) (base := base) (h1.df X G) T
  have F_red := vg (P := l.prog) (w := w) (base := base) (h2.df X G) T
  have F_mapped := og (P := l.prog) (w := w) (base := base) (h3.df X G) T S F_back F_red
  have F_then := tR (P := l.prog) (w := w) (base := base) (h4.df X G) T F_mapped
  have F_plain := qX (P := l.prog) (w := w) (base := base) (h5.df X G) T S
  have F_nb := wN (P := l.prog) (w := w) (base := base) (h9.df X G) T
  have F_can := vm (P := l.prog) (w := w) (base := base) (h8.df X G) T (eT F_back) F_nb
  have F_put := vn (P := l.prog) (w := w) (base := base) (h11.df X G) T S F_num (eT F_back)
  have F_maps := tW (P := l.prog) (w := w) (base := base) (h6.df X G) T (eT F_back) (qM F_can) F_nb F_put
  have F_moved := rf (P := l.prog) (w := w) (base := base) (h10.df X G) T (eT F_back) F_nb
  have F_told := tZ (P := l.prog) (w := w) (base := base) (h7.df X G) T Te F_then F_plain F_maps F_can F_moved (MCT _)
  have F_feed := tN (P := l.prog) (w := w) (base := base) (h12.df X G) T
  have F_draw := tM (P := l.prog) (w := w) (base := base) (h13.df X G) T
  have F_lback := qT (P := l.prog) (w := w) (base := base) (h14.df X G) 
  have F_lred := tQ (P := l.prog) (w := w) (base := base) (h15.df X G) T (eT F_lback)
  have F_surf := tX (P := l.prog) (w := w) (base := base) (h16.df X G) T F_draw
  have F_slid := tY (P := l.prog) (w := w) (base := base) (h17.df X G) T (eT F_lback)
  have F_lmapped := mv (P := l.prog) (w := w) (base := base) (h18.df X G) F_lback F_lred
  have F_lmaps := rm (P := l.prog) (w := w) (base := base) (h19.df X G) T (eT F_lback)
  have F_slides := oy (P := l.prog) (w := w) (base := base) (h20.df X G) T F_draw F_slid
  have F_ltold := rp (P := l.prog) (w := w) (base := base) (h21.df X G) T TCL XCR
  have F_due := vo (P := l.prog) (w := w) (base := base) (h22.df X G) T Te F_slid F_lmapped F_lmaps
  have F_wrong := rA (P := l.prog) (w := w) (base := base) (h23.df X G) T F_draw F_slid
  have F_right := rC (P := l.prog) (w := w) (base := base) (c0 := c0Q9) ⟨fQ9, _, _, _, _, _, _, _, _, xS X G aQ9, lQ9, cQ9, kQ9⟩ T M F_draw F_slides F_ltold F_due F_wrong F_told F_then
  exact vp (kG l25 c25 k25) T F_feed F_draw F_surf F_right (iU F_told fun _ _ _ _ h => h.told)
theorem wQ {l : PySem.W.OpenLaw}{q : Program}{loose : List Str}{XP : (Str → Option Value) → Heap → Prop}{YP : World → Heap → Prop}{d : DefRec}{K : Params → PySem.W.Frag}(hn : l.most=some 63)(hdf : d.params.defaults=[])
    (hY : ∀ (w : World) (h : Heap), YP w h → (K w.params).In h) (hrec : ((recsOf q).find? (fun e => e.name == ("_law_right" : Str))).isSome=true)
    (F : ∀ (w : World) (mg : Str → Option Value) (fa : Addr) (h : Heap), (K w.params).In h → h.Ns mainGlobals mg → mg d.name=some (.ref fa) →
      ∃ (c0 P0 : Addr) (fd : FuncData), PySem.W.tabIn (K w.params) "_law_right" = some (c0, P0) ∧ (K w.params).lookup P0=none ∧ (∀ (s : Shared) (u : Value), BindsTo s fd ⟨[u], []⟩ [("_law_script", u)]) ∧ ∀ base : Heap, (K w.params).In base → base.Ns mainGlobals mg → Mkr base mg c0 P0 → gm l.prog w (K w.params) mg base CX0 9 fa fd ["_law_script"] (hZ (K w.params) P0)) :
    PySem.W.WalkO q loose XP YP l.row.toRowW d [] (fun f vs => PySem.call f vs) := by
  obtain ⟨dt, hrec⟩ := za.mp hrec
  exact L2.nX (n := 63) (k := 9) (x := "_law_script") (tn := "_law_right") (CX := fun _ => CX0) (sp := fun w P0 => hZ (K w.params) P0) hn (by decide) hdf ⟨rfl, by decide, by decide, rfl⟩ hY hrec F (fun _ _ a P0 ns hl hT hS => ⟨a, ns, rfl, hS, hl, qG hT, fun _ => rfl⟩) fun _ _ _ _ _ z => z
end Kx
namespace Kx
open PySem
def ud (s : String) : Str := ⟨⟨PySem.W.R.mapR Char.toNat (PySem.W.S.toListS s)⟩⟩
theorem oC : Str.ofString=ud := by
  funext s
  rw [Str.ofString_eq_toList, PySem.W.S.toListS_eq]
  show _=(⟨⟨PySem.W.R.mapR Char.toNat (PySem.W.S.toListS s)⟩⟩ : Str)
  rw [← PySem.W.R.mapR_eq]
def apG (G : (String → Str) → Program)(x : String → Str) : Program := G x
def Gs : { G : (String → Str) → Program // apG G Str.ofString=PySem.Challenge.pw_ringwords_k64_rows_of_slides } := by
  refine ⟨?G, ?h⟩
  case h =>
    delta PySem.Challenge.pw_ringwords_k64_rows_of_slides
    generalize Str.ofString=x
    exact rfl
end Kx
def PySem.W.Fast.tw15838653696726063959 : PySem.Program := Kx.Gs.1 Kx.ud
theorem PySem.W.Fast.te15838653696726063959 : PySem.Challenge.pw_ringwords_k64_rows_of_slides=PySem.W.Fast.tw15838653696726063959 := Kx.Gs.2.symm.trans (xH (Kx.apG Kx.Gs.1) Kx.oC)
theorem PySem.W.Fast.te14194313111609529103 : True := trivial
theorem PySem.W.Fast.tw9999163162141587859 : True := trivial
theorem PySem.W.Fast.tw7392049779461479348 : True := trivial
theorem PySem.W.Fast.tw5705738068133087176 : True := trivial
theorem PySem.W.Fast.tw7483786211632245167 : True := trivial
theorem PySem.W.Fast.tw7444581693721211834 : True := trivial
theorem PySem.W.Fast.tw986567966036188530 : True := trivial
theorem PySem.W.Fast.tw5263395934508547124 : True := trivial
theorem PySem.W.Fast.tw10066210566057999354 : True := trivial
theorem PySem.W.Fast.tw4118873414211478769 : True := trivial
theorem PySem.W.Fast.tw13543953935326211715 : True := trivial
theorem PySem.W.Fast.tw10049570724221921541 : True := trivial
theorem PySem.W.Fast.tw10729336405576103139 : True := trivial
theorem PySem.W.Fast.tw11635022760756693290 : True := trivial
theorem PySem.W.Fast.tw12698969544527604511 : True := trivial
theorem PySem.W.Fast.tw5222030520108710619 : True := trivial
theorem PySem.W.Fast.tw2271952868569390886 : True := trivial
theorem PySem.W.Fast.tw12373313849359321803 : True := trivial
theorem PySem.W.Fast.tw16124891920469411716 : True := trivial
theorem PySem.W.Fast.tw13517484137712303828 : True := trivial
theorem PySem.W.Fast.tw13311114440906981087 : True := trivial
theorem PySem.W.Fast.tw17817894756033778312 : True := trivial
theorem PySem.W.Fast.tw7297862180161828755 : True := trivial
theorem PySem.W.Fast.tw15379439382286056441 : True := trivial
theorem PySem.W.Fast.tw9067132885366732747 : True := trivial
theorem PySem.W.Fast.tw2313414234203524304 : True := trivial
theorem PySem.W.Fast.tw4904522303697856702 : True := trivial
theorem PySem.W.Fast.tw17183949502633367596 : True := trivial
theorem PySem.W.Fast.tw17037310058932121259 : True := trivial
theorem PySem.W.Fast.tw11213130180435250053 : True := trivial
theorem PySem.W.Fast.tw4535083788754131075 : True := trivial
theorem PySem.W.Fast.tw10253923312505241379 : True := trivial
theorem PySem.W.Fast.tw16524979036770453952 : True := trivial
theorem PySem.W.Fast.tw15149170012680129843 : True := trivial
theorem PySem.W.Fast.tw10377281041198858632 : True := trivial
theorem PySem.W.Fast.tw10206402915198364264 : True := trivial
theorem PySem.W.Fast.tw848762778858934076 : True := trivial
theorem PySem.W.Fast.tw9491812244288317012 : True := trivial
theorem PySem.W.Fast.tw15442592808457722845 : True := trivial
theorem PySem.W.Fast.tw10923462492405052731 : True := trivial
theorem PySem.W.Fast.tw11528189625043633300 : True := trivial
theorem PySem.W.Fast.tw14317456417156991946 : True := trivial
theorem PySem.W.Fast.tw3450062889281671013 : True := trivial
theorem PySem.W.Fast.tw7664331600283805043 : True := trivial
theorem PySem.W.Fast.tw14472462394734741008 : True := trivial
theorem PySem.W.Fast.tw7108984405508806931 : True := trivial
theorem PySem.W.Fast.tw14299159562999597402 : True := trivial
theorem PySem.W.Fast.tw11865647759873950656 : True := trivial
theorem PySem.W.Fast.tw11949525625126152997 : True := trivial
theorem PySem.W.Fast.tw7733425339811186402 : True := trivial
theorem PySem.W.Fast.tw5046041471168817224 : True := trivial
theorem PySem.W.Fast.tw7753584278991607695 : True := trivial
theorem PySem.W.Fast.tw5462302390501916448 : True := trivial
theorem PySem.W.Fast.tw10359769596760557891 : True := trivial
theorem PySem.W.Fast.tw10615838236952787007 : True := trivial
theorem PySem.W.Fast.tw11514584157001147518 : True := trivial
theorem PySem.W.Fast.tw15810667489850474658 : True := trivial
theorem PySem.W.Fast.tw12106079486049535502 : True := trivial
theorem PySem.W.Fast.tw11509974569812233284 : True := trivial
theorem PySem.W.Fast.tw15342068953168144895 : True := trivial
theorem PySem.W.Fast.tw12125905468839184067 : True := trivial
theorem PySem.W.Fast.tw453446735980594010 : True := trivial
theorem PySem.W.Fast.tw4537185124005556422 : True := trivial
theorem PySem.W.Fast.tw1012677244677118197 : True := trivial
theorem PySem.W.Fast.tw14333709584197964575 : True := trivial
theorem PySem.W.Fast.tw8173211103045847029 : True := trivial
theorem PySem.W.Fast.tw846655167129407331 : True := trivial
theorem PySem.W.Fast.tw9009393845306318179 : True := trivial
theorem PySem.W.Fast.tw6496924468010338647 : True := trivial
theorem PySem.W.Fast.tw15422776468150414126 : True := trivial
theorem PySem.W.Fast.tw16781753019711014083 : True := trivial
theorem PySem.W.Fast.tw3366902706932826396 : True := trivial
theorem PySem.W.Fast.tw4343771173735961210 : True := trivial
theorem PySem.W.Fast.tw1624700541667208657 : True := trivial
theorem PySem.W.Fast.tw10969905326929592072 : True := trivial
theorem PySem.W.Fast.tw13119805653232488462 : True := trivial
theorem PySem.W.Fast.tw7155501988892950533 : True := trivial
theorem PySem.W.Fast.tw12853502499377518310 : True := trivial
theorem PySem.W.Fast.tw8610682985441327754 : True := trivial
theorem PySem.W.Fast.tw17530676603923580767 : True := trivial
theorem PySem.W.Fast.tw5078822520062531546 : True := trivial
theorem PySem.W.Fast.tw14286892580844703453 : True := trivial
theorem PySem.W.Fast.tw3053868469318496551 : True := trivial
theorem PySem.W.Fast.tw2482195022246803135 : True := trivial
theorem PySem.W.Fast.tw11437897113201785867 : True := trivial
theorem PySem.W.Fast.tw2419785497444584164 : True := trivial
theorem PySem.W.Fast.tw1129907857108947920 : True := trivial
theorem PySem.W.Fast.tw3115948499466980204 : True := trivial
theorem PySem.W.Fast.tw9776485418736160248 : True := trivial
theorem PySem.W.Fast.tw11787611712247061997 : True := trivial
theorem PySem.W.Fast.tw16329999532810640744 : True := trivial
theorem PySem.W.Fast.tw920701892433680594 : True := trivial
theorem PySem.W.Fast.tw11292015885114313724 : True := trivial
theorem PySem.W.Fast.tw5010846234948714254 : True := trivial
theorem PySem.W.Fast.tw1337219487265000602 : True := trivial
theorem PySem.W.Fast.tw8992522586110556650 : True := trivial
theorem PySem.W.Fast.tw10602050583199490090 : True := trivial
theorem PySem.W.Fast.tw17270438932371417851 : True := trivial
theorem PySem.W.Fast.tw16112570891166827846 : True := trivial
theorem PySem.W.Fast.tw8225592624030760704 : True := trivial
theorem PySem.W.Fast.tw13340147577989708555 : True := trivial
theorem PySem.W.Fast.tw7412348399372118717 : True := trivial
theorem PySem.W.Fast.tw4505196904820530983 : True := trivial
theorem PySem.W.Fast.tw14688435954980019792 : True := trivial
theorem PySem.W.Fast.tw4745916629837396362 : True := trivial
theorem PySem.W.Fast.tw18267176787416024626 : True := trivial
theorem PySem.W.Fast.tw16611650038289012047 : True := trivial
theorem PySem.W.Fast.tw4880000260504909124 : True := trivial
theorem PySem.W.Fast.tw7252641026045064072 : True := trivial
theorem PySem.W.Fast.tw13782912658126813767 : True := trivial
theorem PySem.W.Fast.tw12899464701362853843 : True := trivial
theorem PySem.W.Fast.tw1016797120053805867 : True := trivial
theorem PySem.W.Fast.tw1753951742682737635 : True := trivial
theorem PySem.W.Fast.tw1235295250315143097 : True := trivial
theorem PySem.W.Fast.tw26047662614032660 : True := trivial
theorem PySem.W.Fast.tw10113447100869012968 : True := trivial
theorem PySem.W.Fast.tw321071931877667360 : True := trivial
theorem PySem.W.Fast.tw12816820012136460442 : True := trivial
theorem PySem.W.Fast.tw15163420814805052503 : True := trivial
theorem PySem.W.Fast.tw2458178121917071755 : True := trivial
theorem PySem.W.Fast.tw2588039663283091131 : True := trivial
theorem PySem.W.Fast.tw3659559754686490247 : True := trivial
theorem PySem.W.Fast.tw13037068388028321201 : True := trivial
theorem PySem.W.Fast.tw17265023446562514452 : True := trivial
theorem PySem.W.Fast.tw18037734014618094285 : True := trivial
theorem PySem.W.Fast.tw3225096817482828142 : True := trivial
theorem PySem.W.Fast.tw5877169111767752279 : True := trivial
theorem PySem.W.Fast.tw13448985994364101252 : True := trivial
theorem PySem.W.Fast.tw17575461132327267794 : True := trivial
theorem PySem.W.Fast.tw2918839263694263369 : True := trivial
theorem PySem.W.Fast.tw15195479447482284406 : True := trivial
theorem PySem.W.Fast.tw17619343853281878626 : True := trivial
theorem PySem.W.Fast.tw10868917784285034918 : True := trivial
theorem PySem.W.Fast.tw10219879841671682085 : True := trivial
theorem PySem.W.Fast.tw14367829937399802632 : True := trivial
theorem PySem.W.Fast.tw16250855579711232514 : True := trivial
theorem PySem.W.Fast.tw17544416478534920696 : True := trivial
theorem PySem.W.Fast.tw14851784154955678386 : True := trivial
theorem PySem.W.Fast.tw16424679242309082075 : True := trivial
theorem PySem.W.Fast.tw2712460447793214244 : True := trivial
theorem PySem.W.Fast.tw8699609801883338723 : True := trivial
theorem PySem.W.Fast.tw16946074285130131772 : True := trivial
theorem PySem.W.Fast.tw9938685372649810378 : True := trivial
theorem PySem.W.Fast.tw626834699981172598 : True := trivial
theorem PySem.W.Fast.tw13179414527489019020 : True := trivial
theorem PySem.W.Fast.tw11293235318376807837 : True := trivial
open PySem PySem.W PyProof.Rows
set_option maxRecDepth 100000 in
set_option maxHeartbeats 0 in
theorem PySem.Challenge.cw_ringwords_k64_rows_of_slides_holds : PySem.Challenge.rw_ringwords_k64_rows_of_slides.Holds := by
  w_on; o_law; k_head; (case hw => w_witness2)
  k_fill
  refine Kx.wQ (l := PySem.Challenge.rw_ringwords_k64_rows_of_slides) rfl rfl (fun w h Y => PySem.W.km_in_of Y) ?R ?F
  case R => first | rfl | kernel_rfl
  case F =>
    intro w mg fa h KX G hmg
    refine' Kx.ub KX G hmg ?hs ?aQ9 ?lQ9 ?cQ9 ?kQ9 ?tQ9 ?nQ9 ?a25 ?l25 ?c25 ?k25 ?z_len ?z_repr ?z_abs ?z_max ?z_int ?z_list ?z_range ?z_reversed ?z_min ?z_sorted ?z_tuple ?z_isinstance ?z_all ?z_str ?z_zip ?aBk ?lB ?kB ?aS ?zE ?zV ?aCR ?lCR ?mCR ?eCR ?dCR ?kCR ?saCR ?gaCR ?gnCR ?caCR ?nCR ?oCR ?pCR ?qCR ?rdCR ?atCR ?gtCR ?hdI ?cgt ?ctk ?aCT ?lCT ?mCT ?eCT ?dCT ?kCT ?saCT ?gaCT ?gnCT ?caCT ?xCT0 ?iCT ?uCT ?vCT ?wCT ?jCT ?ak0 ?ak1 ?ak2 ?ak3 ?ak4 ?ak5 ?lk0 ?nk0 ?lk1 ?nk1 ?lk2 ?nk2 ?lk3 ?nk3 ?lk4 ?nk4 ?lk5 ?nk5 ?gl0 ?gl1 ?gl2 ?gl3 ?gl4 ?gl5 ?gl6 ?gl7 ?gl8 ?gl9 ?gl10 ?gl11
    (case hs => (iterate 24 (refine' Kx.DIs.on ?_ ?_ ?_ ?_ ?_; rotate_left 10; k_is; k_is; k_is; k_is)); exact trivial)
    (case aQ9 => k_is)
    (case lQ9 => k_is)
    (case cQ9 => k_is)
    (case kQ9 => k_is)
    (case tQ9 => first | rfl | k_is)
    (case nQ9 => first | rfl | k_is)
    (case a25 => k_is)
    (case l25 => k_is)
    (case c25 => k_is)
    (case k25 => k_is)
    (case z_len => k_is)
    (case z_repr => k_is)
    (case z_abs => k_is)
    (case z_max => k_is)
    (case z_int => k_is)
    (case z_list => k_is)
    (case z_range => k_is)
    (case z_reversed => k_is)
    (case z_min => k_is)
    (case z_sorted => k_is)
    (case z_tuple => k_is)
    (case z_isinstance => k_is)
    (case z_all => k_is)
    (case z_str => k_is)
    (case z_zip => k_is)
    (case aBk => k_is)
    (case lB => k_is)
    (case kB => exact ⟨⟨_, _, rfl, rfl⟩, ⟨_, _, rfl, rfl⟩, ⟨_, _, rfl, rfl⟩, ⟨_, _, rfl, rfl⟩, ⟨_, _, rfl, rfl⟩, ⟨_, _, rfl, rfl⟩, ⟨_, _, rfl, rfl⟩, ⟨_, _, rfl, rfl⟩, ⟨_, _, rfl, rfl⟩, ⟨_, _, rfl, rfl⟩, ⟨_, _, rfl, rfl⟩, ⟨_, _, rfl, rfl⟩, trivial⟩)
    (case aS => k_is)
    (case zE => k_is)
    (case zV => k_is)
    (case aCR => k_is)
    (case lCR => k_is)
    (case mCR => rfl)
    (case eCR => rfl)
    (case dCR => rfl)
    (case kCR => k_is)
    (case saCR => k_is)
    (case gaCR => k_is)
    (case gnCR => k_is)
    (case caCR => k_is)
    (case nCR => rfl)
    (case oCR => k_is)
    (case pCR => rfl)
    (case qCR => k_is)
    (case rdCR => k_is)
    (case atCR => k_is)
    (case gtCR => k_is)
    (case hdI => rfl)
    (case cgt => k_is)
    (case ctk => k_is)
    (case aCT => k_is)
    (case lCT => k_is)
    (case mCT => rfl)
    (case eCT => rfl)
    (case dCT => rfl)
    (case kCT => k_is)
    (case saCT => k_is)
    (case gaCT => k_is)
    (case gnCT => k_is)
    (case caCT => k_is)
    (case xCT0 => k_is)
    (case iCT => k_is)
    (case uCT => k_is)
    (case vCT => k_is)
    (case wCT => k_is)
    (case jCT => k_is)
    (case ak0 => k_is)
    (case ak1 => k_is)
    (case ak2 => k_is)
    (case ak3 => k_is)
    (case ak4 => k_is)
    (case ak5 => k_is)
    (case lk0 => k_is)
    (case nk0 => rfl)
    (case lk1 => k_is)
    (case nk1 => rfl)
    (case lk2 => k_is)
    (case nk2 => rfl)
    (case lk3 => k_is)
    (case nk3 => rfl)
    (case lk4 => k_is)
    (case nk4 => rfl)
    (case lk5 => k_is)
    (case nk5 => rfl)
    (case gl0 => k_is)
    (case gl1 => k_is)
    (case gl2 => k_is)
    (case gl3 => k_is)
    (case gl4 => k_is)
    (case gl5 => k_is)
    (case gl6 => k_is)
    (case gl7 => k_is)
    (case gl8 => k_is)
    (case gl9 => k_is)
    (case gl10 => k_is)
    (case gl11 => k_is)
end
