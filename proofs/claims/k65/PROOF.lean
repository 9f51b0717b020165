import PyProof.Rows.All
import Wide.All
import OpenK.AllK
import Wide.FinOn
import Lean
import PyProof.EqAt
import PyProof.EqKinds
import PyProof.TupleCall
import KE.KRevIter
import PyProof.FString5
import PyProof.NeData
import PyProof.TupleOfStr
import PyProof.IsRules
import PyProof.Rows.SortShellK
import PyProof.ListRange
import PyProof.FactsAll.tuple_3
import PyProof.ExcInit
import PyProof.InstStoreFacts
import PyProof.NsDelKeeps
import PyProof.Rows.StrStrike
import PySem.Challenge.RW_ringwords_k65_whole_holes_go_over
set_option Elab.async false
set_option linter.all false
set_option maxRecDepth 100000
set_option maxHeartbeats 0
noncomputable section
def fu:=@PySem.wpAny_bind
def x8:=@PySem.Heap.get?_push_of_some
def x9:=@List.length_map
def x_:=@List.length_append
def ya:=@List.getElem?_eq_some_iff
def yb:=@Nat.le_refl
def yc:=@List.getElem?_eq_getElem
def yd:=@List.mem_cons_of_mem
def ye:=@List.mem_append_right
def yf:=@PySem.Heap.lt_size
def yg:=@List.size_toArray
def yh:=@Option.some.inj
def yi:=@List.length_singleton
def yj:=@List.getD_eq_getElem?_getD
def yk:=@PySem.Heap.get?_push_size
def ym:=@List.mem_singleton
def yn:=@PySem.wpAny_pure
def yo:=@Nat.lt_of_lt_of_le
def yp:=@List.getElem?_map
def yq:=@PySem.boot_len
def yr:=@decide_eq_false
def yt:=@List.nodup_cons
def yu:=@List.mem_of_getElem?
def yw:=@List.length_pos_iff
def yy:=@List.length_take
def yz:=@List.mem_append_left
def yA:=@List.mem_cons_self
def yB:=@List.mem_cons
def yC:=@Bool.false_ne_true
def yD:=@Int.toNat_natCast
def yE:=@List.mem_map
def yF:=@List.getElem?_append_right
def yG:=@decide_eq_true
def yH:=@Nat.ne_of_lt
def yI:=@PySem.W.mg_none_of
def yJ:=@List.mem_append
def yK:=@List.map_append
def yL:=@PySem.F.plainAttrs_str
def yM:=@List.map_cons
def yN:=@List.length_cons
def yO:=@List.not_mem_nil
def yP:=@List.append_nil
def yQ:=@PySem.PassesOwn.never
def yR:=@List.flatten_cons
def yS:=@List.reverse_cons
def yT:=@List.take_length
def yU:=@List.getElem?_append_left
def yV:=@Nat.le_trans
def yW:=@congrArg
def yX:=@List.append_assoc
def yY:=@PySem.Heap.get?_update_other
def yZ:=@Nat.lt_irrefl
def y0:=@PySem.F.slot_list_append
def y4:=@List.dropLast_concat_getLast
def y6:=@Array.length_toList
def y7:=@PySem.wpAny_field
def y8:=@List.map_map
def y9:=@PySem.wpAny_callSpecial?_slot
def y_:=@List.cons.inj
def za:=@PySem.F.plainAttrs_list
def zb:=@Nat.zero_le
def zc:=@List.mem_flatten
def zd:=@List.length_reverse
def ze:=@List.take_add_one
def zf:=@PyProof.Rows.callWith_type1
def zg:=@PySem.mem_of_lookup
def zh:=@List.length_nil
def zi:=@PySem.F.type_list_append
def zj:=@List.length_drop
def zk:=@PySem.wpAny_call_entry
def zl:=@List.eq_nil_of_length_eq_zero
def zm:=@Nat.mod_eq_of_lt
def zo:=@List.reverse_reverse
def zp:=@Int.eq_ofNat_of_zero_le
def zq:=@PySem.Heap.size_push
def zr:=@PyProof.Rows.F.plain_set_update_loop
def zt:=@PySem.wpAny_truthy_bool
def zu:=@List.take_of_length_le
def zw:=@Array.getElem?_eq_some_iff
def zx:=@PySem.F.slot_tuple_iterator_next
def zy:=@PySem.wpAny_mono
def zA:=@PySem.Heap.get?_update_self
def zB:=@PySem.Obj.data_mapFields
def zC:=@PySem.wpAny_setField_rec
def zD:=@PySem.wpAny_seqItems
def zF:=@List.getElem?_set_ne
def zG:=@PySem.wpAny_passesOwn
def zH:=@Int.emod_nonneg
def zI:=@List.nodup_append
def zJ:=@List.reverse_perm
def zK:=@List.replicate_succ
def zL:=@PySem.wpAny_getItem_str_slice
def zM:=@PySem.Heap.SameBut.update
def zN:=@List.flatMap_append
def zO:=@List.mem_reverse
def zP:=@List.getElem?_set_self
def zQ:=@PySem.wpAny_pyIter_tuple
def zR:=@Int.emod_lt_of_pos
def zT:=@Bool.eq_iff_iff
def zU:=@List.find?_cons
def zV:=@PySem.builtinLookup_eq_fast
def zW:=@List.eq_nil_or_concat
def zX:=@List.concat_eq_append
def zY:=@List.getElem?_eq_none
def zZ:=@PySem.typeIs_str
def z0:=@or_false
def z3:=@Int.emod_eq_of_lt
def z9:=@PySem.wpAny_loadName_local
def z_:=@Array.getElem?_eq_getElem
def Aa:=@List.drop_eq_getElem_cons
def Ab:=@List.exists_mem_of_ne_nil
def Ac:=@PyProof.Rows.F.entry_set_update_loop
def Ad:=@Bool.and_eq_true
def Ae:=@List.perm_middle
def Af:=@List.map_congr_left
def Ag:=@PySem.wpAny_holding
def Ah:=@List.eraseIdx_cons_succ
def Ai:=@PySem.wpAny_attempt
def Aj:=@List.getElem_idxOf
def Ak:=@List.getLast?_cons
def Al:=@PyProof.Rows.subscriptTail_builtinR
def Am:=@PySem.Calls.callWith_builtin
def An:=@List.append_eq_nil_iff
def Ao:=@PySem.F.slot_str_index
def Ap:=@PySem.F.type_str_index
def Aq:=@Nat.le_succ
def Ar:=@List.eraseIdxIfInBounds_toArray
def As:=@PySem.wpAny_of_eq
def Au:=@List.foldl_append
def Av:=@List.flatMap_cons
def Aw:=@List.mem_range
def Ax:=@PySem.wpAny_setField
def Ay:=@List.nodup_nil
def Az:=@Nat.ne_of_gt
def AA:=@PySem.Txt.slice_le
def AB:=@PySem.Obj.isFreed_of_fields
def AC:=@List.getElem?_toArray
def AD:=@Nat.sub_self
def AE:=@List.perm_append_comm
def AF:=@PySem.F.slot_str_join
def AG:=@PySem.F.type_str_join
def AH:=@PySem.wpAny_execs_cons
def AI:=@List.lookup_cons
def AJ:=@Nat.lt_succ_self
def AK:=@Array.toList_inj
def AL:=@List.getElem_mem
def AM:=@List.take_append_of_le_length
def AN:=@PySem.F.args_list_append_2
def AO:=@List.mem_iff_getElem
def AQ:=@List.getLast?_append
def AR:=@PySem.wpAny_updateSeq_pair
def AS:=@PySem.Around.under_plainId
def AU:=@PySem.W.mg_of
def AV:=@PySem.F.args_tuple_iterator_next_1
def AW:=@PySem.wpAny_Name
def AX:=@PySem.call_meets
def AY:=@PySem.wpAny_rule
def AZ:=@List.filterMap_cons
def A0:=@PySem.wpAny_loadName_cell
def A1:=@PySem.wpAny_execs_nil
def A3:=@PySem.sizeLine_eq
def A4:=@PySem.F.entry_list_append
def A5:=@Option.map_some
def A6:=@PySem.post_val_or_str
def A7:=@PySem.typeLookup_type
def A8:=@Nat.min_eq_left
def A9:=@List.idxOf_lt_length_of_mem
def A_:=@List.take_left'
def Ba:=@List.sublist_flatten_of_mem
def Bb:=@PySem.F.entry_tuple_iterator_next
def Bc:=@PySem.F.slot_zip_next
def Bd:=@PySem.codeAny_builtin
def Be:=@PySem.Calls.Name_function_global
def Bf:=@PySem.Calls.spliced_cons
def Bg:=@PySem.codeAny_mono
def Bh:=@PySem.wpAny_Call_Name_kw
def Bi:=@PySem.tupleKind_room_in1
def Bj:=@decide_eq_true_iff
def Bk:=@List.le_refl
def Bl:=@PySem.isSubtype_type
def Bm:=@List.append_eq_append_iff
def Bn:=@Classical.byContradiction
def Bo:=@PySem.wpAny_Assign_Name
def Bp:=@PySem.wpAny_pyIter_list
def Bq:=@Option.isSome_iff_exists
def Br:=@List.getElem?_take_of_lt
def Bs:=@PyProof.Rows.Subscript_
def Bu:=@PySem.list_append
def Bv:=@of_decide_eq_true
def Bw:=@PySem.wpAny_comprehension_free
def Bx:=@Nat.lt_succ_of_lt
def By:=@PySem.Paired.length
def Bz:=@if_true
def BA:=@List.getLast?_cons_cons
def BB:=@PySem.wpAny_onRaise
def BC:=@PySem.IsL.update
def BD:=@List.all_eq_true
def BE:=@PySem.wpAny_isInstance
def BF:=@Nat.min_eq_right
def BG:=@Int.natCast_emod
def BH:=@PySem.W.cellsFrom_some
def BI:=@List.drop_eq_nil_of_le
def BJ:=@List.Perm.append_right
def BK:=@PySem.F.slot_str_lower
def BL:=@PySem.F.type_str_lower
def BM:=@List.append_inj_right'
def BN:=@List.mem_filter
def BO:=@List.of_mem_zip
def BP:=@List.nil_append
def BQ:=@List.map_nil
def BR:=@PySem.wpAny_specialOf
def BS:=@List.forIn_cons
def BU:=@Nat.add_zero
def BV:=@PySem.isSubtype_stop
def BW:=@List.drop_zero
def BX:=@Nat.mul_le_mul
def BY:=@PySem.seqIndex_of
def BZ:=@Bool.or_false
def B0:=@List.any_cons
def B1:=@Nat.add_assoc
def B3:=@Nat.mod_lt
def B4:=@Nat.le_of_lt
def B5:=@Nat.succ_mul
def B6:=@Nat.mul_comm
def B7:=@Nat.mod_self
namespace L2
open PySem PySem.Spec PyProof.Rows
abbrev Key := Sum Int Str
def kG : Key → Value → Bool
  | .inl k, v => Value.isInt k v
  | .inr x, v => Value.isStrOf x v
def xg (w : World) : Key → Int
  | .inl k => hashInt k
  | .inr x => hashStr w x
theorem aY : ∀ {k : Key} {v : Value}, kG k v=true → (∃ i t, k=Sum.inl i ∧ v=Value.int i t) ∨ (∃ x t, k=Sum.inr x ∧ v=Value.str x t)
  | .inl i, v, h => by
    obtain ⟨t, e⟩ := Value.isInt_shape (k := i) (v := v) h
    exact .inl ⟨i, t, rfl, e⟩
  | .inr x, v, h => by
    obtain ⟨t, e⟩ := Value.isStrOf_shape (x := x) (v := v) h
    exact .inr ⟨x, t, rfl, e⟩
theorem lH (i : Int)(t : Tok) : kG (.inl i) (.int i t)=true := by simp [kG, Value.isInt]
theorem lI (x : Str)(t : Tok) : kG (.inr x) (.str x t)=true := by simp [kG, Value.isStrOf]
theorem sY (a b : Int) : decide ((Sum.inl a : Key)=Sum.inl b)=(a == b) := by
  by_cases e : a=b
  · subst e;simp
  · have h : ¬ (Sum.inl a : Key)=Sum.inl b := fun q => e (Sum.inl.inj q)
    rw [yr h]
    exact (beq_eq_false_iff_ne.mpr e).symm
theorem sZ (a b : Str) : decide ((Sum.inr a : Key)=Sum.inr b)=decide (a=b) := by
  by_cases e : a=b
  · subst e;simp
  · have h : ¬ (Sum.inr a : Key)=Sum.inr b := fun q => e (Sum.inr.inj q)
    rw [yr h, yr e]
theorem s_ (a : Int)(b : Str) : decide ((Sum.inl a : Key)=Sum.inr b)=false := yr (fun q => nomatch q)
theorem tf (a : Str)(b : Int) : decide ((Sum.inr a : Key)=Sum.inl b)=false := yr (fun q => nomatch q)
def bh (prog : Program)(w : World) : PySem.KeyKind prog w Key where
  is := kG
  hash := xg w
  inj := fun v a b ha hb => by
    rcases aY ha with ⟨i, t, rfl, rfl⟩ | ⟨x, t, rfl, rfl⟩
    · rcases aY hb with ⟨j, u, rfl, e⟩ | ⟨y, u, rfl, e⟩
      · injection e with e1 _;rw [e1]
      · exact nomatch e
    · rcases aY hb with ⟨j, u, rfl, e⟩ | ⟨y, u, rfl, e⟩
      · exact nomatch e
      · injection e with e1 _;rw [e1]
  byValue := fun k v h => by
    rcases aY h with ⟨i, t, rfl, rfl⟩ | ⟨x, t, rfl, rfl⟩ <;> rfl
  pyHash := fun hv h => by
    rcases aY hv with ⟨i, t, rfl, rfl⟩ | ⟨x, t, rfl, rfl⟩
    · exact wpAny_pyHash_int h
    · exact wpAny_pyHash_str h
  eqBool := fun hu hv h => by
    rcases aY hu with ⟨i, t, rfl, rfl⟩ | ⟨x, t, rfl, rfl⟩
    · rcases aY hv with ⟨j, u, rfl, rfl⟩ | ⟨y, u, rfl, rfl⟩
      · rw [sY] at h;exact wpAny_eqBool_int h
      · rw [s_] at h;exact SeqAt.EqAt.int_str i t y u _ _ _ _ h
    · rcases aY hv with ⟨j, u, rfl, rfl⟩ | ⟨y, u, rfl, rfl⟩
      · rw [tf] at h;exact SeqAt.EqAt.str_int x t j u _ _ _ _ h
      · rw [sZ] at h;exact wpAny_eqBool_str h
  «strs» := fun k x t v h => by
    rcases aY h with ⟨i, u, rfl, e⟩ | ⟨y, u, rfl, e⟩
    · exact nomatch e
    · injection e with e1 _
      subst e1
      cases v <;> rfl
theorem jq (prog : Program)(w : World)(i : Int)(t : Tok) : (bh prog w).is (.inl i) (.int i t)=true := lH i t
theorem jr (prog : Program)(w : World)(x : Str)(t : Tok) : (bh prog w).is (.inr x) (.str x t)=true := lI x t
inductive V where
  | non | bl (b : Bool) | int (i : Int) | str (x : Str) | byt (b : Array UInt8) | flt (b : UInt64) | ref (a : Addr) | ty (n : String)
  deriving DecidableEq
def bj : V → Value → Prop
  | .non, u => u=Value.none
  | .bl b, u => u=Value.bool b
  | .int i, u => ∃ t, u=Value.int i t
  | .str x, u => ∃ t, u=Value.str x t
  | .byt b, u => ∃ t, u=Value.bytes b t
  | .flt b, u => ∃ t, u=Value.float b t
  | .ref a, u => u=Value.ref a
  | .ty n, u => u=Value.type n
abbrev aW : List V → List Value → Prop := Paired bj
theorem aW.length {xs : List V}{us : List Value}(r : aW xs us) : xs.length=us.length := By r
theorem aW.get : ∀ {xs : List V} {us : List Value} {i : Nat} {x : V}, aW xs us → xs[i]? = some x → ∃ u, us[i]? = some u ∧ bj x u
  | _, _, _, _, .nil, e => by simp at e
  | _, _, 0, _, .cons r _, e => by simp at e;subst e;exact ⟨_, rfl, r⟩
  | _, _, i+1, x, .cons _ t, e => by
    obtain ⟨u, h1, h2⟩ := aW.get (i := i) (x := x) t (by simpa using e)
    exact ⟨u, by simpa using h1, h2⟩
theorem aW.set {x : V}{u : Value}(r : bj x u) : ∀ {xs : List V} {us : List Value} (i : Nat), aW xs us → aW (xs.set i x) (us.set i u)
  | _, _, _, .nil => .nil
  | _, _, 0, .cons _ t => .cons r t
  | _, _, i+1, .cons q t => .cons q (aW.set r i t)
theorem aW.append : ∀ {xs ys : List V} {us ws : List Value}, aW xs us → aW ys ws → aW (xs++ys) (us++ws)
  | _, _, _, _, .nil, s => s
  | _, _, _, _, .cons r t, s => .cons r (aW.append t s)
theorem aW.take : ∀ {xs : List V} {us : List Value} (n : Nat), aW xs us → aW (xs.take n) (us.take n)
  | _, _, 0, _ => .nil
  | _, _, _+1, .nil => .nil
  | _, _, n+1, .cons r t => .cons r (aW.take n t)
theorem aW.drop : ∀ {xs : List V} {us : List Value} (n : Nat), aW xs us → aW (xs.drop n) (us.drop n)
  | _, _, 0, r => r
  | _, _, _+1, .nil => .nil
  | _, _, n+1, .cons _ t => aW.drop n t
def lJ : Option V → Option Value → Prop
  | some v, some u => bj v u
  | none, none => True
  | _, _ => False
def KV {κ : Type} : List (κ × V) → List (κ × Value) → Prop := Paired fun (p : κ × V) (q : κ × Value) => p.1=q.1 ∧ bj p.2 q.2
def kV : Key → V
  | .inl i => .int i
  | .inr x => .str x
inductive HO where
  | lst (xs : List V)
  | tup (xs : List V)
  | dK (kvs : List (Key × V)) | dT (kvs : List (List Key × V))
  | set (S : Int → Bool) (n : Nat)
  | ins (C dx : Addr) (fs : List (Str × V))
  | own (x : Addr)
  | xd (fs : List (Str × V))
  | met (f x : Addr)
  | rng (lo hi : Int)
  | frz (o : Obj) (u : HO)
  | tbl (ps : Array Value)
  | ext (φ : Heap → Prop)
abbrev Hp := Addr → Option HO
def upd (H : Hp)(a : Addr)(o : HO) : Hp := fun b => if b=a then some o else H b
theorem ah {H : Hp}{a : Addr}{o : HO} : upd H a o a=some o := by unfold upd; rw [if_pos rfl]
theorem av {H : Hp}{a b : Addr}{o : HO}(h : b≠a) : upd H a o b=H b := by unfold upd; rw [if_neg h]
theorem gm {H : Hp}{a : Addr}{o u : HO} : upd (upd H a o) a u=upd H a u := by
  funext b;unfold upd;split <;> rfl
theorem kH {H : Hp}{a b : Addr}{o u : HO}(h : H a=some o)(h' : H b=some u)(d : o≠u) : a≠b := by
  intro e;subst e;rw [h] at h';exact d (yh h')
theorem ak {H : Hp}{a b : Addr}{o : HO}(h : H a=some o)(h' : H b=none) : a≠b := by
  intro e;subst e;rw [h] at h';cases h'
section
variable (P : Program) (w : World)
def NoD (h : Heap)(a : Addr) : Prop := ∃ o, h.get? a=some o ∧ o.dict=none
theorem NoD.new (h : Heap)(o : Obj)(e : o.dict=none)(hf : o.isFreed=false := by rfl) : NoD (h.push o) h.objs.size := ⟨o, yk _ hf, e⟩
def bN (H : Hp)(h : Heap)(a : Addr) : HO → Prop
  | .lst xs => xs.length≤sizeLine ∧ ∃ (its : List Value) (n : Nat), aW xs its ∧ h.get? a=some { cls := .type "list", data := .seq its.toArray n }
  | .tup xs => xs.length≤sizeLine ∧ ∃ its : List Value, aW xs its ∧ IsTup h a its.toArray ∧ NoD h a
  | .dK kvs => kvs.length≤sizeLine ∧ (a == sysModules)=false ∧ ∃ vs, KV kvs vs ∧ h.DictOf (bh P w) a vs
  | .dT kvs => kvs.length≤sizeLine ∧ (a == sysModules)=false ∧ ∃ xs : List (List Key × Addr × Value),
      Paired (fun (p : List Key × V) (q : List Key × Addr × Value) => p.1=q.1 ∧ H q.2.1=some (.tup (p.1.map kV)) ∧ bj p.2 q.2.2) kvs xs ∧
      ∃ o es ep, h.get? a=some o ∧ o.ExactDict ∧ o.data = .dict es ep ∧ es.toList=xs.map (entryOfKey (tupleKind (bh P w))) ∧ (xs.map (·.1)).Nodup
  | .set S n => h.SetOf (intKind P w) a S n
  | .ins C dx fs => H dx=some (.own a) ∧ fs.length≤1000 ∧ dx≠a ∧ h.get? a=some (PySem.W.instObj C dx) ∧
      ∃ mA, h.Ns1 dx mA ∧ (∀ f, lJ (fs.lookup f) (mA f)) ∧ PySem.Within mA (fs.map (·.1))
  | .own _ => ∃ o, h.get? a=some o
  | .xd fs => ∃ mA, h.Ns1 a mA ∧ ∀ f, lJ (fs.lookup f) (mA f)
  | .rng lo hi => ∃ t u v, h.get? a=some { cls := .type "range", data := .fields #[.int lo t, .int hi u, .int 1 v] }
  | .frz o u => h.get? a=some o ∧ bN H h a u
  | .tbl ps => h.get? a=some { cls := .none, data := .fields ps }
  | .met f x => h.get? a=some (PySem.W.methodObj (.ref f) (.ref x))
  | .ext φ => φ h ∧ (∃ o, h.get? a=some o) ∧ ∀ h1 h2 : Heap, φ h1 → (∀ o, h1.get? a=some o → h2.get? a=some o) → φ h2
def HOk (H : Hp)(h : Heap) : Prop := ∀ a o, H a=some o → bN P w H h a o
end
section
variable {P : Program} {w : World} {H H' : Hp} {h h' : Heap} {a : Addr} {o : HO}
theorem bN.lt (x : bN P w H h a o) : a < h.objs.size := by
  cases o with
  | lst xs => obtain ⟨_, _, _, _, e⟩ := x;exact yf e
  | tup xs => obtain ⟨_, _, _, p, _⟩ := x;exact p.lt
  | dK kvs => obtain ⟨_, _, _, _, o, _, _, e, _⟩ := x;exact yf e
  | dT kvs => obtain ⟨_, _, _, _, o, _, _, e, _⟩ := x;exact yf e
  | set S n => obtain ⟨o, _, _, _, e, _⟩ := x;exact yf e
  | ins C dx fs => obtain ⟨_, _, _, e, _⟩ := x;exact yf e
  | own y => obtain ⟨_, e⟩ := x;exact yf e
  | xd fs => obtain ⟨_, ⟨_, _, _, e, _⟩, _⟩ := x;exact yf e
  | rng lo hi => obtain ⟨_, _, _, e⟩ := x;exact yf e
  | frz ob u => obtain ⟨e, _⟩ := x;exact yf e
  | tbl ps => exact yf (show h.get? a=some _ from x)
  | met f y => exact yf (show h.get? a=some _ from x)
  | ext φ => obtain ⟨_, ⟨_, e⟩, _⟩ := x;exact yf e
theorem Paired.mapP {α β : Type}{F G : α → β → Prop} : ∀ {l₁ : List α} {l₂ : List β}, Paired F l₁ l₂ → (∀ a b, F a b → G a b) → Paired G l₁ l₂
  | _, _, .nil, _ => .nil
  | _, _, .cons r t, f => .cons (f _ _ r) (Paired.mapP t f)
theorem bN.stay (x : bN P w H h a o)(k : ∀ b u, (b=a ∨ H b=some (.own a)) → h.get? b=some u → h'.get? b=some u)
    (ho : ∀ b, H b=some (.own a) → H' b=some (.own a)) (ht : ∀ b xs, H b=some (.tup xs) → H' b=some (.tup xs)) : bN P w H' h' a o := by
  induction o with
  | lst xs => obtain ⟨z, its, n, r, e⟩ := x;exact ⟨z, its, n, r, k _ _ (.inl rfl) e⟩
  | tup xs => obtain ⟨z, its, r, ⟨ob, e, c⟩, o2, e2, c2⟩ := x;exact ⟨z, its, r, ⟨ob, k _ _ (.inl rfl) e, c⟩, o2, k _ _ (.inl rfl) e2, c2⟩
  | dK kvs => obtain ⟨z, y, vs, r, ob, es, ep, e, c⟩ := x;exact ⟨z, y, vs, r, ob, es, ep, k _ _ (.inl rfl) e, c⟩
  | dT kvs =>
    obtain ⟨z, y, xs, r, ob, es, ep, e, c⟩ := x
    exact ⟨z, y, xs, Paired.mapP r fun p q z => ⟨z.1, ht _ _ z.2.1, z.2.2⟩, ob, es, ep, k _ _ (.inl rfl) e, c⟩
  | set S n => obtain ⟨ob, es, ep, t, e, c⟩ := x;exact ⟨ob, es, ep, t, k _ _ (.inl rfl) e, c⟩
  | ins C dx fs =>
    obtain ⟨d, z, ne, e, mA, ⟨od, es, ep, e2, c⟩, r⟩ := x
    exact ⟨ho _ d, z, ne, k _ _ (.inl rfl) e, mA, ⟨od, es, ep, k _ _ (.inr d) e2, c⟩, r⟩
  | own y => obtain ⟨ob, e⟩ := x;exact ⟨ob, k _ _ (.inl rfl) e⟩
  | xd fs => obtain ⟨mA, ⟨od, es, ep, e, c⟩, r⟩ := x;exact ⟨mA, ⟨od, es, ep, k _ _ (.inl rfl) e, c⟩, r⟩
  | rng lo hi => obtain ⟨t, u, v, e⟩ := x;exact ⟨t, u, v, k _ _ (.inl rfl) e⟩
  | frz ob u ih => obtain ⟨e, q⟩ := x;exact ⟨k _ _ (.inl rfl) e, ih q⟩
  | tbl ps =>
    have e : h.get? a=some { cls := .none, data := .fields ps } := x
    show h'.get? a=some { cls := .none, data := .fields ps }
    exact k a _ (.inl rfl) e
  | met f y =>
    have e : h.get? a=some (PySem.W.methodObj (.ref f) (.ref y)) := x
    show h'.get? a=some (PySem.W.methodObj (.ref f) (.ref y))
    exact k a _ (.inl rfl) e
  | ext φ => obtain ⟨p, ⟨o, e⟩, st⟩ := x;exact ⟨st _ _ p fun o q => k _ _ (.inl rfl) q, ⟨o, k _ _ (.inl rfl) e⟩, st⟩
theorem HOk.lt (x : HOk P w H h)(e : H a=some o) : a < h.objs.size := (x a o e).lt
theorem HOk.fresh (x : HOk P w H h)(e : h.objs.size≤a) : H a=none := by
  cases q : H a with
  | none => rfl
  | some u => exact absurd (yo (x.lt q) e) (yZ _)
theorem HOk.kept (x : HOk P w H h)(k : ∀ b u, h.get? b=some u → h'.get? b=some u) : HOk P w H h' := fun a o e =>
  (x a o e).stay (fun b u _ q => k b u q) (fun _ q => q) fun _ _ q => q
theorem HOk.laid (x : HOk P w H h)(k : ∀ b u, h.get? b=some u → h'.get? b=some u)(hp : h.objs.size≤a)(new : bN P w (upd H a o) h' a o) : HOk P w (upd H a o) h' := fun b u e => by
  have hn := x.fresh hp
  by_cases hb : b=a
  · subst hb;rw [ah] at e;cases e;exact new
  · rw [av hb] at e
    exact (x b u e).stay (fun c v _ q => k c v q) (fun c q => by rw [av (ak q hn)];exact q) fun c xs q => by rw [av (ak q hn)];exact q
end
def Rd (H : Hp)(a : Addr)(u : HO) : Prop := H a=some u ∨ ∃ o, H a=some (.frz o u)
theorem Rd.ok {P : Program}{w : World}{H : Hp}{h : Heap}{a : Addr}{u : HO}(r : Rd H a u)(x : HOk P w H h) : bN P w H h a u := by
  rcases r with r | ⟨o, r⟩
  · exact x a u r
  · obtain ⟨_, q⟩ := x a _ r
    exact q
def Mut : Option HO → Prop
  | some (.lst _) => True
  | some (.dK _) => True
  | some (.dT _) => True
  | some (.set _ _) => True
  | some (.ins _ _ _) => True
  | some (.ext _) => True
  | _ => False
section
variable {P : Program} {w : World} {H : Hp} {h h' : Heap} {x e : Addr} {o' : HO}
theorem HOk.write (ok : HOk P w H h)(mu : Mut (H x))(he : e=x ∨ H e=some (.own x))(k : ∀ b u, b≠e → h.get? b=some u → h'.get? b=some u)(heo : ∃ u, h'.get? e=some u)
    (new : bN P w (upd H x o') h' x o') : HOk P w (upd H x o') h' := fun b u q => by
  have nown : ∀ c y, H c=some (.own y) → c≠x := fun c y r z => by subst z;rw [r] at mu;exact mu
  have ntup : ∀ c xs, H c=some (.tup xs) → c≠x := fun c xs r z => by subst z;rw [r] at mu;exact mu
  by_cases hb : b=x
  · subst hb;rw [ah] at q;cases q;exact new
  · rw [av hb] at q
    by_cases hbe : b=e
    · have q' : H b=some (.own x) := by
        rcases he with z | z
        · exact absurd (hbe.trans z) hb
        · rw [hbe];exact z
      rw [q] at q';cases q'
      obtain ⟨v, hv⟩ := heo
      exact ⟨v, by rw [hbe];exact hv⟩
    · refine (ok b u q).stay (fun c v hc r => k c v ?_ r) (fun c r => by rw [av (nown c b r)];exact r) fun c xs r => by rw [av (ntup c xs r)];exact r
      rcases hc with rfl | hc
      · exact hbe
      · rintro rfl
        rcases he with z | z
        · exact nown c b hc z
        · rw [hc] at z;cases z;exact hb rfl
end
structure Un (fs ex : List Addr) (H H' : Hp) (h h' : Heap) : Prop where
  keep : ∀ b o, h.get? b=some o → H b=none → b∉fs → b∉ex → h'.get? b=some o
  slot : ∀ b o, h.get? b=some o → H b=none → b∈fs → b∉ex → ∃ sl, h'.get? b=some { o with slots := sl }
  free : ∀ b o, h.get? b=some o → H b=none → b∉ex → H' b=none
  there : ∀ b o, h.get? b=some o → b∉ex → ∃ o', h'.get? b=some o'
  tups : ∀ b xs, H b=some (.tup xs) → H' b=some (.tup xs)
  frzs : ∀ b o u, H b=some (.frz o u) → H' b=some (.frz o u)
  tbls : ∀ b ps, H b=some (.tbl ps) → ∃ more, H' b=some (.tbl (ps++more))
section
variable {fs fs' ex ex' : List Addr} {H H1 H2 : Hp} {h h1 h2 h' : Heap} {a x e : Addr} {o : HO}
theorem Un.any (u : Un fs ex H H1 h h1){b : Addr}{ob : Obj}(q : h.get? b=some ob)(n : H b=none)(hx : b∉ex) : ∃ sl, h1.get? b=some { ob with slots := sl } := by
  by_cases hb : b∈fs
  · exact u.slot b ob q n hb hx
  · exact ⟨ob.slots, u.keep b ob q n hb hx⟩
theorem Un.kept (k : ∀ b u, h.get? b=some u → h'.get? b=some u) : Un fs ex H H h h' :=
  ⟨fun b ob q _ _ _ => k b ob q, fun b ob q _ _ _ => ⟨ob.slots, k b ob q⟩, fun _ _ _ n _ => n, fun b ob q _ => ⟨ob, k b ob q⟩, fun _ _ q => q, fun _ _ _ q => q, fun _ ps q => ⟨#[], by rw [q];simp⟩⟩
theorem Un.refl : Un fs ex H H h h := Un.kept fun _ _ q => q
theorem Un.laid (k : ∀ b u, h.get? b=some u → h'.get? b=some u)(hp : h.objs.size≤a)(hn : H a=none) : Un fs ex H (upd H a o) h h' where
  keep := fun b u q _ _ _ => k b u q
  slot := fun b u q _ _ _ => ⟨u.slots, k b u q⟩
  free := fun b u q n _ => by rw [av (yH (yo (yf q) hp))];exact n
  there := fun b u q _ => ⟨u, k b u q⟩
  tups := fun b xs q => by rw [av (ak q hn)];exact q
  frzs := fun b u xs q => by rw [av (ak q hn)];exact q
  tbls := fun b ps q => ⟨#[], by rw [av (ak q hn), q];simp⟩
theorem Un.write (mu : Mut (H x))(he : e=x ∨ H e=some (.own x))(k : ∀ b u, b≠e → h.get? b=some u → h'.get? b=some u)(heo : ∃ u, h'.get? e=some u) : Un fs ex H (upd H x o) h h' := by
  have hx : ∀ b, H b=none → b≠x := fun b n z => by subst z;rw [n] at mu;exact mu
  have hb : ∀ b, H b=none → b≠e := fun b n z => by
    subst z
    rcases he with r | r
    · exact hx b n r
    · rw [n] at r;cases r
  have hm : ∀ b u, H b=some u → ¬ Mut (some u) → b≠x := fun b u q nm z => by subst z;rw [q] at mu;exact nm mu
  refine ⟨fun b u q n _ _ => k b u (hb b n) q, fun b u q n _ _ => ⟨u.slots, k b u (hb b n) q⟩, fun b u q n _ => by rw [av (hx b n)];exact n, fun b u q _ => ?_,
    fun b xs q => by rw [av (hm b _ q fun z => z)];exact q, fun b u xs q => by rw [av (hm b _ q fun z => z)];exact q, fun b ps q => ⟨#[], by rw [av (hm b _ q fun z => z), q];simp⟩⟩
  by_cases hbe : b=e
  · subst hbe;exact heo
  · exact ⟨u, k b u hbe q⟩
end
def trk (h : Heap)(H : Hp) : List Addr := (List.range h.objs.size).filter fun a => (H a).isSome
def ox (h : Heap)(H : Hp) : Heap := PySem.W.hideAll h (trk h H)
theorem lK (h : Heap)(H : Hp) : (ox h H).objs.size=h.objs.size := PySem.W.hideAll_size _ _
theorem oy {h : Heap}{H : Hp}{b : Addr}{o : Obj}(e : h.get? b=some o)(n : H b=none) : (ox h H).get? b=some o :=
  PySem.W.hideAll_get _ e fun hm => by
    have q : (H b).isSome=true := (BN.mp hm).2
    rw [n] at q;simp at q
theorem qN {h : Heap}{H : Hp}{b : Addr}{o : Obj}(e : (ox h H).get? b=some o) : h.get? b=some o ∧ H b=none := by
  have e' : h.get? b=some o := PySem.W.of_hideAll (trk h H) e
  refine ⟨e', ?_⟩
  cases q : H b with
  | none => rfl
  | some x =>
    have hm : b∈trk h H := BN.mpr ⟨Aw.mpr (yf e'), by simp [q]⟩
    have z : (ox h H).get? b=none := PySem.W.hideAll_none (trk h H) hm
    rw [z] at e;cases e
structure Mod (K : PySem.W.Frag) (mg : Str → Option Value) (base : Heap) : Prop where
  kin : K.In base
  glob : base.Ns mainGlobals mg
  blt : ∃ mb, base.Ns builtinsNs mb ∧ ∀ x : Str, x ≠ "__name__" → mb x=bootBuiltins x
  nolimit : base.NoLimit
/-- the context: a def's body (or a comprehension's block) running. base: fixed through the whole law;s₀, H₀: the entry;outer: the frames whose slots others may change (a def's callers);stack: all frames that run;
   ex: iterators that were made ahead of the entry and are walked here (a comprehension's);fn: the names whose cells were made at the entry (a def: all;a comprehension's block: its own);calm: not within an except suite;pn: pins that every state bears;xe: what is wanted of an exception that leaves the code -/
structure Cx where
  prog : Program
  w : World
  K : PySem.W.Frag
  mg : Str → Option Value
  base : Heap
  A : Around
  N : List Str
  s₀ : Shared
  H₀ : Hp
  env : Env
  outer : List Env
  stack : List Env
  ex : List Addr
  fn : Str → Bool
  calm : Bool
  pn : List (Addr × Obj)
  xe : Value → Shared → Prop
def frs (l : List Env) : List Addr := l.filterMap (·.frame)
abbrev Cx.fs (X : Cx) : List Addr := frs X.outer
def Vis (sc : Scope)(x : Str) : Prop := sc.names.lookup x=some .local ∨ sc.names.lookup x=some .cell ∨ sc.names.lookup x=some .free
def Loc (sc : Scope)(x : Str) : Prop := sc.names.lookup x=some .local ∨ sc.names.lookup x=some .cell
def xh (env : Env)(h : Heap)(m : Str → Option Value)(x : Str)(u : Value) : Prop :=
  (env.kindOf x=some .local ∧ m x=some u) ∨ ((env.kindOf x=some .cell ∨ env.kindOf x=some .free) ∧ ∃ c, env.cells.lookup x=some c ∧ h.IsCell c (some u))
structure Cx.Ok (X : Cx) : Prop where
  mod : Mod X.K X.mg X.base
  kind : X.env.scope.kind = .function
  glob : X.env.globals=mainGlobals
  blt : X.env.builtins=builtinsNs
  above : X.s₀.heap.objs.size≤X.env.locals
  inj : ∀ x y c, X.env.cells.lookup x=some c → X.env.cells.lookup y=some c → x=y
  has : ∀ x, (X.env.kindOf x=some .cell ∨ X.env.kindOf x=some .free) → ∃ c, X.env.cells.lookup x=some c
  cab : ∀ x c, X.fn x=true → X.env.cells.lookup x=some c → X.s₀.heap.objs.size≤c
  hd : X.calm=true → X.A.handled=none
  frames : X.A.frames=some X.stack
  stk : X.stack=X.outer ∨ (X.stack=X.env::X.outer ∧ X.env.frame=some X.env.locals)
  exf : ∀ b∈X.ex, b≠X.env.locals ∧ ∀ x c, X.env.cells.lookup x=some c → c≠b
  bs : ∀ b o, X.base.get? b=some o → X.s₀.heap.get? b=some o ∧ X.H₀ b=none
  bsz : X.base.objs.size≤X.s₀.heap.objs.size
  noex : ∀ b o, X.base.get? b=some o → b∉X.ex
  exfs : ∀ b∈X.ex, b∉X.fs
  funs : X.s₀.heap.FunFrames X.base X.outer
  frf : ∀ b∈X.fs, X.H₀ b=none
structure Inv (X : Cx) (pins : List (Addr × Obj)) (σ : List (Option V)) (H : Hp) (s : Shared) : Prop where
  ok : X.Ok
  os : s.os=X.s₀.os
  bare : AllBare s.gens
  base : Un X.fs X.ex X.H₀ H X.s₀.heap s.heap
  loc : ∃ m, s.heap.Ns X.env.locals m ∧ ∀ (i : Nat) (x : Str) (v : V), X.N[i]? = some x → σ[i]? = some (some v) → Vis X.env.scope x → ∃ u, bj v u ∧ xh X.env s.heap m x u
  cell : ∀ x c, X.env.cells.lookup x=some c → ∃ v, s.heap.IsCell c v
  free : H X.env.locals=none
  freeC : ∀ x c, X.env.cells.lookup x=some c → H c=none
  pin : ∀ p∈X.pn++pins, s.heap.get? p.1=some p.2 ∧ H p.1=none ∧ p.1≠X.env.locals ∧ p.1∉X.fs ∧ ∀ v, p.2.data ≠ .cell v
  hok : HOk X.prog X.w H s.heap
  len : σ.length=X.N.length
section
variable {X : Cx} {pins : List (Addr × Obj)} {σ : List (Option V)} {H H' : Hp} {s : Shared} {h' : Heap}
theorem Cx.Ok.nofr (ok : X.Ok){b : Addr}{o : Obj}(e : X.base.get? b=some o) : b∉X.fs := fun hb => by
  have := (ok.funs.mem hb).1
  rw [e] at this;cases this
theorem Inv.bs (I : Inv X pins σ H s) : ∀ b o, X.base.get? b=some o → s.heap.get? b=some o ∧ H b=none := fun b o e =>
  ⟨I.base.keep b o (I.ok.bs b o e).1 (I.ok.bs b o e).2 (I.ok.nofr e) (I.ok.noex b o e), I.base.free b o (I.ok.bs b o e).1 (I.ok.bs b o e).2 (I.ok.noex b o e)⟩
theorem Inv.bk (I : Inv X pins σ H s) : ∀ b o, X.base.get? b=some o → s.heap.get? b=some o := fun b o e => (I.bs b o e).1
theorem Inv.mod (I : Inv X pins σ H s) : Mod X.K X.mg X.base := I.ok.mod
theorem Inv.kIn (I : Inv X pins σ H s) : X.K.In s.heap := I.ok.mod.kin.keeps I.bk
theorem Inv.fr (I : Inv X pins σ H s) : ∃ m, Fr X.base X.env.locals s.heap m :=
  let ⟨m, hn, _⟩ := I.loc
  ⟨m, hn, I.bk, yV I.ok.bsz I.ok.above⟩
theorem Inv.lt (I : Inv X pins σ H s) : X.env.locals < s.heap.objs.size := let ⟨_, hn, _⟩ := I.loc; hn.lt
theorem Inv.sz (I : Inv X pins σ H s) : X.s₀.heap.objs.size≤s.heap.objs.size := yV I.ok.above (B4 I.lt)
theorem Inv.nofs (I : Inv X pins σ H s){a : Addr}(h : s.heap.objs.size≤a) : a∉X.fs := fun hb => by
  obtain ⟨_, o, ho, _⟩ := I.ok.funs.mem hb
  exact absurd (yo (yf ho) (yV I.sz h)) (yZ _)
theorem Inv.cne (I : Inv X pins σ H s) : ∀ x c, X.env.cells.lookup x=some c → c≠X.env.locals := fun x c e z => by
  obtain ⟨v, o, ho, hd⟩ := I.cell x c e
  obtain ⟨m, ⟨o', es, ep, ho', hd', _⟩, _⟩ := I.loc
  rw [z, ho'] at ho;cases ho;rw [hd'] at hd;cases hd
theorem Inv.funs (I : Inv X pins σ H s) : s.heap.FunFrames X.base X.outer := by
  have all : ∀ (l : List Env), (∀ b∈frs l, b∈X.fs) → X.s₀.heap.FunFrames X.base l → s.heap.FunFrames X.base l := by
    intro l
    induction l with
    | nil => intro _ _;trivial
    | cons env r ih =>
      intro hs hl
      obtain ⟨hk, ⟨L, o, hf, hn, ho, hd⟩, hr⟩ := hl
      have hL : L∈X.fs := hs L (by unfold frs;rw [AZ, hf];exact yA)
      obtain ⟨sl, e⟩ := I.base.slot L o ho (I.ok.frf L hL) hL fun z => I.ok.exfs L z hL
      exact ⟨hk, ⟨L, _, hf, hn, e, hd⟩, ih (fun b hb => hs b (by unfold frs;rw [AZ, hf];exact yd _ hb)) hr⟩
  exact all X.outer (fun _ hb => hb) I.ok.funs
theorem Inv.stack (I : Inv X pins σ H s) : s.heap.FunFrames X.base X.stack := by
  rcases I.ok.stk with e | ⟨e, hf⟩
  · rw [e];exact I.funs
  · rw [e]
    obtain ⟨m, hn, _⟩ := I.loc
    refine .cons (by rw [I.ok.kind];decide) hf hn ?_ I.funs
    exact Heap.get?_none_of_le (yV I.ok.bsz I.ok.above)
theorem Inv.stkSub (I : Inv X pins σ H s) : ∀ b∈frs X.stack, b∈X.env.locals::X.fs := fun b hb => by
  rcases I.ok.stk with e | ⟨e, hf⟩
  · rw [e] at hb;exact yd _ hb
  · rw [e] at hb
    unfold frs at hb
    rw [AZ, hf] at hb
    exact hb
theorem Inv.stkFree (I : Inv X pins σ H s) : ∀ b∈frs X.stack, H b=none := fun b hb => by
  rcases yB.mp (I.stkSub b hb) with e | hb
  · rw [e];exact I.free
  · obtain ⟨_, o, ho, _⟩ := I.ok.funs.mem hb
    exact I.base.free b o ho (I.ok.frf b hb) fun z => I.ok.exfs b z hb
theorem Inv.step {g' : Array GenState}{t' : Nat}{d' : Drawn}{ch : List Addr}(I : Inv X pins σ H s)
    (hch : ∀ b∈ch, (b∈X.ex ∨ X.s₀.heap.objs.size≤b) ∧ b≠X.env.locals ∧ (∀ x c, X.env.cells.lookup x=some c → c≠b) ∧ ∀ p∈X.pn++pins, p.1≠b)
    (keep : ∀ b o, b≠X.env.locals → b∉X.fs → b∉ch → s.heap.get? b=some o → H b=none → h'.get? b=some o)
    (slot : ∀ b o, b≠X.env.locals → b∈X.fs → b∉ch → s.heap.get? b=some o → H b=none → ∃ sl, h'.get? b=some { o with slots := sl }) (free : ∀ b o, b∉ch → s.heap.get? b=some o → H b=none → H' b=none)
    (there : ∀ b o, b∉ch → s.heap.get? b=some o → ∃ o', h'.get? b=some o')
    (tups : ∀ b xs, H b=some (.tup xs) → H' b=some (.tup xs)) (frzs : ∀ b o u, H b=some (.frz o u) → H' b=some (.frz o u)) (tbls : ∀ b ps, H b=some (.tbl ps) → ∃ more, H' b=some (.tbl (ps++more)))
    (ns : ∀ m, s.heap.Ns X.env.locals m → h'.Ns X.env.locals m) (hok : HOk X.prog X.w H' h') (hg : AllBare g') :
    Inv X pins σ H' { s with heap := h', gens := g', drawn := d', toks := t' } := by
  have neL : ∀ b o, X.s₀.heap.get? b=some o → b≠X.env.locals := fun b o e => yH (yo (yf e) I.ok.above)
  have neC : ∀ b o, X.s₀.heap.get? b=some o → b∉X.ex → b∉ch := fun b o e hx hb => by
    rcases (hch b hb).1 with z | z
    · exact hx z
    · exact absurd (yo (yf e) z) (yZ _)
  have cellK : ∀ x c, X.env.cells.lookup x=some c → ∀ v, s.heap.IsCell c v → h'.IsCell c v := fun x c e v ⟨o, ho, hd⟩ => by
    have nch : c∉ch := fun z => (hch c z).2.2.1 x c e rfl
    by_cases hc : c∈X.fs
    · obtain ⟨sl, q⟩ := slot c o (I.cne x c e) hc nch ho (I.freeC x c e)
      exact ⟨_, q, hd⟩
    · exact ⟨o, keep c o (I.cne x c e) hc nch ho (I.freeC x c e), hd⟩
  refine ⟨I.ok, I.os, hg, ⟨fun b o e n hb hx => ?_, fun b o e n hb hx => ?_, fun b o e n hx => ?_, fun b o e hx => ?_, fun b xs e => tups b xs (I.base.tups b xs e), fun b o xs e => frzs b o xs (I.base.frzs b o xs e), fun b ps e => ?_⟩, ?_, fun x c e => ?_, ?_, fun x c e => ?_, fun p hp => ?_, hok, I.len⟩
  · exact keep b o (neL b o e) hb (neC b o e hx) (I.base.keep b o e n hb hx) (I.base.free b o e n hx)
  · obtain ⟨sl, e1⟩ := I.base.slot b o e n hb hx
    obtain ⟨sl', e2⟩ := slot b _ (neL b o e) hb (neC b o e hx) e1 (I.base.free b o e n hx)
    exact ⟨sl', e2⟩
  · obtain ⟨o', e1⟩ := I.base.there b o e hx
    exact free b o' (neC b o e hx) e1 (I.base.free b o e n hx)
  · obtain ⟨o', e1⟩ := I.base.there b o e hx
    exact there b o' (neC b o e hx) e1
  · obtain ⟨m1, e1⟩ := I.base.tbls b ps e
    obtain ⟨m2, e2⟩ := tbls b _ e1
    exact ⟨m1++m2, by rw [e2, Array.append_assoc]⟩
  · obtain ⟨m, hn, hl⟩ := I.loc
    refine ⟨m, ns m hn, fun i x v e1 e2 e3 => ?_⟩
    obtain ⟨u, r, l⟩ := hl i x v e1 e2 e3
    refine ⟨u, r, ?_⟩
    rcases l with l | ⟨k, c, e, z⟩
    · exact .inl l
    · exact .inr ⟨k, c, e, cellK x c e _ z⟩
  · obtain ⟨v, z⟩ := I.cell x c e
    exact ⟨v, cellK x c e v z⟩
  · obtain ⟨m, ⟨o, _, _, ho, _⟩, _⟩ := I.loc
    exact free _ o (fun z => (hch _ z).2.1 rfl) ho I.free
  · obtain ⟨v, o, ho, hd⟩ := I.cell x c e
    exact free c o (fun z => (hch c z).2.2.1 x c e rfl) ho (I.freeC x c e)
  · obtain ⟨e, n, ne, nf, d⟩ := I.pin p hp
    have nch : p.1∉ch := fun z => (hch p.1 z).2.2.2 p hp rfl
    exact ⟨keep p.1 p.2 ne nf nch e n, free p.1 p.2 nch e n, ne, nf, d⟩
theorem Inv.un {t' : Nat}(I : Inv X pins σ H s)(u : Un X.fs [] H H' s.heap h')(hok : HOk X.prog X.w H' h') : Inv X pins σ H' { s with heap := h', toks := t' } := by
  obtain ⟨m, ⟨o, es, ep, ho, r⟩, _⟩ := id I.loc
  obtain ⟨sl, hL⟩ := u.any ho I.free (by simp)
  exact I.step (g' := s.gens) (d' := s.drawn) (ch := []) (fun _ z => nomatch z) (fun b o _ hb _ e n => u.keep b o e n hb (by simp)) (fun b o _ hb _ e n => u.slot b o e n hb (by simp)) (fun b o _ e n => u.free b o e n (by simp)) (fun b o _ e => u.there b o e (by simp)) u.tups u.frzs u.tbls (fun m' hm => by
    obtain ⟨o', es', ep', ho', r'⟩ := hm
    rw [ho] at ho';cases ho'
    exact ⟨_, es', ep', hL, r'⟩) hok I.bare
theorem Inv.call {g' : Array GenState}{t' : Nat}{d' : Drawn}{ch : List Addr}(I : Inv X pins σ H s)(u : Un (frs X.stack) ch H H' s.heap h')(hok : HOk X.prog X.w H' h')(hg : AllBare g')
    (hch : ∀ b∈ch, (b∈X.ex ∨ X.s₀.heap.objs.size≤b) ∧ b≠X.env.locals ∧ (∀ x c, X.env.cells.lookup x=some c → c≠b) ∧ ∀ p∈X.pn++pins, p.1≠b) :
    Inv X pins σ H' { s with heap := h', gens := g', drawn := d', toks := t' } := by
  obtain ⟨m, ⟨o, es, ep, ho, r⟩, _⟩ := id I.loc
  obtain ⟨sl, hL⟩ := u.any ho I.free fun z => (hch _ z).2.1 rfl
  exact I.step (ch := ch) hch (fun b o hL hb hc e n => u.keep b o e n (fun z => (yB.mp (I.stkSub b z)).elim hL hb) hc) (fun b o _ _ hc e n => u.any e n hc) (fun b o hc e n => u.free b o e n hc) (fun b o hc e => u.there b o e hc) u.tups u.frzs u.tbls (fun m' hm => by
    obtain ⟨o', es', ep', ho', r'⟩ := hm
    rw [ho] at ho';cases ho'
    exact ⟨_, es', ep', hL, r'⟩) hok hg
theorem Inv.turned {t' : Nat}{it : Addr}(I : Inv X pins σ H s)(k : ∀ b o, b≠it → s.heap.get? b=some o → h'.get? b=some o)(hn : H it=none)(hL : it≠X.env.locals)
    (h1 : it∈X.ex ∨ X.s₀.heap.objs.size≤it) (h2 : ∀ x c, X.env.cells.lookup x=some c → c≠it) (h3 : ∀ p∈X.pn++pins, p.1≠it) : Inv X pins σ H { s with heap := h', toks := t' } := by
  have nit : ∀ b u, H b=some u → b≠it := fun b u e z => by rw [z, hn] at e;cases e
  refine I.step (g' := s.gens) (d' := s.drawn) (ch := [it]) (fun b hb => ?_) (fun b o _ _ hc e _ => k b o (fun z => hc (by simp [z])) e) (fun b o _ _ hc e _ => ⟨o.slots, k b o (fun z => hc (by simp [z])) e⟩) (fun _ _ _ _ n => n)
    (fun b o hc e => ⟨o, k b o (fun z => hc (by simp [z])) e⟩) (fun _ _ e => e) (fun _ _ _ e => e) (fun b ps e => ⟨#[], by rw [e];simp⟩) (fun m hm => ?_) (fun b u e => ?_) I.bare
  · have e : b=it := by simpa using hb
    subst e
    exact ⟨h1, hL, h2, h3⟩
  · obtain ⟨o, es, ep, ho, r⟩ := hm
    exact ⟨o, es, ep, k _ o (Ne.symm hL) ho, r⟩
  · refine (I.hok b u e).stay (fun c v hc q => k c v ?_ q) (fun _ q => q) fun _ _ q => q
    rcases hc with z | z
    · rw [z];exact nit b u e
    · exact nit c _ z
theorem Inv.tok (I : Inv X pins σ H s)(t : Nat) : Inv X pins σ H { s with toks := t } := I.un (h' := s.heap) (t' := t) Un.refl I.hok
theorem Inv.kept {t' : Nat}(I : Inv X pins σ H s)(k : ∀ b u, s.heap.get? b=some u → h'.get? b=some u) : Inv X pins σ H { s with heap := h', toks := t' } := I.un (Un.kept k) (I.hok.kept k)
theorem Inv.laid {a : Addr}{o : HO}{t' : Nat}(I : Inv X pins σ H s)(k : ∀ b u, s.heap.get? b=some u → h'.get? b=some u)(hp : s.heap.objs.size≤a)(new : bN X.prog X.w (upd H a o) h' a o) :
    Inv X pins σ (upd H a o) { s with heap := h', toks := t' } := I.un (Un.laid k hp (I.hok.fresh hp)) (I.hok.laid k hp new)
theorem Inv.write {x e : Addr}{o : HO}{t' : Nat}(I : Inv X pins σ H s)(mu : Mut (H x))(he : e=x ∨ H e=some (.own x))(k : ∀ b u, b≠e → s.heap.get? b=some u → h'.get? b=some u)(heo : ∃ u, h'.get? e=some u)
    (new : bN X.prog X.w (upd H x o) h' x o) : Inv X pins σ (upd H x o) { s with heap := h', toks := t' } := I.un (Un.write mu he k heo) (I.hok.write mu he k heo new)
theorem Inv.pins_of {pins' : List (Addr × Obj)}(I : Inv X pins σ H s)(h : ∀ p∈pins', s.heap.get? p.1=some p.2 ∧ H p.1=none ∧ p.1≠X.env.locals ∧ p.1∉X.fs ∧ ∀ v, p.2.data ≠ .cell v) : Inv X pins' σ H s :=
  ⟨I.ok, I.os, I.bare, I.base, I.loc, I.cell, I.free, I.freeC, fun p hp => (yJ.mp hp).elim (fun z => I.pin p (yz _ z)) (h p), I.hok, I.len⟩
theorem gp {N : List Str}(hN : N.Nodup){i j : Nat}{x : Str}(a : N[i]? = some x)(b : N[j]? = some x) : i=j := by
  obtain ⟨h1, e1⟩ := ya.mp a
  obtain ⟨h2, e2⟩ := ya.mp b
  exact (List.getElem_inj hN).mp (e1.trans e2.symm)
theorem lL {M : Model}{A : Around}{E : Value → Shared → Prop}{i : Nat}{x : Str}{v : V}{u : Value}{Q : Unit → Shared → Prop}(I : Inv X pins σ H s)(hN : X.N.Nodup)(hi : X.N[i]? = some x)(hx : Loc X.env.scope x)(r : bj v u)
    (h : ∀ s', Inv X pins (σ.set i (some v)) H s' → (∃ a, Heap.SameBut a s.heap s'.heap ∧ (a=X.env.locals ∨ X.env.cells.lookup x=some a)) → Q () s') (hf : X.fn x=true ∨ X.env.scope.names.lookup x=some .local := by first | exact .inl rfl | exact .inr rfl | assumption) : wpAny M A (storeName X.env x u) Q E s := by
  obtain ⟨m, hn, hl⟩ := id I.loc
  have hcls : (X.env.scope.kind == .class || (X.env.scope.kind == .module && X.env.locals != X.env.globals))=false := by rw [I.ok.kind];rfl
  have hiσ : i < σ.length := by rw [I.len];exact (ya.mp hi).1
  have cne := I.cne
  have tracked : ∀ {a : Addr} {h' : Heap}, (∃ o, s.heap.get? a=some o ∧ H a=none) → Heap.SameBut a s.heap h' → HOk X.prog X.w H h' := fun {a h'} ha hs b ob e => by
    obtain ⟨_, _, hfree⟩ := ha
    refine (I.hok b ob e).stay (fun c w' hc q => (hs.2 c ?_).trans q) (fun _ q => q) fun _ _ q => q
    rintro rfl
    rcases hc with rfl | hc
    · rw [hfree] at e;cases e
    · rw [hfree] at hc;cases hc
  rcases hx with hk | hk
  · refine wpAny_storeName_local hk hn (fun h' hn' hs => ?_) hcls
    obtain ⟨oL, _, _, hoL, _⟩ := id hn
    refine h _ ⟨I.ok, I.os, I.bare, ⟨fun b o e n hb hx => ?_, fun b o e n hb hx => ?_, I.base.free, fun b o e hx => ?_, I.base.tups, I.base.frzs, I.base.tbls⟩, ⟨_, hn', fun j y v' e1 e2 e3 => ?_⟩, fun y c e => ?_, I.free, I.freeC, fun p hp => ?_, tracked ⟨oL, hoL, I.free⟩ hs, by simpa using I.len⟩ ⟨_, hs, .inl rfl⟩
    · exact (hs.2 b (yH (yo (yf e) I.ok.above))).trans (I.base.keep b o e n hb hx)
    · obtain ⟨sl, e1⟩ := I.base.slot b o e n hb hx
      exact ⟨sl, (hs.2 b (yH (yo (yf e) I.ok.above))).trans e1⟩
    · obtain ⟨o', e1⟩ := I.base.there b o e hx
      exact ⟨o', (hs.2 b (yH (yo (yf e) I.ok.above))).trans e1⟩
    · by_cases hj : j=i
      · subst hj
        rw [hi] at e1;cases e1
        rw [zP hiσ] at e2
        cases e2
        exact ⟨u, r, .inl ⟨hk, by simp⟩⟩
      · rw [zF (Ne.symm hj)] at e2
        obtain ⟨u', r', q⟩ := hl j y v' e1 e2 e3
        refine ⟨u', r', ?_⟩
        rcases q with ⟨k, e⟩ | ⟨k, c, e, z⟩
        · refine .inl ⟨k, ?_⟩
          have : y≠x := fun e => hj (gp hN e1 (e ▸ hi))
          simp [this, e]
        · exact .inr ⟨k, c, e, z.sameBut hs (cne y c e)⟩
    · obtain ⟨w', z⟩ := I.cell y c e
      exact ⟨w', z.sameBut hs (cne y c e)⟩
    · obtain ⟨e, n, ne, nf, d⟩ := I.pin p hp
      exact ⟨(hs.2 p.1 ne).trans e, n, ne, nf, d⟩
  · have hfn : X.fn x=true := by
      rcases hf with z | z
      · exact z
      · rw [z] at hk;cases hk
    obtain ⟨c, hc⟩ := I.ok.has x (.inl hk)
    obtain ⟨w', z⟩ := I.cell x c hc
    refine wpAny_storeName_cell I.ok.kind hk hc z (fun h' hc' hs => ?_)
    obtain ⟨oc, hoc, hocd⟩ := id z
    refine h { s with heap := h' } ⟨I.ok, I.os, I.bare, ⟨fun b o e n hb hx => ?_, fun b o e n hb hx => ?_, I.base.free, fun b o e hx => ?_, I.base.tups, I.base.frzs, I.base.tbls⟩, ⟨m, hn.sameBut hs (Ne.symm (cne x c hc)), fun j y v' e1 e2 e3 => ?_⟩, fun y c' e => ?_, I.free, I.freeC, fun p hp => ?_, tracked ⟨oc, hoc, I.freeC x c hc⟩ hs, by simpa using I.len⟩ ⟨c, hs, .inr hc⟩
    · exact (hs.2 b (yH (yo (yf e) (I.ok.cab x c hfn hc)))).trans (I.base.keep b o e n hb hx)
    · obtain ⟨sl, e1⟩ := I.base.slot b o e n hb hx
      exact ⟨sl, (hs.2 b (yH (yo (yf e) (I.ok.cab x c hfn hc)))).trans e1⟩
    · obtain ⟨o', e1⟩ := I.base.there b o e hx
      exact ⟨o', (hs.2 b (yH (yo (yf e) (I.ok.cab x c hfn hc)))).trans e1⟩
    · by_cases hj : j=i
      · subst hj
        rw [hi] at e1;cases e1
        rw [zP hiσ] at e2
        cases e2
        exact ⟨u, r, .inr ⟨.inl hk, c, hc, hc'⟩⟩
      · rw [zF (Ne.symm hj)] at e2
        obtain ⟨u', r', q⟩ := hl j y v' e1 e2 e3
        refine ⟨u', r', ?_⟩
        rcases q with q | ⟨k, c', e, z'⟩
        · exact .inl q
        · refine .inr ⟨k, c', e, z'.sameBut hs ?_⟩
          rintro rfl
          exact hj (gp hN e1 (I.ok.inj _ _ _ e hc ▸ hi))
    · by_cases hcc : c'=c
      · subst hcc;exact ⟨_, hc'⟩
      · obtain ⟨w2, z2⟩ := I.cell y c' e
        exact ⟨w2, z2.sameBut hs hcc⟩
    · obtain ⟨e, n, ne, nf, d⟩ := I.pin p hp
      refine ⟨(hs.2 p.1 ?_).trans e, n, ne, nf, d⟩
      intro q
      rw [q, hoc] at e
      have q' : oc=p.2 := yh e
      exact d w' (by rw [← q'];exact hocd)
theorem eD {M : Model}{A : Around}{E : Value → Shared → Prop}{i : Nat}{x : Str}{v : V}{u : Value}{Q : Unit → Shared → Prop}(I : Inv X pins σ H s)(hN : X.N.Nodup)(hi : X.N[i]? = some x)(hx : Loc X.env.scope x)(r : bj v u)
    (h : ∀ s', Inv X pins (σ.set i (some v)) H s' → Q () s') (hf : X.fn x=true ∨ X.env.scope.names.lookup x=some .local := by first | exact .inl rfl | exact .inr rfl | assumption) : wpAny M A (storeName X.env x u) Q E s :=
  lL I hN hi hx r (fun s' I' _ => h s' I') hf
theorem Inv.call' {s' : Shared}{ch : List Addr}(I : Inv X pins σ H s)(ho : s'.os=s.os)(u : Un (frs X.stack) ch H H' s.heap s'.heap)(hok : HOk X.prog X.w H' s'.heap)(hg : AllBare s'.gens)
    (hch : ∀ b∈ch, (b∈X.ex ∨ X.s₀.heap.objs.size≤b) ∧ b≠X.env.locals ∧ (∀ x c, X.env.cells.lookup x=some c → c≠b) ∧ ∀ p∈X.pn++pins, p.1≠b) : Inv X pins σ H' s' := by
  obtain ⟨h', g', d', t', o'⟩ := s'
  have e : o'=s.os := ho
  subst e
  exact I.call (g' := g') (t' := t') (d' := d') u hok hg hch
end
abbrev XK := Value → Option Addr → Hp → Prop
abbrev St := List (Option V)
abbrev VK := V → Hp → Prop
abbrev TE := St → Hp → VK → Prop
abbrev TT := St → Hp → (Bool → Hp → Prop) → Prop
abbrev TA := St → Hp → (List V → Hp → Prop) → Prop
structure jj where
  nx : St → Hp → Prop
  rt : VK
  bk : St → Hp → Prop := fun _ _ => False
  ct : St → Hp → Prop := fun _ _ => False
abbrev TS := jj → St → Hp → Prop
def EP (X : Cx)(pins : List (Addr × Obj))(σ : St)(Q : VK)(u : Value)(s' : Shared) : Prop := ∃ v H', Inv X pins σ H' s' ∧ bj v u ∧ Q v H'
def TP (X : Cx)(pins : List (Addr × Obj))(σ : St)(Q : Bool → Hp → Prop)(b : Bool)(s' : Shared) : Prop := ∃ H', Inv X pins σ H' s' ∧ Q b H'
def AP (X : Cx)(pins : List (Addr × Obj))(σ : St)(Q : List V → Hp → Prop)(us : List Value)(s' : Shared) : Prop := ∃ vs H', Inv X pins σ H' s' ∧ aW vs us ∧ Q vs H'
def SP (X : Cx)(pins : List (Addr × Obj))(D : jj)(f : Flow)(s' : Shared) : Prop :=
  match f with
  | .next => ∃ σ' H', Inv X pins σ' H' s' ∧ D.nx σ' H'
  | .brk => ∃ σ' H', Inv X pins σ' H' s' ∧ D.bk σ' H'
  | .cont => ∃ σ' H', Inv X pins σ' H' s' ∧ D.ct σ' H'
  | .ret u => ∃ v σ' H', Inv X pins σ' H' s' ∧ bj v u ∧ D.rt v H'
def PE (X : Cx)(e : Expr)(t : TE) : Prop :=
  ∀ (pins : List (Addr × Obj)) (s : Shared) (σ : St) (H : Hp) (Q : VK), Inv X pins σ H s → t σ H Q → wpAny (model X.prog X.w) X.A (eval e X.env) (EP X pins σ Q) X.xe s
def PT (X : Cx)(e : Expr)(t : TT) : Prop :=
  ∀ (pins : List (Addr × Obj)) (s : Shared) (σ : St) (H : Hp) (Q : Bool → Hp → Prop), Inv X pins σ H s → t σ H Q → wpAny (model X.prog X.w) X.A (isTrue e X.env (eval e X.env)) (TP X pins σ Q) X.xe s
def PW (X : Cx)(e : Expr)(t : TT) : Prop :=
  ∀ (whole : Sem Value) (pins : List (Addr × Obj)) (s : Shared) (σ : St) (H : Hp) (Q : Bool → Hp → Prop), Inv X pins σ H s → t σ H Q → wpAny (model X.prog X.w) X.A (isTrue e X.env whole) (TP X pins σ Q) X.xe s
theorem PW.pt {X : Cx}{e : Expr}{t : TT}(h : PW X e t) : PT X e t := h _
def PA (X : Cx)(es : List Expr)(t : TA) : Prop :=
  ∀ (pos : Pos) (pins : List (Addr × Obj)) (s : Shared) (σ : St) (H : Hp) (Q : List V → Hp → Prop), Inv X pins σ H s → t σ H Q → wpAny (model X.prog X.w) X.A (spliced (backTo pos (starEach es X.env))) (AP X pins σ Q) X.xe s
def PS (X : Cx)(st : Stmt)(t : TS) : Prop :=
  ∀ (pins : List (Addr × Obj)) (s : Shared) (σ : St) (H : Hp) (D : jj), Inv X pins σ H s → t D σ H → wpAny (model X.prog X.w) X.A (exec st X.env) (SP X pins D) X.xe s
def PSs (X : Cx)(st : List Stmt)(t : TS) : Prop :=
  ∀ (pins : List (Addr × Obj)) (s : Shared) (σ : St) (H : Hp) (D : jj), Inv X pins σ H s → t D σ H → wpAny (model X.prog X.w) X.A (execs st X.env) (SP X pins D) X.xe s
theorem thn {α : Type}{t : Sem α}{Q Q' : α → Shared → Prop}{M : Model}{A : Around}{E : Value → Shared → Prop}{s : Shared}(h : wpAny M A t Q E s)(hQ : ∀ a s, Q a s → Q' a s) : wpAny M A t Q' E s := zy h hQ fun _ _ x => x
section
variable {X : Cx}
inductive vB (i : Nat)(σ : St)(H : Hp)(Q : VK) : Prop
  | mk : ∀ v, (σ[i]? = some (some v)) → (Q v H) → vB i σ H Q
def tC (v : V) : TE := fun _ H Q => Q v H
theorem tj {i : Nat}{x : Str}{pos : Pos}(hN : X.N[i]? = some x)(hv : Vis X.env.scope x)(hd : (x == ("__debug__" : Str))=false := by decide)(hcd : (x == ("__classdict__" : Str))=false := by decide) : PE X (.Name x pos) (vB i) := by
  intro pins s σ H Q I h
  obtain ⟨v, e, h⟩ := h
  obtain ⟨m, hn, hl⟩ := I.loc
  obtain ⟨u, r, l⟩ := hl i x v hN e hv
  have fin : EP X pins σ Q u s := ⟨v, H, I, r, h⟩
  rcases l with ⟨hk, hm⟩ | ⟨hk, c, hc, hcell⟩
  · exact AW (z9 I.ok.kind hk hn hm fin) hd
  · rcases hk with hk | hk
    · exact AW (A0 I.ok.kind hk hc hcell fin) hd
    · exact AW (wpAny_loadName_free I.ok.kind hk hc hcell fin hcd) hd
theorem aq {i j pos} : PE X (.Constant (.int i) j pos) (tC (.int i)) := fun _ _ _ H _ I h => wpAny_Constant_int ⟨.int i, H, I.tok _, ⟨_, rfl⟩, h⟩
theorem js {b j pos} : PE X (.Constant (.bool b) j pos) (tC (.bl b)) := fun _ _ _ H _ I h => Constant_bool ⟨.bl b, H, I, rfl, h⟩
theorem qh {j pos} : PE X (.Constant .none j pos) (tC .non) := fun _ _ _ H _ I h => Constant_none ⟨.non, H, I, rfl, h⟩
theorem aN {x j pos} : PE X (.Constant (.str x) j pos) (tC (.str x)) := fun _ _ _ H _ I h => Calls.Constant_str ⟨.str x, H, I.tok _, ⟨_, rfl⟩, h⟩
def Gl (X : Cx)(x : Str) : Prop := X.env.kindOf x=some .globalImplicit
theorem jt {E : Value → Shared → Prop}{pins : List (Addr × Obj)}{s : Shared}{σ : St}{H : Hp}{x : Str}{u : Value}{pos : Pos}{Q : Value → Shared → Prop}(I : Inv X pins σ H s)(hg : Gl X x)(hm : X.mg x=some u)(h : Q u s)
    (hd : (x == ("__debug__" : Str))=false := by decide) : wpAny (model X.prog X.w) X.A (eval (.Name x pos) X.env) Q E s :=
  Be I.ok.kind hg (Calls.loadGlobal_global (by rw [I.ok.glob];exact I.mod.glob.keeps I.bk) hm h) hd
theorem fS {E : Value → Shared → Prop}{pins : List (Addr × Obj)}{s : Shared}{σ : St}{H : Hp}{x : Str}{u : Value}{pos : Pos}{Q : Value → Shared → Prop}(I : Inv X pins σ H s)(hg : Gl X x)(hm : X.mg x=none)(hv : bootBuiltins x=some u)(h : Q u s)
    (hn : x ≠ "__name__" := by decide) (hd : (x == ("__debug__" : Str))=false := by decide) : wpAny (model X.prog X.w) X.A (eval (.Name x pos) X.env) Q E s := by
  obtain ⟨mb, h1, h2⟩ := I.mod.blt
  exact Be I.ok.kind hg (Calls.loadGlobal_builtin (by rw [I.ok.glob];exact I.mod.glob.keeps I.bk) hm (by rw [I.ok.blt];exact h1.keeps I.bk) ((h2 x hn).trans hv) h) hd
theorem gq {x : Str}{v : V}{u : Value}{pos : Pos}(hg : Gl X x)(hm : X.mg x=some u)(r : bj v u)(hd : (x == ("__debug__" : Str))=false := by decide) : PE X (.Name x pos) (tC v) :=
  fun _ _ _ H _ I h => jt I hg hm ⟨v, H, I, r, h⟩ hd
variable {a b : Expr} {ta tb : TE} {pos : Pos}
def PC (X : Cx)(op : CmpOp)(a b : Expr)(t : TE) : Prop :=
  ∀ (pins : List (Addr × Obj)) (s : Shared) (σ : St) (H : Hp) (Q : VK), Inv X pins σ H s → t σ H Q →
    wpAny (model X.prog X.w) X.A (eval a X.env) (fun v s₁ => wpAny (model X.prog X.w) X.A (eval b X.env) (fun u s₂ => wpAny (model X.prog X.w) X.A (compareOp op v u) (EP X pins σ Q) X.xe s₂) X.xe s₁) X.xe s
theorem oz (b : Expr){op : CmpOp}(h : op ≠ .In)(h2 : op ≠ .NotIn) : behindInMarks op b=false := by
  have e1 : (op == CmpOp.In)=false := by cases op <;> first | rfl | exact absurd rfl h
  have e2 : (op == CmpOp.NotIn)=false := by cases op <;> first | rfl | exact absurd rfl h2
  cases b <;> simp [behindInMarks, e1, e2]
inductive IsB (x : V)(H : Hp)(Q : Bool → Hp → Prop) : Prop
  | mk : ∀ c, (x = .bl c) → (Q c H) → IsB x H Q
def vC (Q : (Bool → Hp → Prop)) : V → Hp → Prop := fun x H1 => IsB x H1 Q
def tB (t : TE) : TT := fun σ H Q => t σ H (vC Q)
theorem tm {op : CmpOp}{t : TE}(h : PC X op a b t)(h1 : behindInMarks op b=false := by first | exact oz _ (by decide) (by decide) | rfl) : PT X (.Compare a [op] [b] pos) (tB t) := by
  intro pins s σ H Q I hw
  refine wpAny_isTrue_Compare1 (thn (h pins s σ H _ I hw) fun v s1 h1 => thn h1 fun u s2 h2 => thn h2 fun c s3 zq5 => ?_) h1
  obtain ⟨x, H1, I1, r1, q1⟩ := zq5
  obtain ⟨d, rfl, q⟩ := q1
  cases r1
  exact zt ⟨H1, I1, q⟩
variable {tA tB' : TT} {rest : List Expr}
def ju (u : TT)(σ : St)(Q : (Bool → Hp → Prop)) : Bool → Hp → Prop := fun c H1 => if c=true then u σ H1 Q else Q false H1
def xi (t u : TT) : TT := fun σ H Q => t σ H (ju u σ Q)
def lM (u : TT)(σ : St)(Q : (Bool → Hp → Prop)) : Bool → Hp → Prop := fun c H1 => if c=true then Q true H1 else u σ H1 Q
def tOr (t u : TT) : TT := fun σ H Q => t σ H (lM u σ Q)
def lN (Q : (Bool → Hp → Prop)) : Bool → Hp → Prop := fun c H1 => Q (!c) H1
def xj (t : TT) : TT := fun σ H Q => t σ H (lN Q)
theorem eP (ha : PT X a tA) : PW X (.BoolOp .And [a] pos) tA := by
  intro wh pins s σ H Q I h
  refine isTrue_and (thn (ha pins s σ H Q I h) fun c s1 e => ?_)
  cases c with
  | true => exact isTrue_and_nil e
  | false => exact e
theorem lO (ha : PT X a tA) : PW X (.BoolOp .Or [a] pos) tA := by
  intro wh pins s σ H Q I h
  refine isTrue_or (thn (ha pins s σ H Q I h) fun c s1 e => ?_)
  cases c with
  | false => exact isTrue_or_nil e
  | true => exact e
theorem g_ (ha : PT X a tA)(hb : PW X (.BoolOp .And (b::rest) pos) tB') : PW X (.BoolOp .And (a::b::rest) pos) (xi tA tB') := by
  intro wh pins s σ H Q I h
  refine isTrue_and (thn (ha pins s σ H _ I h) fun c s1 zq7 => ?_)
  obtain ⟨H1, I1, q1⟩ := zq7
  cases c with
  | true => exact hb wh pins s1 σ H1 Q I1 q1
  | false => exact ⟨H1, I1, q1⟩
theorem oA (ha : PT X a tA)(hb : PW X (.BoolOp .Or (b::rest) pos) tB') : PW X (.BoolOp .Or (a::b::rest) pos) (tOr tA tB') := by
  intro wh pins s σ H Q I h
  refine isTrue_or (thn (ha pins s σ H _ I h) fun c s1 zq8 => ?_)
  obtain ⟨H1, I1, q1⟩ := zq8
  cases c with
  | true => exact ⟨H1, I1, q1⟩
  | false => exact hb wh pins s1 σ H1 Q I1 q1
theorem jX (ha : PT X a tA) : PT X (.UnaryOp .Not a pos) (xj tA) := by
  intro pins s σ H Q I h
  exact isTrue_not (ha pins s σ H (fun c H1 => Q (!c) H1) I h)
def oB (tb : TE)(σ : St)(Q : VK) : Bool → Hp → Prop := fun c H1 => if c=true then tb σ H1 Q else Q (.bl false) H1
def oD (tb : TE)(σ : St)(Q : VK) : V → Hp → Prop := fun x H1 => IsB x H1 (oB tb σ Q)
def vD (ta tb : TE) : TE := fun σ H Q => ta σ H (oD tb σ Q)
theorem tq {op}{t : TE}(h : PE X a t) : PE X (.BoolOp op [a] pos) t := fun pins s σ H Q I hw => BoolOp_one (h pins s σ H Q I hw)
theorem tu (ha : PE X a ta)(hb : PE X (.BoolOp .And (b::rest) pos) tb) : PE X (.BoolOp .And (a::b::rest) pos) (vD ta tb) := by
  intro pins s σ H Q I h
  refine BoolOp_and (thn (ha pins s σ H _ I h) fun v s1 zq9 => ?_)
  obtain ⟨x, H1, I1, r1, q1⟩ := zq9
  obtain ⟨c, rfl, q1⟩ := q1
  cases r1
  refine zt ?_
  cases c with
  | true => exact hb pins s1 σ H1 Q I1 q1
  | false => exact ⟨.bl false, H1, I1, rfl, q1⟩
def lP (ta : TE)(tb : TE)(σ : St)(Q : VK) : Bool → Hp → Prop := fun c H1 => if c=true then ta σ H1 Q else tb σ H1 Q
def tIf (t : TT)(ta tb : TE) : TE := fun σ H Q => t σ H (lP ta tb σ Q)
theorem jY {c : Expr}(hc : PT X c tA)(ha : PE X a ta)(hb : PE X b tb) : PE X (.IfExp c a b pos) (tIf tA ta tb) := by
  intro pins s σ H Q I h
  refine wpAny_IfExp (thn (hc pins s σ H _ I h) fun d s1 zq12 => ?_)
  obtain ⟨H1, I1, q1⟩ := zq12
  cases d with
  | true => exact ha pins s1 σ H1 Q I1 q1
  | false => exact hb pins s1 σ H1 Q I1 q1
end
def SqL (K : PySem.W.Frag)(H : Hp)(a : Addr)(xs : List V) : Prop :=
  Rd H a (.lst xs) ∨
    ∃ (o : Obj) (its : Array Value) (n : Nat), K.lookup a=some o ∧ o.cls = .type "list" ∧ o.dict=none ∧ o.data = .seq its n ∧ its.size≤sizeLine ∧ aW xs its.toList
def SqT (K : PySem.W.Frag)(H : Hp)(a : Addr)(xs : List V) : Prop :=
  Rd H a (.tup xs) ∨
    ∃ (o : Obj) (its : Array Value) (n : Nat), K.lookup a=some o ∧ o.cls = .type "tuple" ∧ o.data = .seq its n ∧ its.size≤sizeLine ∧ aW xs its.toList
def xk : Value → Option V
  | .none => some .non
  | .bool b => some (.bl b)
  | .int i _ => some (.int i)
  | .str x _ => some (.str x)
  | .bytes b _ => some (.byt b)
  | .float b _ => some (.flt b)
  | .ref a => some (.ref a)
  | .type n => some (.ty n)
  | _ => none
theorem bj.abs {x : V}{u : Value}(r : bj x u) : xk u=some x := by
  cases x with
  | non => cases r;rfl
  | bl _ => cases r;rfl
  | int _ => obtain ⟨t, rfl⟩ := r;rfl
  | str _ => obtain ⟨t, rfl⟩ := r;rfl
  | byt _ => obtain ⟨t, rfl⟩ := r;rfl
  | flt _ => obtain ⟨t, rfl⟩ := r;rfl
  | ref _ => cases r;rfl
  | ty _ => cases r;rfl
theorem bj.inj {x y : V}{u : Value}(r : bj x u)(q : bj y u) : x=y := yh (r.abs.symm.trans q.abs)
theorem aW.inj : ∀ {xs ys : List V} {us : List Value}, aW xs us → aW ys us → xs=ys
  | _, _, _, .nil, .nil => rfl
  | _, _, _, .cons r t, .cons r' t' => by rw [r.inj r', aW.inj t t']
section
variable {X : Cx} {pins : List (Addr × Obj)} {σ : St} {H : Hp} {s : Shared} {a : Addr} {xs ys : List V}
theorem SqL.of {K : PySem.W.Frag}(h : H a=some (.lst xs)) : SqL K H a xs := .inl (.inl h)
theorem SqT.of {K : PySem.W.Frag}(h : H a=some (.tup xs)) : SqT K H a xs := .inl (.inl h)
theorem Inv.list (I : Inv X pins σ H s)(h : SqL X.K H a xs) : ∃ its : List Value, aW xs its ∧ PlainL s.heap a its.toArray ∧ xs.length≤sizeLine := by
  rcases h with h | ⟨o, its, n, hk, hc, hd, hs, hz, r⟩
  · obtain ⟨z, its, n, r, e⟩ := h.ok I.hok
    exact ⟨its, r, ⟨_, n, e, rfl, rfl, rfl⟩, z⟩
  · refine ⟨its.toList, r, ⟨o, n, I.kIn a o hk, hc, hd, by simpa using hs⟩, ?_⟩
    have e := r.length
    simp only [y6] at e
    omega
theorem Inv.tuple (I : Inv X pins σ H s)(h : SqT X.K H a xs) : ∃ its : List Value, aW xs its ∧ IsTup s.heap a its.toArray ∧ xs.length≤sizeLine := by
  rcases h with h | ⟨o, its, n, hk, hc, hs, hz, r⟩
  · obtain ⟨z, its, r, p, _⟩ := h.ok I.hok
    exact ⟨its, r, p, z⟩
  · refine ⟨its.toList, r, ⟨o, I.kIn a o hk, hc, n, by simpa using hs⟩, ?_⟩
    have e := r.length
    simp only [y6] at e
    omega
theorem Inv.list_inj (I : Inv X pins σ H s)(h : SqL X.K H a xs)(h' : SqL X.K H a ys) : xs=ys := by
  obtain ⟨its, r, ⟨o, n, e, _, _, d⟩, _⟩ := I.list h
  obtain ⟨its', r', ⟨o', n', e', _, _, d'⟩, _⟩ := I.list h'
  rw [e] at e';cases e'
  rw [d] at d'
  injection d' with d1 _
  have : its=its' := by simpa using yW Array.toList d1
  subst this
  exact r.inj r'
theorem Inv.tuple_inj (I : Inv X pins σ H s)(h : SqT X.K H a xs)(h' : SqT X.K H a ys) : xs=ys := by
  obtain ⟨its, r, ⟨o, e, _, n, d⟩, _⟩ := I.tuple h
  obtain ⟨its', r', ⟨o', e', _, n', d'⟩, _⟩ := I.tuple h'
  rw [e] at e';cases e'
  rw [d] at d'
  injection d' with d1 _
  have : its=its' := by simpa using yW Array.toList d1
  subst this
  exact r.inj r'
end
abbrev Cx.wish (X : Cx)(E : Value → Shared → Prop) : Cx := { X with xe := E }
abbrev Cx.nox (X : Cx) : Cx := X.wish fun _ _ => False
theorem Cx.Ok.wish {X : Cx}(ok : X.Ok)(E : Value → Shared → Prop) : (X.wish E).Ok :=
  ⟨ok.mod, ok.kind, ok.glob, ok.blt, ok.above, ok.inj, ok.has, ok.cab, ok.hd, ok.frames, ok.stk, ok.exf, ok.bs, ok.bsz, ok.noex, ok.exfs, ok.funs, ok.frf⟩
theorem Cx.Ok.unwish {X : Cx}{E : Value → Shared → Prop}(ok : (X.wish E).Ok) : X.Ok :=
  ⟨ok.mod, ok.kind, ok.glob, ok.blt, ok.above, ok.inj, ok.has, ok.cab, ok.hd, ok.frames, ok.stk, ok.exf, ok.bs, ok.bsz, ok.noex, ok.exfs, ok.funs, ok.frf⟩
section
variable {X : Cx} {pins : List (Addr × Obj)} {σ : St} {H : Hp} {s : Shared} {E : Value → Shared → Prop}
theorem Inv.wish (I : Inv X pins σ H s)(E : Value → Shared → Prop) : Inv (X.wish E) pins σ H s := ⟨I.ok.wish E, I.os, I.bare, I.base, I.loc, I.cell, I.free, I.freeC, I.pin, I.hok, I.len⟩
theorem Inv.unwish (I : Inv (X.wish E) pins σ H s) : Inv X pins σ H s := ⟨I.ok.unwish, I.os, I.bare, I.base, I.loc, I.cell, I.free, I.freeC, I.pin, I.hok, I.len⟩
theorem SP.unwish {D : jj}{f : Flow}{s' : Shared}(h : SP (X.wish E) pins D f s') : SP X pins D f s' := by
  cases f with
  | next => obtain ⟨σ', H', I, q⟩ := h;exact ⟨σ', H', I.unwish, q⟩
  | brk => obtain ⟨σ', H', I, q⟩ := h;exact ⟨σ', H', I.unwish, q⟩
  | cont => obtain ⟨σ', H', I, q⟩ := h;exact ⟨σ', H', I.unwish, q⟩
  | ret u => obtain ⟨v, σ', H', I, r, q⟩ := h;exact ⟨v, σ', H', I.unwish, r, q⟩
theorem PSs.nox {st : List Stmt}{t : TS}(h : PSs X.nox st t) : PSs X st t := fun pins s σ H D I hw =>
  zy (h pins s σ H D (I.wish _) hw) (fun _ _ q => q.unwish) fun _ _ z => False.elim z
end
section
variable {X : Cx} {st : Stmt} {rest : List Stmt} {t u : TS} {e : Expr} {te : TE} {pos : Pos}
def vE : TS := fun D σ H => D.nx σ H
def xl (t u : TS) : TS := fun D σ H => t { D with nx := u D } σ H
theorem bo : PSs X [] vE := fun _ _ σ H _ I h => A1 ⟨σ, H, I, h⟩
theorem ag (h1 : PS X st t)(h2 : PSs X rest u) : PSs X (st::rest) (xl t u) := by
  intro pins s σ H D I h
  refine AH (thn (h1 pins s σ H { D with nx := u D } I h) fun f s1 q => ?_)
  cases f with
  | next =>
    obtain ⟨σ', H', I', q⟩ := q
    exact h2 pins s1 σ' H' D I' q
  | ret v => exact q
  | brk => exact q
  | cont => exact q
theorem aj (h1 : PS X st t) : PSs X [st] t := by
  intro pins s σ H D I h
  refine AH (thn (h1 pins s σ H D I h) fun f s1 q => ?_)
  cases f with
  | next => exact A1 q
  | ret v => exact q
  | brk => exact q
  | cont => exact q
theorem Inv.quiet {pins : List (Addr × Obj)}{σ : St}{H : Hp}{s : Shared}(I : Inv X pins σ H s) : interactive X.env=false := by simp [interactive, I.ok.kind]
def oE (D : jj)(σ : St) : V → Hp → Prop := fun _ H1 => D.nx σ H1
def vF (te : TE) : TS := fun D σ H => te σ H (oE D σ)
theorem dU (he : PE X e te)(hs : swapsWith e none pos.line X.env=pure false := by rfl) : PS X (.Expr e pos) (vF te) := by
  intro pins s σ H D I h
  exact wpAny_Expr_any (thn (he pins s σ H _ I h) fun v s1 zq15 => (by obtain ⟨x, H1, I1, r1, q1⟩ := zq15;exact ⟨σ, H1, I1, q1⟩)) I.quiet hs
def xm (te : TE) : TS := fun D σ H => te σ H D.rt
theorem aK (he : PE X e te) : PS X (.Return (some e) pos) (xm te) := by
  intro pins s σ H D I h
  exact wpAny_Return_some (thn (he pins s σ H _ I h) fun v s1 zq16 => (by obtain ⟨x, H1, I1, r1, q1⟩ := zq16;exact ⟨x, σ, H1, I1, r1, q1⟩))
def jv (t : TS)(u : TS)(D : jj)(σ : St) : Bool → Hp → Prop := fun b H1 => if b=true then t D σ H1 else u D σ H1
def xn (c : TT)(t u : TS) : TS := fun D σ H => c σ H (jv t u D σ)
theorem b0 {c : Expr}{a b : List Stmt}{tc : TT}(hc : PT X c tc)(ha : PSs X a t)(hb : PSs X b u) : PS X (.If c a b pos) (xn tc t u) := by
  intro pins s σ H D I h
  refine wpAny_If (thn (hc pins s σ H _ I h) fun d s1 zq17 => ?_)
  obtain ⟨H1, I1, q1⟩ := zq17
  cases d with
  | true => exact ha pins s1 σ H1 D I1 q1
  | false => exact hb pins s1 σ H1 D I1 q1
def tw : TS := fun _ _ _ => False
theorem jZ : PS X st tw := fun _ _ _ _ _ _ h => h.elim
end
abbrev TG := V → St → Hp → (St → Hp → Prop) → Prop
abbrev TGs := List V → St → Hp → (St → Hp → Prop) → Prop
def PG (X : Cx)(target : Expr)(t : TG) : Prop :=
  ∀ (pins : List (Addr × Obj)) (s : Shared) (σ : St) (H : Hp) (v : V) (u : Value) (Q : St → Hp → Prop), Inv X pins σ H s → bj v u → t v σ H Q →
    wpAny (model X.prog X.w) X.A (assign target X.env u) (fun _ s' => ∃ σ' H', Inv X pins σ' H' s' ∧ Q σ' H') X.xe s
def PGs (X : Cx)(ts : List Expr)(t : TGs) : Prop :=
  ∀ (pins : List (Addr × Obj)) (s : Shared) (σ : St) (H : Hp) (vs : List V) (us : List Value) (Q : St → Hp → Prop), Inv X pins σ H s → aW vs us → t vs σ H Q →
    wpAny (model X.prog X.w) X.A (assignInOrder ((assignEach ts X.env).map (·.2)) us) (fun _ s' => ∃ σ' H', Inv X pins σ' H' s' ∧ Q σ' H') X.xe s
abbrev vH := V → V → V → Hp → (Hp → Prop) → Prop
def wQ (X : Cx)(t : vH) : Prop :=
  ∀ (pins : List (Addr × Obj)) (s : Shared) (σ : St) (H : Hp) (o i v : V) (ov iv u : Value) (Q : Hp → Prop), Inv X pins σ H s → bj o ov → bj i iv → bj v u → t o i v H Q →
    wpAny (model X.prog X.w) X.A (setItem ov iv u) (fun _ s' => ∃ H', Inv X pins σ H' s' ∧ Q H') X.xe s
abbrev TIp := V → V → Hp → VK → Prop
def PIp (X : Cx)(op : Operator)(t : TIp) : Prop :=
  ∀ (pins : List (Addr × Obj)) (s : Shared) (σ : St) (H : Hp) (x y : V) (v u : Value) (Q : VK), Inv X pins σ H s → bj x v → bj y u → t x y H Q →
    wpAny (model X.prog X.w) X.A (inplaceOp op v u) (EP X pins σ Q) X.xe s
section
variable {X : Cx} {pos : Pos}
def qO (i : Nat) : TG := fun v σ H Q => Q (σ.set i (some v)) H
theorem aM {i : Nat}{x : Str}(hN : X.N.Nodup)(hi : X.N[i]? = some x)(hx : Loc X.env.scope x)(hf : X.fn x=true ∨ X.env.scope.names.lookup x=some .local := by first | exact .inl rfl | exact .inr rfl | assumption) : PG X (.Name x pos) (qO i) := by
  intro pins s σ H v u Q I r h
  exact wpAny_assign_Name (eD I hN hi hx r (fun s' I' => ⟨_, H, I', h⟩) hf)
def xo : TGs := fun vs σ H Q => vs=[] ∧ Q σ H
def vI (t : TG)(u : TGs) : TGs := fun vs σ H Q => ∃ v r, vs=v::r ∧ t v σ H fun σ' H' => u r σ' H' Q
theorem jw : PGs X [] xo := by
  intro pins s σ H vs us Q I r h
  obtain ⟨e, h⟩ := h
  subst e
  cases r
  exact assignInOrder_nil ⟨σ, H, I, h⟩
theorem cg {e : Expr}{es : List Expr}{t : TG}{u : TGs}(h1 : PG X e t)(h2 : PGs X es u)
    (hs : (assignEach (e::es) X.env).map (·.2)=assign e X.env::(assignEach es X.env).map (·.2) := by rfl) : PGs X (e::es) (vI t u) := by
  intro pins s σ H vs us Q I r h
  obtain ⟨v, vr, e1, h⟩ := h
  subst e1
  cases r with
  | cons r rr =>
    rw [hs]
    refine assignInOrder_cons (thn (h1 pins s σ H _ _ _ I r h) fun _ s1 zq18 => ?_)
    obtain ⟨σ1, H1, I1, q1⟩ := zq18
    exact h2 pins s1 σ1 H1 _ _ Q I1 rr q1
def xp (K : PySem.W.Frag)(n : Nat)(t : TGs) : TG := fun v σ H Q => ∃ a xs, v = .ref a ∧ SqT K H a xs ∧ xs.length=n ∧ t xs σ H Q
theorem lQ {es : List Expr}{k : Nat}{t : TGs}{n : Nat}(hc : X.calm=true)(h : PGs X es t)
    (hn : (assignEach es X.env).length=n := by rfl) (hst : (assignEach es X.env).findIdx? (·.1)=none := by rfl) : PG X (.Tuple es k pos) (xp X.K n t) := by
  intro pins s σ H v u Q I r hw
  obtain ⟨a, xs, e1, hq, hl, hw⟩ := hw
  subst e1
  cases r
  obtain ⟨its, rv, ht, hz⟩ := I.tuple hq
  refine assign_Tuple_tuple (I.ok.hd hc) ht (by simp [hn, ← hl, rv.length]) hst fun h' hx => ?_
  have I1 : Inv X pins σ H { s with heap := h' } := I.kept (t' := s.toks) fun b o e => hx b o (yH (yf e)) e
  exact h pins _ σ H xs _ Q I1 (by simpa using rv) hw
def xq (to ti : TE)(t : vH) : TG := fun v σ H Q => to σ H fun o H1 => ti σ H1 fun i H2 => t o i v H2 fun H3 => Q σ H3
theorem tD {o i : Expr}{to ti : TE}{t : vH}(ho : PE X o to)(hi : PE X i ti)(hs : wQ X t)
    (ha : ∀ v, assign (.Subscript o i pos) X.env v=(do
      let ov ← holding [v] (eval o X.env)
      let iv ← holding [v, ov] (eval i X.env)
      standAt pos
      holding [v, ov, iv] (setItem ov iv v)
      release [v, ov, iv] []) := by intro _;rfl) : PG X (.Subscript o i pos) (xq to ti t) := by
  intro pins s σ H v u Q I r h
  rw [ha]
  refine fu (Ag (thn (ho pins s σ H _ I h) fun ov s1 zq19 => ?_))
  obtain ⟨x, H1, I1, r1, q1⟩ := zq19
  refine fu (Ag (thn (hi pins s1 σ H1 _ I1 q1) fun iv s2 zq20 => ?_))
  obtain ⟨y, H2, I2, r2, q2⟩ := zq20
  refine fu (wpAny_standAt (fu (Ag (thn (hs pins s2 σ H2 x y v ov iv u _ I2 r1 r2 r q2) fun _ s3 zq21 => ?_))))
  obtain ⟨H3, I3, q3⟩ := zq21
  exact wpAny_release ⟨σ, H3, I3, q3⟩
def qP (g : TG)(D : jj)(σ : St) : V → Hp → Prop := fun x H1 => g x σ H1 D.nx
def vJ (te : TE)(g : TG) : TS := fun D σ H => te σ H (qP g D σ)
theorem qi {tg e : Expr}{te : TE}{g : TG}(he : PE X e te)(hg : PG X tg g)(hs : swapsWithSole [tg] e pos.line X.env=pure false := by rfl)(hw : swappedStores [tg] e X.env=pure none := by rfl)
    (h1 : (assignEach [tg] X.env).map (·.2)=[assign tg X.env] := by rfl) : PS X (.Assign [tg] e pos) (vJ te g) := by
  intro pins s σ H D I h
  refine wpAny_Assign_stores (thn (he pins s σ H _ I h) fun v s1 zq22 => ?_) hs hw
  obtain ⟨x, H1, I1, r1, q1⟩ := zq22
  rw [h1]
  exact thn (hg pins s1 σ H1 x v _ I1 r1 q1) fun _ s2 q => q
theorem au {i : Nat}{x : Str}{e : Expr}{te : TE}{pos' : Pos}(hN : X.N.Nodup)(hi : X.N[i]? = some x)(hx : Loc X.env.scope x)(he : PE X e te)(hs : swapsWith e (some (.Name x pos')) pos.line X.env=pure false := by rfl)(hf : X.fn x=true ∨ X.env.scope.names.lookup x=some .local := by first | exact .inl rfl | exact .inr rfl | assumption) :
    PS X (.Assign [.Name x pos'] e pos) (vJ te (qO i)) := by
  intro pins s σ H D I h
  refine Bo (thn (he pins s σ H _ I h) fun v s1 zq23 => ?_) hs
  obtain ⟨y, H1, I1, r1, q1⟩ := zq23
  exact eD I1 hN hi hx r1 (fun s2 I2 => ⟨_, H1, I2, q1⟩) hf
inductive wR (i : Nat)(te : TE)(ti : TIp)(D : jj)(σ : St)(H : Hp) : Prop
  | mk : ∀ x, (σ[i]? = some (some x)) → (te σ H fun y H1 => ti x y H1 fun z H2 => D.nx (σ.set i (some z)) H2) → wR i te ti D σ H
theorem fT {i : Nat}{x : Str}{e : Expr}{te : TE}{op : Operator}{ti : TIp}{pos' : Pos}(hN : X.N.Nodup)(hi : X.N[i]? = some x)(hx : Loc X.env.scope x)(he : PE X e te)(ho : PIp X op ti)(hf : X.fn x=true ∨ X.env.scope.names.lookup x=some .local := by first | exact .inl rfl | exact .inr rfl | assumption) :
    PS X (.AugAssign (.Name x pos') op e pos) (wR i te ti) := by
  intro pins s σ H D I h
  obtain ⟨v, e1, h⟩ := h
  obtain ⟨m, hn, hl⟩ := I.loc
  have vis : Vis X.env.scope x := by rcases hx with k | k;exact .inl k;exact .inr (.inl k)
  obtain ⟨u, r, l⟩ := hl i x v hi e1 vis
  refine wpAny_AugAssign_Name ?_
  have go : wpAny (model X.prog X.w) X.A (eval e X.env) (fun w s₂ => wpAny (model X.prog X.w) X.A (inplaceOp op u w) (fun r s₃ => wpAny (model X.prog X.w) X.A (storeName X.env x r) (fun _ => SP X pins D .next) X.xe s₃) X.xe s₂) X.xe s := by
    refine thn (he pins s σ H _ I h) fun w s1 zq25 => ?_
    obtain ⟨y, H1, I1, r1, q1⟩ := zq25
    refine thn (ho pins s1 σ H1 v y u w _ I1 r r1 q1) fun z s2 zq26 => ?_
    obtain ⟨zv, H2, I2, r2, q2⟩ := zq26
    exact eD I2 hN hi hx r2 (fun s3 I3 => ⟨_, H2, I3, q2⟩) hf
  rcases l with ⟨hk, hm⟩ | ⟨hk, c, hc, hcell⟩
  · exact z9 I.ok.kind hk hn hm go
  · rcases hk with hk | hk
    · exact A0 I.ok.kind hk hc hcell go
    · rcases hx with k | k
      · have : X.env.scope.names.lookup x=some .free := hk
        rw [k] at this;cases this
      · have : X.env.scope.names.lookup x=some .free := hk
        rw [k] at this;cases this
def ipI (f : Int → Int → Int) : TIp := fun x y H Q => ∃ i j, x = .int i ∧ y = .int j ∧ Q (.int (f i j)) H
theorem fU : PIp X .Add (ipI fun i j => i+j) := by
  intro pins s σ H x y v u Q I r1 r2 h
  obtain ⟨i, j, e1, e2, q⟩ := h
  subst e1;subst e2
  obtain ⟨t, rfl⟩ := r1
  obtain ⟨t', rfl⟩ := r2
  exact iadd_int ⟨.int _, H, I.tok _, ⟨_, rfl⟩, q⟩
def tE (c : TT)(tb : TS) : TS := fun D σ H => ∃ W : Nat → St → Hp → Prop, (∃ m, W m σ H) ∧ ∀ m σ H, W m σ H →
  c σ H fun b H1 => if b=true then ∃ N : St → Hp → Prop, (∀ σ' H', N σ' H' → ∃ m', m' < m ∧ W m' σ' H') ∧ tb { D with nx := N, ct := N, bk := D.nx } σ H1 else D.nx σ H1
theorem du {c : Expr}{body : List Stmt}{tc : TT}{tb : TS}(hp : PassesOwn (model X.prog X.w) X.A X.env X.xe)(hc : PT X c tc)(hb : PSs X body tb) : PS X (.While c body [] pos) (tE tc tb) := by
  intro pins s σ H D I h
  obtain ⟨W, ⟨m0, w0⟩, turn⟩ := h
  refine wpAny_While (codeAny_whileLoop (fun n s' => ∃ σ' H', Inv X pins σ' H' s' ∧ W n σ' H') ?_ m0 ⟨σ, H, I, w0⟩)
  rintro n s1 ⟨σ1, H1, I1, w1⟩
  refine zG hp (thn (hc pins s1 σ1 H1 _ I1 (turn n σ1 H1 w1)) fun b s2 zq33 => ?_)
  obtain ⟨H2, I2, q2⟩ := zq33
  cases b with
  | true =>
    obtain ⟨N, hN, q2⟩ := q2
    rw [if_pos rfl]
    refine zG hp (thn (hb pins s2 σ1 H2 _ I2 q2) fun f s3 q3 => ?_)
    cases f with
    | next =>
      obtain ⟨σ3, H3, I3, n3⟩ := q3
      obtain ⟨m', hm, w3⟩ := hN σ3 H3 n3
      exact ⟨m', hm, σ3, H3, I3, w3⟩
    | cont =>
      obtain ⟨σ3, H3, I3, n3⟩ := q3
      obtain ⟨m', hm, w3⟩ := hN σ3 H3 n3
      exact ⟨m', hm, σ3, H3, I3, w3⟩
    | brk => exact q3
    | ret v => exact q3
  | false =>
    rw [if_neg yC]
    exact A1 ⟨σ1, H2, I2, q2⟩
end
structure It where
  go : Nat → Hp → Prop
  yld : Nat → Hp → V → Hp → Prop
  stop : Nat → Hp → Prop
def j0 (X : Cx)(pins : List (Addr × Obj))(H : Hp)(b : Addr) : Prop :=
  H b=none ∧ b≠X.env.locals ∧ b∉X.fs ∧ (b∈X.ex ∨ X.s₀.heap.objs.size≤b) ∧ (∀ x c, X.env.cells.lookup x=some c → c≠b) ∧ ∀ p∈X.pn++pins, p.1≠b
theorem Inv.fpOk {X : Cx}{pins : List (Addr × Obj)}{σ : St}{H H' : Hp}{s : Shared}{b : Addr}(I : Inv X pins σ H s)(hb : s.heap.objs.size≤b)(hn : H' b=none) : j0 X pins H' b := by
  refine ⟨hn, Az (yo I.lt hb), I.nofs hb, .inr (yV I.sz hb), fun x c e z => ?_, fun p hp z => ?_⟩
  · obtain ⟨v, q⟩ := I.cell x c e
    exact absurd (yo q.lt (by rw [z];exact hb)) (yZ _)
  · exact absurd (yo (yf (I.pin p hp).1) (by rw [z];exact hb)) (yZ _)
structure qQ (P : Program) (w : World) (K : PySem.W.Frag) (tg : Expr) (J : It) (fp : List Addr) (it : Addr) (tn : Nat → Heap → Prop) : Prop where
  mem : it∈fp
  obj : ∀ i h, tn i h → ∀ b∈fp, ∃ o, h.get? b=some o ∧ ∀ v, o.data ≠ .cell v
  keep : ∀ i h h', tn i h → (∀ b∈fp, ∀ o, h.get? b=some o → h'.get? b=some o) → tn i h'
  item : ∀ (X : Cx), X.prog=P → X.w=w → X.K=K → X.calm=true → ∀ (i : Nat) (pins : List (Addr × Obj)) (s : Shared) (σ : St) (H : Hp) (E : Value → Shared → Prop), Inv X pins σ H s → (∀ b∈fp, j0 X pins H b) → tn i s.heap → J.go i H →
    wpAny (model P w) X.A (pyNext (.ref it)) (fun r s1 => ∃ u, r=some u ∧
      wpAny (model P w) X.A (letOwnedTupleGo tg (.ref it) u) (fun _ s2 => ∃ x H', Inv X pins σ H' s2 ∧ bj x u ∧ J.yld i H x H' ∧ tn (i+1) s2.heap ∧ ∀ b∈fp, H' b=none) E s1) E s
  done : ∀ (X : Cx), X.prog=P → X.w=w → X.K=K → X.calm=true → ∀ (i : Nat) (pins : List (Addr × Obj)) (s : Shared) (σ : St) (H : Hp) (E : Value → Shared → Prop), Inv X pins σ H s → (∀ b∈fp, j0 X pins H b) → tn i s.heap → J.stop i H →
    wpAny (model P w) X.A (pyNext (.ref it)) (fun r s1 => r=none ∧ Inv X pins σ H s1) E s
  self : ∀ (A : Around) (i : Nat) (s : Shared) (Q : Value → Shared → Prop) (E : Value → Shared → Prop), tn i s.heap → Q (.ref it) s → wpAny (model P w) A (pyIter (.ref it)) Q E s
abbrev TI := St → Hp → (It → Hp → Prop) → Prop
def PIE (X : Cx)(pins : List (Addr × Obj))(σ : St)(tg : Expr)(R : It → Hp → Prop)(itv : Value)(s2 : Shared) : Prop :=
  ∃ (it : Addr) (fp : List Addr) (tn : Nat → Heap → Prop) (J : It) (H' : Hp), itv = .ref it ∧ Inv X pins σ H' s2 ∧ qQ X.prog X.w X.K tg J fp it tn ∧ tn 0 s2.heap ∧ (∀ b∈fp, j0 X pins H' b) ∧ R J H'
def PI (X : Cx)(tg iter : Expr)(wi : TI) : Prop :=
  ∀ (pins : List (Addr × Obj)) (s : Shared) (σ : St) (H : Hp) (R : It → Hp → Prop), Inv X pins σ H s → wi σ H R →
    wpAny (model X.prog X.w) X.A (eval iter X.env) (fun v s1 => wpAny (model X.prog X.w) X.A (pyIter v) (PIE X pins σ tg R) X.xe s1) X.xe s
theorem oF {M : Model}{A : Around}{E : Value → Shared → Prop}{s : Shared}{tg : Expr}{it : Addr}{u : Value}{o : Obj}{n : String}{vs : Array Value}{Q : Unit → Shared → Prop}(ho : s.heap.get? it=some o)(hc : o.cls = .type n)(hd : o.data = .fields vs)
    (hn : ["enumerate", "zip", "dict_itemiterator", "dict_reverseitemiterator", "odict_iterator", "itertools.zip_longest", "itertools.pairwise"].contains n=false) (hQ : Q () s) : wpAny M A (letOwnedTupleGo tg (.ref it) u) Q E s := by
  unfold letOwnedTupleGo
  cases tg <;> first
    | exact yn hQ
    | (cases u <;> first
        | exact yn hQ
        | (refine fu (wpAny_load ho ?_)
           rw [hc, hd]
           show wpAny M A (if (["enumerate", "zip", "dict_itemiterator", "dict_reverseitemiterator", "odict_iterator", "itertools.zip_longest", "itertools.pairwise"].contains n && vs[0]? == some (rawInt _))=true then _ else _) Q E s
           rw [if_neg (by intro h;rw [hn, Bool.false_and] at h;cases h)]
           exact yn hQ))
def Itl (K : PySem.W.Frag)(a : Addr) : It :=
  ⟨fun i H => ∃ xs x, SqL K H a xs ∧ xs[i]? = some x, fun i H x H' => H'=H ∧ ∀ xs, SqL K H a xs → xs[i]? = some x, fun i H => ∃ xs, SqL K H a xs ∧ xs.length≤i⟩
def Itt (K : PySem.W.Frag)(a : Addr) : It :=
  ⟨fun i H => ∃ xs x, SqT K H a xs ∧ xs[i]? = some x, fun i H x H' => H'=H ∧ ∀ xs, SqT K H a xs → xs[i]? = some x, fun i H => ∃ xs, SqT K H a xs ∧ xs.length≤i⟩
def Itr (lo : Int)(n : Nat) : It := ⟨fun i _ => i < n, fun i H x H' => H'=H ∧ x = .int (lo+i), fun i _ => n≤i⟩
theorem lR {P : Program}{w : World}{K : PySem.W.Frag}{tg : Expr}(a it : Addr) : qQ P w K tg (Itl K a) [it] it (fun i h => h.IsListIter it a i) where
  mem := by simp
  obj := fun i h st b hb => by
    have e : b=it := by simpa using hb
    subst e
    obtain ⟨o, e, c, d⟩ := st
    exact ⟨o, e, fun v z => by rw [d] at z;cases z⟩
  keep := fun i h h' st k => st.at fun o e => k it (by simp) o e
  item := by
    intro X hP hw hK hc i pins s σ H E I hf st hg
    subst hP hw hK
    obtain ⟨xs, x, hq, hx⟩ := hg
    obtain ⟨its, rv, p, hz⟩ := I.list hq
    obtain ⟨u, hu, ru⟩ := rv.get hx
    obtain ⟨f0, f1, f2, f3, f4, f5⟩ := hf it (by simp)
    refine wpAny_pyNext_list_item st p.isList (x := u) (by simpa using hu) fun h' st' sb => ?_
    have I1 : Inv X pins σ H { s with heap := h' } := I.turned (t' := s.toks) (fun b o hb e => (sb.2 b hb).trans e) f0 f1 f3 f4 f5
    obtain ⟨o, e, c, d⟩ := id st'
    exact ⟨u, rfl, oF (s := { s with heap := h' }) e c d (by decide) ⟨x, H, I1, ru, ⟨rfl, fun ys hy => by rw [I.list_inj hy hq];exact hx⟩, st', fun b hb => (hf b hb).1⟩⟩
  done := by
    intro X hP hw hK hc i pins s σ H E I hf st hg
    subst hP hw hK
    obtain ⟨xs, hq, hx⟩ := hg
    obtain ⟨its, rv, p, hz⟩ := I.list hq
    obtain ⟨f0, f1, f2, f3, f4, f5⟩ := hf it (by simp)
    have hl := rv.length
    exact wpAny_pyNext_list_end (I.ok.hd hc) st p.isList (by simp;omega) fun h' eb => ⟨rfl, I.turned (t' := s.toks) (fun b o hb e => eb b o hb e) f0 f1 f3 f4 f5⟩
  self := fun _ _ _ _ _ st h => wpAny_pyIter_listiter st h
theorem kI {P : Program}{w : World}{K : PySem.W.Frag}{tg : Expr}(a it : Addr) : qQ P w K tg (Itt K a) [it] it (fun i h => h.IsTupleIter it a i) where
  mem := by simp
  obj := fun i h st b hb => by
    have e : b=it := by simpa using hb
    subst e
    obtain ⟨o, e, c, d⟩ := st
    exact ⟨o, e, fun v z => by rw [d] at z;cases z⟩
  keep := fun i h h' st k => st.at fun o e => k it (by simp) o e
  item := by
    intro X hP hw hK hc i pins s σ H E I hf st hg
    subst hP hw hK
    obtain ⟨xs, x, hq, hx⟩ := hg
    obtain ⟨its, rv, p, hz⟩ := I.tuple hq
    obtain ⟨u, hu, ru⟩ := rv.get hx
    obtain ⟨f0, f1, f2, f3, f4, f5⟩ := hf it (by simp)
    refine wpAny_pyNext_tuple_item st (show s.heap.IsTuple a its.toArray from p) (x := u) (by simpa using hu) fun h' st' sb => ?_
    have I1 : Inv X pins σ H { s with heap := h' } := I.turned (t' := s.toks) (fun b o hb e => (sb.2 b hb).trans e) f0 f1 f3 f4 f5
    obtain ⟨o, e, c, d⟩ := id st'
    exact ⟨u, rfl, oF (s := { s with heap := h' }) e c d (by decide) ⟨x, H, I1, ru, ⟨rfl, fun ys hy => by rw [I.tuple_inj hy hq];exact hx⟩, st', fun b hb => (hf b hb).1⟩⟩
  done := by
    intro X hP hw hK hc i pins s σ H E I hf st hg
    subst hP hw hK
    obtain ⟨xs, hq, hx⟩ := hg
    obtain ⟨its, rv, p, hz⟩ := I.tuple hq
    obtain ⟨f0, f1, f2, f3, f4, f5⟩ := hf it (by simp)
    have hl := rv.length
    exact wpAny_pyNext_tuple_end (I.ok.hd hc) st (show s.heap.IsTuple a its.toArray from p) (by simp;omega) fun h' eb => ⟨rfl, I.turned (t' := s.toks) (fun b o hb e => eb b o hb e) f0 f1 f3 f4 f5⟩
  self := fun _ _ _ _ _ st h => wpAny_pyIter_tupleiter st h
theorem kJ {P : Program}{w : World}{K : PySem.W.Frag}{tg : Expr}(it : Addr)(lo : Int)(n : Nat) : qQ P w K tg (Itr lo n) [it] it (fun i h => IsRangeIter h it (lo+(i : Nat)*1) ((n : Int) - (i : Nat)) 1) where
  mem := by simp
  obj := fun i h st b hb => by
    have e : b=it := by simpa using hb
    subst e
    exact ⟨_, st, fun v z => by
      have z' : Data.fields _=Data.cell v := z
      cases z'⟩
  keep := fun i h h' st k => k it (by simp) _ st
  item := by
    intro X hP hw hK hc i pins s σ H E I hf st hg
    subst hP hw hK
    obtain ⟨f0, f1, f2, f3, f4, f5⟩ := hf it (by simp)
    have W := Walks.range (prog := X.prog) (w := X.w) (I.ok.hd hc) it lo 1 n
    refine W.item i s _ _ hg st fun v h' tk hv st' kk => ?_
    obtain ⟨t, rfl⟩ := hv
    have I1 : Inv X pins σ H { s with heap := h', toks := tk } := I.turned (fun b o hb e => kk b o (by simpa using hb) e) f0 f1 f3 f4 f5
    refine ⟨_, rfl, oF (s := { s with heap := h', toks := tk }) (n := "range_iterator") st' rfl rfl (by decide) ⟨.int (lo+i), H, I1, ⟨t, ?_⟩, ⟨rfl, rfl⟩, st', fun b hb => (hf b hb).1⟩⟩
    rw [Int.mul_one]
  done := by
    intro X hP hw hK hc i pins s σ H E I hf st hg
    subst hP hw hK
    obtain ⟨f0, f1, f2, f3, f4, f5⟩ := hf it (by simp)
    exact wpAny_pyNext_range_end (I.ok.hd hc) st (by have : n≤i := hg;omega) fun h' eb => ⟨rfl, I.turned (t' := s.toks) (fun b o hb e => eb b o hb e) f0 f1 f3 f4 f5⟩
  self := fun _ _ _ _ _ st h => wpAny_pyIter_rangeiter st h
section
variable {X : Cx} {tg : Expr}
def vK (K : PySem.W.Frag)(tl : TE) : TI := fun σ H R => tl σ H fun x H1 => ∃ a, x = .ref a ∧ (∃ xs, SqL K H1 a xs) ∧ R (Itl K a) H1
def xr (K : PySem.W.Frag)(tl : TE) : TI := fun σ H R => tl σ H fun x H1 => ∃ a, x = .ref a ∧ (∃ xs, SqT K H1 a xs) ∧ R (Itt K a) H1
theorem eQ {l : Expr}{tl : TE}(hl : PE X l tl) : PI X tg l (vK X.K tl) := by
  intro pins s σ H R I h
  refine thn (hl pins s σ H _ I h) fun v s1 zq34 => ?_
  obtain ⟨x, H1, I1, r1, q1⟩ := zq34
  obtain ⟨a, e, ⟨xs, hq⟩, q⟩ := q1
  subst e
  cases r1
  obtain ⟨its, rv, p, hz⟩ := I1.list hq
  refine Bp p.isList ?_
  refine ⟨s1.heap.objs.size, [s1.heap.objs.size], _, _, H1, rfl, I1.kept (t' := s1.toks) fun b o e => x8 _ e, lR a _, ⟨_, yk _ rfl, rfl, rfl⟩, fun b hb => ?_, q⟩
  have e : b=s1.heap.objs.size := by simpa using hb
  subst e
  exact I1.fpOk (yb _) (I1.hok.fresh (yb _))
theorem tF {l : Expr}{tl : TE}(hl : PE X l tl) : PI X tg l (xr X.K tl) := by
  intro pins s σ H R I h
  refine thn (hl pins s σ H _ I h) fun v s1 zq35 => ?_
  obtain ⟨x, H1, I1, r1, q1⟩ := zq35
  obtain ⟨a, e, ⟨xs, hq⟩, q⟩ := q1
  subst e
  cases r1
  obtain ⟨its, rv, p, hz⟩ := I1.tuple hq
  refine zQ (show s1.heap.IsTuple a its.toArray from p) ?_
  refine ⟨s1.heap.objs.size, [s1.heap.objs.size], _, _, H1, rfl, I1.kept (t' := s1.toks) fun b o e => x8 _ e, kI a _, ⟨_, yk _ rfl, rfl, rfl⟩, fun b hb => ?_, q⟩
  have e : b=s1.heap.objs.size := by simpa using hb
  subst e
  exact I1.fpOk (yb _) (I1.hok.fresh (yb _))
theorem oG {pins : List (Addr × Obj)}{σ : St}{H : Hp}{s : Shared}{R : It → Hp → Prop}{E : Value → Shared → Prop}{lo hi : Int}{t u v : Tok}{tk : Nat}(I : Inv X pins σ H s)(h1 : -(2 ^ 62)≤lo)(h2 : lo < 2 ^ 62)(h3 : -(2 ^ 62)≤hi)(h4 : hi < 2 ^ 62)
    (q : R (Itr lo (hi - lo).toNat) H) : wpAny (model X.prog X.w) X.A (pyIter (.ref s.heap.objs.size)) (PIE X pins σ tg R) E { s with heap := s.heap.push { cls := .type "range", data := .fields #[.int lo t, .int hi u, .int 1 v] }, toks := tk } := by
  refine wpAny_pyIter_range (IsRange.new ..) (small_one h1 h2 h3 h4) ?_
  have I1 : Inv X pins σ H { s with heap := s.heap.push { cls := .type "range", data := .fields #[.int lo t, .int hi u, .int 1 v] }, toks := tk } := I.kept fun b o e => x8 _ e
  refine ⟨(s.heap.push { cls := .type "range", data := .fields #[.int lo t, .int hi u, .int 1 v] }).objs.size, [(s.heap.push { cls := .type "range", data := .fields #[.int lo t, .int hi u, .int 1 v] }).objs.size], _, _, H, rfl,
    I1.kept (t' := tk) fun b o e => x8 _ e, kJ _ lo (hi - lo).toNat, ?_, fun b hb => ?_, q⟩
  · have e1 : lo+((0 : Nat) : Int)*1=lo := by simp
    have e2 : (((hi - lo).toNat : Nat) : Int) - ((0 : Nat) : Int)=Builtin.Range.rangeSize lo hi 1 := by rw [rangeSize_one];split <;> omega
    show IsRangeIter _ _ (lo+((0 : Nat) : Int)*1) ((((hi - lo).toNat : Nat) : Int) - ((0 : Nat) : Int)) 1
    rw [e1, e2]
    exact yk _ rfl
  · have e : b=(s.heap.push { cls := .type "range", data := .fields #[.int lo t, .int hi u, .int 1 v] }).objs.size := by simpa using hb
    subst e
    exact I1.fpOk (yb _) (I1.hok.fresh (yb _))
def vL (ta : TA) : TI := fun σ H R => ta σ H fun vs H1 => ∃ j : Int, vs=[.int j] ∧ -(2 ^ 62)≤j ∧ j < 2 ^ 62 ∧ R (Itr 0 j.toNat) H1
theorem b7 {a : Expr}{ta : TA}{p pos : Pos}(hg : Gl X "range")(hm : X.mg "range" = none)(ha : PA X [a] ta)(hs : starEach [a] X.env=[(false, eval a X.env)] := by rfl) : PI X tg (.Call (.Name "range" p) [a] [] pos) (vL ta) := by
  intro pins s σ H R I h
  refine Call_ (fS I hg hm boot_range (zf (thn (ha pos pins s σ H _ I h) fun us s1 zq36 => ?_) hs rfl))
  obtain ⟨vs, H1, I1, r1, q1⟩ := zq36
  obtain ⟨j, e, q1, q2, q⟩ := q1
  subst e
  cases r1 with
  | cons r rr =>
    cases rr
    obtain ⟨t, rfl⟩ := r
    exact call_range_1 (oG I1 (by omega) (by omega) q1 q2 (by simpa using q))
def xt (wi : TI)(g : TG)(tb : TS) : TS := fun D σ H => wi σ H fun J H1 => ∃ W : Nat → Nat → St → Hp → Prop, (∃ m, W 0 m σ H1) ∧ ∀ i m σ H, W i m σ H →
  (J.stop i H ∧ D.nx σ H) ∨ (J.go i H ∧ ∃ N : St → Hp → Prop, (∀ σ' H', N σ' H' → ∃ m', m' < m ∧ W (i+1) m' σ' H') ∧ ∀ x H', J.yld i H x H' → g x σ H' fun σ2 H2 => tb { D with nx := N, ct := N, bk := D.nx } σ2 H2)
def fV (fp : List Addr)(h : Heap) : List (Addr × Obj) := fp.filterMap fun b => (h.get? b).map fun o => (b, o)
theorem bL {fp : List Addr}{h : Heap}{b : Addr}{o : Obj}(hb : b∈fp)(e : h.get? b=some o) : (b, o)∈fV fp h := List.mem_filterMap.mpr ⟨b, hb, by rw [e]; rfl⟩
theorem lS {fp : List Addr}{h : Heap}{p : Addr × Obj}(hp : p∈fV fp h) : p.1∈fp ∧ h.get? p.1=some p.2 := by
  obtain ⟨b, hb, e⟩ := List.mem_filterMap.mp hp
  cases q : h.get? b with
  | none => rw [q] at e;cases e
  | some o =>
    rw [q] at e
    have e' : (b, o)=p := yh e
    subst e'
    exact ⟨hb, q⟩
theorem Inv.pinned {pins : List (Addr × Obj)}{σ : St}{H : Hp}{s : Shared}{fp : List Addr}(I : Inv X pins σ H s)(hf : ∀ b∈fp, j0 X pins H b)(ho : ∀ b∈fp, ∃ o, s.heap.get? b=some o ∧ ∀ v, o.data ≠ .cell v) : Inv X (pins++fV fp s.heap) σ H s :=
  I.pins_of fun p hp => (yJ.mp hp).elim (fun z => I.pin p (ye _ z)) fun z => by
    obtain ⟨hb, e⟩ := lS z
    obtain ⟨f0, f1, f2, _⟩ := hf p.1 hb
    obtain ⟨o, e', d⟩ := ho p.1 hb
    rw [e] at e';cases e'
    exact ⟨e, f0, f1, f2, d⟩
theorem Inv.unpinned {pins pl : List (Addr × Obj)}{σ : St}{H : Hp}{s : Shared}(I : Inv X (pins++pl) σ H s) : Inv X pins σ H s := I.pins_of fun p hp => I.pin p (ye _ (yz _ hp))
theorem cx {iter : Expr}{body : List Stmt}{wi : TI}{g : TG}{tb : TS}{pos : Pos}(hp : PassesOwn (model X.prog X.w) X.A X.env X.xe)(hc : X.calm=true)(hi : PI X tg iter wi)(hg : PG X tg g)(hb : PSs X body tb)
    (hs : ∀ x, foldedSetIterable iter X.env x=pure x := by intro _;rfl) : PS X (.For tg iter body [] pos) (xt wi g tb) := by
  intro pins s σ H D I h
  refine wpAny_For (thn (hi pins s σ H _ I h) fun v s1 h1 => thn h1 fun itv s2 h2 => ?_) hs
  obtain ⟨it, fp, tn, J, H2, e, I2, T, st2, f2, W, ⟨m0, w0⟩, turn⟩ := h2
  subst e
  -- what stays true of the iterator's objects through the loop
  have stat : ∀ {H' : Hp}, (∀ b∈fp, H' b=none) → ∀ b∈fp, j0 X pins H' b := fun hn b hb => ⟨hn b hb, (f2 b hb).2⟩
  refine codeAny_forLoop_any (fun n s' => ∃ i σ' H', Inv X pins σ' H' s' ∧ tn i s'.heap ∧ (∀ b∈fp, H' b=none) ∧ W i n σ' H') ?_ m0 ⟨0, σ, H2, I2, st2, fun b hb => (f2 b hb).1, w0⟩
  rintro n s3 ⟨i, σ3, H3, I3, st3, fr3, w3⟩
  rcases turn i n σ3 H3 w3 with ⟨stop, qn⟩ | ⟨go, N, hN, step⟩
  · refine zG hp (thn (T.done X rfl rfl rfl hc i pins s3 σ3 H3 X.xe I3 (stat fr3) st3 stop) fun r s4 zq38 => ?_)
    obtain ⟨hr, I4⟩ := zq38
    subst hr
    exact A1 ⟨σ3, H3, I4, qn⟩
  · refine zG hp (thn (T.item X rfl rfl rfl hc i pins s3 σ3 H3 X.xe I3 (stat fr3) st3 go) fun r s4 zq39 => ?_)
    obtain ⟨u, hr, h4⟩ := zq39
    subst hr
    refine zG hp (thn h4 fun _ s5 zq40 => ?_)
    obtain ⟨x, H5, I5, r5, y5, st5, fr5⟩ := zq40
    have I5' := I5.pinned (stat fr5) (T.obj _ _ st5)
    refine zG hp (thn (hg _ s5 σ3 H5 x u _ I5' r5 (step x H5 y5)) fun _ s6 zq41 => ?_)
    obtain ⟨σ6, H6, I6, q6⟩ := zq41
    refine zG hp (thn (hb _ s6 σ6 H6 _ I6 q6) fun f s7 q7 => ?_)
    have again : ∀ {σ7 : St} {H7 : Hp}, Inv X (pins++fV fp s5.heap) σ7 H7 s7 → N σ7 H7 → ∃ m, m < n ∧ ∃ i σ' H', Inv X pins σ' H' s7 ∧ tn i s7.heap ∧ (∀ b∈fp, H' b=none) ∧ W i m σ' H' := fun {σ7 H7} I7 n7 => by
      obtain ⟨m', hm, w7⟩ := hN σ7 H7 n7
      refine ⟨m', hm, i+1, σ7, H7, I7.unpinned, T.keep _ _ _ st5 fun b hb o e => (I7.pin (b, o) (ye _ (ye _ (bL hb e)))).1, fun b hb => ?_, w7⟩
      obtain ⟨o, e, d⟩ := T.obj _ _ st5 b hb
      exact (I7.pin (b, o) (ye _ (ye _ (bL hb e)))).2.1
    cases f with
    | next => obtain ⟨σ7, H7, I7, n7⟩ := q7;exact again I7 n7
    | cont => obtain ⟨σ7, H7, I7, n7⟩ := q7;exact again I7 n7
    | brk => obtain ⟨σ7, H7, I7, q7⟩ := q7;exact ⟨σ7, H7, I7.unpinned, q7⟩
    | ret v => obtain ⟨x7, σ7, H7, I7, r7, q7⟩ := q7;exact ⟨x7, σ7, H7, I7.unpinned, r7, q7⟩
end
theorem cz {lo : Int}{n : Nat}{g : TG}{tb : TS}{D : jj}{σ : St}{H : Hp}(Pv : Nat → St → Hp → Prop)(h0 : Pv 0 σ H)
    (hs : ∀ i σ H, i < n → Pv i σ H → g (.int (lo+i)) σ H fun σ2 H2 => tb { D with nx := Pv (i+1), ct := Pv (i+1), bk := D.nx } σ2 H2) (hd : ∀ σ H, Pv n σ H → D.nx σ H) :
    ∃ W : Nat → Nat → St → Hp → Prop, (∃ m, W 0 m σ H) ∧ ∀ i m σ H, W i m σ H →
      ((Itr lo n).stop i H ∧ D.nx σ H) ∨ ((Itr lo n).go i H ∧ ∃ N : St → Hp → Prop, (∀ σ' H', N σ' H' → ∃ m', m' < m ∧ W (i+1) m' σ' H') ∧ ∀ x H', (Itr lo n).yld i H x H' → g x σ H' fun σ2 H2 => tb { D with nx := N, ct := N, bk := D.nx } σ2 H2) := by
  refine ⟨fun i m σ H => m=n - i ∧ i≤n ∧ Pv i σ H, ⟨n, by simp, zb _, h0⟩, ?_⟩
  rintro i m σ H ⟨rfl, hi, p⟩
  by_cases hlt : i < n
  · refine .inr ⟨hlt, Pv (i+1), fun σ' H' p' => ⟨n - (i+1), by omega, rfl, hlt, p'⟩, fun x H' y => ?_⟩
    obtain ⟨e, y⟩ := y
    subst e y
    exact hs i σ _ hlt p
  · have e : i=n := by omega
    subst e
    exact .inl ⟨yb _, hd σ H p⟩
abbrev R2 := V → V → Hp → VK → Prop
def OpR (X : Cx)(f : Value → Value → Sem Value)(r : R2) : Prop :=
  ∀ (pins : List (Addr × Obj)) (s : Shared) (σ : St) (H : Hp) (x y : V) (v u : Value) (Q : VK), Inv X pins σ H s → bj x v → bj y u → r x y H Q →
    wpAny (model X.prog X.w) X.A (f v u) (EP X pins σ Q) X.xe s
def UnR (X : Cx)(f : Value → Sem Value)(r : V → Hp → VK → Prop) : Prop :=
  ∀ (pins : List (Addr × Obj)) (s : Shared) (σ : St) (H : Hp) (x : V) (v : Value) (Q : VK), Inv X pins σ H s → bj x v → r x H Q →
    wpAny (model X.prog X.w) X.A (f v) (EP X pins σ Q) X.xe s
def dw (X : Cx)(f : Value)(r : List V → Hp → VK → Prop) : Prop :=
  ∀ (pins : List (Addr × Obj)) (s : Shared) (σ : St) (H : Hp) (xs : List V) (us : List Value) (Q : VK), Inv X pins σ H s → aW xs us → r xs H Q →
    wpAny (model X.prog X.w) X.A (call f us) (EP X pins σ Q) X.xe s
def xu (X : Cx)(r : V → Hp → (Bool → Hp → Prop) → Prop) : Prop :=
  ∀ (pins : List (Addr × Obj)) (s : Shared) (σ : St) (H : Hp) (x : V) (v : Value) (Q : Bool → Hp → Prop), Inv X pins σ H s → bj x v → r x H Q →
    wpAny (model X.prog X.w) X.A (truthy v) (TP X pins σ Q) X.xe s
def tG (r : R2)(Q : VK)(x : V) : V → Hp → Prop := fun y H2 => r x y H2 Q
def tH (r : R2)(tb : TE)(σ : St)(Q : VK) : V → Hp → Prop := fun x H1 => tb σ H1 (tG r Q x)
def tOp (r : R2)(ta tb : TE) : TE := fun σ H Q => ta σ H (tH r tb σ Q)
def tI (r : V → Hp → VK → Prop)(Q : VK) : V → Hp → Prop := fun x H1 => r x H1 Q
def tUn (r : V → Hp → VK → Prop)(ta : TE) : TE := fun σ H Q => ta σ H (tI r Q)
inductive rI (C : Int → Int → Prop)(g : Int → Int → V)(x : V)(y : V)(H : Hp)(Q : VK) : Prop
  | mk : ∀ i j, (x = .int i) → (y = .int j) → (C i j) → (Q (g i j) H) → rI C g x y H Q
inductive rI0 (g : Int → Int → V)(x : V)(y : V)(H : Hp)(Q : VK) : Prop
  | mk : ∀ i j, (x = .int i) → (y = .int j) → (Q (g i j) H) → rI0 g x y H Q
inductive rU (g : Int → V)(x : V)(H : Hp)(Q : VK) : Prop
  | mk : ∀ i, (x = .int i) → (Q (g i) H) → rU g x H Q
section
variable {X : Cx} {a b c : Expr} {ta tb tc : TE} {pos : Pos}
theorem vM (ha : PE X a ta)(hb : PE X b tb){pins : List (Addr × Obj)}{s : Shared}{σ : St}{H : Hp}{R : V → V → Hp → Prop}(I : Inv X pins σ H s)
    (h : ta σ H fun x H1 => tb σ H1 fun y H2 => R x y H2) {Q : Value → Shared → Prop} {f : Value → Value → Sem Value}
    (hf : ∀ v u s2 x y H2, Inv X pins σ H2 s2 → bj x v → bj y u → R x y H2 → wpAny (model X.prog X.w) X.A (f v u) Q X.xe s2) :
    wpAny (model X.prog X.w) X.A (eval a X.env) (fun v s₁ => wpAny (model X.prog X.w) X.A (eval b X.env) (fun u s₂ => wpAny (model X.prog X.w) X.A (f v u) Q X.xe s₂) X.xe s₁) X.xe s := by
  refine thn (ha pins s σ H _ I h) fun v s1 zq42 => ?_
  obtain ⟨x, H1, I1, r1, q1⟩ := zq42
  refine thn (hb pins s1 σ H1 _ I1 q1) fun u s2 zq43 => ?_
  obtain ⟨y, H2, I2, r2, q2⟩ := zq43
  exact hf v u s2 x y H2 I2 r1 r2 q2
theorem aH {op : Operator}{r : R2}(ho : OpR X (binaryOp op) r)(ha : PE X a ta)(hb : PE X b tb) : PE X (.BinOp a op b pos) (tOp r ta tb) := by
  intro pins s σ H Q I h
  exact wpAny_BinOp (vM ha hb I h fun v u s2 x y H2 I2 rx ry q => ho pins s2 σ H2 x y v u Q I2 rx ry q)
theorem qR {op : UnaryOp}{r : V → Hp → VK → Prop}(ho : UnR X (unaryOp op) r)(ha : PE X a ta) : PE X (.UnaryOp op a pos) (tUn r ta) := by
  intro pins s σ H Q I h
  exact UnaryOp_ (thn (ha pins s σ H _ I h) fun v s1 zq44 => (by obtain ⟨x, H1, I1, r1, q1⟩ := zq44;exact ho pins s1 σ H1 x v Q I1 r1 q1))
theorem opI {f : Value → Value → Sem Value}{C : Int → Int → Prop}{g : Int → Int → Int}
    (rule : ∀ (i j : Int) (t u : Tok) (s : Shared) (Q : Value → Shared → Prop) (E : Value → Shared → Prop), C i j → Q (.int (g i j) s.toks) { s with toks := s.toks+1 } → wpAny (model X.prog X.w) X.A (f (.int i t) (.int j u)) Q E s) :
    OpR X f (rI C fun i j => .int (g i j)) := by
  intro pins s σ H x y v u Q I rx ry h
  obtain ⟨i, j, rfl, rfl, hc, q⟩ := h
  obtain ⟨t, rfl⟩ := rx
  obtain ⟨t', rfl⟩ := ry
  exact rule i j t t' s _ _ hc ⟨.int (g i j), H, I.tok _, ⟨_, rfl⟩, q⟩
theorem wU {f : Value → Value → Sem Value}{g : Int → Int → Int}
    (rule : ∀ (i j : Int) (t u : Tok) (s : Shared) (Q : Value → Shared → Prop) (E : Value → Shared → Prop), Q (.int (g i j) s.toks) { s with toks := s.toks+1 } → wpAny (model X.prog X.w) X.A (f (.int i t) (.int j u)) Q E s) :
    OpR X f (rI0 fun i j => .int (g i j)) := by
  intro pins s σ H x y v u Q I rx ry h
  obtain ⟨i, j, rfl, rfl, q⟩ := h
  obtain ⟨t, rfl⟩ := rx
  obtain ⟨t', rfl⟩ := ry
  exact rule i j t t' s _ _ ⟨.int (g i j), H, I.tok _, ⟨_, rfl⟩, q⟩
theorem vN {f : Value → Value → Sem Value}{g : Int → Int → Bool}
    (rule : ∀ (i j : Int) (t u : Tok) (s : Shared) (Q : Value → Shared → Prop) (E : Value → Shared → Prop), Q (.bool (g i j)) s → wpAny (model X.prog X.w) X.A (f (.int i t) (.int j u)) Q E s) :
    OpR X f (rI0 fun i j => .bl (g i j)) := by
  intro pins s σ H x y v u Q I rx ry h
  obtain ⟨i, j, rfl, rfl, q⟩ := h
  obtain ⟨t, rfl⟩ := rx
  obtain ⟨t', rfl⟩ := ry
  exact rule i j t t' s _ _ ⟨.bl (g i j), H, I, rfl, q⟩
def xv (i j : Int) : Prop := 0 < j ∧ j < 1073741824
def xw (i j : Int) : Prop := 0≤j ∧ j≤1000000 ∧ i.natAbs < 2 ^ 64
def vO (i j : Int) : Prop := (-(2 ^ 64) < i ∧ i < 2 ^ 64) ∨ (-(2 ^ 64) < j ∧ j < 2 ^ 64)
theorem vO.ok {i j : Int}(h : vO i j) : IntMulOk i j := by
  rcases h with ⟨h1, h2⟩ | ⟨h1, h2⟩
  · exact .of_left (intBits_le_64 h1 h2)
  · exact .of_right (intBits_le_64 h1 h2)
theorem bw : OpR X (binaryOp .Add) (rI0 fun i j => .int (i+j)) := wU fun _ _ _ _ _ _ _ q => add_int q
theorem ee : OpR X (binaryOp .Sub) (rI0 fun i j => .int (i - j)) := wU fun _ _ _ _ _ _ _ q => sub_int q
theorem eU : OpR X (binaryOp .Mult) (rI vO fun i j => .int (i*j)) := opI fun _ _ _ _ _ _ _ hc q => mul_int q hc.ok
theorem dh : OpR X (binaryOp .FloorDiv) (rI xv fun i j => .int (i / j)) := opI fun i j _ _ _ _ _ hc q => by
  have h1 : (0 : Int) < j := hc.1
  have h2 : j < 1073741824 := hc.2
  exact floordiv_int (by omega) (by rw [Int.fdiv_eq_ediv_of_nonneg i (by omega)];exact q) (.inl (PyProof.noPylong_small (by omega)))
theorem cA : OpR X (binaryOp .Mod) (rI (fun _ j => 0 < j) fun i j => .int (i % j)) := opI fun i j _ _ _ _ _ hc q => by
  have h1 : (0 : Int) < j := hc
  exact mod_int' (by omega) (by rw [Int.fmod_eq_emod_of_nonneg i (by omega)];exact q)
theorem tJ : OpR X (binaryOp .Pow) (rI xw fun i j => .int (i ^ j.toNat)) := opI fun _ _ _ _ _ _ _ hc q => pow_int_small hc.1 hc.2.1 hc.2.2 q
theorem unI {f : Value → Sem Value}{g : Int → Int}
    (rule : ∀ (i : Int) (t : Tok) (s : Shared) (Q : Value → Shared → Prop) (E : Value → Shared → Prop), Q (.int (g i) s.toks) { s with toks := s.toks+1 } → wpAny (model X.prog X.w) X.A (f (.int i t)) Q E s) :
    UnR X f (rU fun i => .int (g i)) := by
  intro pins s σ H x v Q I rx h
  obtain ⟨i, rfl, q⟩ := h
  obtain ⟨t, rfl⟩ := rx
  exact rule i t s _ _ ⟨.int (g i), H, I.tok _, ⟨_, rfl⟩, q⟩
theorem lT : UnR X (unaryOp .USub) (rU fun i => .int (-i)) := unI fun _ _ _ _ _ q => neg_int q
end
def wV : V → V → Bool
  | .non, .non => true | .non, .int _ => true | .int _, .non => true | .non, .bl _ => true | .bl _, .non => true | .non, .str _ => true | .str _, .non => true
  | .int _, .int _ => true | .bl _, .bl _ => true | .str _, .str _ => true | .byt _, .byt _ => true
  | .int _, .str _ => true | .str _, .int _ => true | .bl _, .str _ => true | .str _, .bl _ => true
  | _, _ => false
def rEq : R2 := fun x y H Q => wV x y=true ∧ Q (.bl (decide (x=y))) H
def rNe : R2 := fun x y H Q => wV x y=true ∧ Q (.bl (!decide (x=y))) H
theorem lU {i j : Int} : decide (V.int i=V.int j)=(i == j) := by
  rw [zT]
  simp
theorem qj {i j : Bool} : decide (V.bl i=V.bl j)=(i == j) := by
  rw [zT]
  simp
theorem lV {i j : Str} : decide (V.str i=V.str j)=(i == j) := by
  rw [zT]
  simp
theorem lW {i j : Array UInt8} : decide (V.byt i=V.byt j)=(i.toList == j.toList) := by
  rw [zT]
  cases i
  cases j
  simp
section
variable {X : Cx} {a b c : Expr} {ta tb tc : TE} {pos : Pos}
theorem aO {pins : List (Addr × Obj)}{σ : St}{H : Hp}{s : Shared}{Q : VK}{k k' : Bool}(I : Inv X pins σ H s)(q : Q (.bl k) H)(e : k=k') : EP X pins σ Q (.bool k') s := by
  subst e
  exact ⟨.bl k, H, I, rfl, q⟩
theorem dW : OpR X (compareOp .Eq) rEq := by
  intro pins s σ H x y v u Q I rx ry h
  obtain ⟨hs, q⟩ := h
  cases x with
  | non =>
    cases rx
    cases y with
    | non => cases ry;exact PySem.EqNone.eq_none_none (aO I q (by simp))
    | bl j => cases ry;exact PySem.EqNone.eq_none_bool (aO I q (by simp))
    | int j => obtain ⟨t', rfl⟩ := ry;exact PySem.EqNone.eq_none_int (aO I q (by simp))
    | str j => obtain ⟨t', rfl⟩ := ry;exact PySem.EqNone.eq_none_str (aO I q (by simp))
    | _ => exact absurd (show false=true from hs) yC
  | bl i =>
    cases rx
    cases y with
    | non => cases ry;exact PySem.EqNone.eq_bool_none (aO I q (by simp))
    | bl j => cases ry;exact eq_bool (aO I q qj)
    | str j => obtain ⟨t', rfl⟩ := ry;exact PySem.EqMixed.eq_bool_str (aO I q (by simp))
    | _ => exact absurd (show false=true from hs) yC
  | int i =>
    obtain ⟨t, rfl⟩ := rx
    cases y with
    | non => cases ry;exact PySem.EqNone.eq_int_none (aO I q (by simp))
    | int j => obtain ⟨t', rfl⟩ := ry;exact eq_int (aO I q lU)
    | str j => obtain ⟨t', rfl⟩ := ry;exact PySem.EqMixed.eq_int_str (aO I q (by simp))
    | _ => exact absurd (show false=true from hs) yC
  | str i =>
    obtain ⟨t, rfl⟩ := rx
    cases y with
    | non => cases ry;exact PySem.EqNone.eq_str_none (aO I q (by simp))
    | bl j => cases ry;exact PySem.EqMixed.eq_str_bool (aO I q (by simp))
    | int j => obtain ⟨t', rfl⟩ := ry;exact PySem.EqMixed.eq_str_int (aO I q (by simp))
    | str j => obtain ⟨t', rfl⟩ := ry;exact eq_str (aO I q lV)
    | _ => exact absurd (show false=true from hs) yC
  | byt i =>
    obtain ⟨t, rfl⟩ := rx
    cases y with
    | byt j => obtain ⟨t', rfl⟩ := ry;exact PySem.W.eq_bytes (aO I q lW)
    | _ => exact absurd (show false=true from hs) yC
  | _ => cases y <;> exact absurd (show false=true from hs) yC
theorem hJ : OpR X (compareOp .NotEq) rNe := by
  intro pins s σ H x y v u Q I rx ry h
  obtain ⟨hs, q⟩ := h
  cases x with
  | non =>
    cases rx
    cases y with
    | non => cases ry;exact PySem.EqNone.ne_none_none (aO I q (by simp))
    | bl j => cases ry;exact PySem.EqNone.ne_none_bool (aO I q (by simp))
    | int j => obtain ⟨t', rfl⟩ := ry;exact PySem.EqNone.ne_none_int (aO I q (by simp))
    | str j => obtain ⟨t', rfl⟩ := ry;exact PySem.EqNone.ne_none_str (aO I q (by simp))
    | _ => exact absurd (show false=true from hs) yC
  | bl i =>
    cases rx
    cases y with
    | non => cases ry;exact PySem.EqNone.ne_bool_none (aO I q (by simp))
    | bl j => cases ry;exact ne_bool (aO I q (yW not qj))
    | str j => obtain ⟨t', rfl⟩ := ry;exact PySem.EqMixed.ne_bool_str (aO I q (by simp))
    | _ => exact absurd (show false=true from hs) yC
  | int i =>
    obtain ⟨t, rfl⟩ := rx
    cases y with
    | non => cases ry;exact PySem.EqNone.ne_int_none (aO I q (by simp))
    | int j => obtain ⟨t', rfl⟩ := ry;exact ne_int (aO I q (yW not lU))
    | str j => obtain ⟨t', rfl⟩ := ry;exact PySem.EqMixed.ne_int_str (aO I q (by simp))
    | _ => exact absurd (show false=true from hs) yC
  | str i =>
    obtain ⟨t, rfl⟩ := rx
    cases y with
    | non => cases ry;exact PySem.EqNone.ne_str_none (aO I q (by simp))
    | bl j => cases ry;exact PySem.EqMixed.ne_str_bool (aO I q (by simp))
    | int j => obtain ⟨t', rfl⟩ := ry;exact PySem.EqMixed.ne_str_int (aO I q (by simp))
    | str j => obtain ⟨t', rfl⟩ := ry;exact ne_str (aO I q (yW not lV))
    | _ => exact absurd (show false=true from hs) yC
  | byt i =>
    obtain ⟨t, rfl⟩ := rx
    cases y with
    | byt j => obtain ⟨t', rfl⟩ := ry;exact PySem.W.ne_bytes (aO I q (yW not lW))
    | _ => exact absurd (show false=true from hs) yC
  | _ => cases y <;> exact absurd (show false=true from hs) yC
theorem kK : OpR X (compareOp .Lt) (rI0 fun i j => .bl (decide (i < j))) := vN fun _ _ _ _ _ _ _ q => lt_int q
theorem tK : OpR X (compareOp .LtE) (rI0 fun i j => .bl (decide (i≤j))) := vN fun _ _ _ _ _ _ _ q => le_int q
theorem tL : OpR X (compareOp .Gt) (rI0 fun i j => .bl (decide (j < i))) := vN fun _ _ _ _ _ _ _ q => gt_int q
inductive eW  (x : V)(y : V)(H : Hp)(Q : VK) : Prop
  | mk : ∀ i j, (x = .str i) → (y = .str j) → (Q (.bl (!(Builtin.Str.occurrences j i 0 j.length 1).isEmpty)) H) → eW x y H Q
theorem lX : OpR X (compareOp .In) eW := by
  intro pins s σ H x y v u Q I rx ry h
  obtain ⟨i, j, rfl, rfl, q⟩ := h
  obtain ⟨t, rfl⟩ := rx
  obtain ⟨t', rfl⟩ := ry
  exact in_str (aO I q rfl)
theorem qS : OpR X (compareOp .IsNot) (fun x y H Q => y = .non ∧ Q (.bl (!decide (x = .non))) H) := by
  intro pins s σ H x y v u Q I rx ry h
  obtain ⟨rfl, q⟩ := h
  cases ry
  refine isnot_none_gen (aO I q ?_)
  cases x <;> first
    | (cases rx;rfl)
    | (obtain ⟨t, rfl⟩ := rx;rfl)
theorem aP (b : Expr){op : CmpOp}(h : op ≠ .In := by decide)(h2 : op ≠ .NotIn := by decide) : behindInMarks op b=false := by
  have e1 : (op == CmpOp.In)=false := by cases op <;> first | rfl | exact absurd rfl h
  have e2 : (op == CmpOp.NotIn)=false := by cases op <;> first | rfl | exact absurd rfl h2
  cases b <;> simp [behindInMarks, e1, e2]
theorem dX {op : CmpOp}{r : R2}(ho : OpR X (compareOp op) r)(ha : PE X a ta)(hb : PE X b tb)(hm : behindInMarks op b=false) : PE X (.Compare a [op] [b] pos) (tOp r ta tb) := by
  intro pins s σ H Q I h
  exact wpAny_Compare1 (vM ha hb I h fun v u s2 x y H2 I2 rx ry q => ho pins s2 σ H2 x y v u Q I2 rx ry q) hm
def oH (Q : (Bool → Hp → Prop)) : V → Hp → Prop := fun x H' => IsB x H' Q
def tM (t : TE) : TT := fun σ H Q => t σ H (oH Q)
theorem aL {op : CmpOp}{r : R2}(ho : OpR X (compareOp op) r)(ha : PE X a ta)(hb : PE X b tb)(hm : behindInMarks op b=false) : PT X (.Compare a [op] [b] pos) (tM (tOp r ta tb)) := by
  intro pins s σ H Q I h
  refine wpAny_isTrue_Compare1 (thn (ha pins s σ H _ I h) fun v s1 ⟨x, H1, I1, r1, q1⟩ => thn (hb pins s1 σ H1 _ I1 q1) fun u s2 ⟨y, H2, I2, r2, q2⟩ =>
    thn (ho pins s2 σ H2 x y v u _ I2 r1 r2 q2) fun c s3 ⟨z, H3, I3, r3, k, e, q3⟩ => ?_) hm
  subst e
  cases r3
  exact zt ⟨H3, I3, q3⟩
def qk (r r' : R2)(ta tb tc : TE) : TE := fun σ H Q => ta σ H fun x H1 => tb σ H1 fun y H2 => r x y H2 fun z H3 => ∃ k, z = .bl k ∧
  (if k=true then tc σ H3 fun w' H4 => r' y w' H4 Q else Q (.bl false) H3)
theorem oI {op op' : CmpOp}{r r' : R2}(ho : OpR X (compareOp op) r)(ho' : OpR X (compareOp op') r')(ha : PE X a ta)(hb : PE X b tb)(hc : PE X c tc)
    (hm : lastMarks [op, op'] [b, c]=false := by with_unfolding_all rfl) : PE X (.Compare a [op, op'] [b, c] pos) (qk r r' ta tb tc) := by
  intro pins s σ H Q I h
  refine Compare_chain (thn (ha pins s σ H _ I h) fun v s1 ⟨x, H1, I1, r1, q1⟩ => chain_link (thn (hb pins s1 σ H1 _ I1 q1) fun u s2 ⟨y, H2, I2, r2, q2⟩ =>
    thn (ho pins s2 σ H2 x y v u _ I2 r1 r2 q2) fun d s3 ⟨z, H3, I3, r3, k, e, q3⟩ => ?_)) hm
  subst e
  cases r3
  refine zt ?_
  cases k with
  | false => exact ite_ff ⟨.bl false, H3, I3, rfl, q3⟩
  | true => exact ite_tt (chain_last (thn (hc pins s3 σ H3 _ I3 q3) fun w' s4 zq45 => (by obtain ⟨z', H4, I4, r4, q4⟩ := zq45;exact ho' pins s4 σ H4 y z' u w' Q I4 r2 r4 q4)))
theorem oJ {op op' : CmpOp}{r r' : R2}(ho : OpR X (compareOp op) r)(ho' : OpR X (compareOp op') r')(ha : PE X a ta)(hb : PE X b tb)(hc : PE X c tc)
    (hm : lastMarks [op, op'] [b, c]=false := by with_unfolding_all rfl) : PT X (.Compare a [op, op'] [b, c] pos) (tM (qk r r' ta tb tc)) := by
  intro pins s σ H Q I h
  refine isTrue_chain (thn (ha pins s σ H _ I h) fun v s1 ⟨x, H1, I1, r1, q1⟩ => test_link (thn (hb pins s1 σ H1 _ I1 q1) fun u s2 ⟨y, H2, I2, r2, q2⟩ =>
    thn (ho pins s2 σ H2 x y v u _ I2 r1 r2 q2) fun d s3 ⟨z, H3, I3, r3, k, e, q3⟩ => ?_)) hm
  subst e
  cases r3
  refine zt ?_
  cases k with
  | false =>
    obtain ⟨k', e', q'⟩ := q3
    cases e'
    exact ite_ff ⟨H3, I3, q'⟩
  | true =>
    refine ite_tt (test_last (thn (hc pins s3 σ H3 _ I3 q3) fun w' s4 ⟨z', H4, I4, r4, q4⟩ => thn (ho' pins s4 σ H4 y z' u w' _ I4 r2 r4 q4) fun d' s5 zq46 => ?_))
    obtain ⟨z2, H5, I5, r5, k2, e2, q5⟩ := zq46
    subst e2
    cases r5
    exact zt ⟨H5, I5, q5⟩
def xx (K : PySem.W.Frag)(x : V)(H : Hp)(k : Bool) : Prop :=
  match x with
  | .non => k=false
  | .bl b => k=b
  | .int i => k=(i != 0)
  | .str y => y.length≤sizeLine ∧ k=((y.length : Int) != 0)
  | .byt y => y.size≤sizeLine ∧ k=((y.size : Int) != 0)
  | .ref p => (∃ xs, SqL K H p xs ∧ k=!xs.isEmpty) ∨ (∃ xs, SqT K H p xs ∧ k=!xs.isEmpty) ∨ ∃ kvs, H p=some (.dK kvs) ∧ k=!kvs.isEmpty
  | _ => False
theorem kL {κ : Type}{kvs : List (κ × V)}{vs : List (κ × Value)}(r : KV kvs vs) : (!vs.isEmpty)=!kvs.isEmpty := by
  cases r <;> rfl
theorem fW {xs : List V}{its : List Value}(r : aW xs its) : (!its.toArray.isEmpty)=!xs.isEmpty := by
  cases r <;> simp
theorem dy : (sizeLine : Nat) < 2 ^ 63 := by rw [A3]; decide
inductive qT (K : PySem.W.Frag)(x : V)(H : Hp)(Q : Bool → Hp → Prop) : Prop
  | mk : ∀ k, (xx K x H k) → (Q k H) → qT K x H Q
theorem tN : xu X (qT X.K) := by
  intro pins s σ H x v Q I rx h
  obtain ⟨k, e, q⟩ := h
  have hl := dy
  have hs : sizeLine=16777216 := A3
  cases x with
  | non =>
    cases rx
    have e' : k=false := e
    subst e'
    exact truthy_none ⟨H, I, q⟩
  | bl b =>
    cases rx
    have e' : k=b := e
    subst e'
    exact zt ⟨H, I, q⟩
  | int i =>
    obtain ⟨t, rfl⟩ := rx
    have e' : k=(i != 0) := e
    subst e'
    exact PySem.P.truthy_int ⟨H, I, q⟩
  | str y =>
    obtain ⟨t, rfl⟩ := rx
    obtain ⟨hy, e'⟩ : y.length≤sizeLine ∧ k=((y.length : Int) != 0) := e
    subst e'
    exact PySem.P.truthy_str (by omega) ⟨H, I.tok _, q⟩
  | byt y =>
    obtain ⟨t, rfl⟩ := rx
    obtain ⟨hy, e'⟩ : y.size≤sizeLine ∧ k=((y.size : Int) != 0) := e
    subst e'
    exact PySem.W.truthy_bytes (by omega) ⟨H, I.tok _, q⟩
  | ref p =>
    cases rx
    have e' : (∃ xs, SqL X.K H p xs ∧ k=!xs.isEmpty) ∨ (∃ xs, SqT X.K H p xs ∧ k=!xs.isEmpty) ∨ ∃ kvs, H p=some (.dK kvs) ∧ k=!kvs.isEmpty := e
    rcases e' with ⟨xs, hx, e'⟩ | ⟨xs, hx, e'⟩ | ⟨kvs, hx, e'⟩
    · subst e'
      obtain ⟨its, r, pl, hz⟩ := I.list hx
      have hlen := r.length
      exact wpAny_truthy_list pl.isList (by simp only [yg];omega) ⟨H, I.tok _, by rw [fW r];exact q⟩
    · subst e'
      obtain ⟨its, r, pl, hz⟩ := I.tuple hx
      have hlen := r.length
      exact truthy_tuple pl (by simp only [yg];omega) ⟨H, I.tok _, by rw [fW r];exact q⟩
    · subst e'
      obtain ⟨hz, hS, vs, r, m⟩ : kvs.length≤sizeLine ∧ (p == sysModules)=false ∧ ∃ vs, KV kvs vs ∧ s.heap.DictOf (bh X.prog X.w) p vs := I.hok p _ hx
      have hlen : kvs.length=vs.length := By r
      exact wpAny_truthy_dict hS m (by omega) ⟨H, I.tok _, by rw [kL r];exact q⟩
  | _ => exact (show False from e).elim
def qU (K : PySem.W.Frag)(Q : (Bool → Hp → Prop)) : V → Hp → Prop := fun x H' => qT K x H' Q
def xy (K : PySem.W.Frag)(ta : TE) : TT := fun σ H Q => ta σ H (qU K Q)
theorem dz (ha : PE X a ta)(he : ∀ whole, isTrue a X.env whole=(do let v ← whole; standAt a.pos; holding [v] (truthy v))) :
    PT X a (xy X.K ta) := by
  intro pins s σ H Q I h
  exact isTrue_plain (thn (ha pins s σ H _ I h) fun v s1 zq47 => (by obtain ⟨x, H1, I1, r1, q1⟩ := zq47;exact tN pins s1 σ H1 x v Q I1 r1 q1)) (he _)
inductive eg  (x : V)(y : V)(H : Hp)(Q : VK) : Prop
  | mk : ∀ i j, (x = .str i) → (y = .str j) → (i.length+j.length≤sizeLine) → (Q (.str (i++j)) H) → eg x y H Q
theorem aJ : OpR X (binaryOp .Add) eg := by
  intro pins s σ H x y v u Q I rx ry h
  obtain ⟨i, j, rfl, rfl, hz, q⟩ := h
  obtain ⟨t, rfl⟩ := rx
  obtain ⟨t', rfl⟩ := ry
  exact add_str (fun t' tk => ⟨.str (i++j), H, I.tok _, ⟨_, rfl⟩, q⟩) hz
theorem cV {x : V}{us : List Value}(r : aW [x] us) : ∃ u, us=[u] ∧ bj x u := by
  cases r with
  | cons r1 r2 => cases r2;exact ⟨_, rfl, r1⟩
theorem qV {x y : V}{us : List Value}(r : aW [x, y] us) : ∃ u w', us=[u, w'] ∧ bj x u ∧ bj y w' := by
  cases r with
  | cons r1 r2 =>
    cases r2 with
    | cons r3 r4 => cases r4;exact ⟨_, _, rfl, r1, r3⟩
inductive eX  (xs : List V)(H : Hp)(Q : VK) : Prop
  | mk : ∀ i j, (xs=[.int i, .int j]) → (Q (.int (if j > i then j else i)) H) → eX xs H Q
theorem lY (hc : X.calm=true) : dw X (.builtin "max") eX := by
  intro pins s σ H xs us Q I r h
  obtain ⟨i, j, rfl, q⟩ := h
  obtain ⟨u, w', rfl, ⟨t, rfl⟩, ⟨t', rfl⟩⟩ := qV r
  refine max_two_ints (I.ok.hd hc) fun h' tk k => ⟨_, H, I.kept k, ?_, q⟩
  by_cases hj : j > i
  · rw [if_pos hj, if_pos hj];exact ⟨_, rfl⟩
  · rw [if_neg hj, if_neg hj];exact ⟨_, rfl⟩
inductive eY  (xs : List V)(H : Hp)(Q : VK) : Prop
  | mk : ∀ i j, (xs=[.int i, .int j]) → (Q (.int (if j < i then j else i)) H) → eY xs H Q
theorem lZ (hc : X.calm=true) : dw X (.builtin "min") eY := by
  intro pins s σ H xs us Q I r h
  obtain ⟨i, j, rfl, q⟩ := h
  obtain ⟨u, w', rfl, ⟨t, rfl⟩, ⟨t', rfl⟩⟩ := qV r
  refine min_two_ints (I.ok.hd hc) fun h' tk k => ⟨_, H, I.kept k, ?_, q⟩
  by_cases hj : j < i
  · rw [if_pos hj, if_pos hj];exact ⟨_, rfl⟩
  · rw [if_neg hj, if_neg hj];exact ⟨_, rfl⟩
theorem dA : dw X (.type "int") (fun xs H Q => (∃ i, xs=[.int i] ∧ Q (.int i) H) ∨ ∃ k, xs=[.bl k] ∧ Q (.int (if k then 1 else 0)) H) := by
  intro pins s σ H xs us Q I r h
  rcases h with ⟨i, rfl, q⟩ | ⟨k, rfl, q⟩
  · obtain ⟨u, rfl, t, rfl⟩ := cV r
    exact call_int_int ⟨.int i, H, I, ⟨_, rfl⟩, q⟩
  · obtain ⟨u, rfl, r1⟩ := cV r
    cases r1
    exact call_int_bool ⟨.int (if k then 1 else 0), H, I.tok _, ⟨_, rfl⟩, q⟩
end
section
variable {prog : Program} {w : World} {A : Around} {E : Value → Shared → Prop} {s : Shared} {K : PySem.W.Frag} {x dx C f : Addr} {mA : Str → Option Value} {name : Str} {v : Value}
end
theorem lJ.some_of {v : V}{o : Option Value}(r : lJ (some v) o) : ∃ u, o=some u ∧ bj v u := by
  cases o with
  | none => exact (show False from r).elim
  | some u => exact ⟨u, rfl, r⟩
section
variable {P : Program} {w : World} {H H' : Hp} {h h' : Heap} {a C dx : Addr} {fs fs' : List (Str × V)}
end
structure Cls (K : PySem.W.Frag) (C : Addr) : Prop where
  pg : PySem.W.plainGet K C Str.empty=true
  hd : PySem.W.hasDictIn K C=true
  po : PySem.W.plainOver K C=true
  sa : PySem.W.findIn K (.ref C) "__setattr__" = some (some (.builtin "object.__setattr__"))
section
variable {X : Cx} {pins : List (Addr × Obj)} {σ : St} {H : Hp} {s : Shared} {a C dx : Addr} {fs : List (Str × V)} {f : Str} {v : V} {A : Around} {E : Value → Shared → Prop}
end
section
variable {X : Cx} {o e value : Expr} {f : Str} {pos pos' tpos : Pos} {ta tv : TE}
end
section
variable {X : Cx} {pins : List (Addr × Obj)} {σ : St} {H : Hp} {s : Shared} {A : Around} {E : Value → Shared → Prop} {Q : Value → Shared → Prop} {c : Value} {b : Bool}
inductive j3 (K : PySem.W.Frag)(H : Hp) : V → Value → Prop where
  | non : j3 K H .non (.type "NoneType")
  | bl (x : Bool) : j3 K H (.bl x) (.type "bool")
  | int (i : Int) : j3 K H (.int i) (.type "int")
  | str (x : Str) : j3 K H (.str x) (.type "str")
  | flt (x : UInt64) : j3 K H (.flt x) (.type "float")
  | lst {a : Addr} {xs : List V} (e : H a=some (.lst xs)) : j3 K H (.ref a) (.type "list")
  | frz {a : Addr} {o : Obj} {xs : List V} (e : H a=some (.frz o (.lst xs))) : j3 K H (.ref a) (.type "list")
  | tup {a : Addr} {xs : List V} (e : H a=some (.tup xs)) : j3 K H (.ref a) (.type "tuple")
  | dK {a : Addr} {kvs : List (Key × V)} (e : H a=some (.dK kvs)) : j3 K H (.ref a) (.type "dict")
  | dT {a : Addr} {kvs : List (List Key × V)} (e : H a=some (.dT kvs)) : j3 K H (.ref a) (.type "dict")
  | ins {a C dx : Addr} {fs : List (Str × V)} (e : H a=some (.ins C dx fs)) (cl : Cls K C) (ha : PySem.W.findIn K (.ref C) "__class__" = some (some (.builtin "object.__class__")))
      (hn : PySem.W.specialIn K (.builtin "object.__class__") "__get__" = some (some (.builtin "getset_descriptor.__get__"))) (htk : PySem.W.takesIn K (.builtin "object.__class__")=some true)
      (hm : PySem.W.mroIn K C (.type "object")=some true) : j3 K H (.ref a) (.ref C)
end
structure fX (k : Nat) (A : Around) : Prop where
  hd : A.handled=none
  dp : A.depth+3*k+5 < recursionLimit
  un : A.units+16*k+200 < cLine
  gd : A.guards=some []
theorem fX.mono {j k : Nat}{A : Around}(r : fX k A)(h : j≤k) : fX j A := ⟨r.hd, by have := r.dp; omega, by have := r.un; omega, r.gd⟩
theorem fX.deeper {k : Nat}{A : Around}(r : fX (k+1) A)(env : Env) : fX k (A.deeper env) :=
  ⟨r.hd, by have := r.dp;show A.depth+1+3*k+5 < _;omega, by have := r.un;show A.units+3+16*k+200 < _;omega, r.gd⟩
theorem fX.depth {k : Nat}{A : Around}(r : fX k A) : A.depth < recursionLimit := by have := r.dp; omega
theorem fX.units {k : Nat}{A : Around}(r : fX k A) : A.units+64 < cLine := by have := r.un; omega
def xA : TA := fun _ H Q => Q [] H
def oK (Q : (List V → Hp → Prop))(x : V) : List V → Hp → Prop := fun xs H2 => Q (x::xs) H2
def oM (tr : TA)(σ : St)(Q : (List V → Hp → Prop)) : V → Hp → Prop := fun x H1 => tr σ H1 (oK Q x)
def vP (ta : TE)(tr : TA) : TA := fun σ H Q => ta σ H (oM tr σ Q)
section
variable {X : Cx} {e : Expr} {es : List Expr} {te : TE} {t : TA} {pos : Pos}
theorem af : PA X [] xA := fun _ _ _ _ H Q I h => Calls.spliced_nil ⟨[], H, I, .nil, h⟩
theorem aa (ha : PE X e te)(hr : PA X es t)(hs : starEach (e::es) X.env=(false, eval e X.env)::starEach es X.env := by rfl) : PA X (e::es) (vP te t) := by
  intro pos pins s σ H Q I h
  rw [hs]
  show wpAny _ _ (spliced ((false, eval e X.env)::backTo pos (starEach es X.env))) _ _ s
  refine Bf (thn (ha pins s σ H _ I h) fun u s1 zq54 => ?_)
  obtain ⟨x, H1, I1, r1, q1⟩ := zq54
  exact thn (hr pos pins s1 σ H1 _ I1 q1) fun us s2 zq55 => (by obtain ⟨xs, H2, I2, r2, q2⟩ := zq55;exact ⟨x::xs, H2, I2, .cons r1 r2, q2⟩)
def qW (Q : VK) : List V → Hp → Prop := fun xs H1 => xs.length≤sizeLine ∧ ∀ p, H1 p=none → Q (.ref p) (upd H1 p (.tup xs))
def xB (t : TA) : TE := fun σ H Q => t σ H (qW Q)
def qX (Q : VK) : List V → Hp → Prop := fun xs H1 => xs.length≤sizeLine ∧ ∀ p, H1 p=none → Q (.ref p) (upd H1 p (.lst xs))
def xC (t : TA) : TE := fun σ H Q => t σ H (qX Q)
theorem hU {x1}(h : PA X es t) : PE X (.Tuple es x1 pos) (xB t) := by
  intro pins s σ H Q I hq
  refine wpAny_Tuple_spliced (thn (h pos pins s σ H _ I hq) fun us s1 ⟨xs, H1, I1, r, z, q⟩ => ⟨by rw [← r.length];exact z, ?_⟩)
  have hf : H1 s1.heap.objs.size=none := I1.hok.fresh (yb _)
  refine ⟨.ref s1.heap.objs.size, upd H1 s1.heap.objs.size (.tup xs), I1.laid (t' := s1.toks) (fun b u e => x8 _ e) (yb _) ?_, rfl, q _ hf⟩
  exact ⟨z, us, r, ⟨_, yk _ rfl, rfl, _, rfl⟩, .new _ _ rfl⟩
theorem dC (h : PA X es t) : PE X (.List es pos) (xC t) := by
  intro pins s σ H Q I hq
  refine wpAny_List_spliced (thn (h pos pins s σ H _ I hq) fun us s1 ⟨xs, H1, I1, r, z, q⟩ => ⟨by rw [← r.length];exact z, ?_⟩)
  have hf : H1 s1.heap.objs.size=none := I1.hok.fresh (yb _)
  refine ⟨.ref s1.heap.objs.size, upd H1 s1.heap.objs.size (.lst xs), I1.laid (t' := s1.toks) (fun b u e => x8 _ e) (yb _) ?_, rfl, q _ hf⟩
  exact ⟨z, us, 0, r, yk _ rfl⟩
end
abbrev Sp := List V → Hp → VK → XK → Prop
abbrev CXT := List Env → Hp → Shared → XK → Value → Shared → Prop
structure vq (P : Program) (w : World) (K : PySem.W.Frag) (mg : Str → Option Value) (base : Heap) (A : Around) (outer : List Env) (s : Shared) (H : Hp) : Prop where
  frames : A.frames=some outer
  mod : Mod K mg base
  bs : ∀ b o, base.get? b=some o → s.heap.get? b=some o ∧ H b=none
  bsz : base.objs.size≤s.heap.objs.size
  funs : s.heap.FunFrames base outer
  frf : ∀ b∈frs outer, H b=none
  hok : HOk P w H s.heap
  bare : AllBare s.gens
def CE (outer : List Env)(P : Program)(w : World)(H : Hp)(s : Shared)(Q : VK)(u : Value)(s' : Shared) : Prop :=
  ∃ v H', s'.os=s.os ∧ AllBare s'.gens ∧ Un (frs outer) [] H H' s.heap s'.heap ∧ HOk P w H' s'.heap ∧ bj v u ∧ Q v H'
def CR (CX : CXT)(outer : List Env)(P : Program)(w : World)(H : Hp)(s : Shared)(Q : VK)(E : XK)(r : Result)(s' : Shared) : Prop :=
  match r with
  | .ok (.ret u) => CE outer P w H s Q u s'
  | .ok _ => False
  | .error e => CX outer H s E e s'
structure kM (P : Program) (w : World) (K : PySem.W.Frag) (mg : Str → Option Value) (base : Heap) (CX : CXT) (k : Nat) (f : Addr) (fd : FuncData) (ps : List Str) (sp : Sp) : Prop where
  len : ∀ vs H Q E, sp vs H Q E → vs.length=ps.length
  run : ∀ (A : Around) (outer : List Env) (s : Shared) (H : Hp) (args : Args) (us : List Value) (vs : List V) (Q : VK) (E : XK), fX k A → vq P w K mg base A outer s H → BindsTo s fd args (ps.zip us) → aW vs us → sp vs H Q E →
    codeAny (model P w) A (.call (.ref f) args) (CR CX outer P w H s Q E) s
theorem kM.imp {P : Program}{w : World}{K : PySem.W.Frag}{mg : Str → Option Value}{base : Heap}{CX : CXT}{k : Nat}{f : Addr}{fd : FuncData}{ps : List Str}{sp sp' : Sp}(F : kM P w K mg base CX k f fd ps sp)
    (h : ∀ vs H Q E, sp' vs H Q E → sp vs H Q E) : kM P w K mg base CX k f fd ps sp' :=
  ⟨fun vs H Q E q => F.len vs H Q E (h _ _ _ _ q), fun A outer s H args us vs Q E hr he hb hv hs => F.run A outer s H args us vs Q E hr he hb hv (h _ _ _ _ hs)⟩
section
variable {X : Cx} {pins : List (Addr × Obj)} {σ : St} {H : Hp} {s s' : Shared}
theorem Inv.env0 (I : Inv X pins σ H s) : vq X.prog X.w X.K X.mg X.base X.A X.stack s H :=
  ⟨I.ok.frames, I.ok.mod, I.bs, yV I.ok.bsz I.sz, I.stack, I.stkFree, I.hok, I.bare⟩
theorem Inv.after {Q : VK}{u : Value}(I : Inv X pins σ H s)(h : CE X.stack X.prog X.w H s Q u s') : EP X pins σ Q u s' := by
  obtain ⟨v, H', os, bare, un, hok, r, q⟩ := h
  obtain ⟨hh, g, d, t, os'⟩ := s'
  obtain rfl : os'=s.os := os
  exact ⟨v, H', I.call (h' := hh) (g' := g) (d' := d) (t' := t) (ch := []) un hok bare (fun b z => absurd z (by simp)), r, q⟩
end
def oN (sp : Sp)(dvs : List V)(E : XK)(Q : VK) : List V → Hp → Prop := fun vs H1 => sp (vs++dvs) H1 Q E
def tO (sp : Sp)(dvs : List V)(E : XK)(t : TA) : TE := fun σ H Q => t σ H (oN sp dvs E Q)
def kN (K : PySem.W.Frag)(fd : FuncData)(ps : List Str)(ds : List Value) : Prop :=
  ∀ (s : Shared) (us : List Value), K.In s.heap → (us++ds).length=ps.length → BindsTo s fd ⟨us, []⟩ (ps.zip (us++ds))
theorem kN.all {K : PySem.W.Frag}{fd : FuncData}{ps : List Str}(h : ∀ us : List Value, us.length=ps.length → bindArgs fd ⟨us, []⟩=pure (ps.zip us)) : kN K fd ps [] := fun s us _ hl => by
  rw [yP] at hl ⊢
  exact .of_eq (h us hl)
def l_ (CX : CXT)(X : Cx)(E : XK) : Prop := ∀ (pins : List (Addr × Obj)) (σ : St) (H : Hp) (s : Shared) (e : Value) (s' : Shared), Inv X pins σ H s → CX X.stack H s E e s' → X.xe e s'
section
variable {X : Cx} {CX : CXT} {k : Nat} {f C : Addr} {fd : FuncData} {ps : List Str} {sp : Sp} {dvs : List V} {ds : List Value} {E : XK} {x m : Str} {p pos apos : Pos} {e o : Expr} {es : List Expr} {ta : TE} {t : TA}
theorem tP {pins : List (Addr × Obj)}{σ : St}{H : Hp}{s : Shared}{Q : VK}{us : List Value}{vs : List V}(F : kM X.prog X.w X.K X.mg X.base CX k f fd ps sp)(hr : fX k X.A)(hb : kN X.K fd ps ds)(hd : aW dvs ds)(hx : l_ CX X E)
    (I : Inv X pins σ H s) (r : aW vs us) (h : sp (vs++dvs) H Q E) : wpAny (model X.prog X.w) X.A (call (.ref f) us) (EP X pins σ Q) X.xe s := by
  have r2 : aW (vs++dvs) (us++ds) := r.append hd
  have hl : (us++ds).length=ps.length := by rw [← r2.length];exact F.len _ _ _ _ h
  refine wpAny_call (Bg (F.run X.A X.stack s H ⟨us, []⟩ (us++ds) (vs++dvs) Q E hr I.env0 (hb s us I.kIn hl) r2 h) fun r s' hq => ?_)
  cases r with
  | error e => exact hx pins σ H s e s' I hq
  | ok fl =>
    cases fl with
    | ret u => exact I.after hq
    | next => exact False.elim hq
    | brk => exact False.elim hq
    | cont => exact False.elim hq
theorem qY (F : kM X.prog X.w X.K X.mg X.base CX k f fd ps sp)(hr : fX k X.A)(hg : Gl X x)(hm : X.mg x=some (.ref f))(hk : PySem.W.keepIn X.K (.ref f)=true)(hb : kN X.K fd ps ds)(hd : aW dvs ds)(hx : l_ CX X E)
    (ha : PA X (e::es) t) (hdb : (x == ("__debug__" : Str))=false := by decide) (he : starEach (e::es) X.env=(false, eval e X.env)::starEach es X.env := by rfl) (hpl : (backTo pos (starEach es X.env)).any (·.1)=false := by rfl) :
    PE X (.Call (.Name x p) (e::es) [] pos) (tO sp dvs E t) := by
  intro pins s σ H Q I h
  refine Bh (jt I hg hm ?_ hdb)
  refine PySem.W.callWith_K (h₀ := X.base) I.ok.mod.kin hk (thn (ha pos pins s σ H _ I h) fun us s1 ⟨vs, H1, I1, r, q⟩ => ⟨I1.kIn, ?_⟩) he hpl
  exact tP F hr hb hd hx I1 r q
end
section
variable {X : Cx} {CX : CXT} {k : Nat} {f C : Addr} {fd : FuncData} {ps ks : List Str} {sp : Sp} {E : XK} {x m : Str} {p pos apos kpos : Pos} {e o : Expr} {es : List Expr} {kws : List Keyword} {te ta : TE} {t tk : TA} {nm : Option Str}
variable {g : List Value → List Value → List Value} {gV : List V → List V → List V}
end
structure aG (N P : List Str) (sc : Scope) : Prop where
  kind : sc.kind = .function
  co : sc.isCoroutine=false
  gen : sc.isGenerator=false
  nd : N.Nodup
  pre : N.take P.length=P
  par : ∀ x∈P, sc.names.lookup x=some .local ∨ sc.names.lookup x=some .cell
  nofree : ∀ y∈sc.names, y.2 ≠ .free
theorem hX {kindOf : Str → Option NameKind}{x : Str} : ∀ {binds : List (Str × Value)} {m : Str → Option Value}, (∀ v, (x, v)∉binds) → bindL kindOf binds m x=m x
  | [], _, _ => rfl
  | (n, v)::r, m, h => by
    unfold bindL
    rw [hX fun w hw => h w (yd _ hw)]
    split
    · have : x≠n := by rintro rfl;exact h v yA
      simp [this]
    · rfl
theorem hZ {kindOf : Str → Option NameKind}{x : Str} : ∀ {binds : List (Str × Value)} {m : Str → Option Value}, (∀ v, (x, v)∉binds) → bindC kindOf binds m x=m x
  | [], _, _ => rfl
  | (n, v)::r, m, h => by
    unfold bindC
    rw [hZ fun w hw => h w (yd _ hw)]
    split
    · rfl
    · have : x≠n := by rintro rfl;exact h v yA
      simp [this]
theorem h7 {kindOf : Str → Option NameKind}{x : Str}{v : Value} : ∀ {P : List Str} {vs : List Value} {i : Nat} {m : Str → Option Value}, P.Nodup → P[i]? = some x → vs[i]? = some v → kindOf x=some .local →
    bindL kindOf (P.zip vs) m x=some v
  | [], _, _, _, _, h, _, _ => by simp at h
  | _::_, [], _, _, _, _, h, _ => by simp at h
  | p::P, w::vs, 0, m, nd, h1, h2, hk => by
    simp at h1 h2;subst h1;subst h2
    show bindL kindOf ((p, w)::P.zip vs) m p=_
    unfold bindL
    rw [hX fun v hv => (yt.mp nd).1 (BO hv).1, if_pos hk]
    simp
  | p::P, w::vs, i+1, m, nd, h1, h2, hk => by
    show bindL kindOf ((p, w)::P.zip vs) m x=_
    unfold bindL
    exact h7 (i := i) (yt.mp nd).2 (by simpa using h1) (by simpa using h2) hk
theorem h9 {kindOf : Str → Option NameKind}{x : Str}{v : Value} : ∀ {P : List Str} {vs : List Value} {i : Nat} {m : Str → Option Value}, P.Nodup → P[i]? = some x → vs[i]? = some v → kindOf x≠some .local →
    bindC kindOf (P.zip vs) m x=some v
  | [], _, _, _, _, h, _, _ => by simp at h
  | _::_, [], _, _, _, _, h, _ => by simp at h
  | p::P, w::vs, 0, m, nd, h1, h2, hk => by
    simp at h1 h2;subst h1;subst h2
    show bindC kindOf ((p, w)::P.zip vs) m p=_
    unfold bindC
    rw [hZ fun v hv => (yt.mp nd).1 (BO hv).1, if_neg hk]
    simp
  | p::P, w::vs, i+1, m, nd, h1, h2, hk => by
    show bindC kindOf ((p, w)::P.zip vs) m x=_
    unfold bindC
    exact h9 (i := i) (yt.mp nd).2 (by simpa using h1) (by simpa using h2) hk
def start (N : List Str)(vs : List V) : St := vs.map some++List.replicate (N.length - vs.length) none
def qZ (CX : CXT)(P : Program)(w : World)(K : PySem.W.Frag)(mg : Str → Option Value)(base : Heap)(N : List Str)(qual : Str)(scope : Scope)(f : Addr)(cd : Value)(A : Around)(outer : List Env)(s : Shared)(H : Hp)(E : XK) : Cx where
  prog := P
  w := w
  K := K
  mg := mg
  base := base
  A := A.deeper (envOfC qual scope s.heap.objs.size f cd)
  N := N
  s₀ := s
  H₀ := H
  env := envOfC qual scope s.heap.objs.size f cd
  outer := outer
  stack := envOfC qual scope s.heap.objs.size f cd::outer
  ex := []
  calm := true
  fn := fun _ => true
  pn := []
  xe := fun e s' => wpAny (model P w) (A.deeper (envOfC qual scope s.heap.objs.size f cd)) (leaving (envOfC qual scope s.heap.objs.size f cd) e) (fun _ s'' => CX outer H s E e s'') (fun e' s'' => CX outer H s E e' s'') s'
theorem j4 {sc : Scope}{n : Nat}{x : Str}(h : sc.names.lookup x=some .cell) : ∃ c, (cellsFrom n sc.names []).lookup x=some c := by
  have q := BH sc.names n [] (.inl h)
  exact Bq.mp q
theorem me {CX : CXT}{P : Program}{w : World}{K : PySem.W.Frag}{mg : Str → Option Value}{base : Heap}{N ps : List Str}{qual : Str}{scope : Scope}{f : Addr}{cd : Value}{A : Around}{outer : List Env}{s s1 : Shared}{H : Hp}{E : XK}{us : List Value}{vs : List V}
    (S : aG N ps scope) (hd : A.handled=none) (e0 : vq P w K mg base A outer s H) (hl : vs.length=ps.length) (r : aW vs us)
    (x : InCallC s s.heap.objs.size (bindL (envOfC qual scope s.heap.objs.size f cd).kindOf (ps.zip us) fun _ => none) (cellsFrom (s.heap.objs.size+1) scope.names []) (bindC (envOfC qual scope s.heap.objs.size f cd).kindOf (ps.zip us) fun _ => none) s1) :
    Inv (qZ CX P w K mg base N qual scope f cd A outer s H E) [] (start N vs) H s1 := by
  have hpl : ps.length≤N.length := by have := yW List.length S.pre;rw [yy] at this;omega
  obtain ⟨h1, tk, rfl, hk⟩ := x.done
  have noA : ∀ b : Addr, b∉(qZ CX P w K mg base N qual scope f cd A outer s H E).ex := fun b z => absurd (show b∈([] : List Addr) from z) (by simp)
  refine ⟨⟨e0.mod, S.kind, rfl, rfl, yb _, fun y z c h1 h2 => ?_, fun y hy => ?_, fun y c _ h => ?_, fun _ => hd, Around.frames_deeper e0.frames, .inr ⟨rfl, rfl⟩, fun b z => absurd z (noA b), e0.bs, e0.bsz, fun b _ _ => noA b, fun b z => absurd z (noA b), e0.funs, e0.frf⟩,
    rfl, e0.bare, Un.kept hk, ⟨_, x.toInCall.ns, fun i y v h1 h2 h3 => ?_⟩, fun y c h => ⟨_, x.cell y c h⟩, e0.hok.fresh (yb _), fun y c h => ?_, fun p hp => absurd (show p∈([] : List (Addr × Obj)) from hp) (by simp), e0.hok.kept hk, ?_⟩
  · exact name_of_addr x.apart (zg h1) (zg h2)
  · have hy : scope.names.lookup y=some .cell ∨ scope.names.lookup y=some .free := hy
    rcases hy with hy | hy
    · exact j4 hy
    · exact absurd rfl (S.nofree _ (zg hy))
  · exact B4 (x.above y c (zg h))
  · have hi : i < vs.length := by
      unfold start at h2
      by_cases hi : i < vs.length
      · exact hi
      · rw [yF (by simpa using hi)] at h2
        rw [List.getElem?_replicate] at h2
        split at h2 <;> cases h2
    have ha : vs[i]? = some v := by
      unfold start at h2
      rw [yU (by simpa using hi), yp] at h2
      cases e : vs[i]? with
      | none => rw [e] at h2;cases h2
      | some a => rw [e] at h2;cases h2;rfl
    obtain ⟨u, hu, rv⟩ := r.get ha
    have hp : ps[i]? = some y := by
      rw [← S.pre, Br (by omega)];exact h1
    have ndP : ps.Nodup := by rw [← S.pre];exact S.nd.sublist (List.take_sublist _ _)
    refine ⟨u, rv, ?_⟩
    rcases S.par y (yu hp) with k | k
    · exact .inl ⟨k, h7 ndP hp hu k⟩
    · obtain ⟨c, e⟩ := j4 (n := s.heap.objs.size+1) k
      refine .inr ⟨.inl k, c, e, ?_⟩
      have q := x.cell y c e
      rw [h9 ndP hp hu (by show scope.names.lookup y≠_;rw [k];decide)] at q
      exact q
  · exact e0.hok.fresh (B4 (x.above y c (zg h)))
  · unfold start
    show _=N.length
    rw [x_, x9, List.length_replicate]
    omega
theorem vQ {CX : CXT}{P : Program}{w : World}{K : PySem.W.Frag}{mg : Str → Option Value}{base : Heap}{k : Nat}{f : Addr}{name qual : Str}{params : Arguments}{body : List Stmt}{scope : Scope}{dV kV doc pm cdv ct oc : Value}{an od : Option Addr}
    {osl : Array (Option Value)} {N ps : List Str} {sp : Sp} (lk : K.lookup f=some ⟨oc, od, .func (PySem.W.fnOf name qual params body scope dV kV doc pm an cdv ct), osl⟩) (hcd : PySem.W.codeIn K cdv qual=true) (S : aG N ps scope)
    (len : ∀ vs H Q E, sp vs H Q E → vs.length=ps.length)
    (hbody : ∀ (A : Around) (outer : List Env) (s : Shared) (H : Hp) (vs : List V) (Q : VK) (E : XK), fX k (A.deeper (envOfC qual scope s.heap.objs.size f cdv)) → sp vs H Q E →
      ∃ t, PSs (qZ CX P w K mg base N qual scope f cdv A outer s H E) body t ∧ t { nx := fun _ H' => Q .non H', rt := Q } (start N vs) H) :
    kM P w K mg base CX (k+1) f (PySem.W.fnOf name qual params body scope dV kV doc pm an cdv ct) ps sp := by
  refine ⟨len, fun A outer s H args us vs Q E hr e0 hb r hsp => ?_⟩
  have hl := len _ _ _ _ hsp
  have KX : K.In s.heap := e0.mod.kin.keeps fun b o e => (e0.bs b o e).1
  have lim : s.heap.NoLimit := e0.mod.nolimit.keeps fun b o e => (e0.bs b o e).1
  have hkind : ∀ y∈ps.zip us, scope.names.lookup y.1=some .local ∨ (scope.names.lookup y.1=some .cell ∧ ((cellsFrom (s.heap.objs.size+1) scope.names []).lookup y.1).isSome=true) := fun ⟨n, v⟩ hy => by
    rcases S.par n (BO hy).1 with q | q
    · exact .inl q
    · exact .inr ⟨q, BH _ _ _ (.inl q)⟩
  refine codeAny_call_function hr.depth (KX _ _ lk) rfl S.co S.gen rfl (PySem.W.codeRec_of KX hcd) (hb _ _ _ _ ?_)
  refine wpAny_newFunctionEnv_cells S.kind hkind fun env he s1 x => ?_
  subst he
  refine ⟨lim.keeps x.toInCall.keep, codeAny_func ?_⟩
  obtain ⟨t, ht, hq⟩ := hbody A outer s H vs Q E (hr.deeper _) hsp
  have I : Inv (qZ CX P w K mg base N qual scope f cdv A outer s H E) [] (start N vs) H s1 := me S hr.hd e0 hl r x
  refine zy (ht [] s1 (start N vs) H _ I hq) (fun fl s' hs => ?_) fun e s' hs => hs
  have fin : ∀ {σ' : St} {H' : Hp} {v : V} {u : Value}, Inv (qZ CX P w K mg base N qual scope f cdv A outer s H E) [] σ' H' s' → bj v u → Q v H' → CE outer P w H s Q u s' :=
    fun {σ' H' v u} J rv q => ⟨v, H', J.os, J.bare, J.base, J.hok, rv, q⟩
  cases fl with
  | ret u =>
    obtain ⟨v, σ', H', J, rv, q⟩ := hs
    exact fin J rv q
  | next =>
    obtain ⟨σ', H', J, q⟩ := hs
    exact fin (v := V.non) (u := Value.none) J rfl q
  | brk =>
    obtain ⟨_, _, _, q⟩ := hs
    exact False.elim q
  | cont =>
    obtain ⟨_, _, _, q⟩ := hs
    exact False.elim q
section
variable {X : Cx} {x : Str} {p pos : Pos} {e : Expr} {es : List Expr} {t : TA} {id T : String} {r : List V → Hp → VK → Prop}
def tQ (r : List V → Hp → VK → Prop)(Q : VK) : List V → Hp → Prop := fun vs H1 => r vs H1 Q
def tCB (r : List V → Hp → VK → Prop)(t : TA) : TE := fun σ H Q => t σ H (tQ r Q)
theorem ar (hc : dw X (.builtin id) r)(hg : Gl X x)(hm : X.mg x=none)(hv : bootBuiltins x=some (.builtin id))(ha : PA X (e::es) t)(hn : x ≠ "__name__" := by decide)(hdb : (x == ("__debug__" : Str))=false := by decide)
    (he : starEach (e::es) X.env=(false, eval e X.env)::starEach es X.env := by rfl) (hpl : (backTo pos (starEach es X.env)).any (·.1)=false := by rfl) : PE X (.Call (.Name x p) (e::es) [] pos) (tCB r t) := by
  intro pins s σ H Q I h
  refine Bh (fS I hg hm hv ?_ hn hdb)
  exact PyProof.Rows.callWith_builtin1 (thn (ha pos pins s σ H _ I h) fun us s1 zq60 => (by obtain ⟨vs, H1, I1, r1, q1⟩ := zq60;exact hc pins s1 σ H1 vs us Q I1 r1 q1)) he hpl
theorem aU (hc : dw X (.type T) r)(hg : Gl X x)(hm : X.mg x=none)(hv : bootBuiltins x=some (.type T))(ha : PA X (e::es) t)(hn : x ≠ "__name__" := by decide)(hdb : (x == ("__debug__" : Str))=false := by decide)
    (he : starEach (e::es) X.env=(false, eval e X.env)::starEach es X.env := by rfl) (hpl : (backTo pos (starEach es X.env)).any (·.1)=false := by rfl) : PE X (.Call (.Name x p) (e::es) [] pos) (tCB r t) := by
  intro pins s σ H Q I h
  refine Bh (fS I hg hm hv ?_ hn hdb)
  exact zf (thn (ha pos pins s σ H _ I h) fun us s1 zq61 => (by obtain ⟨vs, H1, I1, r1, q1⟩ := zq61;exact hc pins s1 σ H1 vs us Q I1 r1 q1)) he hpl
end
end L2
namespace HT
open PySem PyProof.Rows
section
open PySem.SeqAt
open PySem.AutoSeq1 (wpAny_loadPart')
open PySem.MeetsSeq PySem.MeetsSeq2 PySem.MeetsSeq3
end
section
variable {prog : Program} {w : World} {A : Around} {E : Value → Shared → Prop} {s : Shared}
def sIx (n d : Nat) : Option Int → Nat
  | none => d
  | some v => if v < 0 then (v+(n : Int)).toNat else min v.toNat n
theorem gr (n d : Nat) : sIx n d none=d := rfl
theorem dj (n d k : Nat) : sIx n d (some (k : Int))=min k n := by
  show (if (k : Int) < 0 then ((k : Int)+(n : Int)).toNat else min (k : Int).toNat n)=min k n
  rw [if_neg (by omega), yD]
theorem ql (n d : Nat)(hd : d≤n)(o : Option Int) : sIx n d o≤n := by
  cases o with
  | none => exact hd
  | some v =>
    show (if v < 0 then (v+(n : Int)).toNat else min v.toNat n)≤n
    by_cases hv : v < 0
    · rw [if_pos hv];omega
    · rw [if_neg hv];exact Nat.min_le_right _ _
end
end HT
namespace L2
open PySem PySem.Spec PyProof.Rows
abbrev TO := St → Hp → (Option Int → Hp → Prop) → Prop
def PO (X : Cx)(e : Option Expr)(t : TO) : Prop :=
  ∀ (pins : List (Addr × Obj)) (s : Shared) (σ : St) (H : Hp) (Q : Option Int → Hp → Prop), Inv X pins σ H s → t σ H Q →
    wpAny (model X.prog X.w) X.A (evalPart e X.env) (fun u s' => ∃ o H', Inv X pins σ H' s' ∧ IsPart u o ∧ Q o H') X.xe s
def q0 : TO := fun _ H Q => Q none H
inductive IsI (x : V)(H : Hp)(Q : Option Int → Hp → Prop) : Prop
  | mk : ∀ i, (x = .int i) → (Q (some i) H) → IsI x H Q
def oO (Q : (Option Int → Hp → Prop)) : V → Hp → Prop := fun x H1 => IsI x H1 Q
def vR (t : TE) : TO := fun σ H Q => t σ H (oO Q)
section
variable {X : Cx} {e : Expr} {te : TE} {lo hi : Option Expr} {tl th : TO} {pos p2 : Pos}
theorem bB : PO X none q0 := by
  intro pins s σ H Q I h
  rw [evalPart_none]
  exact yn ⟨none, H, I, .none, h⟩
theorem bb (h : PE X e te) : PO X (some e) (vR te) := by
  intro pins s σ H Q I hw
  rw [evalPart_some]
  refine thn (h pins s σ H _ I hw) fun u s1 zq62 => ?_
  obtain ⟨x, H1, I1, r1, q1⟩ := zq62
  obtain ⟨i, rfl, q⟩ := q1
  obtain ⟨t, rfl⟩ := r1
  exact ⟨some i, H1, I1, .int i t, q⟩
def SlR (X : Cx)(r : V → Option Int → Option Int → Hp → VK → Prop) : Prop :=
  ∀ (pins : List (Addr × Obj)) (s : Shared) (σ : St) (H : Hp) (x : V) (v vl vu : Value) (lo hi : Option Int) (sl : Addr) (Q : VK), Inv X pins σ H s → bj x v → s.heap.IsSliceOf sl vl vu .none → IsPart vl lo → IsPart vu hi → r x lo hi H Q →
    ∃ T id, typeLookup (.type T) "__getitem__" = pure (some (.builtin id)) ∧ s.TypeIs v T ∧ wpAny (model X.prog X.w) X.A (getItem v (.ref sl)) (EP X pins σ Q) X.xe s
def tR (r : V → Option Int → Option Int → Hp → VK → Prop)(Q : VK)(x : V)(l : Option Int) : Option Int → Hp → Prop := fun u H3 => r x l u H3 Q
def tT (r : V → Option Int → Option Int → Hp → VK → Prop)(th : TO)(σ : St)(Q : VK)(x : V) : Option Int → Hp → Prop := fun l H2 => th σ H2 (tR r Q x l)
def tU (r : V → Option Int → Option Int → Hp → VK → Prop)(tl : TO)(th : TO)(σ : St)(Q : VK) : V → Hp → Prop := fun x H1 => tl σ H1 (tT r th σ Q x)
def tSl (r : V → Option Int → Option Int → Hp → VK → Prop)(te : TE)(tl th : TO) : TE := fun σ H Q => te σ H (tU r tl th σ Q)
theorem aZ {r : V → Option Int → Option Int → Hp → VK → Prop}(hr : SlR X r)(he : PE X e te)(hl : PO X lo tl)(hu : PO X hi th) : PE X (.Subscript e (.Slice lo hi none p2) pos) (tSl r te tl th) := by
  intro pins s σ H Q I h
  refine Bs (thn (he pins s σ H _ I h) fun v s1 zq63 => ?_)
  obtain ⟨x, H1, I1, r1, q1⟩ := zq63
  refine wpAny_Slice (thn (hl pins s1 σ H1 _ I1 q1) fun vl s2 ⟨l, H2, I2, pl, q2⟩ => thn (hu pins s2 σ H2 _ I2 q2) fun vu s3 zq64 => ?_)
  obtain ⟨u, H3, I3, pu, q3⟩ := zq64
  rw [evalPart_none]
  refine yn ?_
  have I4 : Inv X pins σ H3 { s3 with heap := s3.heap.push { cls := .type "slice", data := .fields #[vl, vu, .none] } } := I3.kept (t' := s3.toks) fun b ob q => x8 _ q
  obtain ⟨T, id, hT, ht, hg⟩ := hr pins { s3 with heap := s3.heap.push { cls := .type "slice", data := .fields #[vl, vu, .none] } } σ H3 x v vl vu l u s3.heap.objs.size Q I4 r1 (Heap.IsSliceOf.new ..) pl pu q3
  show wpAny (model X.prog X.w) X.A (subscriptTail e (.Slice lo hi none p2) v (.ref s3.heap.objs.size)) (EP X pins σ Q) X.xe { s3 with heap := s3.heap.push { cls := .type "slice", data := .fields #[vl, vu, .none] } }
  exact tail_any (ops := [.ref s3.heap.objs.size, v]) ht hT hg (by with_unfolding_all rfl)
def sV (xs : List V)(lo hi : Option Int) : List V := (xs.drop (HT.sIx xs.length 0 lo)).take (HT.sIx xs.length xs.length hi - HT.sIx xs.length 0 lo)
theorem jx (xs : List V)(lo hi : Option Int) : (sV xs lo hi).length≤xs.length := by
  unfold sV
  rw [yy, zj]
  omega
end
def ixN (n : Nat)(i : Int) : Option Nat := if 0≤i then (if i < n then some i.toNat else none) else if -(n : Int)≤i then some (i+n).toNat else none
def atI {α : Type}(xs : List α)(i : Int) : Option α := (ixN xs.length i).bind fun j => xs[j]?
theorem jy {n : Nat}{i : Int}{j : Nat}(h : ixN n i=some j) : seqIndex? i n=some j ∧ j < n ∧ -(n : Int)≤i ∧ i < n := by
  unfold ixN at h
  by_cases h0 : 0≤i
  · rw [if_pos h0] at h
    by_cases h1 : i < n
    · rw [if_pos h1] at h
      have e : i.toNat=j := yh h
      exact ⟨by rw [BY h0 h1, e], by omega, by omega, h1⟩
    · rw [if_neg h1] at h;cases h
  · rw [if_neg h0] at h
    by_cases h1 : -(n : Int)≤i
    · rw [if_pos h1] at h
      have e : (i+n).toNat=j := yh h
      exact ⟨by rw [seqIndex_neg (by omega) h1, e], by omega, h1, by omega⟩
    · rw [if_neg h1] at h;cases h
theorem gs {α : Type}{xs : List α}{i : Int}{v : α}(h : atI xs i=some v) : ∃ j, seqIndex? i xs.length=some j ∧ xs[j]? = some v ∧ j < xs.length ∧ -(xs.length : Int)≤i ∧ i < xs.length := by
  unfold atI at h
  cases e : ixN xs.length i with
  | none => rw [e] at h;cases h
  | some j =>
    rw [e] at h
    obtain ⟨h1, h2, h3, h4⟩ := jy e
    exact ⟨j, h1, h, h2, h3, h4⟩
theorem q9 {α : Type}{xs : List α}{j : Nat}{v : α}(h : xs[j]? = some v) : atI xs (j : Int)=some v := by
  have hj : j < xs.length := (ya.mp h).1
  have e : ixN xs.length (j : Int)=some j := by
    unfold ixN
    rw [if_pos (by omega), if_pos (by omega)];simp
  unfold atI;rw [e];exact h
theorem oP {α : Type}(xs : List α)(v : α) : atI (xs++[v]) (-1)=some v := by
  have hl : (xs++[v]).length=xs.length+1 := by simp
  have e : ixN (xs++[v]).length (-1)=some xs.length := by
    unfold ixN
    rw [hl, if_neg (by decide), if_pos (by omega)]
    congr 1
    omega
  unfold atI
  rw [e]
  show (xs++[v])[xs.length]? = some v
  simp
def gu (b : Expr) : Prop := ∀ o i, subscripted b false o i=operate [o, i] (getItem o i)
def IxR (X : Cx)(r : R2) : Prop :=
  ∀ (value slice : Expr) (pins : List (Addr × Obj)) (s : Shared) (σ : St) (H : Hp) (x y : V) (v u : Value) (Q : VK), Inv X pins σ H s → bj x v → bj y u → r x y H Q →
    subscripted slice false v u=operate [v, u] (getItem v u) → wpAny (model X.prog X.w) X.A (subscriptTail value slice v u) (EP X pins σ Q) X.xe s
def MtR (X : Cx)(id : String)(r : V → List V → Hp → VK → Prop) : Prop :=
  ∀ (pins : List (Addr × Obj)) (s : Shared) (σ : St) (H : Hp) (x : V) (xs : List V) (v : Value) (us : List Value) (Q : VK), Inv X pins σ H s → bj x v → aW xs us → r x xs H Q →
    wpAny (model X.prog X.w) X.A (call (.builtin id) (v::us)) (EP X pins σ Q) X.xe s
section
variable {X : Cx} {a b : Expr} {ta tb : TE} {pos : Pos}
theorem bc {r : R2}(hr : IxR X r)(ha : PE X a ta)(hb : PE X b tb)(hs : gu b) : PE X (.Subscript a b pos) (tOp r ta tb) := by
  intro pins s σ H Q I h
  exact Bs (vM ha hb I h fun v u s2 x y H2 I2 rx ry q => hr a b pins s2 σ H2 x y v u Q I2 rx ry q (hs _ _))
inductive wW (K : PySem.W.Frag)(x : V)(y : V)(H : Hp)(Q : VK) : Prop
  | mk : ∀ p xs i v, (x = .ref p) → (y = .int i) → (SqL K H p xs) → (atI xs i=some v) → (Q v H) → wW K x y H Q
inductive wX (K : PySem.W.Frag)(x : V)(y : V)(H : Hp)(Q : VK) : Prop
  | mk : ∀ p xs i v, (x = .ref p) → (y = .int i) → (SqT K H p xs) → (atI xs i=some v) → (Q v H) → wX K x y H Q
inductive wY (x : V)(y : V)(H : Hp)(Q : VK) : Prop
  | mk : ∀ z i c, (x = .str z) → (y = .int i) → (z.length≤sizeLine) → (atI z.cps.toList i=some c) → (Q (.str ⟨#[c]⟩) H) → wY x y H Q
theorem eZ : IxR X (wW X.K) := by
  intro value slice pins s σ H x y v u Q I rx ry h hs
  obtain ⟨p, xs, i, z, rfl, rfl, hq, he, q⟩ := h
  cases rx
  obtain ⟨t, rfl⟩ := ry
  obtain ⟨its, r, pl, hz⟩ := I.list hq
  obtain ⟨j, h1, h2, h3, h4, h5⟩ := gs he
  obtain ⟨w, ew, rw'⟩ := r.get h2
  have hl := r.length
  have hn := dy
  have fin : EP X pins σ Q w s := ⟨z, H, I, rw', q⟩
  by_cases h0 : 0≤i
  · have hj : i.toNat=j := by
      rw [BY h0 h5] at h1
      exact yh h1
    exact item_listR pl.isList h0 (by omega) (by rw [hj];simpa using ew) fin hs
  · have hj : (i+(its.toArray.size : Int)).toNat=j := by
      rw [seqIndex_neg (by omega) h4] at h1
      rw [yg, ← hl]
      exact yh h1
    exact Al (x := w) pl.isList.typeIs slot_list_getitem.lookup
      (wpAny_getItem_list_neg (Q := fun r s' => r=w ∧ EP X pins σ Q r s') pl.isList (by omega) (by rw [yg] <;> omega) (by omega) (by rw [hj];simpa using ew) ⟨rfl, fin⟩) hs
theorem cY : IxR X (wX X.K) := by
  intro value slice pins s σ H x y v u Q I rx ry h hs
  obtain ⟨p, xs, i, z, rfl, rfl, hq, he, q⟩ := h
  cases rx
  obtain ⟨t, rfl⟩ := ry
  obtain ⟨its, r, pl, hz⟩ := I.tuple hq
  obtain ⟨j, h1, h2, h3, h4, h5⟩ := gs he
  obtain ⟨w, ew, rw'⟩ := r.get h2
  have hl := r.length
  have hn := dy
  have fin : EP X pins σ Q w s := ⟨z, H, I, rw', q⟩
  exact Al (x := w) pl.typeIs slot_tuple_getitem.lookup
    (getItem_tuple (j := j) (Q := fun r s' => r=w ∧ EP X pins σ Q r s') pl (by omega) (by omega) (by rw [yg, ← hl];exact h1) (by simpa using ew) ⟨rfl, fin⟩) hs
theorem br : IxR X wY := by
  intro value slice pins s σ H x y v u Q I rx ry h hs
  obtain ⟨z, i, c, rfl, rfl, hz, he, q⟩ := h
  obtain ⟨t, rfl⟩ := rx
  obtain ⟨t', rfl⟩ := ry
  obtain ⟨j, h1, h2, h3, h4, h5⟩ := gs he
  have hl : z.cps.toList.length=z.length := by simp [Str.length]
  rw [hl] at h1 h4 h5
  have hn := dy
  exact tail_any (zZ s z t) slot_str_getitem.lookup (getItem_str (c := c) (by
    have e1 : decide (i < -(2 ^ 63 : Int))=false := yr (by omega)
    have e2 : decide (i≥2 ^ 63)=false := yr (by omega)
    rw [e1, e2, BZ]) (by rw [h1];simpa using h2) ⟨.str ⟨#[c]⟩, H, I.tok _, ⟨_, rfl⟩, q⟩) hs
theorem kO (its : List Value)(n j : Nat)(u : Value) : Obj.mapSeq (·.setIfInBounds j u) { cls := .type "list", data := .seq its.toArray n }={ cls := .type "list", data := .seq (its.set j u).toArray n } := by
  simp [Obj.mapSeq]
theorem Inv.lst {pins : List (Addr × Obj)}{σ : St}{H : Hp}{s : Shared}{p : Addr}{xs : List V}(I : Inv X pins σ H s)(h : H p=some (.lst xs)) :
    ∃ (its : List Value) (n : Nat), aW xs its ∧ s.heap.get? p=some { cls := .type "list", data := .seq its.toArray n } ∧ xs.length≤sizeLine := by
  obtain ⟨z, its, n, r, e⟩ := I.hok p _ h
  exact ⟨its, n, r, e, z⟩
theorem Inv.lstUpd {pins : List (Addr × Obj)}{σ : St}{H : Hp}{s : Shared}{p : Addr}{xs ys : List V}{its its' : List Value}{n n' : Nat}{f : Obj → Obj}(I : Inv X pins σ H s)(h : H p=some (.lst xs))
    (ho : s.heap.get? p=some { cls := .type "list", data := .seq its.toArray n }) (hf : f { cls := .type "list", data := .seq its.toArray n }={ cls := .type "list", data := .seq its'.toArray n' }) (r : aW ys its') (hz : ys.length≤sizeLine) (t : Nat) :
    Inv X pins σ (upd H p (.lst ys)) { s with heap := s.heap.update p f, toks := t } := by
  have e : (s.heap.update p f).get? p=some { cls := .type "list", data := .seq its'.toArray n' } := by
    rw [zA f ho (by rw [hf] <;> rfl), hf]
  refine I.write (x := p) (e := p) (by rw [h];trivial) (.inl rfl) (fun b u hb q => (yY _ _ (Ne.symm hb)).trans q) ⟨_, e⟩ ?_
  exact ⟨hz, its', n', r, e⟩
inductive tV (o : V)(i : V)(v : V)(H : Hp)(Q : (Hp → Prop)) : Prop
  | mk : ∀ p xs k j, (o = .ref p) → (i = .int k) → (H p=some (.lst xs)) → (ixN xs.length k=some j) → (Q (upd H p (.lst (xs.set j v)))) → tV o i v H Q
theorem oQ : wQ X tV := by
  intro pins s σ H o i v ov iv u Q I ro ri rv h
  obtain ⟨p, xs, k, j, rfl, rfl, hp, hj, q⟩ := h
  cases ro
  obtain ⟨t, rfl⟩ := ri
  obtain ⟨its, n, r, ho, hz⟩ := I.lst hp
  obtain ⟨h1, h2, h3, h4⟩ := jy hj
  have hl := r.length
  have hn := dy
  have I' : Inv X pins σ (upd H p (.lst (xs.set j v))) { s with heap := s.heap.update p (Obj.mapSeq (·.setIfInBounds j u)) } :=
    I.lstUpd hp ho (kO its n j u) (r.set rv j) (by rw [List.length_set];exact hz) s.toks
  by_cases h0 : 0≤k
  · have hk : k.toNat=j := by
      rw [BY h0 h4] at h1
      exact yh h1
    exact PySem.W.ki_setAt ho h0 (by omega) (by rw [yg, ← hl];exact h4) (by rw [hk];exact ⟨_, I', q⟩)
  · have hk : (k+(its.toArray.size : Int)).toNat=j := by
      rw [seqIndex_neg (by omega) h3] at h1
      rw [yg, ← hl]
      exact yh h1
    exact PySem.W.ki_setBack ho (by omega) (by rw [yg, ← hl];exact h3) (by omega) (by rw [hk];exact ⟨_, I', q⟩)
theorem h_ (lo hi : Option Int)(n : Nat) : (sliceBounds lo hi none n).1=((HT.sIx n 0 lo : Nat) : Int) ∧ (sliceBounds lo hi none n).2.1=((HT.sIx n n hi : Nat) : Int) ∧ (sliceBounds lo hi none n).2.2=1 := by
  refine ⟨?_, ?_, rfl⟩
  · cases lo with
    | none => simp [sliceBounds, HT.sIx]
    | some i =>
      simp only [sliceBounds, HT.sIx, Option.getD_none, show (1 : Int) > 0 by decide, Bz]
      by_cases h : i < 0
      · simp only [h, Bz] <;> omega
      · simp only [h, if_false] <;> omega
  · cases hi with
    | none => simp [sliceBounds, HT.sIx]
    | some i =>
      simp only [sliceBounds, HT.sIx, Option.getD_none, show (1 : Int) > 0 by decide, Bz]
      by_cases h : i < 0
      · simp only [h, Bz] <;> omega
      · simp only [h, if_false] <;> omega
theorem gv (its : List Value)(lo hi : Option Int) : slicePick its.toArray lo hi none=((its.drop (HT.sIx its.length 0 lo)).take (HT.sIx its.length its.length hi - HT.sIx its.length 0 lo)).toArray := by
  obtain ⟨h1, h2, h3⟩ := h_ lo hi its.toArray.size
  unfold slicePick
  rw [h1, h2, h3]
  simp only [sliceRange_one, pick_run, yg] <;> rfl
inductive wZ (K : PySem.W.Frag)(x : V)(lo : Option Int)(hi : Option Int)(H : Hp)(Q : VK) : Prop
  | mk : ∀ a xs, (x = .ref a) → (SqL K H a xs) → (∀ p, H p=none → Q (.ref p) (upd H p (.lst (sV xs lo hi)))) → wZ K x lo hi H Q
theorem q_ : SlR X (wZ X.K) := by
  intro pins s σ H x v vl vu lo hi sl Q I rx hs pl pu h
  obtain ⟨a, xs, rfl, hx, q⟩ := h
  cases rx
  obtain ⟨its, r, ht, hz⟩ := I.list hx
  have hlen := r.length
  refine ⟨"list", _, slot_list_getitem.lookup, ht.isList.typeIs, ?_⟩
  refine wpAny_getItem_list_slice ht.isList hs pl pu .none (by simp) ?_ (by rw [yg] <;> omega)
  rw [gv, ← hlen]
  refine ⟨.ref s.heap.objs.size, _, I.laid (t' := s.toks) (o := .lst (sV xs lo hi)) (fun b ob q => x8 _ q) (yb _) ?_, rfl, q _ (I.hok.fresh (yb _))⟩
  exact ⟨yV (jx xs lo hi) hz, _, 0, (r.drop (HT.sIx xs.length 0 lo)).take (HT.sIx xs.length xs.length hi - HT.sIx xs.length 0 lo), yk _ rfl⟩
inductive cZ (K : PySem.W.Frag)(xs : List V)(H : Hp)(Q : VK) : Prop
  | mk : ∀ p ys, (xs=[.ref p]) → ((SqL K H p ys ∨ SqT K H p ys)) → (Q (.int ys.length) H) → cZ K xs H Q
theorem aX : dw X (.builtin "len") (cZ X.K) := by
  intro pins s σ H xs us Q I r h
  obtain ⟨p, ys, rfl, hq, q⟩ := h
  obtain ⟨u, rfl, rx⟩ := cV r
  cases rx
  have hn := dy
  rcases hq with hq | hq
  · obtain ⟨its, r', pl, hz⟩ := I.list hq
    have hlen := r'.length
    exact Calls.call_len_list pl.isList (by simp only [yg] <;> omega) ⟨.int ys.length, H, I.tok _, ⟨s.toks+1, by rw [yg, hlen]⟩, q⟩
  · obtain ⟨its, r', pl, hz⟩ := I.tuple hq
    have hlen := r'.length
    exact len_tuple pl (by simp only [yg] <;> omega) ⟨.int ys.length, H, I.tok _, ⟨s.toks+1, by rw [yg, hlen]⟩, q⟩
inductive c_  (xs : List V)(H : Hp)(Q : VK) : Prop
  | mk : ∀ z, (xs=[.str z]) → (z.length≤sizeLine) → (Q (.int z.length) H) → c_ xs H Q
theorem ao : dw X (.builtin "len") c_ := by
  intro pins s σ H xs us Q I r h
  obtain ⟨z, rfl, hz, q⟩ := h
  obtain ⟨u, rfl, t, rfl⟩ := cV r
  have hn := dy
  exact len_str (by omega) ⟨.int z.length, H, I.tok _, ⟨_, rfl⟩, q⟩
inductive de (K : PySem.W.Frag)(xs : List V)(H : Hp)(Q : VK) : Prop
  | mk : ∀ p ys, (xs=[.ref p]) → ((SqL K H p ys ∨ SqT K H p ys)) → (∀ l, H l=none → Q (.ref l) (upd H l (.lst ys))) → de K xs H Q
theorem ia : dw X (.type "list") (de X.K) := by
  intro pins s σ H xs us Q I r h
  obtain ⟨p, ys, rfl, hq, q⟩ := h
  obtain ⟨u, rfl, rx⟩ := cV r
  cases rx
  have fin : ∀ (its : List Value), aW ys its → ys.length≤sizeLine → ∀ (h' : Heap) (c' : Nat), (∀ b o', s.heap.get? b=some o' → h'.get? b=some o') →
      h'.get? s.heap.objs.size=some { cls := .type "list", dict := none, data := .seq its.toArray c', slots := #[] } → EP X pins σ Q (.ref s.heap.objs.size) { s with heap := h' } := fun its r' hz h' c' kp e =>
    ⟨.ref s.heap.objs.size, _, I.laid (t' := s.toks) kp (yb _) (show bN X.prog X.w _ h' _ (.lst ys) from ⟨hz, its, c', r', e⟩), rfl, q _ (I.hok.fresh (yb _))⟩
  rcases hq with hq | hq
  · obtain ⟨its, r', pl, hz⟩ := I.list hq
    have hlen := r'.length
    obtain ⟨o, ho, hc, n, hd⟩ := pl.isList
    exact call_list_seq p (.inl rfl) ho hc hd (fun h' c' kp e => fin its r' hz h' c' kp e) (by simp only [yg] <;> omega)
  · obtain ⟨its, r', pl, hz⟩ := I.tuple hq
    have hlen := r'.length
    obtain ⟨o, ho, hc, n, hd⟩ := pl
    exact call_list_seq p (.inr rfl) ho hc hd (fun h' c' kp e => fin its r' hz h' c' kp e) (by simp only [yg] <;> omega)
inductive cB (K : PySem.W.Frag)(xs : List V)(H : Hp)(Q : VK) : Prop
  | mk : ∀ p ys, (xs=[.ref p]) → (((SqL K H p ys ∧ ∀ l, H l=none → Q (.ref l) (upd H l (.tup ys))) ∨ (SqT K H p ys ∧ Q (.ref p) H))) → cB K xs H Q
theorem bI : dw X (.type "tuple") (cB X.K) := by
  intro pins s σ H xs us Q I r h
  obtain ⟨p, ys, rfl, h⟩ := h
  obtain ⟨u, rfl, rx⟩ := cV r
  cases rx
  rcases h with ⟨hq, q⟩ | ⟨hq, q⟩
  · obtain ⟨its, r', pl, hz⟩ := I.list hq
    have hlen := r'.length
    refine call_tuple_list pl.isList (fun h' kp => ?_) (by simp only [yg] <;> omega)
    have I1 : Inv X pins σ H { s with heap := h' } := I.kept (t' := s.toks) kp
    have I2 : Inv X pins σ (upd H h'.objs.size (.tup ys)) { s with heap := h'.push { cls := .type "tuple", data := .seq its.toArray } } :=
      I1.laid (t' := s.toks) (fun b o e => x8 _ e) (yb _) (show bN X.prog X.w _ _ _ (.tup ys) from ⟨hz, its, r', IsTup.new _ _, .new _ _ rfl⟩)
    exact ⟨.ref h'.objs.size, _, I2, rfl, q _ (I1.hok.fresh (yb _))⟩
  · obtain ⟨its, r', pl, hz⟩ := I.tuple hq
    exact call_tuple_same pl ⟨.ref p, H, I, rfl, q⟩
def tyV (K : PySem.W.Frag)(T : String)(x : V)(H : Hp) : Prop := match x with
  | .str _ => T = "str"
  | .int _ => T = "int"
  | .ref p => (T = "list" ∧ ∃ xs, SqL K H p xs) ∨ (T = "tuple" ∧ ((∃ o, K.lookup p=some o ∧ o.cls = .type "tuple" ∧ o.dict=none) ∨ ∃ xs, H p=some (.tup xs))) ∨
      (T = "dict" ∧ ((∃ kvs, H p=some (.dK kvs)) ∨ ∃ kvs, H p=some (.dT kvs))) ∨ (T = "set" ∧ ∃ S n, H p=some (.set S n))
  | _ => False
theorem qm {pins : List (Addr × Obj)}{σ : St}{H : Hp}{s : Shared}{T : String}{x : V}{v : Value}(I : Inv X pins σ H s)(r : bj x v)(ty : tyV X.K T x H) :
    s.TypeIs v T ∧ ∀ a, v = .ref a → ∃ ob, s.heap.get? a=some ob ∧ ob.dict=none := by
  cases x with
  | str z =>
    obtain ⟨t, rfl⟩ := r
    cases (show T = "str" from ty)
    exact ⟨zZ s z t, fun _ e => nomatch e⟩
  | int i =>
    obtain ⟨t, rfl⟩ := r
    cases (show T = "int" from ty)
    exact ⟨typeIs_int s i t, fun _ e => nomatch e⟩
  | ref p =>
    cases r
    rcases ty with ⟨rfl, xs, hq⟩ | ⟨rfl, ⟨o, hk, hc, hd⟩ | ⟨xs, hk⟩⟩ | ⟨rfl, hk⟩ | ⟨rfl, S, n, hk⟩
    · obtain ⟨its, _, pl, _⟩ := I.list hq
      refine ⟨pl.isList.typeIs, fun a e => ?_⟩
      cases e
      obtain ⟨o, n, e, c, hd, _⟩ := pl
      exact ⟨o, e, hd⟩
    · refine ⟨⟨o, I.kIn p o hk, hc⟩, fun a e => ?_⟩
      cases e
      exact ⟨o, I.kIn _ o hk, hd⟩
    · obtain ⟨_, _, _, ⟨o, e, hc, _⟩, hn⟩ := I.hok p _ hk
      refine ⟨⟨o, e, hc⟩, fun a e => ?_⟩
      cases e
      exact hn
    · have z : ∃ o, s.heap.get? p=some o ∧ o.ExactDict := by
        rcases hk with ⟨kvs, hk⟩ | ⟨kvs, hk⟩
        · obtain ⟨_, _, _, _, o, _, _, e, ex, _⟩ := I.hok p _ hk
          exact ⟨o, e, ex⟩
        · obtain ⟨_, _, _, _, o, _, _, e, ex, _⟩ := I.hok p _ hk
          exact ⟨o, e, ex⟩
      obtain ⟨o, e, ex⟩ := z
      refine ⟨⟨o, e, ex.1⟩, fun a e2 => ?_⟩
      cases e2
      exact ⟨o, e, ex.2.1⟩
    · obtain ⟨o, _, _, _, e, ex, _⟩ := I.hok p _ hk
      refine ⟨⟨o, e, ex.1⟩, fun a e2 => ?_⟩
      cases e2
      exact ⟨o, e, ex.2.1⟩
  | _ => exact False.elim ty
def rf (K : PySem.W.Frag)(T : String)(r : V → List V → Hp → VK → Prop)(Q : VK) : V → Hp → Prop := fun x H1 => tyV K T x H1 ∧ r x [] H1 Q
def xD (K : PySem.W.Frag)(T : String)(r : V → List V → Hp → VK → Prop)(to : TE) : TE := fun σ H Q => to σ H (rf K T r Q)
def tW (r : V → List V → Hp → VK → Prop)(Q : VK)(x : V) : List V → Hp → Prop := fun xs H2 => r x xs H2 Q
def tX (K : PySem.W.Frag)(T : String)(r : V → List V → Hp → VK → Prop)(t : TA)(σ : St)(Q : VK) : V → Hp → Prop := fun x H1 => tyV K T x H1 ∧ t σ H1 (tW r Q x)
def tBM (K : PySem.W.Frag)(T : String)(r : V → List V → Hp → VK → Prop)(to : TE)(t : TA) : TE := fun σ H Q => to σ H (tX K T r t σ Q)
variable {o e : Expr} {es : List Expr} {to : TE} {t : TA} {name : Str} {apos cpos : Pos} {T id : String} {r : V → List V → Hp → VK → Prop}
theorem ib (pa : PlainAttrs T)(slot : Slot T name id)(hty : typeOf (.builtin id)=pure (.type "method_descriptor"))(hm : MtR X id r)(ho : PE X o to)
    (hbase : attributeBase o name X.env (eval o X.env)=eval o X.env := by rfl) (hline : (apos.endLine == cpos.line)=true := by rfl) : PE X (.Call (.Attribute o name apos) [] [] cpos) (xD X.K T r to) := by
  intro pins s σ H Q I h
  refine wpAny_Call_method0_late hbase hline (thn (ho pins s σ H _ I h) fun v s1 zq65 => ?_)
  obtain ⟨x, H1, I1, r1, ty, q1⟩ := zq65
  obtain ⟨h1, h2⟩ := qm I1 r1 ty
  exact ⟨T, id, pa, slot, hty, h1, h2, Am rfl (PySem.evalArgs_none (hm pins s1 σ H1 x [] v [] Q I1 r1 .nil q1))⟩
theorem dY (pa : PlainAttrs T)(slot : Slot T name id)(hty : typeOf (.builtin id)=pure (.type "method_descriptor"))(hm : MtR X id r)(ho : PE X o to)(ha : PA X (e::es) t)
    (hbase : attributeBase o name X.env (eval o X.env)=eval o X.env := by rfl)
    (hfew : ((backTo cpos (starEach (e::es) X.env)).all (fun x => !x.1) && (backToKw cpos (keywordEach [] X.env)).all (fun x => x.1.isSome)
      && decide ((e::es).length+([] : List Keyword).length+(if ([] : List Keyword).isEmpty then 0 else 1) < 30))=true := by rfl)
    (hline : (apos.endLine == cpos.line)=true := by rfl) (hs : starEach (e::es) X.env=(false, eval e X.env)::starEach es X.env := by rfl) (hplain : (backTo cpos (starEach es X.env)).any (·.1)=false := by rfl) :
    PE X (.Call (.Attribute o name apos) (e::es) [] cpos) (tBM X.K T r to t) := by
  intro pins s σ H Q I h
  refine wpAny_Call_method_late hbase hfew hline rfl (thn (ho pins s σ H _ I h) fun v s1 zq66 => ?_)
  obtain ⟨x, H1, I1, r1, ty, q1⟩ := zq66
  obtain ⟨h1, h2⟩ := qm I1 r1 ty
  refine ⟨T, id, pa, slot, hty, h1, h2, ?_⟩
  have hA := ha cpos pins s1 σ H1 _ I1 q1
  rw [hs] at hA ⊢
  refine Am (by show (false || (backTo cpos (starEach es X.env)).any (·.1))=false;rw [hplain] <;> rfl) (Calls.evalArgs_plain ?_)
  exact thn hA fun us s2 zq67 => (by obtain ⟨vs, H2, I2, r2, q2⟩ := zq67;exact hm pins s2 σ H2 x vs v us Q I2 r1 r2 q2)
/- xs.append(e), list.index on a module's tuple .. are MtR facts of 06m -/
end
def MtM (X : Cx)(id : String)(r : V → List V → Hp → VK → Prop) : Prop :=
  ∀ (pins : List (Addr × Obj)) (s : Shared) (σ : St) (H : Hp) (x : V) (xs : List V) (v : Value) (us : List Value) (Q : VK), Inv X pins σ H s → bj x v → aW xs us → r x xs H Q →
    wpAny (model X.prog X.w) X.A (call (.builtin id) (v::us)) (EP X pins σ Q) X.xe s
theorem aW.one : ∀ {x : V} {us : List Value}, aW [x] us → ∃ u, us=[u] ∧ bj x u
  | _, _, .cons r .nil => ⟨_, rfl, r⟩
theorem aW.zero : ∀ {us : List Value}, aW [] us → us=[]
  | _, .nil => rfl
theorem aW.dropLast {xs : List V}{us : List Value}(h : aW xs us) : aW xs.dropLast us.dropLast := by
  induction h with
  | nil => exact .nil
  | cons r t ih =>
    cases t with
    | nil => exact .nil
    | cons q t' => exact .cons r ih
theorem aW.eraseIdx : ∀ {xs : List V} {us : List Value} (i : Nat), aW xs us → aW (xs.eraseIdx i) (us.eraseIdx i)
  | _, _, _, .nil => .nil
  | _, _, 0, .cons _ t => t
  | _, _, i+1, .cons r t => .cons r (aW.eraseIdx i t)
theorem aW.rep {xs : List V}{us : List Value}(h : aW xs us) : ∀ k : Nat, aW (List.replicate k xs).flatten (List.replicate k us).flatten
  | 0 => .nil
  | k+1 => by
    rw [zK, zK, yR, yR]
    exact aW.append h (aW.rep h k)
theorem kP {α : Type}(l : List α) : l.eraseIdx (l.length - 1)=l.dropLast := by
  induction l with
  | nil => rfl
  | cons a r ih =>
    cases r with
    | nil => rfl
    | cons b r =>
      have e : (a::b::r).length - 1=((b::r).length - 1)+1 := by
        have h1 : (a::b::r).length=r.length+2 := rfl
        have h2 : (b::r).length=r.length+1 := rfl
        omega
      rw [e, Ah, ih]
      all_goals rfl
theorem ie {α : Type} : ∀ (l : List α) (i : Nat), (l.eraseIdx i).length≤l.length
  | [], _ => yb _
  | _::_, 0 => Aq _
  | _::r, i+1 => Nat.succ_le_succ (ie r i)
theorem ig (its : List Value) : ∀ (k : Nat) (acc : List Value),
    List.foldl (fun x1 x2 => x1++x2) acc.toArray (List.replicate k its.toArray)=(acc++(List.replicate k its).flatten).toArray
  | 0, acc => by simp
  | k+1, acc => by
    have e : acc.toArray++its.toArray=(acc++its).toArray := by simp
    have e2 : (acc++its)++(List.replicate k its).flatten=acc++(List.replicate (k+1) its).flatten := by
      rw [zK, yR, yX]
    rw [← e2, ← ig its k (acc++its), ← e, zK, List.foldl_cons]
section
variable {X : Cx} {pins : List (Addr × Obj)} {σ : St} {H : Hp} {s : Shared} {l b : Addr} {xs ys zs : List V}
theorem Inv.lset {its its' : List Value}{n : Nat}{f : Array Value → Array Value}{t' : Nat}(I : Inv X pins σ H s)(hH : H l=some (.lst xs))
    (e : s.heap.get? l=some { cls := .type "list", data := .seq its.toArray n }) (hf : f its.toArray=its'.toArray) (hv : aW ys its') (hz : ys.length≤sizeLine) :
    Inv X pins σ (upd H l (.lst ys)) { s with heap := s.heap.update l (Obj.mapSeq f), toks := t' } := by
  have q := BC e f
  rw [hf] at q
  refine I.write (x := l) (e := l) (by rw [hH];exact trivial) (.inl rfl) (fun b' u hb hu => (yY s.heap (Obj.mapSeq f) (Ne.symm hb)).trans hu) ⟨_, q⟩ ?_
  exact ⟨hz, its', _, hv, q⟩
theorem Inv.lnew {its : List Value}{t' : Nat}(I : Inv X pins σ H s)(hv : aW ys its)(hz : ys.length≤sizeLine) :
    Inv X pins σ (upd H s.heap.objs.size (.lst ys)) { s with heap := s.heap.push { cls := .type "list", data := .seq its.toArray }, toks := t' } :=
  I.laid (fun _ _ q => x8 _ q) (yb _) ⟨hz, its, 0, hv, yk _ rfl⟩
theorem Inv.fresh (I : Inv X pins σ H s) : H s.heap.objs.size=none := I.hok.fresh (yb _)
theorem Inv.lstM (I : Inv X pins σ H s)(hH : H l=some (.lst xs)) : xs.length≤sizeLine ∧ ∃ (its : List Value) (n : Nat), aW xs its ∧ xs.length=its.length ∧ s.heap.get? l=some { cls := .type "list", data := .seq its.toArray n } := by
  obtain ⟨z, its, n, r, e⟩ := I.hok l _ hH
  exact ⟨z, its, n, r, r.length, e⟩
theorem oR {n : Nat}(h : n≤sizeLine) : Builtin.List.listTooLong n=false := by
  unfold Builtin.List.listTooLong
  exact yr (by omega)
end
section
variable {X : Cx}
inductive mf (x : V)(vs : List V)(H : Hp)(Q : VK) : Prop
  | mk : ∀ l xs y, (x = .ref l) → (vs=[y]) → (H l=some (.lst xs)) → (xs.length < sizeLine) → (Q .non (upd H l (.lst (xs++[y])))) → mf x vs H Q
theorem cC : MtM X "list.append" mf := by
  intro pins s σ H x vs v us Q I rx rv h
  obtain ⟨l, xs, y, rfl, rfl, hH, hz, q⟩ := h
  cases rx
  obtain ⟨u, rfl, ru⟩ := rv.one
  obtain ⟨z, its, n, r, hl, e⟩ := I.lstM hH
  refine AX y0 ⟨_, e, rfl⟩ A4 (AN _ _) (Bu l its.toArray n u (by rw [yg];omega)) ⟨e, ?_⟩
  refine ⟨.non, _, I.lset (its' := its++[u]) hH e (by simp) (r.append (.cons ru .nil)) ?_, rfl, q⟩
  rw [x_, yi]
  omega
inductive w4 (x : V)(vs : List V)(H : Hp)(Q : VK) : Prop
  | mk : ∀ l xs y, (x = .ref l) → (vs=[]) → (H l=some (.lst xs)) → (xs[xs.length - 1]? = some y) → (Q y (upd H l (.lst xs.dropLast))) → w4 x vs H Q
theorem tY : MtM X "list.pop" w4 := by
  intro pins s σ H x vs v us Q I rx rv h
  obtain ⟨l, xs, y, rfl, rfl, hH, hy, q⟩ := h
  cases rx
  have hus := rv.zero
  subst hus
  obtain ⟨z, its, n, r, hl, e⟩ := I.lstM hH
  obtain ⟨u, hu, ru⟩ := r.get hy
  have hy' : its.toArray[its.toArray.size - 1]? = some u := by
    show its.toArray[its.length - 1]? = some u
    rw [← Array.getElem?_toList, ← hl]
    exact hu
  refine AX F.slot_list_pop ⟨_, e, rfl⟩ F.entry_list_pop (F.args_list_pop_1 _) (MeetsSeq.list_pop_last l its.toArray n u hy' (by rw [yg];omega)) ⟨e, ?_⟩
  refine ⟨y, _, I.lset (its' := its.dropLast) hH e ?_ r.dropLast ?_, ru, q⟩
  · show its.toArray.eraseIdxIfInBounds (its.toArray.size - 1)=its.dropLast.toArray
    rw [yg, Ar, kP]
  · rw [List.length_dropLast]
    omega
inductive qo (x : V)(vs : List V)(H : Hp)(Q : VK) : Prop
  | mk : ∀ l xs i k y, (x = .ref l) → (vs=[.int i]) → (H l=some (.lst xs)) → (-(2 ^ 63)≤i) → (i < 2 ^ 63) → (seqIndex? i xs.length=some k) → (xs[k]? = some y) → (Q y (upd H l (.lst (xs.eraseIdx k)))) → qo x vs H Q
theorem oS : MtM X "list.pop" qo := by
  intro pins s σ H x vs v us Q I rx rv h
  obtain ⟨l, xs, i, k, y, rfl, rfl, hH, h1, h2, hk, hy, q⟩ := h
  cases rx
  obtain ⟨u, rfl, ru⟩ := rv.one
  obtain ⟨t, rfl⟩ := ru
  obtain ⟨z, its, n, r, hl, e⟩ := I.lstM hH
  obtain ⟨w, hw, rw'⟩ := r.get hy
  refine AX F.slot_list_pop ⟨_, e, rfl⟩ F.entry_list_pop (F.args_list_pop_2 _ _)
    (MeetsSeq.list_pop_at l its.toArray n i t k w (fitsIndex_both h1 h2) (by rw [yg, ← hl];exact hk) (by rw [← Array.getElem?_toList];exact hw) (by rw [yg];omega)) ⟨e, ?_⟩
  refine ⟨y, _, I.lset (its' := its.eraseIdx k) hH e ?_ (r.eraseIdx k) ?_, rw', q⟩
  · show its.toArray.eraseIdxIfInBounds k=(its.eraseIdx k).toArray
    rw [Ar]
  · have := ie xs k
    omega
inductive w5 (x : V)(y : V)(H : Hp)(Q : VK) : Prop
  | mk : ∀ l b xs zs, (x = .ref l) → (y = .ref b) → (H l=some (.lst xs)) → (H b=some (.lst zs)) → (xs.length+zs.length≤sizeLine) → (∀ p, H p=none → Q (.ref p) (upd H p (.lst (xs++zs)))) → w5 x y H Q
theorem tZ : OpR X (binaryOp .Add) w5 := by
  intro pins s σ H x y v u Q I rx ry h
  obtain ⟨l, b, xs, zs, rfl, rfl, hH, hB, hz, q⟩ := h
  cases rx
  cases ry
  obtain ⟨z, its, n, r, hl, e⟩ := I.lstM hH
  obtain ⟨z2, its2, n2, r2, hl2, e2⟩ := I.lstM hB
  refine PySem.P.add_list e e2 ?_ (by rw [yg, yg];omega)
  have ea : its.toArray++its2.toArray=(its++its2).toArray := by simp
  rw [ea]
  exact ⟨.ref _, _, I.lnew (t' := s.toks) (r.append r2) (by rw [x_];omega), rfl, q _ I.fresh⟩
inductive w6 (x : V)(y : V)(H : Hp)(Q : VK) : Prop
  | mk : ∀ l k xs, (x = .ref l) → (y = .int k) → (H l=some (.lst xs)) → (-(2 ^ 63)≤k) → (k < 2 ^ 63) → (xs.length*k.toNat≤sizeLine) → (∀ p, H p=none → Q (.ref p) (upd H p (.lst (List.replicate k.toNat xs).flatten))) → w6 x y H Q
theorem rg {α : Type}(xs : List α)(k : Nat) : (List.replicate k xs).flatten.length=k*xs.length := by
  induction k with
  | zero => simp
  | succ k ih => rw [zK, yR, x_, ih, B5, Nat.add_comm]
theorem t_ : OpR X (binaryOp .Mult) w6 := by
  intro pins s σ H x y v u Q I rx ry h
  obtain ⟨l, k, xs, rfl, rfl, hH, h1, h2, hz, q⟩ := h
  cases rx
  obtain ⟨t, rfl⟩ := ry
  obtain ⟨z, its, n, r, hl, e⟩ := I.lstM hH
  have hlen : its.toArray.size*k.toNat≤sizeLine := by rw [yg, ← hl];exact hz
  have hcap : ¬ its.toArray.size*k.toNat > (2 ^ 63 - 1) / 8 := by
    have : (sizeLine : Nat)≤(2 ^ 63 - 1) / 8 := by decide
    omega
  have hfit : ¬ (!Builtin.List.listFitsIndex k)=true := by
    rw [fitsIndex_both h1 h2]
    exact yC
  have hlong : ¬ Builtin.List.listTooLong (its.toArray.size*k.toNat)=true := by
    rw [oR hlen]
    exact yC
  have hnew : List.foldl (fun x1 x2 => x1++x2) #[] (List.replicate (if its.toArray.isEmpty=true then 0 else k.toNat) its.toArray)=(List.replicate k.toNat its).flatten.toArray := by
    have f0 : ∀ m : Nat, List.foldl (fun x1 x2 => x1++x2) #[] (List.replicate m its.toArray)=(List.replicate m its).flatten.toArray := fun m => by
      have := ig its m []
      rw [BP] at this
      exact this
    rw [f0]
    cases its with
    | nil => simp
    | cons a r' => rw [if_neg (by simp)]
  refine wpAny_binaryOp_repeat_ref (T := "list") (U := "int") (by decide) ⟨_, e, rfl⟩ (fun s' => typeIs_int s' k t) noFill_list_mul F.fills_int_mul F.slot_int_rmul repeat_list F.slot_int_index.lookup
    (AX F.slot_int_rmul (typeIs_int s k t) F.entry_int_rmul (F.args_int_rmul_2 _ _) (int___rmul___int_list k t l its.toArray n)
      ⟨e, rfl, ⟨_, e, rfl⟩, AX F.slot_list_mul ⟨_, e, rfl⟩ F.entry_list_mul (F.args_list_mul_2 _ _) (AutoListH.list___mul___list_int_3 l its.toArray n k t hfit hcap hlong) ⟨e, ?_⟩⟩)
  rw [hnew]
  exact ⟨.ref _, _, I.lnew (t' := s.toks) (r.rep k.toNat) (by rw [rg, B6];exact hz), rfl, q _ I.fresh⟩
end
section
variable {prog : Program} {w : World} {A : Around} {E : Value → Shared → Prop} {s : Shared}
end
section
variable {X : Cx}
end
section
variable {κ : Type} [DecidableEq κ]
def cN (kvs : List (κ × V))(k : κ) : Option V := (kvs.find? fun kv => decide (kv.1=k)).map (·.2)
def cW (kvs : List (κ × V))(k : κ)(v : V) : List (κ × V) :=
  if (kvs.any fun kv => decide (kv.1=k))=true then kvs.map (fun kv => if kv.1=k then (kv.1, v) else kv) else kvs++[(k, v)]
theorem bx {p : κ × V}{r : List (κ × V)}{k : κ}(e : p.1=k) : cN (p::r) k=some p.2 := by simp [cN, zU, e]
theorem bz {p : κ × V}{r : List (κ × V)}{k : κ}(e : ¬ p.1=k) : cN (p::r) k=cN r k := by simp [cN, zU, e]
theorem cO (k : κ) : ∀ kvs : List (κ × V), (kvs.any fun kv => decide (kv.1=k))=(cN kvs k).isSome
  | [] => rfl
  | p::r => by
    rw [B0]
    by_cases e : p.1=k
    · simp only [bx e, yG e, Bool.true_or, Option.isSome_some]
    · rw [bz e, yr e, Bool.false_or];exact cO k r
theorem j5 (k j : κ)(y : V) : ∀ kvs : List (κ × V), cN (kvs.map fun kv => if kv.1=k then (kv.1, y) else kv) j=(cN kvs j).map fun x => if j=k then y else x
  | [] => rfl
  | p::r => by
    have ih := j5 k j y r
    rw [yM]
    by_cases h : p.1=k
    · rw [if_pos h]
      by_cases e : p.1=j
      · rw [bx (p := (p.1, y)) e, bx e, A5, if_pos (e.symm.trans h)]
      · rw [bz (p := (p.1, y)) e, bz e, ih]
    · rw [if_neg h]
      by_cases e : p.1=j
      · rw [bx (p := p) e, bx e, A5, if_neg (fun z => h (e.trans z))]
      · rw [bz (p := p) e, bz e, ih]
theorem ij (k j : κ)(y : V) : ∀ kvs : List (κ × V), cN kvs k=none → cN (kvs++[(k, y)]) j=if j=k then some y else cN kvs j
  | [], _ => by
    by_cases e : k=j
    · rw [if_pos e.symm];exact bx (p := (k, y)) e
    · rw [if_neg (fun z => e z.symm)];exact bz (p := (k, y)) e
  | p::r, hn => by
    rw [List.cons_append]
    have hk : ¬ p.1=k := fun z => by rw [bx z] at hn;cases hn
    rw [bz hk] at hn
    have ih := ij k j y r hn
    by_cases e : p.1=j
    · rw [bx e, bx e, if_neg (fun z => hk (e.trans z))]
    · rw [bz e, bz e, ih]
theorem j6 (kvs : List (κ × V))(k j : κ)(y : V) : cN (cW kvs k y) j=if j=k then some y else cN kvs j := by
  unfold cW
  by_cases a : (kvs.any fun kv => decide (kv.1=k))=true
  · rw [if_pos a, j5]
    rw [cO] at a
    by_cases e : j=k
    · obtain ⟨x, hx⟩ := Bq.mp a
      rw [if_pos e, e, hx, A5, if_pos rfl]
    · rw [if_neg e]
      cases cN kvs j with
      | none => rfl
      | some x => rw [A5, if_neg e]
  · rw [if_neg a]
    refine ij k j y kvs ?_
    rw [cO] at a
    cases q : cN kvs k with
    | none => rfl
    | some x => rw [q] at a;exact (a rfl).elim
theorem bO (kvs : List (κ × V))(k : κ)(v : V) : (cW kvs k v).length≤kvs.length+1 := by
  unfold cW
  split
  · rw [x9];omega
  · rw [x_, yN, zh];omega
theorem oT {kvs : List (κ × V)}{k : κ}(v : V)(h : cN kvs k=none) : cW kvs k v=kvs++[(k, v)] := by
  unfold cW
  rw [cO, h]
  exact if_neg (by decide)
theorem lJ.isSome_eq {o : Option V}{u : Option Value}(r : lJ o u) : o.isSome=u.isSome := by
  cases o with
  | none => cases u with
    | none => rfl
    | some _ => exact (show False from r).elim
  | some _ => cases u with
    | none => exact (show False from r).elim
    | some _ => rfl
theorem KV.val {kvs : List (κ × V)}{vs : List (κ × Value)}(r : KV kvs vs)(k : κ) : lJ (cN kvs k) (valueAt vs k) := by
  unfold KV at r
  induction r with
  | nil => exact True.intro
  | @cons p q ps qs h t ih =>
    obtain ⟨h1, h2⟩ := h
    by_cases e : p.1=k
    · have e' : q.1=k := h1.symm.trans e
      have b : valueAt (q::qs) k=some q.2 := by simp [valueAt, zU, e']
      rw [bx e, b];exact h2
    · have e' : ¬ q.1=k := fun z => e (h1.trans z)
      have b : valueAt (q::qs) k=valueAt qs k := by simp [valueAt, zU, e']
      rw [bz e, b];exact ih
theorem KV.any {kvs : List (κ × V)}{vs : List (κ × Value)}(r : KV kvs vs)(k : κ) : (kvs.any fun kv => decide (kv.1=k))=vs.any fun kv => decide (kv.1=k) := by
  unfold KV at r
  induction r with
  | nil => rfl
  | cons h t ih => rw [B0, B0, ih, h.1]
theorem KV.repl {kvs : List (κ × V)}{vs : List (κ × Value)}(r : KV kvs vs)(k : κ){y : V}{u : Value}(ry : bj y u) :
    KV (kvs.map fun kv => if kv.1=k then (kv.1, y) else kv) (vs.map fun kv => if kv.1=k then (kv.1, u) else kv) := by
  unfold KV at r ⊢
  induction r with
  | nil => exact .nil
  | @cons p q ps qs h t ih =>
    rw [yM, yM]
    refine .cons ?_ ih
    obtain ⟨h1, h2⟩ := h
    by_cases e : p.1=k
    · rw [if_pos e, if_pos (h1.symm.trans e)];exact ⟨h1, ry⟩
    · rw [if_neg e, if_neg (fun z => e (h1.trans z))];exact ⟨h1, h2⟩
theorem KV.put {kvs : List (κ × V)}{vs : List (κ × Value)}(r : KV kvs vs)(k : κ){y : V}{u : Value}(ry : bj y u) : KV (cW kvs k y) (stored vs k u) := by
  unfold cW stored
  rw [r.any k]
  by_cases e : (vs.any fun kv => decide (kv.1=k))=true
  · rw [if_pos e, if_pos e];exact r.repl k ry
  · rw [if_neg e, if_neg e];exact Paired.snoc r ⟨rfl, ry⟩
theorem KV.length {kvs : List (κ × V)}{vs : List (κ × Value)}(r : KV kvs vs) : kvs.length=vs.length := By r
end
theorem mh {P : Program}{w : World}{k : Key}{u : Value}(r : bj (kV k) u) : (bh P w).is k u=true := by
  cases k with
  | inl i => obtain ⟨t, e⟩ := (show ∃ t, u=Value.int i t from r);subst e;exact jq P w i t
  | inr x => obtain ⟨t, e⟩ := (show ∃ t, u=Value.str x t from r);subst e;exact jr P w x t
theorem ik {P : Program}{w : World} : ∀ {ks : List Key} {us : List Value}, aW (ks.map kV) us → ItemsAre (bh P w) ks us
  | [], _, r => by rw [BQ] at r;cases r;exact .nil
  | k::ks, _, r => by
    rw [yM] at r
    cases r with
    | cons h t => exact .cons (mh h) (ik t)
abbrev KT (H : Hp) : List (List Key × V) → List (List Key × Addr × Value) → Prop := Paired fun p q => p.1=q.1 ∧ H q.2.1=some (.tup (p.1.map kV)) ∧ bj p.2 q.2.2
theorem KT.val {H : Hp}{kvs : List (List Key × V)}{xs : List (List Key × Addr × Value)}(r : KT H kvs xs)(k : List Key) : lJ (cN kvs k) ((atKey xs k).map (·.2)) := by
  induction r with
  | nil => exact True.intro
  | @cons p q ps qs h t ih =>
    obtain ⟨h1, _, h2⟩ := h
    by_cases e : p.1=k
    · have e' : q.1=k := h1.symm.trans e
      have b : atKey (q::qs) k=some q.2 := by simp [atKey, zU, e']
      rw [bx e, b];exact h2
    · have e' : ¬ q.1=k := fun z => e (h1.trans z)
      have b : atKey (q::qs) k=atKey qs k := by simp [atKey, zU, e']
      rw [bz e, b];exact ih
theorem KT.repl {H : Hp}{kvs : List (List Key × V)}{xs : List (List Key × Addr × Value)}(r : KT H kvs xs)(k : List Key){y : V}{u : Value}(ry : bj y u) :
    KT H (kvs.map fun kv => if kv.1=k then (kv.1, y) else kv) (xs.map (putAt k u)) := by
  induction r with
  | nil => exact .nil
  | @cons p q ps qs h t ih =>
    rw [yM, yM]
    refine .cons ?_ ih
    obtain ⟨h1, h2, h3⟩ := h
    unfold putAt
    by_cases e : p.1=k
    · rw [if_pos e, if_pos (h1.symm.trans e)];exact ⟨h1, h2, ry⟩
    · rw [if_neg e, if_neg (fun z => e (h1.trans z))];exact ⟨h1, h2, h3⟩
theorem KT.put {H : Hp}{kvs : List (List Key × V)}{xs : List (List Key × Addr × Value)}(r : KT H kvs xs)(k : List Key){b : Addr}{y : V}{u : Value}(hb : H b=some (.tup (k.map kV)))(ry : bj y u) :
    KT H (cW kvs k y) (storedH xs k b u) := by
  have e : (kvs.any fun kv => decide (kv.1=k))=(atKey xs k).isSome := by
    rw [cO, (r.val k).isSome_eq, Option.isSome_map]
  unfold cW storedH
  rw [e]
  by_cases q : (atKey xs k).isSome=true
  · rw [if_pos q, if_pos q];exact r.repl k ry
  · rw [if_neg q, if_neg q];exact Paired.snoc r ⟨rfl, hb, ry⟩
theorem KT.keeps {H H' : Hp}{kvs : List (List Key × V)}{xs : List (List Key × Addr × Value)}(r : KT H kvs xs)(ht : ∀ b ys, H b=some (.tup ys) → H' b=some (.tup ys)) : KT H' kvs xs :=
  Paired.mapP r fun _ _ z => ⟨z.1, ht _ _ z.2.1, z.2.2⟩
section
variable {P : Program} {w : World} {H : Hp} {h : Heap} {a : Addr}
theorem ua {u : HO}(ok : HOk P w H h)(e : Rd H a u) : bN P w H h a u := e.ok ok
theorem oU {kvs : List (Key × V)}(ok : HOk P w H h)(e : Rd H a (.dK kvs)) : kvs.length≤sizeLine ∧ (a == sysModules)=false ∧ ∃ vs, KV kvs vs ∧ h.DictOf (bh P w) a vs :=
  show bN P w H h a (.dK kvs) from ua ok e
theorem ub {kvs : List (Key × V)}(ok : HOk P w H h)(e : H a=some (.dK kvs)) : kvs.length≤sizeLine ∧ (a == sysModules)=false ∧ ∃ vs, KV kvs vs ∧ h.DictOf (bh P w) a vs := oU ok (.inl e)
theorem j7 {ks : List Key}(ok : HOk P w H h)(e : H a=some (.tup (ks.map kV))) : (tupleKind (bh P w)).is h ks a := by
  obtain ⟨_, its, r, ⟨o, h1, h2, n, h3⟩, _⟩ := (show bN P w H h a (.tup (ks.map kV)) from ok a _ e)
  exact ⟨o, its.toArray, n, h1, h2, h3, by simpa using ik r⟩
theorem oV {kvs : List (List Key × V)}(ok : HOk P w H h)(e : Rd H a (.dT kvs)) : kvs.length≤sizeLine ∧ (a == sysModules)=false ∧
    ∃ xs, KT H kvs xs ∧ h.DictOfH (tupleKind (bh P w)) a xs := by
  obtain ⟨z, y, xs, r, o, es, ep, h1, h2, h3, h4, h5⟩ := (show bN P w H h a (.dT kvs) from ua ok e)
  refine ⟨z, y, xs, r, o, es, ep, h1, h2, h3, h4, fun x hx => ?_, h5⟩
  have all : ∀ {l : List (List Key × V)} {m : List (List Key × Addr × Value)}, KT H l m → ∀ x∈m, (tupleKind (bh P w)).is h x.1 x.2.1 := by
    intro l m q
    induction q with
    | nil => intro x hx;exact nomatch hx
    | @cons p q ps qs hq t ih =>
      intro x hx
      rcases yB.mp hx with e | hx
      · subst e
        exact j7 ok (by rw [← hq.1];exact hq.2.1)
      · exact ih x hx
  exact all r x hx
theorem vS {kvs : List (List Key × V)}(ok : HOk P w H h)(e : H a=some (.dT kvs)) : kvs.length≤sizeLine ∧ (a == sysModules)=false ∧
    ∃ xs, KT H kvs xs ∧ h.DictOfH (tupleKind (bh P w)) a xs := oV ok (.inl e)
end
def lE (H : Hp)(a : Addr)(y : V)(r : Option V) : Prop :=
  (∃ kvs k, Rd H a (.dK kvs) ∧ y=kV k ∧ r=cN kvs k) ∨ ∃ kvs k b, Rd H a (.dT kvs) ∧ y = .ref b ∧ H b=some (.tup (k.map kV)) ∧ r=cN kvs k
def qp (H : Hp)(a : Addr)(y v : V)(H' : Hp) : Prop :=
  (∃ kvs k, H a=some (.dK kvs) ∧ y=kV k ∧ kvs.length < sizeLine ∧ H'=upd H a (.dK (cW kvs k v))) ∨
  ∃ kvs k b, H a=some (.dT kvs) ∧ y = .ref b ∧ H b=some (.tup (k.map kV)) ∧ kvs.length < sizeLine ∧ H'=upd H a (.dT (cW kvs k v))
theorem lE.k {H : Hp}{a : Addr}{kvs : List (Key × V)}{k : Key}(e : H a=some (.dK kvs)) : lE H a (kV k) (cN kvs k) := .inl ⟨kvs, k, .inl e, rfl, rfl⟩
theorem qp.k {H : Hp}{a : Addr}{kvs : List (Key × V)}{k : Key}{v : V}(e : H a=some (.dK kvs))(hl : kvs.length < sizeLine) : qp H a (kV k) v (upd H a (.dK (cW kvs k v))) := .inl ⟨kvs, k, e, rfl, hl, rfl⟩
section
variable {X : Cx} {pins : List (Addr × Obj)} {σ : St} {H : Hp} {s : Shared} {a : Addr} {y v : V} {u r : Value} {o : Option V} {A : Around} {E : Value → Shared → Prop}
theorem Inv.big (I : Inv X pins σ H s) : sysModules < s.heap.objs.size := by
  have h : mainGlobals < s.heap.objs.size := (I.mod.glob.keeps I.bk).lt
  exact Nat.lt_trans (by decide) h
theorem mi {Q : Value → Shared → Prop}(hu : A.units+1 < cLine)(I : Inv X pins σ H s)(g : lE H a y (some v))(ry : bj y u)(h : ∀ w' s', Inv X pins σ H s' → bj v w' → Q w' s') :
    wpAny (model X.prog X.w) A (getItem (.ref a) u) Q E s := by
  rcases g with ⟨kvs, k, e, ey, l⟩ | ⟨kvs, k, b, e, ey, eb, l⟩
  · subst ey
    obtain ⟨z, hd, vs, rel, dd⟩ := oU I.hok e
    obtain ⟨w', hw, rw'⟩ := lJ.some_of (v := v) (o := valueAt vs k) (by rw [l];exact rel.val k)
    exact wpAny_getItem_of (mh ry) dd.mapOf hw (h w' _ (I.tok _) rw')
  · subst ey
    cases (show u=Value.ref b from ry)
    obtain ⟨z, hd, xs, rel, dd⟩ := oV I.hok e
    obtain ⟨w', hw, rw'⟩ := lJ.some_of (v := v) (o := (atKey xs k).map (·.2)) (by rw [l];exact rel.val k)
    obtain ⟨p, hp, hp2⟩ := Option.map_eq_some_iff.mp hw
    refine wpAny_getItem_heap (Bi hu) (j7 I.hok eb) dd hp ?_
    rw [hp2]
    exact h w' _ (I.tok _) rw'
theorem rh {Q : Value → Shared → Prop}(hu : A.units+1 < cLine)(I : Inv X pins σ H s)(g : lE H a y o)(ry : bj y u)(h : ∀ s', Inv X pins σ H s' → Q (.bool (!o.isSome)) s') :
    wpAny (model X.prog X.w) A (compareOp .NotIn u (.ref a)) Q E s := by
  rcases g with ⟨kvs, k, e, ey, l⟩ | ⟨kvs, k, b, e, ey, eb, l⟩
  · subst ey
    obtain ⟨z, hd, vs, rel, dd⟩ := oU I.hok e
    refine wpAny_notIn_of (mh ry) hd dd.mapOf ?_
    rw [← (rel.val k).isSome_eq, ← l]
    exact h _ (I.tok _)
  · subst ey
    cases (show u=Value.ref b from ry)
    obtain ⟨z, hd, xs, rel, dd⟩ := oV I.hok e
    refine wpAny_notIn_heap (Bi hu) (j7 I.hok eb) hd dd ?_
    have q := (rel.val k).isSome_eq
    rw [Option.isSome_map] at q
    rw [← q, ← l]
    exact h _ (I.tok _)
theorem jz {h' : Heap}{t' : Nat}{ob : HO}(I : Inv X pins σ H s)(mu : Mut (H a))(hs : Heap.SameBut a s.heap h')(he : ∃ q, h'.get? a=some q)(new : bN X.prog X.w (upd H a ob) h' a ob) :
    Inv X pins σ (upd H a ob) { s with heap := h', toks := t' } :=
  I.write (x := a) (e := a) mu (.inl rfl) (fun b q hb z => (hs.2 b hb).trans z) he new
theorem qq {P : Program}{w : World}{H' : Hp}{h' : Heap}{kvs : List (Key × V)}{vs : List (Key × Value)}(z : kvs.length≤sizeLine)(hd : (a == sysModules)=false)(rel : KV kvs vs)(dd : h'.DictOf (bh P w) a vs) :
    bN P w H' h' a (.dK kvs) := ⟨z, hd, vs, rel, dd⟩
theorem mj {H' : Hp}{Q : Unit → Shared → Prop}(hu : A.units+1 < cLine)(I : Inv X pins σ H s)(g : qp H a y v H')(ry : bj y u)(rv : bj v r)(h : ∀ s', Inv X pins σ H' s' → Q () s') :
    wpAny (model X.prog X.w) A (setItem (.ref a) u r) Q E s := by
  rcases g with ⟨kvs, k, e, ey, l, eH⟩ | ⟨kvs, k, b, e, ey, eb, l, eH⟩
  · subst ey eH
    obtain ⟨z, hd, vs, rel, dd⟩ := ub I.hok e
    have hz : vs.length≤sizeLine := by rw [← rel.length];exact z
    have hl : (cW kvs k v).length≤sizeLine := by have := bO kvs k v;omega
    refine wpAny_setItem_pairs (hsz := hz) (mh ry) dd fun h' dd' hs => h _ ?_
    have he : ∃ q, h'.get? a=some q := let ⟨q, _, _, hq, _⟩ := dd';⟨q, hq⟩
    exact jz I (by rw [e];exact True.intro) hs he (qq hl hd (rel.put k rv) dd')
  · subst ey eH
    cases (show u=Value.ref b from ry)
    obtain ⟨z, hd, xs, rel, dd⟩ := vS I.hok e
    have hz : xs.length≤sizeLine := by rw [← By rel];exact z
    have hl : (cW kvs k v).length≤sizeLine := by have := bO kvs k v;omega
    refine wpAny_setItem_heap (hsz := hz) (Bi hu) (j7 I.hok eb) dd fun h' dd' hs => h _ ?_
    obtain ⟨q, es, ep, hq, h2, h3, h4, _, h5⟩ := dd'
    refine jz I (by rw [e];exact True.intro) hs ⟨q, hq⟩ ⟨hl, hd, _, (rel.put k eb rv).keeps fun c ys ec => ?_, q, es, ep, hq, h2, h3, h4, h5⟩
    rw [av (kH ec e (fun z => nomatch z))]
    exact ec
end
section
variable {X : Cx} {pins : List (Addr × Obj)} {σ : St} {H : Hp} {s : Shared} {a : Addr} {kvs : List (Key × V)} {k : Key} {u : Value} {A : Around} {E : Value → Shared → Prop}
end
def w9 (i : Expr) : Prop := ∀ ov iv, subscripted i false ov iv=operate [ov, iv] (getItem ov iv)
theorem rj {prog : Program}{w : World}{A : Around}{E : Value → Shared → Prop}{s : Shared}{env : Env}{value slice : Expr}{pos : Pos}{T id : String}{Q : Value → Shared → Prop}
    (hl : typeLookup (.type T) "__getitem__" = pure (some (.builtin id))) (hs : w9 slice)
    (h : wpAny (model prog w) A (eval value env) (fun o s₁ => wpAny (model prog w) A (eval slice env) (fun i s₂ => s₂.TypeIs o T ∧ wpAny (model prog w) A (getItem o i) Q E s₂) E s₁) E s) :
    wpAny (model prog w) A (eval (.Subscript value slice pos) env) Q E s := by
  refine Bs (zy h (fun o s₁ h₁ => zy h₁ (fun i s₂ h₂ => ?_) fun _ _ x => x) fun _ _ x => x)
  obtain ⟨hT, h₂⟩ := h₂
  unfold subscriptTail
  refine fu ?_
  rw [getitemInPython_of_ne hT.not_modules]
  refine fu (BR hT hl ?_)
  have fin : wpAny (model prog w) A (subscripted slice false o i) (fun r s₃ => wpAny (model prog w) A (letTemporaryGo value o r >>= fun _ => pure r) Q E s₃) E s₂ := by
    rw [hs o i]
    exact wpAny_operating (zy h₂ (fun r s₃ h₃ => fu (wpAny_letTemporaryGo (yn h₃))) fun _ _ x => x)
  first
    | exact yn (fu fin)
    | exact fu (yn (fu fin))
    | exact fu fin
theorem jA {X : Cx}{pins : List (Addr × Obj)}{σ : St}{H : Hp}{s : Shared}{a : Addr}{y : V}{o : Option V}(I : Inv X pins σ H s)(g : lE H a y o) : s.TypeIs (.ref a) "dict" := by
  rcases g with ⟨kvs, k, e, _, _⟩ | ⟨kvs, k, b, e, _, _, _⟩
  · obtain ⟨_, _, vs, _, dd⟩ := oU I.hok e
    exact dd.typeIs
  · obtain ⟨_, _, xs, _, dd⟩ := oV I.hok e
    exact dd.typeIs
def vT (td ty : TE) : TE := fun σ H Q => td σ H fun x H1 => ty σ H1 fun y H2 => ∃ a v, x = .ref a ∧ lE H2 a y (some v) ∧ Q v H2
def ml (ty td : TE) : TE := fun σ H Q => ty σ H fun y H1 => td σ H1 fun x H2 => ∃ a o, x = .ref a ∧ lE H2 a y o ∧ Q (.bl (!o.isSome)) H2
def vU (td ty tv : TE) : TS := fun D σ H => tv σ H fun v H1 => td σ H1 fun x H2 => ty σ H2 fun y H3 => ∃ a H4, x = .ref a ∧ qp H3 a y v H4 ∧ D.nx σ H4
section
variable {X : Cx} {o i e value : Expr} {pos pos' tpos : Pos} {td ty tv : TE}
theorem bP (hu : X.A.units+1 < cLine)(ho : PE X o td)(hi : PE X i ty)(hs : w9 i) : PE X (.Subscript o i pos) (vT td ty) := by
  intro pins s σ H Q I h
  refine rj PySem.F.slot_dict_getitem.lookup hs (thn (ho pins s σ H _ I h) fun u s1 ⟨x, H1, I1, rx, q1⟩ => thn (hi pins s1 σ H1 _ I1 q1) fun iv s2 zq68 => ?_)
  obtain ⟨y, H2, I2, ry, a, v, ex, g, q2⟩ := zq68
  subst ex
  obtain rfl : u=Value.ref a := rx
  exact ⟨jA I2 g, mi hu I2 g ry fun w' s3 I3 rw' => ⟨v, H2, I3, rw', q2⟩⟩
theorem mm (hu : X.A.units+1 < cLine)(hi : PE X i ty)(ho : PE X o td) : PC X .NotIn i o (ml ty td) := by
  intro pins s σ H Q I h
  refine thn (hi pins s σ H _ I h) fun iv s1 ⟨y, H1, I1, ry, q1⟩ => thn (ho pins s1 σ H1 _ I1 q1) fun u s2 zq70 => ?_
  obtain ⟨x, H2, I2, rx, a, ov, ex, g, q2⟩ := zq70
  subst ex
  obtain rfl : u=Value.ref a := rx
  exact rh hu I2 g ry fun s3 I3 => ⟨.bl (!ov.isSome), H2, I3, rfl, q2⟩
theorem cD (hu : X.A.units+1 < cLine)(ho : PE X o td)(hi : PE X i ty)(hv : PE X value tv)(hs : swapsWith value (some (.Subscript o i pos')) pos.line X.env=pure false) :
    PS X (.Assign [.Subscript o i pos'] value pos) (vU td ty tv) := by
  intro pins s σ H D I h
  refine wpAny_Assign_Subscript (thn (hv pins s σ H _ I h) fun r s1 ⟨v, H1, I1, rv, q1⟩ => thn (ho pins s1 σ H1 _ I1 q1) fun u s2 ⟨x, H2, I2, rx, q2⟩ => thn (hi pins s2 σ H2 _ I2 q2) fun iv s3 zq71 => ?_) hs
  obtain ⟨y, H3, I3, ry, a, H4, ex, g, q3⟩ := zq71
  subst ex
  obtain rfl : u=Value.ref a := rx
  exact mj hu I3 g ry rv fun s4 I4 => ⟨σ, H4, I4, q3⟩
end
theorem j8 {P : Program}{w : World}{H : Hp}(h : Heap)(hb : sysModules < h.objs.size) : bN P w H (h.push { cls := .type "dict", data := .dict #[] }) h.objs.size (.dK []) :=
  ⟨zb _, beq_eq_false_iff_ne.mpr (Ne.symm (yH hb)), [], .nil, Heap.DictOf.new h⟩
def uc : TE := fun _ H Q => ∀ p, H p=none → Q (.ref p) (upd H p (.dK []))
section
variable {X : Cx} {pos : Pos}
theorem gw : PE X (.Dict [] [] pos) uc := fun pins s σ H Q I h =>
  wpAny_Dict_empty ⟨.ref s.heap.objs.size, _, I.laid (a := s.heap.objs.size) (o := .dK []) (t' := s.toks) (fun _ _ q => x8 _ q) (yb _) (j8 s.heap I.big), rfl, h _ (I.hok.fresh (yb _))⟩
end
def mn : List (TE × TE) → St → Hp → (List (V × V) → Hp → Prop) → Prop
  | [], _, H, Q => Q [] H
  | (tk, tv)::r, σ, H, Q => tk σ H fun x H1 => tv σ H1 fun y H2 => mn r σ H2 fun ps H3 => Q ((x, y)::ps) H3
abbrev VV : List (V × V) → List (Value × Value) → Prop := Paired fun p q => bj p.1 q.1 ∧ bj p.2 q.2
def PPs (X : Cx)(pos : Pos)(keys : List (Option Expr))(values : List Expr)(trs : List (TE × TE)) : Prop :=
  ∀ (pins : List (Addr × Obj)) (s : Shared) (σ : St) (H : Hp) (Q : List (V × V) → Hp → Prop), Inv X pins σ H s → mn trs σ H Q →
    wpAny (model X.prog X.w) X.A (evalPairs (pairTrees keys values X.env pos)) (fun vs s' => ∃ ps H', Inv X pins σ H' s' ∧ VV ps vs ∧ Q ps H') X.xe s
theorem rl {X : Cx}{pos : Pos} : PPs X pos [] [] [] := fun pins s σ H Q I h => pairTrees_nil_walk ⟨[], H, I, .nil, h⟩
theorem eE {X : Cx}{pos : Pos}{k v : Expr}{ks : List (Option Expr)}{vs : List Expr}{tk tv : TE}{trs : List (TE × TE)}(hk : PE X k tk)(hv : PE X v tv)(hr : PPs X pos ks vs trs) :
    PPs X pos (some k::ks) (v::vs) ((tk, tv)::trs) := fun pins s σ H Q I h =>
  pairTrees_cons_walk (thn (hk pins s σ H _ I h) fun u s1 ⟨x, H1, I1, rx, q1⟩ => thn (hv pins s1 σ H1 _ I1 q1) fun w2 s2 ⟨y, H2, I2, ry, q2⟩ =>
    thn (hr pins s2 σ H2 _ I2 q2) fun ws s3 zq75 => (by obtain ⟨ps, H3, I3, rel, q3⟩ := zq75;exact ⟨(x, y)::ps, H3, I3, .cons ⟨rx, ry⟩ rel, q3⟩))
def e9 (kvs more : List (Key × V)) : List (Key × V) := more.foldl (fun acc kv => cW acc kv.1 kv.2) kvs
theorem KV.merge : ∀ {more : List (Key × V)} {rs : List (Key × Value)} {kvs : List (Key × V)} {vs : List (Key × Value)}, KV more rs → KV kvs vs → KV (e9 kvs more) (merged vs rs) := by
  intro more rs kvs vs r
  unfold KV at r
  induction r generalizing kvs vs with
  | nil => intro q;exact q
  | @cons p q ps qs h t ih =>
    intro r0
    have e : KV (cW kvs p.1 p.2) (stored vs q.1 q.2) := by
      have := r0.put p.1 h.2
      rw [← h.1];exact this
    exact ih e
theorem dD : ∀ (more kvs : List (Key × V)), (e9 kvs more).length≤kvs.length+more.length
  | [], kvs => by show kvs.length≤kvs.length+0;omega
  | p::r, kvs => by
    have h1 := dD r (cW kvs p.1 p.2)
    have h2 := bO kvs p.1 p.2
    show (e9 (cW kvs p.1 p.2) r).length≤_
    rw [yN];omega
theorem fY {P : Program}{w : World} : ∀ {kvs : List (Key × V)} {ws : List (Value × Value)}, VV (kvs.map fun kv => (kV kv.1, kv.2)) ws → ∃ rs, Carries (bh P w) ws rs ∧ KV kvs rs
  | [], _, r => by rw [BQ] at r;cases r;exact ⟨[], True.intro, .nil⟩
  | p::kvs, _, r => by
    rw [yM] at r
    cases r with
    | @cons a b as bs h t =>
      obtain ⟨rs, c, q⟩ := fY (P := P) (w := w) t
      obtain ⟨b1, b2⟩ := b
      exact ⟨(p.1, b2)::rs, ⟨mh h.1, rfl, c⟩, .cons ⟨rfl, h.2⟩ q⟩
def vV (trs : List (TE × TE)) : TE := fun σ H Q => ∀ p, H p=none → mn trs σ (upd H p (.dK [])) fun ps H2 => H2 p=some (.dK []) ∧ ∃ kvs : List (Key × V), ps=kvs.map (fun kv => (kV kv.1, kv.2)) ∧ kvs.length≤15 ∧ Q (.ref p) (upd H2 p (.dK (e9 [] kvs)))
theorem rm {X : Cx}{pos : Pos}{keys : List (Option Expr)}{values : List Expr}{trs : List (TE × TE)}(h : PPs X pos keys values trs)(hall : keys.all (·.isSome)=true)(hl : keys.length=values.length)(h0 : keys≠[])
    (h15 : keys.length≤15) : PE X (.Dict keys values pos) (vV trs) := by
  intro pins s σ H Q I q
  have hn := I.hok.fresh (yb s.heap.objs.size)
  have I1 := I.laid (a := s.heap.objs.size) (o := .dK []) (h' := s.heap.push { cls := .type "dict", data := .dict #[] }) (t' := s.toks) (fun _ _ q => x8 _ q) (yb _) (j8 s.heap I.big)
  refine wpAny_Dict_walk (knd := bh X.prog X.w) hall hl h0 h15 (thn (h pins _ σ _ _ I1 (q _ hn)) fun ws s2 zq76 => ?_)
  obtain ⟨ps, H2, I2, rel, e, kvs, ep, lk, q2⟩ := zq76
  subst ep
  obtain ⟨rs, c, rk⟩ := fY (P := X.prog) (w := X.w) rel
  obtain ⟨z, hd, vs0, r0, dd⟩ := ub I2.hok e
  cases r0
  refine ⟨rs, c, dd, fun h' dd' hs => ⟨.ref s.heap.objs.size, _, ?_, rfl, q2⟩⟩
  have hz : (e9 [] kvs).length≤sizeLine := by
    have h1 := dD kvs []
    rw [zh] at h1
    rw [A3];omega
  have he : ∃ q, h'.get? s.heap.objs.size=some q := let ⟨q, _, _, hq, _⟩ := dd';⟨q, hq⟩
  exact jz I2 (by rw [e];exact True.intro) hs he (qq hz hd (rk.merge .nil) dd')
section
variable {X : Cx} {pins : List (Addr × Obj)} {σ : St} {H : Hp} {s : Shared} {a : Addr} {y d : V} {u r : Value} {o : Option V} {A : Around} {E : Value → Shared → Prop}
end
section
variable {X : Cx} {o e f : Expr} {apos cpos : Pos} {td ty tx : TE}
end
section
variable {X : Cx} {pins : List (Addr × Obj)} {σ : St} {H : Hp} {s : Shared} {a : Addr} {kvs : List (Key × V)} {A : Around} {E : Value → Shared → Prop}
end
section
variable {X : Cx} {pins : List (Addr × Obj)} {σ : St} {H : Hp} {s : Shared} {a : Addr} {y : V} {u : Value} {A : Around} {E : Value → Shared → Prop}
end
end L2
namespace Att
open PySem PySem.W PySem.Calls PyProof.Rows
theorem e_ {P : Params}{h : Heap} : ∀ (ns : List Int) (vs : List Value), WellAll P h vs (ns.map WData.int) → IntsAre vs ns := by
  intro ns
  induction ns with
  | nil =>
    intro vs w
    rw [BQ] at w
    cases w
    exact .nil
  | cons n ns ih =>
    intro vs w
    rw [yM] at w
    cases w with
    | cons a b =>
      cases a
      exact .cons _ _ (ih _ b)
theorem mq {l : OpenLaw}{n : Nat}(hn : l.most=some n){P : Params}{h : Heap}{args : List WData}{vals : List Value}
    (hpre : l.row.toRowW.claim.pre args=true) (hwl : WellAll P h vals args) :
    ∃ a vs ns, vals=[Value.ref a] ∧ args=[WData.list (ns.map WData.int)] ∧ h.get? a=some { cls := .type "list", data := .seq vs.toArray } ∧ IntsAre vs ns ∧ ns.length≤n := by
  have hsh : WShape.hasAll [] args [.list .int]=true := (pre_splitW hpre).1
  have hc : l.pre.holds [] { args := args }=true := (pre_splitW hpre).2
  obtain ⟨d, r, rfl, h1, h2⟩ := hasAllW_cons hsh
  obtain rfl := hasAllW_nil h2
  obtain ⟨xs, rfl, h3⟩ := hasW_list h1
  obtain ⟨ns, rfl⟩ := items_int h3
  have hlen : ns.length≤n := by
    unfold OpenLaw.pre at hc
    have h4 : (WTm.not (.lt (.lit (.int (n : Int))) (.len (.arg 0)))).holds [] { args := [.list (ns.map .int)] }=true := by
      have h4 := (holds_andW hc).1
      rw [hn] at h4
      exact h4
    have h5 := condW_of h4 (w_not (w_lt w_lit (w_len_list (w_arg rfl))))
    rw [x9] at h5
    refine Nat.le_of_not_lt fun q => ?_
    have q' : (n : Int) < ((ns.length : Nat) : Int) := by omega
    first
      | (rw [yG q'] at h5;exact absurd h5 (by decide))
      | (simp at h5;omega)
  cases hwl with
  | cons w1 w2 =>
    cases w2
    cases w1 with
    | list ho hall => exact ⟨_, _, ns, rfl, rfl, ho, e_ ns _ hall, hlen⟩
theorem mr (l : OpenLaw)(args : List WData) : l.row.toRowW.claim.post args (.bool true) args=true :=
  postW_of (r := l.row.toRowW) (X := (true == true))
    (show WShape.has [] (.bool true) .bool=true by first | rfl | decide | simp [WShape.has, WShape.arms, WShape.armsAll])
    (show (WTm.eq .res (.lit (.bool true))).value [] { args := args, res := some (.bool true), after := args }=some (.bool (true == true)) from w_eq_bool (w_res rfl) w_lit) rfl
theorem attach_call {l : OpenLaw}{n : Nat}{q : Program}{loose : List Str}{XP : (Str → Option Value) → Heap → Prop}{YP : World → Heap → Prop}{d : DefRec}
    (hn : l.most=some n) (hdf : d.params.defaults=[])
    (call : ∀ (w : World) (s₀ s₁ : Shared) (mg mb : Str → Option Value) (fa : Addr) (o : Obj) (pm cd doc : Value) (a : Addr) (vs : List Value) (ns : List Int),
      Ground q loose [] XP w s₀ mg mb s₁.heap → YP w s₁.heap →
      s₁.heap.get? fa=some o → o.data = .func (docDef d.name d.params d.body d.scope pm cd doc) → s₁.heap.CodeRec cd d.name → mg d.name=some (.ref fa) →
      s₁.heap.get? a=some { cls := .type "list", data := .seq vs.toArray } → IntsAre vs ns → ns.length≤n → s₁.gens=#[] →
      codeAny (model l.prog w) callerA (.call (.ref fa) ⟨[.ref a], []⟩) (fun r s' => r = .ok (.ret (.bool true)) ∧ OldK s₁.heap s'.heap ∧ s'.os=s₁.os ∧ AllBare s'.gens) s₁) :
    WalkO q loose XP YP l.row.toRowW d [] (fun f vs => PySem.call f vs) := by
  intro w s₀ s₁ mg mb G Y fa o pm cd doc dV kV ho hd hcd hD hmg hg args vals as hpre hlay hrd hwl hlo
  obtain rfl : dV = .none := Dflts.none hD hdf
  obtain rfl : kV = .none := Dflts.noKw hD
  obtain ⟨a, vs, ns, rfl, rfl, hobj, hints, hlen⟩ := mq hn hpre hwl
  refine enter_call (Bg (call w s₀ s₁ mg mb fa o pm cd doc a vs ns G Y ho (fd_plain hd) hcd hmg hobj hints hlen hg) fun r s' hq => ?_)
  obtain ⟨rfl, h2, h3, h4⟩ := hq
  exact ⟨.inl ⟨.bool true, .bool true, [], rfl, fun _ => rfl, .bool true, mr l _, fun _ => ⟨List.Pairwise.nil, fun _ hm => (nomatch hm)⟩⟩, h2, h3, h4⟩
section
variable {prog : Program} {w : World} {A : Around} {E : Value → Shared → Prop} {s : Shared} {K : Frag}
end
end Att
namespace L2
open PySem PySem.Spec PyProof.Rows
theorem il : ∀ {vs : List Value} {ns : List Int}, IntsAre vs ns → aW (ns.map V.int) vs
  | _, _, .nil => .nil
  | _, _, .cons n t h => .cons ⟨t, rfl⟩ (il h)
def vX (H : Hp) : Prop := ∀ b, H b=none ∨ ∃ o xs, H b=some (.frz o (.lst xs))
theorem oW {P : Program}{w : World}{K : PySem.W.Frag}{mg mb : Str → Option Value}{CX : CXT}{k : Nat}{fa a : Addr}{fd : FuncData}{x : Str}{sp : Sp}{s₁ : Shared}{vs : List Value}{ns : List Int}
    (KX : K.In s₁.heap) (hns : s₁.heap.Ns mainGlobals mg) (hb : s₁.heap.Ns builtinsNs mb) (hbb : ∀ x : Str, x ≠ "__name__" → mb x=bootBuiltins x) (hlim : s₁.heap.NoLimit) (hg : s₁.gens=#[])
    (ha : s₁.heap.get? a=some { cls := .type "list", data := .seq vs.toArray }) (hi : IntsAre vs ns) (hl : ns.length≤sizeLine) (hr : fX k callerA)
    (F : ∀ base : Heap, K.In base → base.Ns mainGlobals mg → kM P w K mg base CX k fa fd [x] sp) (hbind : ∀ (s : Shared) (u : Value), BindsTo s fd ⟨[u], []⟩ [(x, u)])
    (hsp : ∀ H : Hp, vX H → SqL K H a (ns.map V.int) → sp [.ref a] H (fun v _ => v = .bl true) fun _ _ _ => False)
    (hCX : ∀ H e s', CX [] H s₁ (fun _ _ _ => False) e s' → False) :
    codeAny (model P w) callerA (.call (.ref fa) ⟨[.ref a], []⟩) (fun r s' => r = .ok (.ret (.bool true)) ∧ OldK s₁.heap s'.heap ∧ s'.os=s₁.os ∧ AllBare s'.gens) s₁ := by
  have rv := il hi
  have lenV := hi.length
  -- from an abstract heap in which nothing but the script may be tracked
  have core : ∀ H : Hp, vX H → SqL K H a (ns.map V.int) → HOk P w H s₁.heap → (∀ b, H b≠none → b=a) → (H a≠none → K.lookup a=none) →
      codeAny (model P w) callerA (.call (.ref fa) ⟨[.ref a], []⟩) (fun r s' => r = .ok (.ret (.bool true)) ∧ OldK s₁.heap s'.heap ∧ s'.os=s₁.os ∧ AllBare s'.gens) s₁ := by
    intro H hO hS hok hA hK
    have base_of : ∀ {b : Addr} {o : Obj}, s₁.heap.get? b=some o → H b=none → (ox s₁.heap H).get? b=some o := fun e n => oy e n
    have noA : ∀ {b : Addr} {o : Obj} {es : Array DictEntry} {ep : Nat}, s₁.heap.get? b=some o → o.data = .dict es ep → H b=none := fun {b o es ep} e d => by
      cases q : H b with
      | none => rfl
      | some u =>
        have e' : b=a := hA b (by rw [q];simp)
        subst e'
        rw [ha] at e;cases e
        have d' : Data.seq vs.toArray _=Data.dict es ep := d
        cases d'
    have nsK : ∀ {b : Addr} {m : Str → Option Value}, s₁.heap.Ns b m → (ox s₁.heap H).Ns b m := fun {b m} ⟨o, es, ep, e, d, r⟩ => ⟨o, es, ep, base_of e (noA e d), d, r⟩
    have hKb : K.In (ox s₁.heap H) := fun b o e => base_of (KX b o e) (by
      cases q : H b with
      | none => rfl
      | some u =>
        have e' : b=a := hA b (by rw [q];simp)
        subst e'
        rw [hK (by rw [q];simp)] at e;cases e)
    have hM : Mod K mg (ox s₁.heap H) := ⟨hKb, nsK hns, ⟨mb, nsK hb, hbb⟩, let ⟨mc, h1, h2⟩ := hlim;⟨mc, nsK h1, h2⟩⟩
    have e0 : vq P w K mg (ox s₁.heap H) callerA [] s₁ H := ⟨rfl, hM, fun b o e => qN e, Nat.le_of_eq (lK _ _), trivial, fun b hb => absurd (show b∈([] : List Addr) from hb) (by simp), hok, .of_eq hg⟩
    refine Bg ((F _ hKb (nsK hns)).run callerA [] s₁ H ⟨[.ref a], []⟩ [.ref a] [.ref a] _ _ hr e0 (hbind s₁ (.ref a)) (.cons rfl .nil) (hsp H hO hS)) fun r s' h => ?_
    cases r with
    | error e => exact (hCX H e s' h).elim
    | ok fl =>
      cases fl with
      | next => exact False.elim h
      | brk => exact False.elim h
      | cont => exact False.elim h
      | ret u =>
        obtain ⟨v, H', os, bare, un, hok', r', q⟩ := h
        have q' : v = .bl true := q
        subst q'
        obtain rfl : u=Value.bool true := r'
        refine ⟨rfl, OldK.of_keep fun b o e => ?_, os, bare⟩
        cases q : H b with
        | none => exact un.keep b o e q (by intro z;exact absurd (show b∈([] : List Addr) from z) (by simp)) (by simp)
        | some u =>
          rcases hO b with z | ⟨ob, xs, z⟩
          · rw [q] at z;cases z
          · have z2 := un.frzs b ob _ z
            obtain ⟨e1, _⟩ := hok b _ z
            obtain ⟨e2, _⟩ := hok' b _ z2
            rw [e] at e1;cases e1
            exact e2
  cases hk : K.lookup a with
  | some o =>
    -- the script is one of the module's own objects
    have e := KX a o hk
    rw [ha] at e
    cases e
    refine core (fun _ => none) (fun _ => .inl rfl) (.inr ⟨_, vs.toArray, _, hk, rfl, rfl, rfl, by rw [yg, lenV];exact hl, by simpa using rv⟩) (fun b u z => by have z' : (none : Option HO)=some u := z;cases z') (fun b z => absurd rfl z) fun z => absurd rfl z
  | none =>
    refine core (fun b => if b=a then some (.frz { cls := .type "list", data := .seq vs.toArray } (.lst (ns.map V.int))) else none) (fun b => ?_) (.inl (.inr ⟨{ cls := .type "list", data := .seq vs.toArray }, if_pos rfl⟩)) (fun b u z => ?_) (fun b z => ?_) fun _ => hk
    · by_cases hb : b=a
      · exact .inr ⟨_, _, if_pos hb⟩
      · exact .inl (if_neg hb)
    · by_cases hb : b=a
      · have z' := (if_pos hb).symm.trans z
        cases z'
        subst hb
        exact ⟨ha, by rw [x9];exact hl, vs, _, rv, ha⟩
      · have z' := (if_neg hb).symm.trans z
        cases z'
    · by_cases hb : b=a
      · exact hb
      · exact absurd (if_neg hb) z
theorem mw {l : PySem.W.OpenLaw}{n k : Nat}{q : Program}{loose : List Str}{XP : (Str → Option Value) → Heap → Prop}{YP : World → Heap → Prop}{d : DefRec}{K : Params → PySem.W.Frag}{CX : World → CXT}{sp : World → Sp}{x : Str}
    (hn : l.most=some n) (hn2 : n≤sizeLine) (hdf : d.params.defaults=[]) (hr : fX k callerA)
    (hY : ∀ (w : World) (h : Heap), YP w h → (K w.params).In h)
    (F : ∀ (w : World) (mg : Str → Option Value) (fa : Addr) (h : Heap), (K w.params).In h → h.Ns mainGlobals mg → mg d.name=some (.ref fa) →
      ∃ fd : FuncData, (∀ (s : Shared) (u : Value), BindsTo s fd ⟨[u], []⟩ [(x, u)]) ∧
        ∀ base : Heap, (K w.params).In base → base.Ns mainGlobals mg → kM l.prog w (K w.params) mg base (CX w) k fa fd [x] (sp w))
    (hsp : ∀ (w : World) (H : Hp) (a : Addr) (ns : List Int), ns.length≤n → vX H → SqL (K w.params) H a (ns.map V.int) → sp w [.ref a] H (fun v _ => v = .bl true) fun _ _ _ => False)
    (hCX : ∀ (w : World) (H : Hp) (s : Shared) (e : Value) (s' : Shared), CX w [] H s (fun _ _ _ => False) e s' → False) :
    PySem.W.WalkO q loose XP YP l.row.toRowW d [] (fun f vs => PySem.call f vs) := by
  refine Att.attach_call hn hdf fun w s₀ s₁ mg mb fa o pm cd doc a vs ns G Y ho hd hcd hmg hobj hints hlen hg => ?_
  have KX := hY w _ Y
  obtain ⟨fd, hb, hF⟩ := F w mg fa _ KX G.T.g hmg
  exact oW KX G.T.g G.T.b G.T.builtins G.T.nolimit hg hobj hints (yV hlen hn2) hr hF hb (fun H hO hS => hsp w H a ns hlen hO hS) fun H e s' => hCX w H s₁ e s'
end L2
/- THE LAST THEOREM (shape;LID, My.* are yours):
   My.Adr: a structure of the addresses that your layer names (classes, functions);My.Txt K t: a structure (Prop) of the equations over K;
   My.txt_mk : {K} {implicit addresses ..} (e1 : nsIn K mainGlobals "law" = some (some (.ref f))) (e2 : K.lookup f=some ⟨oc, od, .func (fnOf "law" "law" params body scope dV kV doc pm an cdv ct), sl⟩) (e3 : codeIn K cdv "law" = true) .. : ∃ t, My.Txt K t
set_option maxRecDepth 100000 in
set_option maxHeartbeats 0 in
theorem PySem.Challenge.cw_LID_holds : PySem.Challenge.rw_LID.Holds := by
  w_on;o_law;k_head;(case hw => w_witness2)
  k_fill
  refine L2.mw (l := PySem.Challenge.rw_LID) (n := 63) (k := 40) (x := "script") (CX := fun w => ..) (sp := fun _ => My.sp_law) rfl (by decide) rfl ⟨rfl, by decide, by decide⟩ (fun w h Y => PySem.W.kIn_of Y) ?F ?S ?C
  case F =>
    intro w mg fa h KX G hmg
    have T : ∃ t, My.Txt (L2.KOf KX) t := by
      dsimp only [L2.KOf]                          -- K must stand as «<heap const> w.params» for k_is
      refine' My.txt_mk ?e1 ?e2 ?e3 ..
      (case e1 => PySem.W.k_is)                    -- in the order: a name -> its address -> its object -> its parts
      (case e2 => PySem.W.k_is)
      ..
    obtain ⟨t, T⟩ := T
    have e0 := hmg.symm.trans (AU KX G T.law)
    cases e0                                       -- fa is the law's own address
    exact ⟨_, fun s u => .of_eq rfl, fun base kb nb => My.law_fn T kb nb⟩     -- if «.of_eq rfl» comes too early: refine' ⟨_, ?b, fun base kb nb => My.law_fn T kb nb⟩;exact fun s u => .of_eq rfl
  case S => exact fun w H a ns hl hO hS => ..
  case C => exact ..
(the tactic k_is has no namespace: write k_is) -/
namespace L2
open PySem PySem.Spec PyProof.Rows
def aA (s : Stmt) : Arguments := match s with
  | .FunctionDef _ a _ _ _ _ _ _ _ _ => a
  | _ => { posonlyargs := [], args := [], vararg := none, kwonlyargs := [], kw_defaults := [], kwarg := none, defaults := [] }
def aw (s : Stmt) : List Stmt := match s with
  | .FunctionDef _ _ b _ _ _ _ _ _ _ => b
  | _ => []
def ai (s : Stmt) : Scope := match s with
  | .FunctionDef _ _ _ _ _ _ sc _ _ _ => sc
  | _ => { kind := .function, names := [], isGenerator := false, isCoroutine := false }
abbrev CX0 : CXT := fun _ _ _ _ _ _ => False
abbrev E0 : XK := fun _ _ _ => False
theorem vY {X : Cx} : l_ CX0 X E0 := fun _ _ _ _ _ _ _ h => h.elim
structure Fun (K : PySem.W.Frag) (x qual : Str) (st : Stmt) (f : Addr) (fd : FuncData) : Prop where
  ex : ∃ (oc : Value) (od : Option Addr) (kV doc pm : Value) (an : Option Addr) (cdv ct : Value) (osl : Array (Option Value)),
    fd=PySem.W.fnOf x qual (aA st) (aw st) (ai st) .none kV doc pm an cdv ct ∧ K.lookup f=some ⟨oc, od, .func fd, osl⟩ ∧ PySem.W.codeIn K cdv qual=true
  kp : PySem.W.keepIn K (.ref f)=true
section
variable {P : Program} {w : World} {K : PySem.W.Frag} {mg : Str → Option Value} {base : Heap}
theorem Fun.ok {x qual : Str}{st : Stmt}{f : Addr}{fd : FuncData}{N ps : List Str}{k : Nat}{sp : Sp}(F : Fun K x qual st f fd)(S : aG N ps (ai st))(len : ∀ vs H Q E, sp vs H Q E → vs.length=ps.length)
    (hbody : ∀ (cdv : Value) (A : Around) (outer : List Env) (s : Shared) (H : Hp) (vs : List V) (Q : VK) (E : XK), fX k (A.deeper (envOfC qual (ai st) s.heap.objs.size f cdv)) → sp vs H Q E →
      ∃ t, PSs (qZ CX0 P w K mg base N qual (ai st) f cdv A outer s H E).nox (aw st) t ∧ t { nx := fun _ H' => Q .non H', rt := Q } (start N vs) H) : kM P w K mg base CX0 (k+1) f fd ps sp := by
  obtain ⟨oc, od, kV, doc, pm, an, cdv, ct, osl, rfl, lk, hcd⟩ := F.ex
  refine vQ lk hcd S len fun A outer s H vs Q E hr hsp => ?_
  obtain ⟨t, h, q⟩ := hbody cdv A outer s H vs Q E hr hsp
  exact ⟨t, h.nox, q⟩
theorem Fun.binds {x qual : Str}{st : Stmt}{f : Addr}{fd : FuncData}{ps : List Str}(F : Fun K x qual st f fd)
    (h : ∀ (kV doc pm : Value) (an : Option Addr) (cdv ct : Value) (us : List Value), us.length=ps.length → bindArgs (PySem.W.fnOf x qual (aA st) (aw st) (ai st) .none kV doc pm an cdv ct) ⟨us, []⟩=pure (ps.zip us)) : kN K fd ps [] := by
  obtain ⟨oc, od, kV, doc, pm, an, cdv, ct, osl, rfl, lk, hcd⟩ := F.ex
  exact .all (h kV doc pm an cdv ct)
theorem qr {x qual : Str}{st : Stmt}{f : Addr}{oc : Value}{od an : Option Addr}{osl : Array (Option Value)}{kV doc pm cdv ct : Value}(l : K.lookup f=some ⟨oc, od, .func (PySem.W.fnOf x qual (aA st) (aw st) (ai st) .none kV doc pm an cdv ct), osl⟩)
    (c : PySem.W.codeIn K cdv qual=true) (k : PySem.W.keepIn K (.ref f)=true) : Fun K x qual st f (PySem.W.fnOf x qual (aA st) (aw st) (ai st) .none kV doc pm an cdv ct) := ⟨⟨oc, od, kV, doc, pm, an, cdv, ct, osl, rfl, l, c⟩, k⟩
end
theorem kQ {A : Around}{k : Nat}(hr : fX k A) : A.units+1 < cLine := Nat.lt_of_le_of_lt (Nat.add_le_add_left (by decide : 1≤64) _) hr.units
section
variable {X : Cx}
theorem pv (i : Nat){x : Str}{pos : Pos}(hN : X.N[i]? = some x := by rfl)(hv : Vis X.env.scope x := by first | exact Or.inl rfl | exact Or.inr (Or.inl rfl) | exact Or.inr (Or.inr rfl))(hd : (x == ("__debug__" : Str))=false := by decide)
    (hcd : (x == ("__classdict__" : Str))=false := by decide) : PE X (.Name x pos) (vB i) := tj hN hv hd hcd
end
theorem lF {A B : Prop}(h : B) : if false=true then A else B := by
  rw [if_neg yC]
  exact h
theorem ud {A B : Prop}(h : A) : if true=true then A else B := by
  rw [if_pos rfl]
  exact h
theorem jk {c A B : Prop}[Decidable c](h1 : c → A)(h2 : ¬ c → B) : if c then A else B := by
  by_cases h : c
  · rw [if_pos h]
    exact h1 h
  · rw [if_neg h]
    exact h2 h
theorem vZ {c A B : Prop}[Decidable c](hc : c)(h : B) : if (!decide c)=true then A else B := by
  rw [yG hc]
  exact lF h
def aD (H H' : Hp) : Prop := ∀ b o, H b=some o → H' b=some o
theorem aD.refl (H : Hp) : aD H H := fun _ _ h => h
theorem aD.trans {H H1 H2 : Hp}(a : aD H H1)(b : aD H1 H2) : aD H H2 := fun c o h => b c o (a c o h)
theorem aD.seq {K : PySem.W.Frag}{H H' : Hp}{a : Addr}{xs : List V}(e : aD H H')(h : SqL K H a xs) : SqL K H' a xs := by
  rcases h with (h | ⟨o, h⟩) | h
  · exact .inl (.inl (e _ _ h))
  · exact .inl (.inr ⟨o, e _ _ h⟩)
  · exact .inr h
section
variable {κ : Type} [DecidableEq κ]
end
end L2
namespace L2
open PySem PySem.Spec PyProof.Rows
def j9 (cells : List (Str × Addr)) : List (Str × NameKind) → List (Str × Addr) → List (Str × Addr)
  | [], acc => acc
  | (x, k)::r, acc => if k == NameKind.free then j9 cells r ((x, (cells.lookup x).getD 0)::acc) else j9 cells r acc
theorem gx {cells : List (Str × Addr)}{p : Str × Addr} : ∀ {names : List (Str × NameKind)} {acc : List (Str × Addr)}, p∈j9 cells names acc → p∈acc ∨ ((p.1, NameKind.free)∈names ∧ p.2=(cells.lookup p.1).getD 0)
  | [], _, h => .inl h
  | (x, k)::r, acc, h => by
    unfold j9 at h
    by_cases hk : (k == NameKind.free)=true
    · rw [if_pos hk] at h
      have ek : k=NameKind.free := by simpa using hk
      subst ek
      rcases gx h with h | ⟨h, e⟩
      · rcases yB.mp h with h | h
        · subst h
          exact .inr ⟨yA, rfl⟩
        · exact .inl h
      · exact .inr ⟨yd _ h, e⟩
    · rw [if_neg hk] at h
      rcases gx h with h | ⟨h, e⟩
      · exact .inl h
      · exact .inr ⟨yd _ h, e⟩
theorem gz {cells : List (Str × Addr)}{p : Str × Addr} : ∀ {names : List (Str × NameKind)} {acc : List (Str × Addr)}, p∈acc → p∈j9 cells names acc
  | [], _, h => h
  | (x, k)::r, acc, h => by
    unfold j9
    split
    · exact gz (yd _ h)
    · exact gz h
theorem gA {cells : List (Str × Addr)}{x : Str} : ∀ {names : List (Str × NameKind)} {acc : List (Str × Addr)}, (x, NameKind.free)∈names → (x, (cells.lookup x).getD 0)∈j9 cells names acc
  | [], _, h => by simp at h
  | (y, k)::r, acc, h => by
    unfold j9
    rcases yB.mp h with h | h
    · have e1 : x=y := yW Prod.fst h
      have e2 : NameKind.free=k := yW Prod.snd h
      subst e1 e2
      rw [if_pos (by simp)]
      exact gz yA
    · split
      · exact gA h
      · exact gA h
theorem dE {x : Str}{c : Addr} : ∀ {l : List (Str × Addr)}, (x, c)∈l → ∃ d, l.lookup x=some d
  | [], h => by simp at h
  | (y, d)::r, h => by
    rw [AI]
    by_cases e : (x == y)=true
    · rw [e];exact ⟨d, rfl⟩
    · have e' : (x == y)=false := by simpa using e
      rw [e']
      rcases yB.mp h with h | h
      · have : x=y := yW Prod.fst h
        exact absurd (by simpa using this) e
      · exact dE h
theorem dF {env : Env}{scope : Scope}(h : ∀ y∈scope.names, y.2=NameKind.free → ∃ c, env.cells.lookup y.1=some c) : closureFor scope env=pure (j9 env.cells scope.names []) := by
  have all : ∀ (names : List (Str × NameKind)) (acc : List (Str × Addr)), (∀ y∈names, y.2=NameKind.free → ∃ c, env.cells.lookup y.1=some c) →
      (forIn names acc (fun (p : Str × NameKind) (r : List (Str × Addr)) => (if (p.2 == NameKind.free)=true then (do let a ← cellOf env p.1;pure (ForInStep.yield ((p.1, a)::r))) else pure (ForInStep.yield r) : Sem (ForInStep (List (Str × Addr))))))=(pure (j9 env.cells names acc) : Sem (List (Str × Addr))) := by
    intro names
    induction names with
    | nil => intro acc _;rfl
    | cons p r ih =>
      intro acc hh
      obtain ⟨x, k⟩ := p
      have hr : ∀ y∈r, y.2=NameKind.free → ∃ c, env.cells.lookup y.1=some c := fun y hy => hh y (yd _ hy)
      rw [BS]
      unfold j9
      by_cases hk : (k == NameKind.free)=true
      · obtain ⟨c, hc⟩ := hh (x, k) yA (by simpa using hk)
        have hc : env.cells.lookup x=some c := hc
        have ec : cellOf env x=pure c := by
          unfold cellOf
          rw [hc]
        simp only [hk, Bz, ec, pure_bind, hc, Option.getD_some]
        exact ih _ hr
      · simp only [hk, if_false, pure_bind]
        exact ih _ hr
  have e := all scope.names [] h
  unfold closureFor
  simp only [bind_pure]
  exact e
def ue (scope sc : Scope)(NB own : List Str)(cap : List Nat)(N : List Str) : Bool :=
  (scope.kind == .function) && (sc.kind == .function) &&
  (scope.names.all fun y => match y.2 with
    | .cell => false
    | .free => sc.names.lookup y.1 == some NameKind.cell
    | .local => scope.names.lookup y.1 == some NameKind.local
    | _ => true) &&
  (own.all fun x => scope.names.lookup x == some NameKind.local && scope.names.all fun y => !(y.1 == x) || y.2 == NameKind.local) &&
  (NB == own++cap.map fun i => N.getD i "") && (cap.all fun i => decide (i < N.length) && scope.names.lookup (N.getD i "") == some NameKind.free)
structure Blk (X : Cx) (scope : Scope) (NB own : List Str) (cap : List Nat) : Prop where
  kind : scope.kind = .function
  outk : X.env.scope.kind = .function
  nocell : ∀ y∈scope.names, y.2 ≠ .cell
  free : ∀ y∈scope.names, y.2 = .free → X.env.kindOf y.1=some .cell
  names : ∀ y∈scope.names, y.2 = .local → scope.names.lookup y.1=some .local
  owns : ∀ x∈own, ∀ y∈scope.names, y.1=x → y.2 = .local
  nb : NB=own++cap.map fun i => X.N.getD i ""
  caps : ∀ i∈cap, i < X.N.length ∧ scope.names.lookup (X.N.getD i "")=some .free
theorem dG {X : Cx}{scope sc : Scope}{NB own : List Str}{cap : List Nat}(hs : X.env.scope=sc)(h : ue scope sc NB own cap X.N=true) : Blk X scope NB own cap := by
  unfold ue at h
  simp only [Ad] at h
  obtain ⟨⟨⟨⟨⟨h1, h2⟩, h3⟩, h4⟩, h5⟩, h6⟩ := h
  rw [BD] at h3 h4 h6
  subst hs
  refine ⟨by simpa using h1, by simpa using h2, fun y hy e => ?_, fun y hy e => ?_, fun y hy e => ?_, fun x hx y hy e => ?_, by simpa using h5, fun i hi => ?_⟩
  · have := h3 y hy
    rw [e] at this
    exact absurd this (by simp)
  · have := h3 y hy
    rw [e] at this
    show X.env.scope.names.lookup y.1=some .cell
    simpa using this
  · have := h3 y hy
    rw [e] at this
    simpa using this
  · have := h4 x hx
    simp only [Ad, BD] at this
    have q := this.2 y hy
    subst e
    simpa using q
  · have := h6 i hi
    simp only [Ad] at this
    exact ⟨Bv this.1, by simpa using this.2⟩
def cxB (X : Cx)(NB own : List Str)(scope : Scope)(C : Addr)(fp : List Addr)(s₀ : Shared)(H₀ : Hp) : Cx where
  prog := X.prog
  w := X.w
  K := X.K
  mg := X.mg
  base := X.base
  A := X.A
  N := NB
  s₀ := s₀
  H₀ := H₀
  env := compEnvC scope (j9 X.env.cells scope.names []) C X.env
  outer := X.stack
  stack := X.stack
  ex := fp
  fn := fun x => own.contains x
  calm := X.calm
  pn := []
  xe := fun _ _ => False
theorem cE {env : Env}{x : Str}{k : NameKind}(hk : k = .cell ∨ k = .free) : ∀ {names : List (Str × NameKind)}, (∀ y∈names, y.2 ≠ .cell) →
    (names.map fun (n, k) => if (k == NameKind.free && env.scope.kind == .function && env.kindOf n == some .cell) then (n, NameKind.cell) else (n, k)).lookup x=some k → (x, NameKind.free)∈names
  | [], _, h => by simp at h
  | (n, q)::r, hn, h => by
    have ih := @cE env x k hk r fun y hy => hn y (yd _ hy)
    rw [yM, AI] at h
    have key : (if (q == NameKind.free && env.scope.kind == .function && env.kindOf n == some .cell)=true then (n, NameKind.cell) else (n, q)).1=n := by split <;> rfl
    by_cases e : (x == n)=true
    · have en : x=n := by simpa using e
      subst en
      by_cases hq : q = .free
      · subst hq;exact yA
      · have hqf : (q == NameKind.free)=false := by simpa using hq
        simp only [hqf, Bool.false_and, Bool.false_eq_true, if_false, beq_self_eq_true] at h
        have h' : q=k := yh h
        rcases hk with z | z
        · exact absurd (h'.trans z) (hn (x, q) yA)
        · exact absurd (h'.trans z) hq
    · have e' : (x == n)=false := by simpa using e
      refine yd _ (ih ?_)
      have e2 : (x == (if (q == NameKind.free && env.scope.kind == .function && env.kindOf n == some .cell)=true then (n, NameKind.cell) else (n, q)).1)=false := by rw [key];exact e'
      rw [e2] at h
      exact h
theorem fb {env : Env}{x : Str}(hk : env.scope.kind = .function)(hc : env.kindOf x=some .cell) : ∀ {names : List (Str × NameKind)}, names.lookup x=some .free →
    (names.map fun (n, k) => if (k == NameKind.free && env.scope.kind == .function && env.kindOf n == some .cell) then (n, NameKind.cell) else (n, k)).lookup x=some .cell
  | [], h => by simp at h
  | (n, q)::r, h => by
    have ih := @fb env x hk hc r
    rw [AI] at h
    rw [yM, AI]
    by_cases e : (x == n)=true
    · have en : x=n := by simpa using e
      subst en
      rw [e] at h
      have hq : q = .free := yh h
      subst hq
      simp [hk, hc]
    · have e' : (x == n)=false := by simpa using e
      rw [e'] at h
      have key : (if (q == NameKind.free && env.scope.kind == .function && env.kindOf n == some .cell)=true then (n, NameKind.cell) else (n, q)).1=n := by split <;> rfl
      have e2 : (x == (if (q == NameKind.free && env.scope.kind == .function && env.kindOf n == some .cell)=true then (n, NameKind.cell) else (n, q)).1)=false := by rw [key];exact e'
      rw [e2]
      exact ih h
def stB (own : List Str)(cap : List Nat)(σ : St) : St := (own.map fun _ => none)++cap.map fun i => (σ[i]?).getD none
section
variable {X : Cx} {pins : List (Addr × Obj)} {σ : St} {H : Hp} {s : Shared} {scope : Scope} {NB own : List Str} {cap : List Nat} {fp : List Addr} {C : Addr}
theorem Blk.cells (B : Blk X scope NB own cap)(ok : X.Ok){x : Str}{c : Addr}(h : (j9 X.env.cells scope.names []).lookup x=some c) : X.env.cells.lookup x=some c ∧ (x, NameKind.free)∈scope.names := by
  rcases gx (zg h) with q | ⟨q, e⟩
  · simp at q
  · obtain ⟨d, hd⟩ := ok.has x (.inl (B.free (x, .free) q rfl))
    have e : c=(X.env.cells.lookup x).getD 0 := e
    rw [hd] at e
    refine ⟨?_, q⟩
    rw [hd, e];rfl
theorem Blk.cell (B : Blk X scope NB own cap)(ok : X.Ok){x : Str}(h : (x, NameKind.free)∈scope.names) : ∃ c, (j9 X.env.cells scope.names []).lookup x=some c := dE (gA h)
theorem Blk.start (B : Blk X scope NB own cap)(I : Inv X pins σ H s)(hf : ∀ b∈fp, j0 X pins H b)(hfs : ∀ b∈fp, ∃ o, s.heap.get? b=some o){h' : Heap}{tk : Nat}{m : Str → Option Value}(hC : s.heap.objs.size≤C)
    (k : ∀ b o, s.heap.get? b=some o → h'.get? b=some o) (hn : h'.Ns C m) :
    Inv (cxB X NB own scope C fp s H) [] (stB own cap σ) H { s with heap := h', toks := tk } := by
  have hlen : NB.length=own.length+cap.length := by rw [B.nb];simp
  have okB : (cxB X NB own scope C fp s H).Ok := by
    refine ⟨I.ok.mod, B.kind, I.ok.glob, I.ok.blt, hC, fun x y c h1 h2 => I.ok.inj x y c (B.cells I.ok h1).1 (B.cells I.ok h2).1, fun x hx => ?_, fun x c h1 h2 => ?_, I.ok.hd, I.ok.frames, .inl rfl, fun b hb => ⟨?_, fun x c h => ?_⟩, I.bs, yV I.ok.bsz I.sz, fun b o e hb => ?_, fun b hb z => ?_, I.stack, I.stkFree⟩
    · have : (x, NameKind.free)∈scope.names := by
        rcases hx with z | z
        · exact cE (.inl rfl) B.nocell z
        · exact cE (.inr rfl) B.nocell z
      exact B.cell I.ok this
    · have hx : x∈own := by simpa [cxB] using h1
      have q := B.owns x hx _ (B.cells I.ok h2).2 rfl
      exact absurd q (by simp)
    · obtain ⟨o, e⟩ := hfs b hb
      exact yH (yo (yf e) hC)
    · exact (hf b hb).2.2.2.2.1 x c (B.cells I.ok h).1
    · have hb : b∈fp := hb
      rcases (hf b hb).2.2.2.1 with z | z
      · exact I.ok.noex b o e z
      · exact absurd (yo (yf e) (yV I.ok.bsz z)) (yZ _)
    · rcases yB.mp (I.stkSub b z) with z | z
      · exact (hf b hb).2.1 z
      · exact (hf b hb).2.2.1 z
  refine ⟨okB, rfl, I.bare, Un.kept k, ⟨m, hn, fun i x v e1 e2 e3 => ?_⟩, fun x c h => ?_, I.hok.fresh hC, fun x c h => I.freeC x c (B.cells I.ok h).1, fun p hp => absurd (show p∈([] : List (Addr × Obj)) from hp) (by simp), I.hok.kept k, ?_⟩
  · have e1 : NB[i]? = some x := e1
    have hi : ¬ i < own.length := fun hi => by
      unfold stB at e2
      rw [yU (by simpa using hi), yp] at e2
      cases q : own[i]? <;> rw [q] at e2 <;> cases e2
    unfold stB at e2
    rw [yF (by simpa using hi), yp] at e2
    rw [B.nb, yF (by omega), yp] at e1
    simp only [x9] at e2
    cases q : cap[i - own.length]? with
    | none => rw [q] at e1;cases e1
    | some j =>
      rw [q] at e1 e2
      have ex : X.N.getD j "" = x := yh e1
      have ev : (σ[j]?).getD none=some v := yh e2
      obtain ⟨hj, hjf⟩ := B.caps j (yu q)
      rw [ex] at hjf
      have hN : X.N[j]? = some x := by rw [← ex, yj, yc hj];rfl
      have hσ : σ[j]? = some (some v) := by
        cases z : σ[j]? with
        | none => rw [z] at ev;cases ev
        | some u => rw [z] at ev;exact yW some ev
      have hmem : (x, NameKind.free)∈scope.names := zg hjf
      have hkc := B.free _ hmem rfl
      obtain ⟨m0, hn0, hl⟩ := I.loc
      obtain ⟨u, r, l⟩ := hl j x v hN hσ (.inr (.inl hkc))
      refine ⟨u, r, .inr ⟨.inl (fb B.outk hkc hjf), ?_⟩⟩
      obtain ⟨c, hc⟩ := B.cell I.ok hmem
      refine ⟨c, hc, ?_⟩
      rcases l with ⟨z, _⟩ | ⟨_, c', hc', ⟨oc, hoc, hd⟩⟩
      · rw [show X.env.kindOf x=some .cell from hkc] at z;cases z
      · have := (B.cells I.ok hc).1
        rw [hc'] at this
        have : c'=c := yh this
        subst this
        exact ⟨oc, k _ _ hoc, hd⟩
  · obtain ⟨v, oc, hoc, hd⟩ := I.cell x c (B.cells I.ok h).1
    exact ⟨v, oc, k _ _ hoc, hd⟩
  · show (stB own cap σ).length=NB.length
    unfold stB
    rw [hlen];simp
theorem Blk.done (B : Blk X scope NB own cap)(I : Inv X pins σ H s)(hf : ∀ b∈fp, j0 X pins H b){σB : St}{H' : Hp}{s' : Shared}{h'' : Heap}{D : Addr}{ys : List V}{its : List Value}{n : Nat}(hC : s.heap.objs.size≤C)(hD : s.heap.objs.size≤D)(hDC : D≠C)
    (J : Inv (cxB X NB own scope C fp s H) [] σB H' s') (hn : H' D=none) (e : s'.heap.get? D=some { cls := .type "list", data := .seq its.toArray n }) (hv : aW ys its) (hz : ys.length≤sizeLine)
    (sb : Heap.SameBut C s'.heap h'') : Inv X pins σ (upd H' D (.lst ys)) { s' with heap := h'' } := by
  have un : Un (frs X.stack) fp H H' s.heap s'.heap := J.base
  have neC : ∀ {b o}, s.heap.get? b=some o → b≠C := fun q => yH (yo (yf q) hC)
  have neD : ∀ {b o}, s.heap.get? b=some o → b≠D := fun q => yH (yo (yf q) hD)
  have hCn : H' C=none := J.free
  refine I.call' (s' := { s' with heap := h'' }) (ch := fp) J.os ⟨fun b o q n hb hx => ?_, fun b o q n hb hx => ?_, fun b o q n hx => ?_, fun b o q hx => ?_, fun b xs q => ?_, fun b o u q => ?_, fun b ps q => ?_⟩ (fun b u q => ?_) J.bare fun b hb => ?_
  · exact (sb.2 b (neC q)).trans (un.keep b o q n hb hx)
  · obtain ⟨sl, r⟩ := un.slot b o q n hb hx
    exact ⟨sl, (sb.2 b (neC q)).trans r⟩
  · rw [av (neD q)]
    exact un.free b o q n hx
  · obtain ⟨o', r⟩ := un.there b o q hx
    exact ⟨o', (sb.2 b (neC q)).trans r⟩
  · have r := un.tups b xs q
    rw [av (ak r hn)]
    exact r
  · have r := un.frzs b o u q
    rw [av (ak r hn)]
    exact r
  · obtain ⟨more, r⟩ := un.tbls b ps q
    exact ⟨more, by rw [av (ak r hn)];exact r⟩
  · by_cases hb : b=D
    · subst hb
      rw [ah] at q
      cases q
      exact ⟨hz, its, n, hv, (sb.2 b hDC).trans e⟩
    · rw [av hb] at q
      refine (J.hok b u q).stay (fun c v hc r => (sb.2 c ?_).trans r) (fun c r => ?_) fun c xs r => ?_
      · rcases hc with z | z
        · rw [z];exact ak q hCn
        · exact ak z hCn
      · rw [av (ak r hn)];exact r
      · rw [av (ak r hn)];exact r
  · obtain ⟨_, f1, _, f3, f4, f5⟩ := hf b hb
    exact ⟨f3, f1, f4, f5⟩
end
def PIf (X : Cx)(ifs : List Expr)(t : TT) : Prop :=
  ∀ (pins : List (Addr × Obj)) (s : Shared) (σ : St) (H : Hp) (Q : Bool → Hp → Prop), Inv X pins σ H s → t σ H Q →
    wpAny (model X.prog X.w) X.A (forIn ifs true fun c r => if r=true then do let ok ← isTrue c X.env (eval c X.env);pure (ForInStep.yield ok) else pure (ForInStep.yield r)) (TP X pins σ Q) X.xe s
def xE : TT := fun _ H Q => Q true H
theorem bW {X : Cx} : PIf X [] xE := fun _ _ _ H _ I h => wpAny_tests_nil ⟨H, I, h⟩
theorem oX {X : Cx}{c : Expr}{t : TT}(h : PT X c t) : PIf X [c] t := fun pins s σ H Q I q => wpAny_tests_one (h pins s σ H Q I q)
section
variable {prog : Program} {w : World} {A : Around} {R : Result → Shared → Prop} {s : Shared}
abbrev noE : Value → Shared → Prop := fun _ _ => False
theorem ip {elt tg iter : Expr}{ifs : List Expr}{scope : Scope}{pos : Pos}{it acc : Value}{env : Env}(I : Nat → Shared → Prop)
    (turn : ∀ n s, I n s → wpAny (model prog w) A (pyNext it) (fun r s₁ => match r with
      | none => R (.ok .next) s₁
      | some v => wpAny (model prog w) A (letOwnedTupleGo tg it v) (fun _ s₀ => wpAny (model prog w) A (assign tg env v) (fun _ s₂ =>
          wpAny (model prog w) A (forIn ifs true fun c r => if r=true then do let ok ← isTrue c env (eval c env);pure (ForInStep.yield ok) else pure (ForInStep.yield r)) (fun ok s₃ =>
            if ok=true then wpAny (model prog w) A (eval elt env) (fun x s₄ => wpAny (model prog w) A (call (.builtin "list.append") [acc, x]) (fun _ s₅ => ∃ m, m < n ∧ I m s₅) noE s₄) noE s₃
            else ∃ m, m < n ∧ I m s₃) noE s₂) noE s₀) noE s₁) noE s)
    (n : Nat) (h : I n s) : codeAny (model prog w) A (.compLoop (.ListComp elt [⟨tg, iter, ifs, 0⟩] scope pos) 0 it acc env) R s := by
  refine codeAny_loop rfl I (fun n s hI => ?_) n h
  show wpAny _ A ((compTurn (.ListComp elt [⟨tg, iter, ifs, 0⟩] scope pos) 0 it acc env).onRaise (fun x => do noteFrame x env;theTreesLotGoes x)) _ _ s
  refine wpAny_noted ?_
  rw [compTurn_list]
  refine fu (wpAny_standAt (fu (zy (turn n s hI) (fun r s₁ h₁ => ?_) fun _ _ z => False.elim z)))
  cases r with
  | none => exact yn h₁
  | some v =>
    refine fu (zy h₁ (fun _ s₀ h₀ => fu (zy h₀ (fun _ s₂ h₂ => fu (zy h₂ (fun ok s₃ h₃ => ?_) fun _ _ z => False.elim z)) fun _ _ z => False.elim z)) fun _ _ z => False.elim z)
    cases ok with
    | false => exact yn ⟨rfl, h₃⟩
    | true => exact fu (fu (zy h₃ (fun x s₄ h₄ => fu (zy h₄ (fun _ s₅ h₅ => yn (yn ⟨rfl, h₅⟩)) fun _ _ z => False.elim z)) fun _ _ z => False.elim z))
end
def oY (own : List Str)(cap : List Nat)(g : TG)(ti : TT)(te : TE)(Q : VK)(σ : St)(J : It)(H1 : Hp) : Prop := ∃ W : Nat → Nat → List V → St → Hp → Prop, (∃ m, W 0 m [] (stB own cap σ) H1) ∧ ∀ i m ys σ H, W i m ys σ H →
  (J.stop i H ∧ ys.length≤sizeLine ∧ ∀ D, H D=none → Q (.ref D) (upd H D (.lst ys))) ∨
  (J.go i H ∧ ys.length < sizeLine ∧ ∀ x H', J.yld i H x H' → g x σ H' fun σ2 H2 => ti σ2 H2 fun b H3 => if b=true then te σ2 H3 fun y H4 => ∃ m', m' < m ∧ W (i+1) m' (ys++[y]) σ2 H4 else ∃ m', m' < m ∧ W (i+1) m' ys σ2 H3)
def uf (own : List Str)(cap : List Nat)(wi : TI)(g : TG)(ti : TT)(te : TE) : TE := fun σ H Q => wi σ H fun J H1 => oY own cap g ti te Q σ J H1
theorem dk {X : Cx}{elt iter tg : Expr}{ifs : List Expr}{scope : Scope}{pos : Pos}{NB own : List Str}{cap : List Nat}{wi : TI}{g : TG}{ti : TT}{te : TE}(B : Blk X scope NB own cap)(hc : X.calm=true)(hi : PI X tg iter wi)
    (hg : ∀ C fp s₀ H₀, PG (cxB X NB own scope C fp s₀ H₀) tg g) (ht : ∀ C fp s₀ H₀, PIf (cxB X NB own scope C fp s₀ H₀) ifs ti) (he : ∀ C fp s₀ H₀, PE (cxB X NB own scope C fp s₀ H₀) elt te)
    (hs : ∀ x, foldedSetIterable iter X.env x=pure x := by intro _;rfl) : PE X (.ListComp elt [⟨tg, iter, ifs, 0⟩] scope pos) (uf own cap wi g ti te) := by
  intro pins s σ H Q I0 h
  rw [eval_ListComp]
  have hclos := dF (env := X.env) (scope := scope) fun y hy e => I0.ok.has y.1 (.inl (B.free y hy e))
  refine Bw (use := none) rfl hs hclos B.kind B.names (thn (hi pins s σ H _ I0 h) fun v s1 h1 => thn h1 fun itv s2 h2 => ?_)
  obtain ⟨it, fp, tn, J, H2, rfl, I, T, st2, f2, W, ⟨m0, w0⟩, turn⟩ := h2
  refine wpAny_newList ?_
  refine wpAny_newFunctionEnv B.nocell (by intro y hy;simp at hy) (fun h₁ hns₁ hsb₁ => ?_) B.kind
  dsimp only at hns₁ hsb₁ ⊢
  generalize hP : s2.heap.push { cls := .type "list", dict := none, data := .seq ([] : List Value).toArray }=P at hns₁ hsb₁ ⊢
  have hC : P.objs.size=s2.heap.objs.size+1 := by rw [← hP, zq]
  have hDC : s2.heap.objs.size≠P.objs.size := by rw [hC];exact yH (AJ _)
  have hCle : s2.heap.objs.size≤P.objs.size := by rw [hC];exact Aq _
  have old : ∀ b o, s2.heap.get? b=some o → h₁.get? b=some o := fun b o e => by
    refine (hsb₁.2 b ?_).trans (x8 _ (hP ▸ x8 _ e))
    exact yH (yo (yf e) hCle)
  have hD : h₁.get? s2.heap.objs.size=some { cls := .type "list", data := .seq ([] : List Value).toArray 0 } := by
    refine (hsb₁.2 _ hDC).trans (x8 _ ?_)
    rw [← hP]
    exact yk _ rfl
  have hfs : ∀ b∈fp, ∃ o, s2.heap.get? b=some o := fun b hb => let ⟨o, e, _⟩ := T.obj _ _ st2 b hb;⟨o, e⟩
  have st4 : tn 0 h₁ := T.keep _ _ _ st2 fun b _ o e => old b o e
  generalize htk : s2.toks+([] : List (Str × Value)).length=tk4
  have I4 := B.start (C := P.objs.size) (tk := tk4) I f2 hfs hCle old hns₁
  have fOk : ∀ {H' : Hp} {b : Addr} {ob : Obj}, b∈fp → H' b=none → j0 (cxB X NB own scope P.objs.size fp s2 H2) [(s2.heap.objs.size, ob)] H' b := fun {H' b ob} hb hn => by
    obtain ⟨o, e⟩ := hfs b hb
    refine ⟨hn, (I4.ok.exf b hb).1, I4.ok.exfs b hb, .inl hb, (I4.ok.exf b hb).2, fun p hp => ?_⟩
    have ep : p=(s2.heap.objs.size, ob) := ym.mp (show p∈[(s2.heap.objs.size, ob)] from hp)
    rw [ep]
    exact fun z => absurd (yf e) (by rw [← z];exact yZ _)
  have dnf : s2.heap.objs.size∉frs X.stack := fun z => by
    rcases yB.mp (I.stkSub _ z) with z | z
    · exact absurd I.lt (by rw [← z];exact yZ _)
    · exact I.nofs (yb _) z
  have I3D : ∀ {σ3 : St} {H3 : Hp} {s3 : Shared} {its : List Value} {k : Nat}, Inv (cxB X NB own scope P.objs.size fp s2 H2) [] σ3 H3 s3 → s3.heap.get? s2.heap.objs.size=some { cls := .type "list", data := .seq its.toArray k } → H3 s2.heap.objs.size=none →
      Inv (cxB X NB own scope P.objs.size fp s2 H2) [(s2.heap.objs.size, { cls := .type "list", data := .seq its.toArray k })] σ3 H3 s3 := fun I3 e n => I3.pins_of fun p hp => by
    have ep := ym.mp hp
    subst ep
    exact ⟨e, n, hDC, dnf, fun v z => by cases z⟩
  have ndf : s2.heap.objs.size∉fp := fun z => by
    obtain ⟨o, e⟩ := hfs _ z
    exact absurd (yf e) (yZ _)
  have nCD : ∀ x c, (cxB X NB own scope P.objs.size fp s2 H2).env.cells.lookup x=some c → c≠s2.heap.objs.size := fun x c e z => by
    obtain ⟨v, o, ho, _⟩ := I.cell x c (B.cells I.ok e).1
    rw [z] at ho
    exact absurd (yf ho) (yZ _)
  have loop : ∀ s₃ : Shared, s₃ = { s2 with heap := h₁, toks := tk4 } → codeAny (model X.prog X.w) X.A (.compLoop (.ListComp elt [⟨tg, iter, ifs, 0⟩] scope pos) 0 (.ref it) (.ref s2.heap.objs.size) (cxB X NB own scope P.objs.size fp s2 H2).env)
      (compPost (model X.prog X.w) X.A X.xe none (EP X pins σ Q) (.ref s2.heap.objs.size) P.objs.size) s₃ := by
    rintro s₃ rfl
    refine ip (fun n s' => ∃ i σB H' ys its k, Inv (cxB X NB own scope P.objs.size fp s2 H2) [] σB H' s' ∧ tn i s'.heap ∧ (∀ b∈fp, H' b=none) ∧ s'.heap.get? s2.heap.objs.size=some { cls := .type "list", data := .seq (its : List Value).toArray k } ∧ aW ys its ∧ H' s2.heap.objs.size=none ∧ W i n ys σB H') ?_ m0
      ⟨0, stB own cap σ, H2, [], [], 0, I4, st4, fun b hb => (f2 b hb).1, hD, .nil, I.hok.fresh (yb _), w0⟩
    rintro n s3 ⟨i, σ3, H3, ys, its, k, I3, st3, fr3, hD3, rv, hn3, w3⟩
    rcases turn i n ys σ3 H3 w3 with ⟨stop, hz, q⟩ | ⟨go, hz, step⟩
    · refine thn (T.done (cxB X NB own scope P.objs.size fp s2 H2) rfl rfl rfl hc i _ s3 σ3 H3 noE (I3D I3 hD3 hn3) (fun b hb => fOk hb (fr3 b hb)) st3 stop) fun r s4 zq1 => ?_
      obtain ⟨hr, I4'⟩ := zq1
      subst hr
      have hD4 : s4.heap.get? s2.heap.objs.size=some { cls := .type "list", data := .seq (its : List Value).toArray k } := (I4'.pin (s2.heap.objs.size, _) (ye _ (ym.mpr rfl))).1
      have I5 : Inv (cxB X NB own scope P.objs.size fp s2 H2) [] σ3 H3 s4 := I4'.pins_of fun p hp => absurd (show p∈([] : List (Addr × Obj)) from hp) (by simp)
      obtain ⟨mC, hnC, _⟩ := I5.loc
      exact ⟨mC, hnC, fun h'' sb => ⟨.ref s2.heap.objs.size, _, B.done I f2 hCle (yb _) hDC I5 hn3 hD4 rv hz sb, rfl, q _ hn3⟩⟩
    · refine thn (T.item (cxB X NB own scope P.objs.size fp s2 H2) rfl rfl rfl hc i _ s3 σ3 H3 noE (I3D I3 hD3 hn3) (fun b hb => fOk hb (fr3 b hb)) st3 go) fun r s4 zq2 => ?_
      obtain ⟨u, hr, h4⟩ := zq2
      subst hr
      refine thn h4 fun _ s5 zq3 => ?_
      obtain ⟨x, H5, I5, r5, y5, st5, fr5⟩ := zq3
      have I5' := I5.pinned (fun b hb => fOk hb (fr5 b hb)) (T.obj _ _ st5)
      refine thn (hg _ fp s2 H2 _ s5 σ3 H5 x u _ I5' r5 (step x H5 y5)) fun _ s6 zq4 => ?_
      obtain ⟨σ6, H6, I6, q6⟩ := zq4
      refine thn (ht _ fp s2 H2 _ s6 σ6 H6 _ I6 q6) fun b s7 zq5 => ?_
      obtain ⟨H7, I7, q7⟩ := zq5
      have pinned : ∀ {σ8 : St} {H8 : Hp} {s8 : Shared}, Inv (cxB X NB own scope P.objs.size fp s2 H2) ([(s2.heap.objs.size, { cls := .type "list", data := .seq (its : List Value).toArray k })]++fV fp s5.heap) σ8 H8 s8 →
          tn (i+1) s8.heap ∧ (∀ b∈fp, H8 b=none) ∧ s8.heap.get? s2.heap.objs.size=some { cls := .type "list", data := .seq (its : List Value).toArray k } ∧ H8 s2.heap.objs.size=none := fun {σ8 H8 s8} I8 => by
        refine ⟨T.keep _ _ _ st5 fun b hb o e => (I8.pin (b, o) (ye _ (ye _ (bL hb e)))).1, fun b hb => ?_, ?_, ?_⟩
        · obtain ⟨o, e, d⟩ := T.obj _ _ st5 b hb
          exact (I8.pin (b, o) (ye _ (ye _ (bL hb e)))).2.1
        · exact (I8.pin (s2.heap.objs.size, _) (ye _ (yz _ (ym.mpr rfl)))).1
        · exact (I8.pin (s2.heap.objs.size, _) (ye _ (yz _ (ym.mpr rfl)))).2.1
      have nopin : ∀ {pp : List (Addr × Obj)} {σ8 : St} {H8 : Hp} {s8 : Shared}, Inv (cxB X NB own scope P.objs.size fp s2 H2) pp σ8 H8 s8 → Inv (cxB X NB own scope P.objs.size fp s2 H2) [] σ8 H8 s8 := fun I8 => I8.pins_of fun p hp => absurd (show p∈([] : List (Addr × Obj)) from hp) (by simp)
      cases b with
      | false =>
        rw [if_neg yC] at q7 ⊢
        obtain ⟨m', hm, w7⟩ := q7
        obtain ⟨p1, p2, p3, p4⟩ := pinned I7
        exact ⟨m', hm, i+1, σ6, H7, ys, its, k, nopin I7, p1, p2, p3, rv, p4, w7⟩
      | true =>
        rw [if_pos rfl] at q7 ⊢
        refine thn (he _ fp s2 H2 _ s7 σ6 H7 _ I7 q7) fun yv s8 zq6 => ?_
        obtain ⟨y, H8, I8, r8, m', hm, w8⟩ := zq6
        obtain ⟨p1, p2, p3, p4⟩ := pinned I8
        refine AX y0 ⟨_, p3, rfl⟩ A4 (AN _ _) (Bu s2.heap.objs.size its.toArray k yv (by rw [yg, ← rv.length];omega)) ⟨p3, ?_⟩
        have q := BC p3 fun a => a.push yv
        have ea : its.toArray.push yv=(its++[yv]).toArray := by simp
        rw [ea] at q
        have I9 : Inv (cxB X NB own scope P.objs.size fp s2 H2) [] σ6 H8 { s8 with heap := s8.heap.update s2.heap.objs.size (Obj.mapSeq fun a => a.push yv), toks := s8.toks } :=
          (nopin I8).turned (it := s2.heap.objs.size) (fun b o hb e => (yY s8.heap _ (Ne.symm hb)).trans e) p4 hDC (.inr (yb _)) (fun x c e => nCD x c e) fun p hp => absurd (show p∈([] : List (Addr × Obj)) from hp) (by simp)
        refine ⟨m', hm, i+1, σ6, H8, ys++[y], its++[yv], _, I9, ?_, p2, q, rv.append (.cons r8 .nil), p4, w8⟩
        refine T.keep _ _ _ p1 fun b hb o e => (yY s8.heap _ ?_).trans e
        intro z
        rw [z] at ndf
        exact ndf hb
  exact codeAny_compStart_list (loop _ rfl) (T.self X.A 0 _ _ _ st4 (loop _ rfl))
theorem fc {own : List Str}{cap : List Nat}{J : It}{g : TG}{ti : TT}{te : TE}{σ : St}{H : Hp}{Q : VK}(n : Nat)(Pv : Nat → List V → St → Hp → Prop)(h0 : Pv 0 [] (stB own cap σ) H)(hz : ∀ i ys σ H, i≤n → Pv i ys σ H → ys.length≤i)(hn : n≤sizeLine)
    (hgo : ∀ i ys σ H, i < n → Pv i ys σ H → J.go i H) (hst : ∀ ys σ H, Pv n ys σ H → J.stop n H)
    (hs : ∀ i ys σ H x H' (N : List V → St → Hp → Prop), i < n → Pv i ys σ H → J.yld i H x H' → (∀ ys' σ' H'', Pv (i+1) ys' σ' H'' → N ys' σ' H'') → g x σ H' fun σ2 H2 => ti σ2 H2 fun b H3 => if b=true then te σ2 H3 fun y H4 => N (ys++[y]) σ2 H4 else N ys σ2 H3)
    (hd : ∀ ys σ H D, Pv n ys σ H → H D=none → Q (.ref D) (upd H D (.lst ys))) :
    oY own cap g ti te Q σ J H := by
  refine ⟨fun i m ys σ H => m=n - i ∧ i≤n ∧ Pv i ys σ H, ⟨n, by simp, zb _, h0⟩, ?_⟩
  rintro i m ys σ H ⟨rfl, hi, p⟩
  have hl := hz i ys σ H hi p
  by_cases hlt : i < n
  · refine .inr ⟨hgo i ys σ H hlt p, by omega, fun x H' y => ?_⟩
    exact hs i ys σ H x H' (fun ys' σ' H'' => ∃ m', m' < n - i ∧ m'=n - (i+1) ∧ i+1≤n ∧ Pv (i+1) ys' σ' H'') hlt p y fun ys' σ' H'' q => ⟨n - (i+1), by omega, rfl, hlt, q⟩
  · have e : i=n := by omega
    subst e
    exact .inl ⟨hst ys σ H p, by omega, fun D hD => hd ys σ H D p hD⟩
end L2
namespace L2
open PySem PySem.Spec PyProof.Rows
def Its (z : Str) : It := ⟨fun i _ => i < z.cps.size, fun i H x H' => H'=H ∧ ∃ c, z.cps[i]? = some c ∧ x = .str ⟨#[c]⟩, fun i _ => i=z.cps.size⟩
theorem cj {P : Program}{w : World}{K : PySem.W.Frag}{tg : Expr}{it n : Nat}{Pv : Nat → Value → Prop}{st : Nat → Heap → Prop}{J : It}{T : String}{fl : Nat → Array Value}
    (W : ∀ A : Around, A.handled=none → Walks P w A it [it] [it] n Pv st) (hst : ∀ i h, st i h → ∃ o, h.get? it=some o ∧ o.cls = .type T ∧ o.data = .fields (fl i))
    (hT : ["enumerate", "zip", "dict_itemiterator", "dict_reverseitemiterator", "odict_iterator", "itertools.zip_longest", "itertools.pairwise"].contains T=false)
    (hgo : ∀ i H, J.go i H → i < n) (hstop : ∀ i H, J.stop i H → i=n) (hy : ∀ i H u, J.go i H → Pv i u → ∃ x, bj x u ∧ J.yld i H x H)
    (hself : ∀ (A : Around) (i : Nat) (s : Shared) (Q : Value → Shared → Prop) (E : Value → Shared → Prop), st i s.heap → Q (.ref it) s → wpAny (model P w) A (pyIter (.ref it)) Q E s) : qQ P w K tg J [it] it st where
  mem := by simp
  obj := fun i h s b hb => by
    have e : b=it := by simpa using hb
    subst e
    obtain ⟨o, e, c, d⟩ := hst i h s
    exact ⟨o, e, fun v z => by rw [d] at z;cases z⟩
  keep := fun i h h' s k => (W {} rfl).frame i h h' s k
  item := by
    intro X hP hw hK hc i pins s σ H E I hf s0 hg
    subst hP hw hK
    obtain ⟨f0, f1, f2, f3, f4, f5⟩ := hf it (by simp)
    refine (W X.A (I.ok.hd hc)).item i s _ _ (hgo i H hg) s0 fun v h' tk hv st' kk => ?_
    have I1 : Inv X pins σ H { s with heap := h', toks := tk } := I.turned (fun b o hb e => kk b o (by simpa using hb) e) f0 f1 f3 f4 f5
    obtain ⟨o, e, c, d⟩ := hst _ _ st'
    obtain ⟨x, rx, yx⟩ := hy i H v hg hv
    exact ⟨v, rfl, oF (s := { s with heap := h', toks := tk }) e c d hT ⟨x, H, I1, rx, yx, st', fun b hb => (hf b hb).1⟩⟩
  done := by
    intro X hP hw hK hc i pins s σ H E I hf s0 hg
    subst hP hw hK
    obtain ⟨f0, f1, f2, f3, f4, f5⟩ := hf it (by simp)
    have e := hstop i H hg
    subst e
    exact (W X.A (I.ok.hd hc)).done s _ _ s0 fun h' tk kk => ⟨rfl, I.turned (fun b o hb e => kk b o (by simpa using hb) e) f0 f1 f3 f4 f5⟩
  self := hself
section
variable {X : Cx} {tg : Expr}
def xF (tl : TE) : TI := fun σ H R => tl σ H fun x H1 => ∃ z, x = .str z ∧ R (Its z) H1
theorem mx {z : Str}{i : Nat}{H : Hp}{u : Value}(h : SignAt z i u) : ∃ x, bj x u ∧ (Its z).yld i H x H := by
  obtain ⟨c, t, e, rfl⟩ := h
  exact ⟨.str ⟨#[c]⟩, ⟨t, rfl⟩, rfl, c, e, rfl⟩
theorem iq {l : Expr}{tl : TE}(hl : PE X l tl) : PI X tg l (xF tl) := by
  intro pins s σ H R I h
  refine thn (hl pins s σ H _ I h) fun v s1 zq1 => ?_
  obtain ⟨x, H1, I1, r1, q1⟩ := zq1
  obtain ⟨z, rfl, q⟩ := q1
  obtain ⟨t, rfl⟩ := r1
  have fp : ∀ b∈[s1.heap.objs.size], j0 X pins H1 b := fun b hb => by
    have e : b=s1.heap.objs.size := by simpa using hb
    subst e
    exact I1.fpOk (yb _) (I1.hok.fresh (yb _))
  cases ha : z.cps.all (· < 128)
  · refine wpAny_pyIter_wide ha ⟨s1.heap.objs.size, [s1.heap.objs.size], _, Its z, H1, rfl, I1.kept (t' := s1.toks) fun b o e => x8 _ e,
      cj (T := "str_iterator") (fl := fun i => #[.str z t, .int i 0]) (fun A hh => Walks.strWide hh _ z t) (fun i h st => st) (by decide) (fun i H g => g) (fun i H g => g) (fun i H u _ hu => mx hu) (fun A i s Q E st h => wpAny_pyIter_striter_wide st h), ⟨_, yk _ rfl, rfl, rfl⟩, fp, q⟩
  · refine wpAny_pyIter_ascii ha ⟨s1.heap.objs.size, [s1.heap.objs.size], _, Its z, H1, rfl, I1.kept (t' := s1.toks) fun b o e => x8 _ e,
      cj (T := "str_ascii_iterator") (fl := fun i => #[.str z t, .int i 0]) (fun A hh => Walks.strAscii hh _ z t) (fun i h st => st) (by decide) (fun i H g => g) (fun i H g => g) (fun i H u _ hu => mx hu) (fun A i s Q E st h => wpAny_pyIter_striter_ascii st h), ⟨_, yk _ rfl, rfl, rfl⟩, fp, q⟩
inductive w_ (x : V)(lo : Option Int)(hi : Option Int)(H : Hp)(Q : VK) : Prop
  | mk : ∀ z, (x = .str z) → (z.length≤sizeLine) → (Q (.str (Txt.slice z lo hi)) H) → w_ x lo hi H Q
theorem bX : SlR X w_ := by
  intro pins s σ H x v vl vu lo hi sl Q I rx hs pl pu h
  obtain ⟨z, rfl, hz, q⟩ := h
  obtain ⟨t, rfl⟩ := rx
  have fin : ∀ (lo hi : Option Int), Q (.str (Txt.slice z lo hi)) H → ∀ t' k, EP X pins σ Q (.str (Txt.slice z lo hi) t') { s with toks := k } := fun lo hi q t' k => ⟨.str _, H, I.tok _, ⟨_, rfl⟩, q⟩
  refine ⟨"str", _, F.slot_str_getitem.lookup, zZ _ _ _, ?_⟩
  cases pl with
  | none =>
    cases pu with
    | none => exact zL (l := none) (u := none) (st := none) hs rfl (A6 ⟨yV (AA z _ _) hz, fun t' k => fin _ _ q t' k⟩)
    | int j uj => exact zL (l := none) (u := some (j, uj)) (st := none) hs rfl (A6 ⟨yV (AA z _ _) hz, fun t' k => fin _ _ q t' k⟩)
  | int i ui =>
    cases pu with
    | none => exact zL (l := some (i, ui)) (u := none) (st := none) hs rfl (A6 ⟨yV (AA z _ _) hz, fun t' k => fin _ _ q t' k⟩)
    | int j uj => exact zL (l := some (i, ui)) (u := some (j, uj)) (st := none) hs rfl (A6 ⟨yV (AA z _ _) hz, fun t' k => fin _ _ q t' k⟩)
inductive qt (x : V)(vs : List V)(H : Hp)(Q : VK) : Prop
  | mk : ∀ z, (x = .str z) → (vs=[]) → (z.length≤5592405) → (Q (.str (Txt.upper z)) H) → qt x vs H Q
inductive qu (x : V)(vs : List V)(H : Hp)(Q : VK) : Prop
  | mk : ∀ z, (x = .str z) → (vs=[]) → (z.length≤5592405) → (Q (.str (Txt.lower z)) H) → qu x vs H Q
theorem oZ : MtR X "str.upper" qt := by
  intro pins s σ H x vs v us Q I rx rv h
  obtain ⟨z, rfl, rfl, hz, q⟩ := h
  obtain ⟨t, rfl⟩ := rx
  cases rv
  exact SCL.upper hz fun _ => ⟨.str _, H, I.tok _, ⟨_, rfl⟩, q⟩
theorem j_ : MtR X "str.lower" qu := by
  intro pins s σ H x vs v us Q I rx rv h
  obtain ⟨z, rfl, rfl, hz, q⟩ := h
  obtain ⟨t, rfl⟩ := rx
  cases rv
  exact SCL.lower hz fun _ => ⟨.str _, H, I.tok _, ⟨_, rfl⟩, q⟩
theorem cP : ∀ {ys : List Str} {us : List Value}, aW (ys.map V.str) us → StrsAre us ys
  | [], _, r => by
    rw [BQ] at r
    cases r
    exact .nil
  | y::ys, us, r => by
    rw [yM] at r
    cases r with
    | cons r1 r2 =>
      obtain ⟨t, e⟩ := r1
      subst e
      exact .cons y t (cP r2)
inductive ug (K : PySem.W.Frag)(x : V)(vs : List V)(H : Hp)(Q : VK) : Prop
  | mk : ∀ z p ys, (x = .str z) → (vs=[.ref p]) → (SqL K H p (ys.map V.str)) → ((ys.map (·.length)).sum+ys.length*z.length≤16777216) → (Q (.str (Txt.join z ys)) H) → ug K x vs H Q
theorem jB : MtR X "str.join" (ug X.K) := by
  intro pins s σ H x vs v us Q I rx rv h
  obtain ⟨z, p, ys, rfl, rfl, hq, hz, q⟩ := h
  obtain ⟨t, rfl⟩ := rx
  obtain ⟨u, rfl, ru⟩ := cV rv
  cases ru
  obtain ⟨its, r, pl, _⟩ := I.list hq
  exact join_list pl.isList (by simpa using cP r) hz fun t' k => ⟨.str _, H, I.tok _, ⟨_, rfl⟩, q⟩
end
theorem gC {z : Str}{g : TG}{tb : TS}{D : jj}{σ : St}{H : Hp}(Pv : Nat → St → Hp → Prop)(h0 : Pv 0 σ H)
    (hs : ∀ i c σ H, z.cps[i]? = some c → Pv i σ H → g (.str ⟨#[c]⟩) σ H fun σ2 H2 => tb { D with nx := Pv (i+1), ct := Pv (i+1), bk := D.nx } σ2 H2) (hd : ∀ σ H, Pv z.cps.size σ H → D.nx σ H) :
    ∃ W : Nat → Nat → St → Hp → Prop, (∃ m, W 0 m σ H) ∧ ∀ i m σ H, W i m σ H →
      ((Its z).stop i H ∧ D.nx σ H) ∨ ((Its z).go i H ∧ ∃ N : St → Hp → Prop, (∀ σ' H', N σ' H' → ∃ m', m' < m ∧ W (i+1) m' σ' H') ∧ ∀ x H', (Its z).yld i H x H' → g x σ H' fun σ2 H2 => tb { D with nx := N, ct := N, bk := D.nx } σ2 H2) := by
  refine ⟨fun i m σ H => m=z.cps.size - i ∧ i≤z.cps.size ∧ Pv i σ H, ⟨z.cps.size, by simp, zb _, h0⟩, ?_⟩
  rintro i m σ H ⟨rfl, hi, p⟩
  by_cases hlt : i < z.cps.size
  · refine .inr ⟨hlt, Pv (i+1), fun σ' H' p' => ⟨z.cps.size - (i+1), by omega, rfl, hlt, p'⟩, fun x H' y => ?_⟩
    obtain ⟨e, c, hc, ex⟩ := y
    subst e ex
    exact hs i c σ _ hc p
  · have e : i=z.cps.size := by omega
    subst e
    exact .inl ⟨rfl, hd σ H p⟩
end L2
namespace PySem
open Sem (wp)
open Builtin Builtin.SmallTypes
namespace F
theorem lookup_str_reversed : typeLookup (.type "str") "__reversed__" = pure none := by rw [A7, zV]; kernel_rfl
theorem gD : Slot "reversed" "__init__" "object.__init__" :=
  .of (owner := "object") (n := "__init__") (by rw [A7, zV];kernel_rfl) (by decide +kernel) (by decide +kernel) (by decide +kernel)
    (by first | exact .inl (by decide +kernel) | exact .inr (by decide +kernel)) (by rw [Bl];kernel_rfl)
theorem called_rvs : TypeCalled "reversed" "reversed.__new__" "object.__init__" :=
  ⟨by decide +kernel, create_reversed, ⟨_, _, mro_reversed⟩, made_reversed, plain_reversed_new, sub_reversed_self, gD⟩
end F
set_option maxHeartbeats 1000000 in
theorem my (x : Str)(t : Tok) : Meets (Builtin.«reversed.__new__» ⟨[.type "reversed", .str x t], []⟩) (fun _ R s => ¬ (x.length : Int)≥2 ^ 63 ∧
      ∀ tk, R (.ok (.ret (.ref s.heap.objs.size))) { s with heap := s.heap.push { cls := .type "reversed", data := .fields #[.str x t, rawInt ((x.length : Int) - 1)] }, toks := tk }) :=
  .of_wp fun prog w A R s h => by
    obtain ⟨hx, h⟩ := h
    unfold Builtin.«reversed.__new__»
    refine fu (As (newClass_reversed _) ?_)
    try dsimp only
    refine fu (As (a := ()) (by first | rfl | kernel_rfl) ?_)
    refine fu (As (a := ()) (by first | rfl | kernel_rfl) ?_)
    try dsimp only
    refine fu (BR (zZ s x t) F.lookup_str_reversed ?_)
    try dsimp only
    refine fu ?_
    have hl := F.slot_str_getitem.lookup
    have hT := zZ s x t
    have hD : isSubtype (.type "str") (.type "dict")=pure false := by rw [Bl];kernel_rfl
    repeat (any_goals (first | assumption | refine PySem.P.len_str hx ?_ | wp_step))
    exact ⟨_, rfl, h _⟩
def Heap.IsRvs (h : Heap)(a : Addr)(x : Str)(t : Tok)(i : Int) : Prop := ∃ o, h.get? a=some o ∧ o.cls = .type "reversed" ∧ o.data = .fields #[.str x t, rawInt i]
theorem Heap.IsRvs.typeIs {s : Shared}{a : Addr}{x : Str}{t : Tok}{i : Int}(y : s.heap.IsRvs a x t i) : s.TypeIs (.ref a) "reversed" := let ⟨o, ho, hc, _⟩ := y; ⟨o, ho, hc⟩
namespace F
theorem slot_rvs_next : Slot "reversed" "__next__" "reversed.__next__" :=
  .of (owner := "reversed") (n := "__next__") (by rw [A7, zV];kernel_rfl) (by decide +kernel) (by decide +kernel) (by decide +kernel)
    (by first | exact .inl (by decide +kernel) | exact .inr (by decide +kernel)) (by rw [Bl];kernel_rfl)
theorem entry_rvs_next : entryFor table "reversed.__next__" = some Builtin.«reversed.__next__» := entryFor_of_tree (by kernel_rfl)
theorem args_rvs_next (a : Value) : argsOk "reversed.__next__" ⟨[a], []⟩ := by unfold argsOk; kernel_rfl
theorem slot_rvs_iter : Slot "reversed" "__iter__" "reversed.__iter__" :=
  .of (owner := "reversed") (n := "__iter__") (by rw [A7, zV];kernel_rfl) (by decide +kernel) (by decide +kernel) (by decide +kernel)
    (by first | exact .inl (by decide +kernel) | exact .inr (by decide +kernel)) (by rw [Bl];kernel_rfl)
theorem args_rvs_iter (a : Value) : argsOk "reversed.__iter__" ⟨[a], []⟩ := by unfold argsOk; kernel_rfl
theorem entry_rvs_iter : entryFor table "reversed.__iter__" = some Builtin.«dict_keyiterator.__iter__» :=
  entryFor_alias (id' := "dict_keyiterator.__iter__") (by kernel_rfl) rfl (by decide +kernel) (by kernel_rfl)
end F
section
variable {prog : Program} {w : World} {A : Around} {E : Value → Shared → Prop} {s : Shared} {x : Str} {t : Tok}
theorem ir {Q : Value → Shared → Prop}(hx : ¬ (x.length : Int)≥2 ^ 63)
    (h : ∀ tk, Q (.ref s.heap.objs.size) { s with heap := s.heap.push { cls := .type "reversed", data := .fields #[.str x t, rawInt ((x.length : Int) - 1)] }, toks := tk }) : wpAny (model prog w) A (call (.type "reversed") [.str x t]) Q E s :=
  callType_new F.called_rvs (by decide) (F.typeCall_reversed_1 _) (F.newCall_reversed_1 _) (fun obj => F.args_object_init_2 obj _) F.entry_reversed_new (my x t) ⟨hx, fun tk => ⟨⟨_, yk _ rfl, rfl⟩, h tk⟩⟩
theorem gE {it : Addr}{i : Int}{Q : Value → Shared → Prop}(hit : s.heap.IsRvs it x t i)(h : Q (.ref it) s) : wpAny (model prog w) A (pyIter (.ref it)) Q E s := by
  refine wpAny_pyIter_slot hit.typeIs F.slot_rvs_iter (zk F.slot_rvs_iter hit.typeIs F.entry_rvs_iter ?_ (F.args_rvs_iter _))
  show wpAny _ _ (ret (.ref it)) _ _ s
  exact yn ⟨_, rfl, "reversed", _, hit.typeIs, F.slot_rvs_next.lookup, h⟩
theorem gF {it : Addr}{i : Nat}{c : Nat}{Q : Option Value → Shared → Prop}(hit : s.heap.IsRvs it x t (i : Int))(hx : x.cps[i]? = some c)(h63 : (i : Int) < 2 ^ 63)
    (hQ : ∀ h' tk u, h'.IsRvs it x t ((i : Int) - 1) → Heap.SameBut it s.heap h' → Q (some (.str ⟨#[c]⟩ u)) { s with heap := h', toks := tk }) : wpAny (model prog w) A (pyNext (.ref it)) Q E s := by
  obtain ⟨o, ho, hc, hd⟩ := id hit
  unfold pyNext
  refine fu (Ai (y9 (name := Str.ofString "__next__") hit.typeIs F.slot_rvs_next
    (zk F.slot_rvs_next hit.typeIs F.entry_rvs_next ?_ (F.args_rvs_next _))))
  unfold Builtin.«reversed.__next__»
  refine fu (As (a := (Value.ref it, [])) rfl ?_)
  try dsimp only
  refine fu (y7 ho hd (x := .str x t) rfl ?_)
  refine fu (y7 ho hd (x := rawInt (i : Int)) rfl ?_)
  show wpAny _ _ (if (i : Int) < 0 then _ else _) _ _ s
  rw [if_neg (by omega)]
  refine fu (BR (zZ s x t) F.slot_str_getitem.lookup ?_)
  show wpAny _ _ (if (some (Value.builtin "str.__getitem__")).isNone=true then _ else _) _ _ s
  rw [if_neg (by decide)]
  refine fu (wpAny_mkInt ?_)
  have hlt : i < x.length := by
    have := zw.mp hx
    exact this.1
  refine fu (Ai (PySem.P.getItem_str (c := c) ?_ ?_ ?_))
  · have e1 : decide ((i : Int) < -(2 ^ 63 : Int))=false := yr (by omega)
    have e2 : decide ((i : Int)≥2 ^ 63)=false := yr (by omega)
    rw [e1, e2, BZ]
  · rw [PySem.StrLaws.seqIndex_nonneg (by omega) (by omega)]
    simpa using hx
  try dsimp only
  refine fu (y7 ho hd (x := rawInt (i : Int)) rfl ?_)
  show wpAny _ _ (setField (.ref it) 1 (rawInt ((i : Int) - 1)) >>= _) _ _ _
  refine fu (Ax ho hd (by simp) ?_)
  refine yn ⟨_, rfl, yn (hQ _ _ _ ?_ (zM ..))⟩
  exact ⟨_, zA _ ho (AB (zB hd _)), (Obj.cls_mapFields ..).trans hc, by
    rw [zB hd];simp⟩
theorem iu {it : Addr}{Q : Option Value → Shared → Prop}(hh : A.handled=none)(hit : s.heap.IsRvs it x t (-1))
    (hQ : ∀ h', (∀ b o, b≠it → s.heap.get? b=some o → h'.get? b=some o) → Q none { s with heap := h' }) : wpAny (model prog w) A (pyNext (.ref it)) Q E s := by
  obtain ⟨o, ho, hc, hd⟩ := id hit
  unfold pyNext
  refine fu (Ai (y9 (name := Str.ofString "__next__") hit.typeIs F.slot_rvs_next
    (zk F.slot_rvs_next hit.typeIs F.entry_rvs_next ?_ (F.args_rvs_next _))))
  unfold Builtin.«reversed.__next__»
  refine fu (As (a := (Value.ref it, [])) rfl ?_)
  try dsimp only
  refine fu (y7 ho hd (x := .str x t) rfl ?_)
  refine fu (y7 ho hd (x := rawInt (-1)) rfl ?_)
  show wpAny _ _ (if (-1 : Int) < 0 then _ else _) _ _ s
  rw [if_pos (by decide)]
  refine fu (AY ?_)
  refine fu ?_
  show wpAny _ _ (setField (.ref it) 1 (rawInt (-1)) >>= fun _ => setField (.ref it) 0 .none) _ _ s
  refine fu (Ax ho hd (by simp) ?_)
  have ho2 := zA (Obj.mapFields fun a => a.setIfInBounds 1 (rawInt (-1))) ho (AB (zB hd _))
  have hd2 := zB hd fun a => a.setIfInBounds 1 (rawInt (-1))
  refine Ax ho2 hd2 (by simp) ?_
  generalize hh2 : (s.heap.update it _).update it _=h2
  have kk : ∀ b o, b≠it → s.heap.get? b=some o → h2.get? b=some o := fun b o hb e => by
    rw [← hh2]
    exact (yY _ _ (Ne.symm hb)).trans ((yY _ _ (Ne.symm hb)).trans e)
  have hz : A.in1.handled=none := hh
  have sub := BV
  repeat (any_goals (first | assumption | wp_step))
  unfold raiseNew
  refine fu (wpAny_handled ?_)
  rw [hz]
  refine fu (yn (wpAny_throw ?_))
  refine fu (BE (T := "StopIteration") (b := true) ?_ sub (yn (hQ _ fun b o hb e => ?_)))
  · exact ⟨_, yk _ rfl, rfl⟩
  exact x8 _ (x8 _ (kk b o hb e))
theorem mz (hh : A.handled=none)(it : Addr)(x : Str)(t : Tok)(h63 : (x.cps.size : Int) < 2 ^ 63) :
    Walks prog w A it [it] [it] x.cps.size (fun i v => ∃ c u, x.cps[x.cps.size - 1 - i]? = some c ∧ v = .str ⟨#[c]⟩ u) (fun i h => i≤x.cps.size ∧ h.IsRvs it x t ((x.cps.size : Int) - 1 - (i : Int))) where
  sub := fun _ hb => hb
  frame := fun _ _ _ st hk => let ⟨l, o, ho, r⟩ := st;⟨l, o, hk it (by simp) o ho, r⟩
  item := fun i s Q E hi y hQ => by
    have e : (x.cps.size : Int) - 1 - (i : Int)=((x.cps.size - 1 - i : Nat) : Int) := by omega
    have hit := y.2
    rw [e] at hit
    have hx : x.cps[x.cps.size - 1 - i]? = some (x.cps[x.cps.size - 1 - i]'(by omega)) := z_ (by omega)
    refine gF hit hx (by omega) fun h' tk u hit' hs' => ?_
    have e2 : ((x.cps.size - 1 - i : Nat) : Int) - 1=(x.cps.size : Int) - 1 - ((i+1 : Nat) : Int) := by omega
    rw [e2] at hit'
    exact hQ _ h' tk ⟨_, u, hx, rfl⟩ ⟨hi, hit'⟩ fun b o hb eo => hs'.extBut b o (fun h => hb (by simp [h])) eo
  done := fun s Q E y hQ => by
    have e : (x.cps.size : Int) - 1 - (x.cps.size : Int) = -1 := by omega
    have hit := y.2
    rw [e] at hit
    exact iu hh hit fun h' he' => hQ h' s.toks fun b o hb eo => he' b o (fun h => hb (by simp [h])) eo
  self := fun _ _ _ _ y hQ => gE y.2 hQ
end
end PySem
namespace L2
open PySem PySem.Spec PyProof.Rows
def v5 (z : Str) : It := ⟨fun i _ => i < z.cps.size, fun i H x H' => H'=H ∧ ∃ c, z.cps[z.cps.size - 1 - i]? = some c ∧ x = .str ⟨#[c]⟩, fun i _ => i=z.cps.size⟩
section
variable {X : Cx} {tg : Expr}
def v9 (ta : TA) : TI := fun σ H R => ta σ H fun vs H1 => ∃ z, vs=[.str z] ∧ z.length≤sizeLine ∧ R (v5 z) H1
theorem rn {a : Expr}{ta : TA}{p pos : Pos}(hg : Gl X "reversed")(hm : X.mg "reversed" = none)(hb : bootBuiltins "reversed" = some (.type "reversed"))(ha : PA X [a] ta)(hs : starEach [a] X.env=[(false, eval a X.env)] := by rfl) :
    PI X tg (.Call (.Name "reversed" p) [a] [] pos) (v9 ta) := by
  intro pins s σ H R I h
  refine Call_ (fS I hg hm hb (zf (thn (ha pos pins s σ H _ I h) fun us s1 zq1 => ?_) hs rfl))
  obtain ⟨vs, H1, I1, r1, q1⟩ := zq1
  obtain ⟨z, rfl, hz, q⟩ := q1
  obtain ⟨u, rfl, t, rfl⟩ := cV r1
  have hn := dy
  have hsz : z.cps.size=z.length := rfl
  refine ir (by omega) fun tk => ?_
  have hit : Heap.IsRvs (s1.heap.push { cls := .type "reversed", data := .fields #[.str z t, rawInt ((z.length : Int) - 1)] }) s1.heap.objs.size z t ((z.length : Int) - 1) := ⟨_, yk _ rfl, rfl, rfl⟩
  refine gE (s := { s1 with heap := s1.heap.push { cls := .type "reversed", data := .fields #[.str z t, rawInt ((z.length : Int) - 1)] }, toks := tk }) hit ?_
  refine ⟨s1.heap.objs.size, [s1.heap.objs.size], _, v5 z, H1, rfl, I1.kept (t' := tk) fun b o e => x8 _ e,
    cj (T := "reversed") (fl := fun i => #[.str z t, rawInt ((z.cps.size : Int) - 1 - (i : Int))]) (fun A hh => mz hh _ z t (by omega)) (fun i h st => st.2) (by decide) (fun i H g => g) (fun i H g => g)
      (fun i H u _ ⟨c, t', e, eu⟩ => ⟨.str ⟨#[c]⟩, ⟨t', eu⟩, rfl, c, e, rfl⟩) (fun A i s Q E st h => gE st.2 h), ⟨zb _, by simpa [hsz] using hit⟩, fun b hb => ?_, q⟩
  have e : b=s1.heap.objs.size := by simpa using hb
  subst e
  exact I1.fpOk (yb _) (I1.hok.fresh (yb _))
structure DTx (K : PySem.W.Frag) (w : World) (a : Addr) : Prop where
  ob : ∃ (es : Array DictEntry) (n : Nat), K.lookup a=some ⟨.type "dict", none, .dict es n, #[]⟩ ∧ PySem.W.KeysLit w.params es.toList
theorem o6 {a : Addr}(D : DTx X.K X.w a) : IxR X (fun x y H Q => ∃ z z' t, x = .ref a ∧ y = .str z ∧ PySem.W.nsIn X.K a z=some (some (.str z' t)) ∧ Q (.str z') H) := by
  intro value slice pins s σ H x y v u Q I rx ry h hs
  obtain ⟨z, z', t', rfl, rfl, e, q⟩ := h
  cases rx
  obtain ⟨t, rfl⟩ := ry
  obtain ⟨es, n, hl, hk⟩ := D.ob
  obtain ⟨m, F⟩ := I.fr
  exact PySem.W.topItem_K F I.ok.mod.kin hl hk e ⟨.str z', H, I.tok _, ⟨_, rfl⟩, q⟩ hs
def o7 (K : PySem.W.Frag)(a : Addr)(Q : VK) : V → Hp → Prop := fun y H1 => ∃ z z' t, y = .str z ∧ PySem.W.nsIn K a z=some (some (.str z' t)) ∧ Q (.str z') H1
def v_ (K : PySem.W.Frag)(a : Addr)(ti : TE) : TE := fun σ H Q => ti σ H (o7 K a Q)
theorem mB {K : PySem.W.Frag}{w : World}{a : Addr}{x : Str}{i : Expr}{ti : TE}{p pos : Pos}(D : DTx K w a)(hK : X.K=K)(hw : X.w=w)(hg : Gl X x)(hm : X.mg x=some (.ref a))(hi : PE X i ti)(hs : gu i)
    (hd : (x == ("__debug__" : Str))=false := by decide) : PE X (.Subscript (.Name x p) i pos) (v_ K a ti) := by
  subst hK hw
  intro pins s σ H Q I h
  refine Bs (jt I hg hm (thn (hi pins s σ H _ I h) fun u s2 zq2 => ?_) hd)
  obtain ⟨y, H2, I2, ry, z, z', t', e1, e2, q⟩ := zq2
  exact o6 D _ _ pins s2 σ H2 (.ref a) y (.ref a) u Q I2 rfl ry ⟨z, z', t', rfl, e1, e2, q⟩ (hs _ _)
end
end L2
namespace Wd
abbrev L := Fin 12
def inv (x : L) : L := if h : x.val < 6 then ⟨x.val+6, by omega⟩ else ⟨x.val - 6, by omega⟩
theorem aE : ∀ x : L, inv (inv x)=x := by decide
theorem fe : ∀ x : L, inv x≠x := by decide
def bk (w : List L) : List L := (w.map inv).reverse
theorem uh : bk []=[] := rfl
theorem bQ (u v : List L) : bk (u++v)=bk v++bk u := by simp [bk]
theorem ff (w : List L) : bk (bk w)=w := by
  unfold bk
  rw [List.map_reverse, zo, y8]
  have : (inv ∘ inv)=id := funext fun x => aE x
  rw [this, List.map_id]
theorem b8 (w : List L) : (bk w).length=w.length := by simp [bk]
theorem gG (x : L)(w : List L) : bk (x::w)=bk w++[inv x] := by simp [bk]
theorem bR (x : L) : bk [x]=[inv x] := rfl
def push (st : List L)(x : L) : List L := match st with
  | [] => [x]
  | y::r => if y=inv x then r else x::y::r
def act (w : List L)(st : List L) : List L := w.foldl push st
theorem rp (st : List L) : act [] st=st := rfl
theorem eG (x : L)(w st : List L) : act (x::w) st=act w (push st x) := rfl
theorem a_ (u v st : List L) : act (u++v) st=act v (act u st) := by simp [act, Au]
theorem bY (u : List L)(x : L)(st : List L) : act (u++[x]) st=push (act u st) x := by rw [a_]; rfl
def Rd : List L → Prop
  | [] => True
  | [_] => True
  | x::y::r => y≠inv x ∧ Rd (y::r)
theorem Rd.tail : ∀ {x : L} {r : List L}, Rd (x::r) → Rd r
  | _, [], _ => trivial
  | _, _::_, h => h.2
theorem mD {st : List L}(x : L)(h : Rd st) : Rd (push st x) := by
  cases st with
  | nil => trivial
  | cons y r =>
    show Rd (if y=inv x then r else x::y::r)
    split
    · exact h.tail
    · rename_i hn
      exact ⟨hn, h⟩
theorem fZ : ∀ (w : List L) {st : List L}, Rd st → Rd (act w st)
  | [], _, h => h
  | x::w, st, h => fZ w (mD x h)
theorem iA {st : List L}(x : L)(h : Rd st) : push (push st x) (inv x)=st := by
  cases st with
  | nil =>
    show (if x=inv (inv x) then [] else _)=_
    rw [if_pos (aE x).symm]
  | cons y r =>
    show push (if y=inv x then r else x::y::r) (inv x)=y::r
    by_cases e : y=inv x
    · rw [if_pos e]
      subst e
      cases r with
      | nil => rfl
      | cons z r =>
        show (if z=inv (inv x) then r else inv x::z::r)=_
        rw [if_neg h.1]
    · rw [if_neg e]
      show (if x=inv (inv x) then y::r else _)=_
      rw [if_pos (aE x).symm]
theorem kR {st : List L}(x : L)(h : Rd st) : push (push st (inv x)) x=st := by
  have := iA (inv x) h
  rwa [aE] at this
theorem mE : ∀ (w : List L) {st : List L}, Rd st → act (bk w) (act w st)=st
  | [], _, _ => rfl
  | x::w, st, h => by
    rw [eG, gG, a_, mE w (mD x h), eG, rp, iA x h]
def red (w : List L) : List L := (act w []).reverse
theorem jC : ∀ {st : List L}, Rd st → act st.reverse []=st
  | [], _ => rfl
  | x::r, h => by
    rw [yS, bY, jC h.tail]
    cases r with
    | nil => rfl
    | cons y r =>
      show (if y=inv x then r else _)=_
      rw [if_neg h.1]
theorem iB : Rd [] := trivial
theorem rq (v : List L) : ∀ (st : List L), Rd st → act (red v) st=act v st := by
  have all : ∀ (u v : List L) (st : List L), v=u.reverse → Rd st → act (red v) st=act v st := by
    intro u
    induction u with
    | nil => intro v st e _;subst e;rfl
    | cons x u ih =>
      intro v st e h
      subst e
      rw [yS, bY, ← ih _ st rfl h]
      unfold red
      rw [bY]
      cases hq : act u.reverse [] with
      | nil => rfl
      | cons y r =>
        show act (if y=inv x then r else x::y::r).reverse st=push (act (y::r).reverse st) x
        by_cases e : y=inv x
        · rw [if_pos e, yS, bY, e, kR x (fZ _ h)]
        · rw [if_neg e, yS, bY]
  exact fun st h => all v.reverse v st (by simp) h
theorem ck (u v : List L) : red (red u++v)=red (u++v) := by
  unfold red
  rw [a_, a_, jC (fZ u iB)]
theorem b9 (u v : List L) : red (u++red v)=red (u++v) := by
  show (act (u++red v) []).reverse=(act (u++v) []).reverse
  rw [a_, a_, rq v _ (fZ u iB)]
theorem ka (a : List L) : red (a++bk a)=[] := by
  unfold red
  rw [a_, mE a iB]
  rfl
theorem jD (st : List L)(x : L) : (push st x).length≤st.length+1 := by
  cases st with
  | nil => simp [push]
  | cons y r =>
    show (if y=inv x then r else x::y::r).length≤_
    split
    · simp only [yN];omega
    · simp
theorem cQ : ∀ (w st : List L), (act w st).length≤st.length+w.length
  | [], _ => by simp [act]
  | x::w, st => by
    have := cQ w (push st x)
    have := jD st x
    rw [eG, yN]
    omega
theorem bu (w : List L) : (red w).length≤w.length := by
  have := cQ w []
  simpa [red] using this
def rep : Nat → List L → List L
  | 0, _ => []
  | n+1, w => rep n w++w
def pw (w : List L)(n : Int) : List L := rep n.natAbs (if n < 0 then bk w else w)
end Wd
namespace L2
open PySem PySem.Spec PyProof.Rows Wd
def cp (x : L) : Nat := if x.val < 6 then 97+x.val else 59+x.val
theorem rA : ∀ x : L, cp x < 128 := by decide
theorem mF : ∀ x y : L, cp x=cp y → x=y := by decide
def toS (w : List L) : Str := ⟨(w.map cp).toArray⟩
def tx (w : List L) : V := .str (toS w)
theorem aV (w : List L) : (toS w).cps.toList=w.map cp := by simp [toS]
theorem ab (w : List L) : (toS w).length=w.length := by simp [toS, Str.length]
theorem bJ (w : List L) : (toS w).cps.size=w.length := by simp [toS]
theorem aC (u v : List L) : toS u++toS v=toS (u++v) := by
  apply Str.ext'
  rw [Str.cps_append]
  simp [toS]
theorem dZ : ∀ {u v : List L}, u.map cp=v.map cp → u=v
  | [], [], _ => rfl
  | [], _::_, h => by simp at h
  | _::_, [], h => by simp at h
  | x::u, y::v, h => by
    simp only [yM, List.cons.injEq] at h
    rw [mF x y h.1, dZ h.2]
theorem cF {u v : List L}(h : toS u=toS v) : u=v := by
  have : (toS u).cps.toList=(toS v).cps.toList := by rw [h]
  rw [aV, aV] at this
  exact dZ this
theorem kc {u v : List L}(h : tx u=tx v) : u=v := cF (V.str.inj h)
theorem rB : toS []=("" : Str) := by decide +kernel
theorem eh : tx []=V.str ("" : Str) := yW V.str rB
theorem dH (u v : List L) : decide (tx u=tx v)=decide (u=v) := by
  by_cases h : u=v
  · subst h;simp
  · rw [yr h, yr fun e => h (kc e)]
theorem mG : toS [0, 1, 2, 3, 4, 5]=("abcdef" : Str) := by decide +kernel
theorem big : toS [6, 7, 8, 9, 10, 11]=("ABCDEF" : Str) := by decide +kernel
theorem d3 {w : List L}{i c : Nat}(h : (toS w).cps[i]? = some c) : ∃ x, w[i]? = some x ∧ (⟨#[c]⟩ : Str)=toS [x] := by
  have h : ((w.map cp).toArray)[i]? = some c := h
  rw [AC, yp] at h
  cases e : w[i]? with
  | none => rw [e] at h;cases h
  | some x =>
    rw [e] at h
    have : cp x=c := yh h
    exact ⟨x, rfl, by rw [← this];rfl⟩
theorem bp {w : List L}{k : Nat}{x : L}{i : Int}(hk : i=(k : Int))(h : w[k]? = some x) : atI (toS w).cps.toList i=some (cp x) := by
  subst hk
  rw [aV]
  obtain ⟨hl, e⟩ := ya.mp h
  unfold atI ixN
  rw [if_pos (by omega), if_pos (by rw [x9];omega)]
  show (w.map cp)[((k : Nat) : Int).toNat]? = _
  rw [yD, yp, h]
  rfl
theorem f_ (x : L) : (⟨#[cp x]⟩ : Str)=toS [x] := rfl
def jl (w : List L)(lo hi : Option Int) : List L := (w.drop (HT.sIx w.length 0 lo)).take (HT.sIx w.length w.length hi - HT.sIx w.length 0 lo)
theorem rD (lo hi : Option Int)(n : Nat) : Builtin.Str.strSliceIndices lo hi 1 n=(List.range (HT.sIx n n hi - HT.sIx n 0 lo)).map (fun k => HT.sIx n 0 lo+k) := by
  have cl : ∀ v : Int, max (0 : Int) (min (if v < 0 then v+(n : Int) else v) (n : Int))=(((if v < 0 then (v+(n : Int)).toNat else min v.toNat n) : Nat) : Int) := fun v => by
    by_cases hv : v < 0
    · simp only [if_pos hv];omega
    · simp only [if_neg hv];omega
  have fin : ∀ a b : Nat, sliceRange (a : Int) (b : Int) 1=(List.range (b - a)).map (fun k => a+k) := fun a b => by
    unfold sliceRange
    simp only [show ((1 : Int) > 0)=True from by simp, Bz]
    by_cases hlt : (a : Int) < b
    · have e3 : (((b : Int) - a+1 - 1) / 1).toNat=b - a := by first | omega | (simp;done) | (simp;omega)
      simp only [hlt, Bz, e3]
      exact Af fun k _ => by omega
    · have : b - a=0 := by omega
      simp [hlt, this]
  unfold Builtin.Str.strSliceIndices
  simp only [show ((1 : Int) > 0)=True from by simp, Bz]
  cases lo with
  | none =>
    cases hi with
    | none => exact fin 0 n
    | some j => simp only [cl];exact fin 0 _
  | some i =>
    cases hi with
    | none => simp only [cl];exact fin _ n
    | some j => simp only [cl];exact fin _ _
theorem aF (w : List L)(lo hi : Option Int) : Txt.slice (toS w) lo hi=toS (jl w lo hi) := by
  have h1 := HT.ql w.length 0 (zb _) lo
  have h2 := HT.ql w.length w.length (yb _) hi
  unfold Txt.slice
  rw [rD, ab]
  split
  · rename_i h
    have hl : HT.sIx w.length w.length hi - HT.sIx w.length 0 lo=w.length := by simpa using h
    have e : jl w lo hi=w := by
      unfold jl
      rw [hl]
      have ha : HT.sIx w.length 0 lo=0 ∨ w.length=0 := by omega
      rcases ha with ha | ha
      · rw [ha, BW, yT]
      · have : w=[] := zl ha
        subst this
        simp
    rw [e]
  · apply Str.ext'
    show (List.filterMap _ _).toArray=_
    have e := StrLaws.picks (w.map cp) (HT.sIx w.length w.length hi - HT.sIx w.length 0 lo) (HT.sIx w.length 0 lo)
    by_cases hle : HT.sIx w.length 0 lo≤HT.sIx w.length w.length hi
    · have e := e (by rw [x9];omega)
      have e2 : (fun k : Nat => (toS w).cps[k]?)=fun k : Nat => (w.map cp)[k]? := funext fun k => by simp [toS]
      rw [e2, e]
      simp [toS, jl, List.map_take, List.map_drop]
    · have z : HT.sIx w.length w.length hi - HT.sIx w.length 0 lo=0 := by omega
      rw [z]
      simp [toS, jl, z]
theorem df (w : List L){n : Int}(h : 0≤n) : jl w none (some n)=w.take n.toNat := by
  obtain ⟨k, rfl⟩ := zp h
  unfold jl
  rw [HT.gr, HT.dj, BW, Nat.sub_zero, yD]
  by_cases hk : k≤w.length
  · rw [A8 hk]
  · rw [BF (by omega), yT, zu (by omega)]
theorem cR (w : List L){n : Int}(h : 0≤n) : jl w (some n) none=w.drop n.toNat := by
  obtain ⟨k, rfl⟩ := zp h
  unfold jl
  rw [HT.gr, HT.dj, yD]
  by_cases hk : k≤w.length
  · rw [A8 hk, zu (by rw [zj];omega)]
  · rw [BF (by omega), List.drop_length, BI (by omega)]
    simp
theorem cS (w : List L)(lo hi : Option Int) : (jl w lo hi).length≤w.length := by
  unfold jl
  rw [yy, zj]
  omega
theorem mH (w : List L) : Txt.upper (toS w)=⟨((w.map cp).map up1).toArray⟩ := by
  rw [upper_ascii fun c hc => by rw [aV] at hc;obtain ⟨x, _, rfl⟩ := yE.mp hc;exact rA x]
  simp [toS]
theorem iC (w : List L) : Txt.lower (toS w)=⟨((w.map cp).map lo1).toArray⟩ := by
  rw [lower_ascii fun c hc => by rw [aV] at hc;obtain ⟨x, _, rfl⟩ := yE.mp hc;exact rA x]
  simp [toS]
theorem wa : ∀ x : L, x.val < 6 → up1 (cp x)=cp (inv x) := by decide
theorem wb : ∀ x : L, ¬ x.val < 6 → lo1 (cp x)=cp (inv x) := by decide
theorem iD {x : L}(h : x.val < 6) : Txt.upper (toS [x])=toS [inv x] := by
  rw [mH]
  show (⟨#[up1 (cp x)]⟩ : Str)=⟨#[cp (inv x)]⟩
  rw [wa x h]
theorem iE {x : L}(h : ¬ x.val < 6) : Txt.lower (toS [x])=toS [inv x] := by
  rw [iC]
  show (⟨#[lo1 (cp x)]⟩ : Str)=⟨#[cp (inv x)]⟩
  rw [wb x h]
theorem ex1 : ∀ x : L, cp x∈List.map cp [0, 1, 2, 3, 4, 5] → x.val < 6 := by decide
theorem ex2 : ∀ x : L, x.val < 6 → (List.map cp [0, 1, 2, 3, 4, 5])[x.val]? = some (cp x) := by decide
theorem o8 (x : L) : (!(Builtin.Str.occurrences ("abcdef" : Str) (toS [x]) 0 ("abcdef" : Str).length 1).isEmpty)=decide (x.val < 6) := by
  have h := StrLaws.found_iff ("abcdef" : Str) (toS [x])
  have e : (∃ i, i+(toS [x]).length≤("abcdef" : Str).length ∧ Builtin.Str.subAt ("abcdef" : Str) (toS [x]) i=true) ↔ x.val < 6 := by
    have e2 : ∀ i, (i+(toS [x]).length≤("abcdef" : Str).length ∧ Builtin.Str.subAt ("abcdef" : Str) (toS [x]) i=true) ↔ ("abcdef" : Str).cps.toList[i]? = some (cp x) := fun i => StrLaws.subAt_one _ _ _
    rw [show (("abcdef" : Str))=toS [0, 1, 2, 3, 4, 5] from mG.symm] at e2 ⊢
    constructor
    · rintro ⟨i, hi⟩
      have hi := (e2 i).mp hi
      rw [aV] at hi
      exact ex1 x (yu hi)
    · intro hx
      refine ⟨x.val, (e2 x.val).mpr ?_⟩
      rw [aV]
      exact ex2 x hx
  rw [zT, h, e, Bj]
theorem o9 : ∀ w : List L, Txt.join ("" : Str) (w.map fun x => toS [x])=toS w := by
  intro w
  have e0 : ("" : Str)=Str.empty := by decide +kernel
  unfold Txt.join
  rw [StrLaws.glued_eq_join, e0]
  induction w with
  | nil => rfl
  | cons x r ih =>
    cases r with
    | nil => rfl
    | cons y r =>
      show toS [x]++Str.empty++Str.join Str.empty ((y::r).map fun x => toS [x])=_
      rw [ih, Str.append_empty, aC]
      rfl
theorem rE (w : List L) : ((w.map fun x => toS [x]).map (·.length)).sum=w.length := by
  induction w with
  | nil => rfl
  | cons x r ih =>
    simp only [yM, List.sum_cons, yN]
    rw [ih, ab]
    simp only [yi]
    omega
end L2
namespace L2
open PySem PySem.Spec PyProof.Rows Wd
structure Fnc (P : Program) (w : World) (K : PySem.W.Frag) (mg : Str → Option Value) (base : Heap) (x : Str) (ps : List Str) (k : Nat) (sp : Sp) : Prop where
  ex : ∃ (f : Addr) (fd : FuncData), mg x=some (.ref f) ∧ PySem.W.keepIn K (.ref f)=true ∧ kN K fd ps [] ∧ kM P w K mg base CX0 k f fd ps sp
theorem aI {X : Cx}{x : Str}{ps : List Str}{k j : Nat}{sp : Sp}{e : Expr}{es : List Expr}{t : TA}{p pos : Pos}(F : Fnc X.prog X.w X.K X.mg X.base x ps j sp)(hr : fX k X.A)(hj : j≤k)(hg : Gl X x)(ha : PA X (e::es) t)
    (hdb : (x == ("__debug__" : Str))=false := by decide) (he : starEach (e::es) X.env=(false, eval e X.env)::starEach es X.env := by rfl) (hpl : (backTo pos (starEach es X.env)).any (·.1)=false := by rfl) :
    PE X (.Call (.Name x p) (e::es) [] pos) (tO sp [] E0 t) := by
  obtain ⟨f, fd, hm, hk, hb, F⟩ := F.ex
  exact qY F (hr.mono hj) hg hm hk hb .nil vY ha hdb he hpl
structure Df (K : PySem.W.Frag) (mg : Str → Option Value) (x : Str) (st : Stmt) : Prop where
  ex : ∃ (f : Addr) (fd : FuncData), mg x=some (.ref f) ∧ Fun K x x st f fd
theorem Df.ok {P : Program}{w : World}{K : PySem.W.Frag}{mg : Str → Option Value}{base : Heap}{x : Str}{st : Stmt}{N ps : List Str}{k : Nat}{sp : Sp}(D : Df K mg x st)(S : aG N ps (ai st))
    (hb : ∀ (kV doc pm : Value) (an : Option Addr) (cdv ct : Value) (us : List Value), us.length=ps.length → bindArgs (PySem.W.fnOf x x (aA st) (aw st) (ai st) .none kV doc pm an cdv ct) ⟨us, []⟩=pure (ps.zip us))
    (len : ∀ vs H Q E, sp vs H Q E → vs.length=ps.length)
    (hbody : ∀ (f : Addr) (cdv : Value) (A : Around) (outer : List Env) (s : Shared) (H : Hp) (vs : List V) (Q : VK) (E : XK), fX k (A.deeper (envOfC x (ai st) s.heap.objs.size f cdv)) → sp vs H Q E →
      ∃ t, PSs (qZ CX0 P w K mg base N x (ai st) f cdv A outer s H E).nox (aw st) t ∧ t { nx := fun _ H' => Q .non H', rt := Q } (start N vs) H) : Fnc P w K mg base x ps (k+1) sp := by
  obtain ⟨f, fd, hm, F⟩ := D.ex
  exact ⟨f, fd, hm, F.kp, F.binds hb, F.ok S len fun cdv A outer s H vs Q E hr h => hbody f cdv A outer s H vs Q E hr h⟩
def bG (d : Addr)(H H' : Hp) : Prop := ∀ b o, b≠d → H b=some o → H' b=some o
theorem bG.refl (d : Addr)(H : Hp) : bG d H H := fun _ _ _ h => h
theorem bG.trans {d : Addr}{H H1 H2 : Hp}(a : bG d H H1)(b : bG d H1 H2) : bG d H H2 := fun c o n h => b c o n (a c o n h)
theorem aD.b {d : Addr}{H H' : Hp}(a : aD H H') : bG d H H' := fun b o _ h => a b o h
theorem aD.new {H : Hp}{a : Addr}{o : HO}(h : H a=none) : aD H (upd H a o) := fun b u e => by rw [av (ak e h)]; exact e
theorem bG.upd {d : Addr}{H : Hp}{o : HO} : bG d H (upd H d o) := fun b u n e => by rw [av n]; exact e
theorem aD.then {H H1 : Hp}{a : Addr}{o : HO}(s : aD H H1)(h : H1 a=none) : aD H (L2.upd H1 a o) := s.trans (aD.new h)
def kS (x : Str) : Key := .inr x
def fkv (c : Addr)(i l t : Int) : List (Key × V) := [(kS "cells", .ref c), (kS "at", .int i), (kS "left", .int l), (kS "turn", .int t)]
theorem wc : ¬ (kS "cells" = kS "at") := by decide +kernel
theorem wd : ¬ (kS "cells" = kS "left") := by decide +kernel
theorem we : ¬ (kS "cells" = kS "turn") := by decide +kernel
theorem vt : ¬ (kS "at" = kS "left") := by decide +kernel
theorem vv : ¬ (kS "at" = kS "turn") := by decide +kernel
theorem vw : ¬ (kS "left" = kS "turn") := by decide +kernel
theorem eI {κ : Type}[DecidableEq κ]{k : κ}{v : V}{r : List (κ × V)} : cN ((k, v)::r) k=some v := by unfold cN; simp
theorem b_ {κ : Type}[DecidableEq κ]{k k' : κ}{v : V}{r : List (κ × V)}(h : ¬ k'=k) : cN ((k', v)::r) k=cN r k := by unfold cN; simp [h]
theorem mI (c : Addr)(i l t : Int) : cN (fkv c i l t) (kS "cells")=some (.ref c) := eI
theorem xa (c : Addr)(i l t : Int) : cN (fkv c i l t) (kS "at")=some (.int i) := (b_ wc).trans eI
theorem iF (c : Addr)(i l t : Int) : cN (fkv c i l t) (kS "left")=some (.int l) := (b_ wd).trans ((b_ vt).trans eI)
theorem mJ (c : Addr)(i l t : Int) : cN (fkv c i l t) (kS "turn")=some (.int t) := (b_ we).trans ((b_ vv).trans ((b_ vw).trans eI))
theorem xG : ¬ (kS "turn" = kS "at") := fun e => vv e.symm
theorem xH : ¬ (kS "left" = kS "at") := fun e => vt e.symm
theorem xI : ¬ (kS "turn" = kS "left") := fun e => vw e.symm
theorem xJ (c : Addr)(i l t z : Int) : cW (fkv c i l t) (kS "at") (.int z)=fkv c z l t := by simp [cW, fkv, wc, xH, xG]
theorem mK (c : Addr)(i l t z : Int) : cW (fkv c i l t) (kS "left") (.int z)=fkv c i z t := by simp [cW, fkv, wd, vt, xI]
theorem uk (c : Addr)(i l t z : Int) : cW (fkv c i l t) (kS "turn") (.int z)=fkv c i l z := by simp [cW, fkv, we, vv, vw]
theorem fg (c : Addr)(i l t : Int) : (fkv c i l t).length < sizeLine := by show 4 < sizeLine; decide
theorem wg (c : Addr)(i l t : Int) : e9 [] (fkv c i l t)=fkv c i l t := by simp [e9, cW, fkv, wc, wd, we, vt, vv, vw]
structure Fd (H : Hp) (d : Addr) : Prop where
  ex : ∃ (c : Addr) (i l t : Int) (ns : List Int), H d=some (.dK (fkv c i l t)) ∧ H c=some (.lst (ns.map V.int)) ∧ ns≠[] ∧ ns.length≤64
theorem Fd.same {H H' : Hp}{d : Addr}(F : Fd H d)(s : aD H H') : Fd H' d := by
  obtain ⟨c, i, l, t, ns, h1, h2, h3, h4⟩ := F.ex
  exact ⟨c, i, l, t, ns, s _ _ h1, s _ _ h2, h3, h4⟩
theorem Fd.new {H : Hp}{d a : Addr}{o : HO}(F : Fd H d)(h : H a=none) : Fd (upd H a o) d := F.same (aD.new h)
theorem Fd.ne {H : Hp}{d a : Addr}(F : Fd H d)(h : H a=none) : a≠d := by
  obtain ⟨c, i, l, t, ns, h1, h2, h3, h4⟩ := F.ex
  exact (ak h1 h).symm
theorem Fd.nl {H : Hp}{d a : Addr}{xs : List V}(F : Fd H d)(h : H a=some (.lst xs)) : a≠d := by
  obtain ⟨c, i, l, t, ns, h1, h2, h3, h4⟩ := F.ex
  exact kH h h1 (by intro z;cases z)
inductive iG (vs : List V)(H : Hp)(Q : VK)(u3_ : XK) : Prop
  | mk : ∀ (d : Addr) (m : Int), (vs=[.ref d, .int m]) → (Fd H d) → (0 < m) → (m < 1000000) → (∀ (r : Int) (H' : Hp), 0≤r → r < m → Fd H' d → bG d H H' → Q (.int r) H') → iG vs H Q u3_
inductive mL (K : PySem.W.Frag)(vs : List V)(H : Hp)(Q : VK)(u3_ : XK) : Prop
  | mk : ∀ (a : Addr) (ns : List Int), (vs=[.ref a]) → (SqL K H a (ns.map V.int)) → (ns.length≤63) → (∀ (d : Addr) (H' : Hp), H d=none → Fd H' d → aD H H' → Q (.ref d) H') → mL K vs H Q u3_
theorem rG {ns : List Int}(h : ns≠[])(i : Int) : ∃ n : Int, atI (ns.map V.int) (i % ((ns.map V.int).length : Int))=some (.int n) := by
  have hl : 0 < ns.length := yw.mpr h
  rw [x9]
  have h0 := zH i (show (ns.length : Int)≠0 by omega)
  have h1 := zR i (show (0 : Int) < ns.length by omega)
  obtain ⟨k, hk⟩ := zp h0
  rw [hk] at h1 ⊢
  have hk' : k < ns.length := by omega
  refine ⟨ns[k], ?_⟩
  unfold atI ixN
  rw [if_pos (by omega), if_pos (by rw [x9];omega)]
  show (ns.map V.int)[((k : Nat) : Int).toNat]? = _
  rw [yD, yp, yc hk']
  rfl
end L2
namespace L2
open PySem PySem.Spec PyProof.Rows Wd
mutual
inductive Dt (H : Hp) : V → PyData → Prop where
  | non : Dt H .non .none
  | bl (b : Bool) : Dt H (.bl b) (.bool b)
  | int (i : Int) : Dt H (.int i) (.int i)
  | str (x : Str) : Dt H (.str x) (.str x)
  | lst {a : Addr} {xs : List V} {ds : List PyData} : H a=some (.lst xs) → Dts H xs ds → Dt H (.ref a) (.list ds)
  | tup {a : Addr} {xs : List V} {ds : List PyData} : H a=some (.tup xs) → Dts H xs ds → Dt H (.ref a) (.tuple ds)
inductive Dts (H : Hp) : List V → List PyData → Prop where
  | nil : Dts H [] []
  | cons {v : V} {d : PyData} {vs : List V} {ds : List PyData} : Dt H v d → Dts H vs ds → Dts H (v::vs) (d::ds)
end
section
variable {P : Program} {w : World} {H : Hp} {h : Heap}
mutual
theorem Dt.reads (ok : HOk P w H h) : ∀ {v : V} {d : PyData}, Dt H v d → ∀ {u : Value}, bj v u → ∃ as, Reads h u d as
  | _, _, .non, u, r => by cases r;exact ⟨_, .none⟩
  | _, _, .bl b, u, r => by cases r;exact ⟨_, .bool b⟩
  | _, _, .int i, u, r => by obtain ⟨t, rfl⟩ := r;exact ⟨_, .int i t⟩
  | _, _, .str x, u, r => by obtain ⟨t, rfl⟩ := r;exact ⟨_, .str x t⟩
  | _, _, .lst e q, u, r => by
    cases r
    obtain ⟨_, its, n, rv, g⟩ := ok _ _ e
    obtain ⟨as, ra⟩ := Dts.reads ok q rv
    exact ⟨_, .list g rfl rfl (by simpa using ra)⟩
  | _, _, .tup e q, u, r => by
    cases r
    obtain ⟨_, its, rv, ⟨ob, g, c, n, d⟩, _⟩ := ok _ _ e
    obtain ⟨as, ra⟩ := Dts.reads ok q rv
    exact ⟨_, .tuple g c d (by simpa using ra)⟩
theorem Dts.reads (ok : HOk P w H h) : ∀ {vs : List V} {ds : List PyData}, Dts H vs ds → ∀ {us : List Value}, aW vs us → ∃ as, ReadsAll h us ds as
  | _, _, .nil, _, r => by cases r;exact ⟨_, .nil⟩
  | _, _, .cons q qs, _, r => by
    cases r with
    | cons r rs =>
      obtain ⟨as, a1⟩ := Dt.reads ok q r
      obtain ⟨bs, a2⟩ := Dts.reads ok qs rs
      exact ⟨_, .cons a1 a2⟩
end
end
section
variable {X : Cx}
end
def cG (m : Str)(ys : List Str) : Prop := m∈ys ∧ ∀ y∈ys, m.cps.toList≤y.cps.toList
theorem cG.one {m n : Str}{ys : List Str}(a : cG m ys)(b : cG n ys) : m=n :=
  Str.ext' (AK.mp (List.le_antisymm (a.2 n b.1) (b.2 m a.1)))
theorem er : ∀ (r : List Str) (x : Str), risingS x r=true → cG x (x::r)
  | [], x, _ => ⟨by simp, fun y hy => by rw [ym.mp hy];exact Bk _⟩
  | z::r, x, h => by
    unfold risingS at h
    rw [Ad] at h
    have h1 : x.cps.toList≤z.cps.toList := by
      have := h.1
      rw [ltCps_eq] at this
      exact List.not_lt.mp (by simpa using this)
    have ih := er r z h.2
    refine ⟨by simp, fun y hy => ?_⟩
    rcases yB.mp hy with e | hy
    · rw [e];exact Bk _
    · exact List.le_trans h1 (ih.2 y hy)
def cH (ys : List Str)(i : Nat) : Str := ys.getD i Str.empty
def btS (ys : List Str)(i j : Nat) : Bool := decide ((cH ys i).cps.toList < (cH ys j).cps.toList)
theorem d6 (ys : List Str) : ∀ k, argBest (btS ys) k≤k ∧ ∀ j, j≤k → (cH ys (argBest (btS ys) k)).cps.toList≤(cH ys j).cps.toList
  | 0 => ⟨yb _, fun j hj => by
    have : j=0 := by omega
    subst this
    exact Bk _⟩
  | k+1 => by
    obtain ⟨h1, h2⟩ := d6 ys k
    have e : argBest (btS ys) (k+1)=if btS ys (k+1) (argBest (btS ys) k)=true then k+1 else argBest (btS ys) k := rfl
    rw [e]
    by_cases h : btS ys (k+1) (argBest (btS ys) k)=true
    · rw [if_pos h]
      have h : (cH ys (k+1)).cps.toList < (cH ys (argBest (btS ys) k)).cps.toList := Bv h
      refine ⟨yb _, fun j hj => ?_⟩
      by_cases e : j=k+1
      · subst e;exact Bk _
      · exact List.le_trans (List.le_of_lt h) (h2 j (by omega))
    · rw [if_neg h]
      have h : ¬ (cH ys (k+1)).cps.toList < (cH ys (argBest (btS ys) k)).cps.toList := fun z => h (yG z)
      refine ⟨by omega, fun j hj => ?_⟩
      by_cases e : j=k+1
      · subst e;exact List.not_lt.mp h
      · exact h2 j (by omega)
theorem cT : ∀ {us : List Value} {ys : List Str} {i : Nat} {v : Value}, StrsAre us ys → us[i]? = some v → ∃ t, v = .str (cH ys i) t ∧ i < ys.length
  | _, _, _, _, .nil, h => by simp at h
  | _, _, 0, _, .cons y t r, h => by
    simp at h
    exact ⟨t, by rw [← h];rfl, by simp⟩
  | _, _, i+1, _, .cons y t r, h => by
    obtain ⟨t', e, l⟩ := cT (i := i) r (by simpa using h)
    exact ⟨t', e, by simpa using l⟩
theorem et : ∀ {us : List Value} {ys : List Str}, StrsAre us ys → aW (ys.map V.str) us
  | _, _, .nil => .nil
  | _, _, .cons y t r => .cons ⟨t, rfl⟩ (et r)
section
variable {X : Cx}
inductive cI (K : PySem.W.Frag)(xs : List V)(H : Hp)(Q : VK) : Prop
  | mk : ∀ l ys, (xs=[.ref l]) → (SqL K H l (ys.map V.str)) → (ys≠[]) → (∀ m, cG m ys → Q (.str m) H) → cI K xs H Q
theorem gH (hc : X.calm=true) : dw X (.builtin "min") (cI X.K) := by
  intro pins s σ H xs us Q I r h
  obtain ⟨l, ys, rfl, hq, hne, q⟩ := h
  obtain ⟨u, rfl, ru⟩ := cV r
  cases ru
  obtain ⟨its, rv, pl, _⟩ := I.list hq
  have hS := cP rv
  have hl := pl.isList
  have hlen : its.length=ys.length := by rw [← rv.length, x9]
  have hpos : 0 < ys.length := yw.mpr hne
  have hlt : l < s.heap.objs.size := by obtain ⟨_, e, _⟩ := hl;exact yf e
  refine call_min_walk (Bp hl ?_)
  refine ⟨_, _, _, _, _, _, btS ys, rfl, Walks.list (A := X.A.in1) (I.ok.hd hc) _ l (yH hlt) its.toArray, ⟨⟨_, yk _ rfl, rfl, rfl⟩, hl.push _⟩, fun b hb => ?_, ?_, ?_, fun v h' tk hP hk => ?_⟩
  · show b < (s.heap.push _).objs.size
    rw [zq]
    rcases yB.mp hb with e | hb
    · rw [e];exact AJ _
    · rw [ym.mp hb];exact Bx hlt
  · rw [yg];omega
  · intro i j vi vj s' Q' E' hi hj hQ'
    obtain ⟨t, rfl, _⟩ := cT hS (i := i) (by simpa using hi)
    obtain ⟨t', rfl, _⟩ := cT hS (i := j) (by simpa using hj)
    exact richCompare_gives (op := .Lt) (zZ s' _ t) (zZ s' _ t') F.slot_str_lt F.entry_str_lt (F.args_str_lt_2 _ _) (gives_str_lt _ _ t t') (fun x => nomatch x) hQ'
  · obtain ⟨t, rfl, hlt2⟩ := cT hS (by rw [AC] at hP;exact hP)
    have B := d6 ys (its.toArray.size - 1)
    have old : ∀ b o, s.heap.get? b=some o → h'.get? b=some o := fun b o e => hk b o (fun z => by rw [ym.mp z] at e;exact absurd (yf e) (yZ _)) (x8 _ e)
    refine ⟨.str _, H, I.kept old, ⟨t, rfl⟩, q _ ⟨?_, fun y hy => ?_⟩⟩
    · unfold cH
      rw [yj, yc hlt2]
      exact AL hlt2
    · obtain ⟨j, hj, e⟩ := AO.mp hy
      have := B.2 j (by rw [yg];omega)
      have ej : cH ys j=y := by unfold cH;rw [yj, yc hj];exact e
      rw [ej] at this
      exact this
end
end L2
namespace Kx
open PySem PySem.Spec PyProof.Rows L2 Wd
theorem kd : bootBuiltins "list" = some (.type "list") := by kernel_rfl
theorem o_ : bootBuiltins "int" = some (.type "int") := by kernel_rfl
theorem wj : bootBuiltins "max" = some (.builtin "max") := by kernel_rfl
theorem um : bootBuiltins "min" = some (.builtin "min") := by kernel_rfl
theorem eJ : bootBuiltins "sorted" = some (.builtin "sorted") := by kernel_rfl
theorem gI : bootBuiltins "tuple" = some (.type "tuple") := by kernel_rfl
theorem wm : bootBuiltins "zip" = some (.type "zip") := by kernel_rfl
theorem kT : bootBuiltins "reversed" = some (.type "reversed") := by kernel_rfl
structure Bt (K : PySem.W.Frag) (w : World) (mg : Str → Option Value) (aB : Addr) : Prop where
  len : mg "len" = none
  repr : mg "repr" = none
  abs : mg "abs" = none
  max : mg "max" = none
  int : mg "int" = none
  list : mg "list" = none
  range : mg "range" = none
  reversed : mg "reversed" = none
  min : mg "min" = none
  sorted : mg "sorted" = none
  tuple : mg "tuple" = none
  isinstance : mg "isinstance" = none
  all : mg "all" = none
  str : mg "str" = none
  zip : mg "zip" = none
  mgB : mg "BACKS" = some (.ref aB)
  dB : DTx K w aB
  gB : ∀ x : L, ∃ t, PySem.W.nsIn K aB (toS [x])=some (some (.str (toS [inv x]) t))
theorem dg {H : Hp}{d : Addr}{kvs : List (Key × V)}{k : Str}{v : V}(h : H d=some (.dK kvs))(e : cN kvs (kS k)=some v) : lE H d (.str k) (some v) := by
  have q := lE.k (k := kS k) h
  rw [e] at q
  exact q
theorem dp {H : Hp}{d : Addr}{kvs kvs' : List (Key × V)}{k : Str}{v : V}(h : H d=some (.dK kvs))(hl : kvs.length < sizeLine)(e : cW kvs (kS k) v=kvs') : qp H d (.str k) v (upd H d (.dK kvs')) := by
  have q := qp.k (k := kS k) (v := v) h hl
  rw [e] at q
  exact q
theorem wo {ns : List Int}(h : ns.length≤63) : sV (ns.map V.int) none (some 63)=ns.map V.int := by
  unfold sV
  have e : HT.sIx (ns.map V.int).length (ns.map V.int).length (some 63)=(ns.map V.int).length := by
    have := HT.dj (ns.map V.int).length (ns.map V.int).length 63
    rw [show ((63 : Nat) : Int)=63 from rfl] at this
    rw [this, x9]
    omega
  rw [e, HT.gr, BW, Nat.sub_zero, yT]
def fh (w : List L) : List V := w.map fun x => tx [x]
theorem ke (w : List L) : fh w=(w.map fun x => toS [x]).map V.str := by unfold fh; rw [y8]; rfl
theorem fi (w : List L)(x : L) : fh w++[tx [x]]=fh (w++[x]) := by unfold fh; rw [yK]; rfl
theorem bC (w : List L) : (fh w).length=w.length := by unfold fh; rw [x9]
theorem iH (w : List L) : V.str (Txt.join ("" : Str) (w.map fun x => toS [x]))=tx w := yW V.str (o9 w)
theorem iI (w : List L)(h : w.length≤1000000) : ((w.map fun x => toS [x]).map (·.length)).sum+(w.map fun x => toS [x]).length*("" : Str).length≤16777216 := by
  have e : ("" : Str).length=0 := by decide +kernel
  rw [e, rE]
  omega
theorem aT : sizeLine=16777216 := A3
inductive kf (vs : List V)(H : Hp)(Q : VK)(u3_ : XK) : Prop
  | mk : ∀ w, (vs=[tx w]) → (w.length≤5000) → (∀ H', aD H H' → Q (tx (bk w)) H') → kf vs H Q u3_
inductive mO (vs : List V)(H : Hp)(Q : VK)(u3_ : XK) : Prop
  | mk : ∀ w, (vs=[tx w]) → (w.length≤5000) → (∀ H', aD H H' → Q (tx (red w)) H') → mO vs H Q u3_
theorem gf (u v : List L) : V.str (toS u++toS v)=tx (u++v) := yW V.str (aC u v)
def sg (m : Int) : List L := ([0, 1, 2, 3, 4, 5] : List L).take m.toNat++([6, 7, 8, 9, 10, 11] : List L).take m.toNat
theorem mP {m : Int}(h1 : 1≤m)(h2 : m≤6) : (sg m).length=2*m.toNat := by
  unfold sg
  rw [x_, yy, yy]
  simp only [yN, zh]
  omega
theorem pb {m : Int}(h1 : 1≤m) : V.str (Txt.slice ("abcdef" : Str) none (some m)++Txt.slice ("ABCDEF" : Str) none (some m))=tx (sg m) := by
  rw [← mG, ← big, aF, aF, df _ (by omega), df _ (by omega), gf]
  rfl
theorem qv : ("abcdef" : Str).length=6 := by decide +kernel
theorem qw : ("ABCDEF" : Str).length=6 := by decide +kernel
theorem uo (u : List L){i : Nat}{y : L}(hi : i < u.length)(h : u[u.length - 1 - i]? = some y) : (bk u)[i]? = some (inv y) := by
  unfold bk
  rw [List.getElem?_reverse (by rw [x9];exact hi), x9, yp, h]
  rfl
theorem cb {u : List L}{i : Nat}{x : L}(h : u[i]? = some x) : u.take (i+1)=u.take i++[x] := by
  obtain ⟨hl, e⟩ := ya.mp h
  rw [ze, h]
  rfl
theorem kU {c : Bool}{A B : Prop}(hc : c=true)(h : A) : if c=true then A else B := by rw [if_pos hc]; exact h
theorem kW {c : Bool}{A B : Prop}(hc : c=false)(h : B) : if c=true then A else B := by rw [hc]; exact lF h
theorem sm6 : ∀ j : Fin 6, ([0, 1, 2, 3, 4, 5] : List L)[j.val]? = some ⟨j.val, Nat.lt_trans j.isLt (by decide)⟩ := by decide
def dws (ws : List (List L)) : List PyData := ws.map fun w => .str (toS w)
theorem jE {H : Hp} : ∀ (ws : List (List L)), Dts H (ws.map tx) (dws ws)
  | [] => .nil
  | w::r => .cons (.str (toS w)) (jE r)
end Kx
namespace L2
open PySem PySem.Spec PyProof.Rows Wd
section
variable {X : Cx} {tg : Expr}
end
section
variable {X : Cx} {o e : Expr} {es : List Expr} {to : TE} {t : TA} {name : Str} {apos cpos : Pos} {T id : String} {r : V → List V → Hp → VK → Prop} {K : PySem.W.Frag}
end
end L2
namespace L2
open PySem PySem.Spec PyProof.Rows Wd
section
variable {X : Cx}
inductive qx (x : V)(y : V)(H : Hp)(Q : VK) : Prop
  | mk : ∀ a b xs, (x = .ref a) → (y = .ref b) → (H a=some (.lst xs)) → (H b=some (.lst [])) → (Q (.bl xs.isEmpty) H) → qx x y H Q
theorem mQ (hu : X.A.units+64 < cLine) : OpR X (compareOp .Eq) qx := by
  intro pins s σ H x y v u Q I rx ry h
  obtain ⟨a, b, xs, rfl, rfl, ha, hb, q⟩ := h
  cases rx
  cases ry
  obtain ⟨its, n, rv, ea, _⟩ := I.lst ha
  obtain ⟨its2, n2, rv2, eb, _⟩ := I.lst hb
  cases rv2
  have hla : s.heap.IsList a its.toArray := ⟨_, ea, rfl, _, rfl⟩
  have hlb : s.heap.IsList b ([] : List Value).toArray := ⟨_, eb, rfl, _, rfl⟩
  cases xs with
  | nil =>
    cases rv
    refine EqBoolInt.of_rc (SeqAt.RcAt.lists (e := fun _ => true) hla hlb rfl (by omega) (fun j hj => by simp at hj)) ?_
    exact ⟨.bl true, H, I, rfl, q⟩
  | cons z r =>
    cases rv with
    | cons r1 r2 =>
      refine EqBoolInt.of_rc (SeqAt.RcAt.lists_lengths hla hlb (by simp) (by omega)) ?_
      exact ⟨.bl false, H, I, rfl, q⟩
inductive qy (x : V)(vs : List V)(H : Hp)(Q : VK) : Prop
  | mk : ∀ z y i rest, (x = .str z) → (vs=[.str y]) → (Builtin.Str.occurrences z y 0 z.length 1=i::rest) → (Q (.int (i : Nat)) H) → qy x vs H Q
theorem gJ : MtR X "str.index" qy := by
  intro pins s σ H x vs v us Q I rx rv h
  obtain ⟨z, y, i, rest, rfl, rfl, ho, q⟩ := h
  obtain ⟨t, rfl⟩ := rx
  obtain ⟨u1, rfl, ⟨t1, rfl⟩⟩ := cV rv
  exact SC.index ho ⟨.int _, H, I.tok _, ⟨_, rfl⟩, q⟩
def fj (z : Str) : List V := z.cps.toList.map fun c => .str ⟨#[c]⟩
theorem kX {z : Str}{acc : Array Value}(h : ItemsOf (SignAt z) acc z.cps.size) : aW (fj z) acc.toList := by
  have all : ∀ (cs : List Nat) (us : List Value), cs.length=us.length → (∀ (j : Nat) (v : Value), us[j]? = some v → ∃ c u, cs[j]? = some c ∧ v = .str ⟨#[c]⟩ u) → aW (cs.map fun c => V.str ⟨#[c]⟩) us := by
    intro cs
    induction cs with
    | nil =>
      intro us hl _
      cases us with
      | nil => exact .nil
      | cons _ _ => simp at hl
    | cons c cs ih =>
      intro us hl hh
      cases us with
      | nil => simp at hl
      | cons u us =>
        obtain ⟨c', t, e1, e2⟩ := hh 0 u rfl
        have : c=c' := yh e1
        subst this
        exact .cons ⟨t, e2⟩ (ih us (by simpa using hl) fun j v hj => hh (j+1) v (by simpa using hj))
  refine all _ _ (by rw [y6, y6];exact h.1.symm) fun j v hj => ?_
  obtain ⟨c, u, e1, e2⟩ := h.2 j v (by simpa using hj)
  exact ⟨c, u, by simpa using e1, e2⟩
inductive cf  (xs : List V)(H : Hp)(Q : VK) : Prop
  | mk : ∀ z, (xs=[.str z]) → (z.length≤sizeLine) → (∀ p, H p=none → Q (.ref p) (upd H p (.lst (fj z)))) → cf xs H Q
theorem bS (hc : X.calm=true) : dw X (.type "list") cf := by
  intro pins s σ H xs us Q I r h
  obtain ⟨z, rfl, hz, q⟩ := h
  obtain ⟨u, rfl, t, rfl⟩ := cV r
  refine call_list_str (I.ok.hd hc) z t (fun h' tk acc' c' kp e hI => ?_) hz
  have hl : (fj z).length≤sizeLine := by unfold fj;rw [x9, y6];exact hz
  exact ⟨.ref s.heap.objs.size, _, I.laid kp (yb _) (show bN X.prog X.w _ h' _ (.lst (fj z)) from ⟨hl, acc'.toList, c', kX hI, by simpa using e⟩), rfl, q _ (I.hok.fresh (yb _))⟩
end
end L2
namespace PySem
open Sem (wp)
structure Ap5 (z TI TO i1 i2 : Addr) : Prop where
  TIz : TI≠z
  TOz : TO≠z
  i1z : i1≠z
  i2z : i2≠z
  TITO : TI≠TO
  TIi1 : TI≠i1
  TIi2 : TI≠i2
  TOi1 : TO≠i1
  TOi2 : TO≠i2
  i12 : i1≠i2
abbrev wq (h : Heap)(i : Addr)(x : Str)(t : Tok)(k : Nat) : Prop := h.IsStrIter i "str_ascii_iterator" x t k
section
variable {prog : Program} {w : World} {A : Around} {E : Value → Shared → Prop} {s : Shared} {z TI TO i1 i2 : Addr} {x y : Str} {t u : Tok} {k c d : Nat} {a b : Value}
end
end PySem
namespace PySem
end PySem
namespace L2
open PySem PySem.Spec PyProof.Rows
theorem Inv.stepT {X : Cx}{pins : List (Addr × Obj)}{σ : St}{H : Hp}{s : Shared}{h' : Heap}{t' : Nat}{ch : List Addr}{T : Addr}{xs : List V}{its : List Value}(I : Inv X pins σ H s)(hf : ∀ b∈ch, j0 X pins H b)
    (k : ∀ b o, b∉ch → s.heap.get? b=some o → h'.get? b=some o) (hT : s.heap.objs.size≤T) (hz : xs.length≤sizeLine) (rv : aW xs its) (ht : IsTup h' T its.toArray) (hnd : NoD h' T) (there : ∀ b∈ch, ∃ o, s.heap.get? b=some o) : Inv X pins σ (upd H T (.tup xs)) { s with heap := h', toks := t' } := by
  have hn : H T=none := I.hok.fresh hT
  have ne : ∀ {b o}, s.heap.get? b=some o → b≠T := fun e => yH (yo (yf e) hT)
  have nch : ∀ {b u}, H b=some u → b∉ch := fun e z => by rw [(hf _ z).1] at e;cases e
  refine I.step (g' := s.gens) (d' := s.drawn) (ch := ch) (fun b hb => ?_) (fun b o _ _ hc e _ => k b o hc e) (fun b o _ _ hc e _ => ⟨o.slots, k b o hc e⟩) (fun b o _ e n => by rw [av (ne e)];exact n) (fun b o hc e => ⟨o, k b o hc e⟩)
    (fun b ys e => by rw [av (ak e hn)];exact e) (fun b o u e => by rw [av (ak e hn)];exact e) (fun b ps e => ⟨#[], by rw [av (ak e hn), e];simp⟩) (fun m hm => ?_) (fun b u e => ?_) I.bare
  · obtain ⟨_, f1, _, f3, f4, f5⟩ := hf b hb
    exact ⟨f3, f1, f4, f5⟩
  · obtain ⟨o, es, ep, ho, r⟩ := hm
    exact ⟨o, es, ep, k _ o (fun z => (hf _ z).2.1 rfl) ho, r⟩
  · by_cases hb : b=T
    · subst hb
      rw [ah] at e
      cases e
      exact ⟨hz, its, rv, ht, hnd⟩
    · rw [av hb] at e
      refine (I.hok b u e).stay (fun c v hc q => k c v ?_ q) (fun c q => by rw [av (ak q hn)];exact q) fun c ys q => by rw [av (ak q hn)];exact q
      rcases hc with z | z
      · rw [z];exact nch e
      · exact nch z
section
variable {X : Cx}
theorem uq (n : Nat) : Ap5 (n+4) (n+2) (n+3) n (n+1) := by
  constructor <;> (intro h;have h : (_ : Nat)=_ := h;omega)
end
end L2
namespace L2
open PySem PySem.Spec PyProof.Rows Wd
def ltr (c : Nat) : Option L := ([0, 1, 2, 3, 4, 5, 6, 7, 8, 9, 10, 11] : List L).find? fun x => cp x == c
def okC (m : Int)(c : Nat) : Bool := match ltr c with
  | some x => decide (((x.val % 6 : Nat) : Int) < m)
  | none => false
def isW (m : Int)(z : Str) : Bool := z.cps.toList.all (okC m)
def wdV (m : Int) : V → Bool
  | .str z => isW m z
  | _ => false
def wt : List Str := ([0, 1, 2, 3, 4, 5, 6, 7, 8, 9, 10, 11] : List L).map fun x => toS [x]
end L2
namespace Kx
open PySem PySem.Spec PyProof.Rows L2 Wd
inductive rH (vs : List V)(H : Hp)(Q : VK)(u3_ : XK) : Prop
  | mk : ∀ (x : L), (vs=[tx [x]]) → (Q (.int ((x.val % 6 : Nat) : Int)) H) → rH vs H Q u3_
theorem ur : ∀ x : L, Builtin.Str.occurrences ("abcdef" : Str) (Txt.lower (toS [x])) 0 ("abcdef" : Str).length 1=[x.val % 6] := by
  have q : ∀ x : L, Builtin.Str.occurrences ("abcdef" : Str) (⟨(([x].map cp).map lo1).toArray⟩ : Str) 0 ("abcdef" : Str).length 1=[x.val % 6] := by decide +kernel
  intro x
  rw [iC]
  exact q x
end Kx
namespace L2
open PySem PySem.Spec PyProof.Rows Wd
section
variable {X : Cx}
end
end L2
namespace Kx
open PySem PySem.Spec PyProof.Rows L2 Wd
def ofS (z : Str) : Option (List L) := z.cps.toList.mapM ltr
end Kx
namespace L2
open PySem PySem.Spec PyProof.Rows Wd
theorem pd {K : PySem.W.Frag}{a : Addr}{xs : List V}{own : List Str}{cap : List Nat}{g : TG}{ti : TT}{te : TE}{σ : St}{H : Hp}{Q : VK}(Pv : Nat → List V → St → Hp → Prop)(h0 : Pv 0 [] (stB own cap σ) H)(hz : ∀ i ys σ H, i≤xs.length → Pv i ys σ H → ys.length≤i)(hn : xs.length≤sizeLine)
    (hl : ∀ i ys σ H, Pv i ys σ H → SqT K H a xs)
    (hs : ∀ i ys σ H x (N : List V → St → Hp → Prop), xs[i]? = some x → Pv i ys σ H → (∀ ys' σ' H'', Pv (i+1) ys' σ' H'' → N ys' σ' H'') → g x σ H fun σ2 H2 => ti σ2 H2 fun b H3 => if b=true then te σ2 H3 fun y H4 => N (ys++[y]) σ2 H4 else N ys σ2 H3)
    (hd : ∀ ys σ H D, Pv xs.length ys σ H → H D=none → Q (.ref D) (upd H D (.lst ys))) :
    oY own cap g ti te Q σ (Itt K a) H := by
  refine fc (J := Itt K a) xs.length Pv h0 hz hn (fun i ys σ H hi p => ⟨xs, xs[i], hl i ys σ H p, yc hi⟩) (fun ys σ H p => ⟨xs, hl _ ys σ H p, yb _⟩) ?_ hd
  rintro i ys σ H x H' N hi p ⟨rfl, hx⟩ hN
  exact hs i ys σ _ x N (hx xs (hl i ys σ _ p)) p hN
theorem cJ {K : PySem.W.Frag}{a : Addr}{xs : List V}{own : List Str}{cap : List Nat}{g : TG}{ti : TT}{te : TE}{σ : St}{H : Hp}{Q : VK}(Pv : Nat → List V → St → Hp → Prop)(h0 : Pv 0 [] (stB own cap σ) H)(hz : ∀ i ys σ H, i≤xs.length → Pv i ys σ H → ys.length≤i)(hn : xs.length≤sizeLine)
    (hl : ∀ i ys σ H, Pv i ys σ H → SqL K H a xs)
    (hs : ∀ i ys σ H x (N : List V → St → Hp → Prop), xs[i]? = some x → Pv i ys σ H → (∀ ys' σ' H'', Pv (i+1) ys' σ' H'' → N ys' σ' H'') → g x σ H fun σ2 H2 => ti σ2 H2 fun b H3 => if b=true then te σ2 H3 fun y H4 => N (ys++[y]) σ2 H4 else N ys σ2 H3)
    (hd : ∀ ys σ H D, Pv xs.length ys σ H → H D=none → Q (.ref D) (upd H D (.lst ys))) :
    oY own cap g ti te Q σ (Itl K a) H := by
  refine fc (J := Itl K a) xs.length Pv h0 hz hn (fun i ys σ H hi p => ⟨xs, xs[i], hl i ys σ H p, yc hi⟩) (fun ys σ H p => ⟨xs, hl _ ys σ H p, yb _⟩) ?_ hd
  rintro i ys σ H x H' N hi p ⟨rfl, hx⟩ hN
  exact hs i ys σ _ x N (hx xs (hl i ys σ _ p)) p hN
theorem pe {u : List L}(h : 1 < u.length) : ∃ x mid z, u=x::(mid++[z]) := by
  match u, h with
  | x::y::r, _ =>
    refine ⟨x, (y::r).dropLast, (y::r).getLast (by simp), ?_⟩
    rw [y4]
theorem Fd.neT {H : Hp}{d a : Addr}{xs : List V}(F : Fd H d)(h : H a=some (.tup xs)) : a≠d := by
  obtain ⟨c, i, l, t, ns, h1, h2, h3, h4⟩ := F.ex
  exact kH h h1 (by intro z;cases z)
theorem none_of {H H1 : Hp}{a : Addr}(s : aD H H1)(h : H1 a=none) : H a=none := by
  cases e : H a with
  | none => rfl
  | some o => rw [s _ _ e] at h;cases h
end L2
namespace L2
open PySem PySem.Spec PyProof.Rows
theorem mR {X : Cx}{i : Nat}{y : Str}{py spos : Pos}{elt iter tg : Expr}{ifs : List Expr}{scope : Scope}{pos : Pos}{NB own : List Str}{cap : List Nat}{wi : TI}{g : TG}{ti : TT}{te : TE}(hN : X.N.Nodup)(hi0 : X.N[i]? = some y)(hx : Loc X.env.scope y)(B : Blk X scope NB own cap)(hc : X.calm=true)(hi : PI X tg iter wi)
    (hg : ∀ C fp s₀ H₀, PG (cxB X NB own scope C fp s₀ H₀) tg g) (ht : ∀ C fp s₀ H₀, PIf (cxB X NB own scope C fp s₀ H₀) ifs ti) (he : ∀ C fp s₀ H₀, PE (cxB X NB own scope C fp s₀ H₀) elt te)
    (hs : ∀ x, foldedSetIterable iter X.env x=pure x := by intro _;rfl) (hsw : swapsWith (.ListComp elt [⟨tg, iter, ifs, 0⟩] scope pos) (some (.Name y py)) spos.line X.env=pure true := by rfl) (hf : X.fn y=true ∨ X.env.scope.names.lookup y=some .local := by first | exact .inl rfl | exact .inr rfl | assumption) : PS X (.Assign [.Name y py] (.ListComp elt [⟨tg, iter, ifs, 0⟩] scope pos) spos) (vJ (uf own cap wi g ti te) (qO i)) := by
  intro pins s σ H DD I0 h
  rw [exec_Assign_Name_used _ _ _ _ hsw]
  refine fu (wpAny_standAt (fu ?_))
  show wpAny _ X.A (do let _ ← comprehension (.ListComp elt [⟨tg, iter, ifs, 0⟩] scope pos) scope X.env _ (newList []) false (eval iter X.env) (some (assign (.Name y py) X.env))) _ _ s
  have hclos := dF (env := X.env) (scope := scope) fun y hy e => I0.ok.has y.1 (.inl (B.free y hy e))
  refine fu (zy (Bw (use := some (assign (.Name y py) X.env)) (Q := fun _ s' => SP X pins DD .next s') rfl hs hclos B.kind B.names (thn (hi pins s σ H _ I0 h) fun v s1 h1 => thn h1 fun itv s2 h2 => ?_)) (fun _ s' hq => yn (yn hq)) fun _ _ e => e)
  obtain ⟨it, fp, tn, J, H2, rfl, I, T, st2, f2, W, ⟨m0, w0⟩, turn⟩ := h2
  refine wpAny_newList ?_
  refine wpAny_newFunctionEnv B.nocell (by intro y hy;simp at hy) (fun h₁ hns₁ hsb₁ => ?_) B.kind
  dsimp only at hns₁ hsb₁ ⊢
  generalize hP : s2.heap.push { cls := .type "list", dict := none, data := .seq ([] : List Value).toArray }=P at hns₁ hsb₁ ⊢
  have hC : P.objs.size=s2.heap.objs.size+1 := by rw [← hP, zq]
  have hDC : s2.heap.objs.size≠P.objs.size := by rw [hC];exact yH (AJ _)
  have hCle : s2.heap.objs.size≤P.objs.size := by rw [hC];exact Aq _
  have old : ∀ b o, s2.heap.get? b=some o → h₁.get? b=some o := fun b o e => by
    refine (hsb₁.2 b ?_).trans (x8 _ (hP ▸ x8 _ e))
    exact yH (yo (yf e) hCle)
  have hD : h₁.get? s2.heap.objs.size=some { cls := .type "list", data := .seq ([] : List Value).toArray 0 } := by
    refine (hsb₁.2 _ hDC).trans (x8 _ ?_)
    rw [← hP]
    exact yk _ rfl
  have hfs : ∀ b∈fp, ∃ o, s2.heap.get? b=some o := fun b hb => let ⟨o, e, _⟩ := T.obj _ _ st2 b hb;⟨o, e⟩
  have st4 : tn 0 h₁ := T.keep _ _ _ st2 fun b _ o e => old b o e
  generalize htk : s2.toks+([] : List (Str × Value)).length=tk4
  have I4 := B.start (C := P.objs.size) (tk := tk4) I f2 hfs hCle old hns₁
  have fOk : ∀ {H' : Hp} {b : Addr} {ob : Obj}, b∈fp → H' b=none → j0 (cxB X NB own scope P.objs.size fp s2 H2) [(s2.heap.objs.size, ob)] H' b := fun {H' b ob} hb hn => by
    obtain ⟨o, e⟩ := hfs b hb
    refine ⟨hn, (I4.ok.exf b hb).1, I4.ok.exfs b hb, .inl hb, (I4.ok.exf b hb).2, fun p hp => ?_⟩
    have ep : p=(s2.heap.objs.size, ob) := ym.mp (show p∈[(s2.heap.objs.size, ob)] from hp)
    rw [ep]
    exact fun z => absurd (yf e) (by rw [← z];exact yZ _)
  have dnf : s2.heap.objs.size∉frs X.stack := fun z => by
    rcases yB.mp (I.stkSub _ z) with z | z
    · exact absurd I.lt (by rw [← z];exact yZ _)
    · exact I.nofs (yb _) z
  have I3D : ∀ {σ3 : St} {H3 : Hp} {s3 : Shared} {its : List Value} {k : Nat}, Inv (cxB X NB own scope P.objs.size fp s2 H2) [] σ3 H3 s3 → s3.heap.get? s2.heap.objs.size=some { cls := .type "list", data := .seq its.toArray k } → H3 s2.heap.objs.size=none →
      Inv (cxB X NB own scope P.objs.size fp s2 H2) [(s2.heap.objs.size, { cls := .type "list", data := .seq its.toArray k })] σ3 H3 s3 := fun I3 e n => I3.pins_of fun p hp => by
    have ep := ym.mp hp
    subst ep
    exact ⟨e, n, hDC, dnf, fun v z => by cases z⟩
  have ndf : s2.heap.objs.size∉fp := fun z => by
    obtain ⟨o, e⟩ := hfs _ z
    exact absurd (yf e) (yZ _)
  have nCD : ∀ x c, (cxB X NB own scope P.objs.size fp s2 H2).env.cells.lookup x=some c → c≠s2.heap.objs.size := fun x c e z => by
    obtain ⟨v, o, ho, _⟩ := I.cell x c (B.cells I.ok e).1
    rw [z] at ho
    exact absurd (yf ho) (yZ _)
  have loop : ∀ s₃ : Shared, s₃ = { s2 with heap := h₁, toks := tk4 } → codeAny (model X.prog X.w) X.A (.compLoop (.ListComp elt [⟨tg, iter, ifs, 0⟩] scope pos) 0 (.ref it) (.ref s2.heap.objs.size) (cxB X NB own scope P.objs.size fp s2 H2).env)
      (compPost (model X.prog X.w) X.A X.xe (some (assign (.Name y py) X.env)) (fun _ s' => SP X pins DD .next s') (.ref s2.heap.objs.size) P.objs.size) s₃ := by
    rintro s₃ rfl
    refine ip (fun n s' => ∃ i σB H' ys its k, Inv (cxB X NB own scope P.objs.size fp s2 H2) [] σB H' s' ∧ tn i s'.heap ∧ (∀ b∈fp, H' b=none) ∧ s'.heap.get? s2.heap.objs.size=some { cls := .type "list", data := .seq (its : List Value).toArray k } ∧ aW ys its ∧ H' s2.heap.objs.size=none ∧ W i n ys σB H') ?_ m0
      ⟨0, stB own cap σ, H2, [], [], 0, I4, st4, fun b hb => (f2 b hb).1, hD, .nil, I.hok.fresh (yb _), w0⟩
    rintro n s3 ⟨i, σ3, H3, ys, its, k, I3, st3, fr3, hD3, rv, hn3, w3⟩
    rcases turn i n ys σ3 H3 w3 with ⟨stop, hz, q⟩ | ⟨go, hz, step⟩
    · refine thn (T.done (cxB X NB own scope P.objs.size fp s2 H2) rfl rfl rfl hc i _ s3 σ3 H3 noE (I3D I3 hD3 hn3) (fun b hb => fOk hb (fr3 b hb)) st3 stop) fun r s4 zq1 => ?_
      obtain ⟨hr, I4'⟩ := zq1
      subst hr
      have hD4 : s4.heap.get? s2.heap.objs.size=some { cls := .type "list", data := .seq (its : List Value).toArray k } := (I4'.pin (s2.heap.objs.size, _) (ye _ (ym.mpr rfl))).1
      have I5 : Inv (cxB X NB own scope P.objs.size fp s2 H2) [] σ3 H3 s4 := I4'.pins_of fun p hp => absurd (show p∈([] : List (Addr × Obj)) from hp) (by simp)
      obtain ⟨mC, hnC, _⟩ := I5.loc
      have I6 : Inv X pins σ (upd H3 s2.heap.objs.size (.lst ys)) s4 := B.done (h'' := s4.heap) I f2 hCle (yb _) hDC I5 hn3 hD4 rv hz ⟨rfl, fun _ _ => rfl⟩
      obtain ⟨oC, es, ep, hoC, hdC, rC⟩ := hnC
      have hCn : (upd H3 s2.heap.objs.size (.lst ys)) P.objs.size=none := by rw [av hDC.symm];exact I5.free
      have nL : P.objs.size≠X.env.locals := fun z => absurd I.lt (by rw [← z];exact Nat.not_lt.mpr hCle)
      have I7 : Inv X (pins++[(P.objs.size, oC)]) σ (upd H3 s2.heap.objs.size (.lst ys)) s4 := I6.pins_of fun p hp => by
        rcases yJ.mp hp with z | z
        · exact I6.pin p (ye _ z)
        · have ep := ym.mp z
          subst ep
          exact ⟨hoC, hCn, nL, I.nofs hCle, fun v z => by rw [hdC] at z;cases z⟩
      refine thn (aM (pos := py) hN hi0 hx hf (pins++[(P.objs.size, oC)]) s4 σ _ (.ref s2.heap.objs.size) (.ref s2.heap.objs.size) (fun σ' H' => DD.nx σ' H' ∧ H'=upd H3 s2.heap.objs.size (.lst ys)) I7 rfl ⟨q _ hn3, rfl⟩) fun _ s5 zq2 => ?_
      obtain ⟨σ5, H5, I8, q5, e5⟩ := zq2
      subst e5
      have pC := (I8.pin (P.objs.size, oC) (ye _ (ye _ (ym.mpr rfl)))).1
      refine ⟨mC, ⟨oC, es, ep, pC, hdC, rC⟩, fun h'' sb => ⟨σ5, _, ?_, q5⟩⟩
      have I9 : Inv X pins σ5 (upd H3 s2.heap.objs.size (.lst ys)) s5 := I8.pins_of fun p hp => I8.pin p (ye _ (yz _ hp))
      refine I9.turned (t' := s5.toks) (it := P.objs.size) (fun b o hb e => (sb.2 b hb).trans e) hCn nL (.inr (yV I.sz hCle)) (fun x c e z => ?_) fun p hp z => ?_
      · obtain ⟨v, o, ho, _⟩ := I.cell x c e
        exact absurd (yf ho) (by rw [z];exact Nat.not_lt.mpr hCle)
      · exact absurd (yf (I.pin p hp).1) (by rw [z];exact Nat.not_lt.mpr hCle)
    · refine thn (T.item (cxB X NB own scope P.objs.size fp s2 H2) rfl rfl rfl hc i _ s3 σ3 H3 noE (I3D I3 hD3 hn3) (fun b hb => fOk hb (fr3 b hb)) st3 go) fun r s4 zq3 => ?_
      obtain ⟨u, hr, h4⟩ := zq3
      subst hr
      refine thn h4 fun _ s5 zq4 => ?_
      obtain ⟨x, H5, I5, r5, y5, st5, fr5⟩ := zq4
      have I5' := I5.pinned (fun b hb => fOk hb (fr5 b hb)) (T.obj _ _ st5)
      refine thn (hg _ fp s2 H2 _ s5 σ3 H5 x u _ I5' r5 (step x H5 y5)) fun _ s6 zq5 => ?_
      obtain ⟨σ6, H6, I6, q6⟩ := zq5
      refine thn (ht _ fp s2 H2 _ s6 σ6 H6 _ I6 q6) fun b s7 zq6 => ?_
      obtain ⟨H7, I7, q7⟩ := zq6
      have pinned : ∀ {σ8 : St} {H8 : Hp} {s8 : Shared}, Inv (cxB X NB own scope P.objs.size fp s2 H2) ([(s2.heap.objs.size, { cls := .type "list", data := .seq (its : List Value).toArray k })]++fV fp s5.heap) σ8 H8 s8 →
          tn (i+1) s8.heap ∧ (∀ b∈fp, H8 b=none) ∧ s8.heap.get? s2.heap.objs.size=some { cls := .type "list", data := .seq (its : List Value).toArray k } ∧ H8 s2.heap.objs.size=none := fun {σ8 H8 s8} I8 => by
        refine ⟨T.keep _ _ _ st5 fun b hb o e => (I8.pin (b, o) (ye _ (ye _ (bL hb e)))).1, fun b hb => ?_, ?_, ?_⟩
        · obtain ⟨o, e, d⟩ := T.obj _ _ st5 b hb
          exact (I8.pin (b, o) (ye _ (ye _ (bL hb e)))).2.1
        · exact (I8.pin (s2.heap.objs.size, _) (ye _ (yz _ (ym.mpr rfl)))).1
        · exact (I8.pin (s2.heap.objs.size, _) (ye _ (yz _ (ym.mpr rfl)))).2.1
      have nopin : ∀ {pp : List (Addr × Obj)} {σ8 : St} {H8 : Hp} {s8 : Shared}, Inv (cxB X NB own scope P.objs.size fp s2 H2) pp σ8 H8 s8 → Inv (cxB X NB own scope P.objs.size fp s2 H2) [] σ8 H8 s8 := fun I8 => I8.pins_of fun p hp => absurd (show p∈([] : List (Addr × Obj)) from hp) (by simp)
      cases b with
      | false =>
        rw [if_neg yC] at q7 ⊢
        obtain ⟨m', hm, w7⟩ := q7
        obtain ⟨p1, p2, p3, p4⟩ := pinned I7
        exact ⟨m', hm, i+1, σ6, H7, ys, its, k, nopin I7, p1, p2, p3, rv, p4, w7⟩
      | true =>
        rw [if_pos rfl] at q7 ⊢
        refine thn (he _ fp s2 H2 _ s7 σ6 H7 _ I7 q7) fun yv s8 zq7 => ?_
        obtain ⟨y, H8, I8, r8, m', hm, w8⟩ := zq7
        obtain ⟨p1, p2, p3, p4⟩ := pinned I8
        refine AX y0 ⟨_, p3, rfl⟩ A4 (AN _ _) (Bu s2.heap.objs.size its.toArray k yv (by rw [yg, ← rv.length];omega)) ⟨p3, ?_⟩
        have q := BC p3 fun a => a.push yv
        have ea : its.toArray.push yv=(its++[yv]).toArray := by simp
        rw [ea] at q
        have I9 : Inv (cxB X NB own scope P.objs.size fp s2 H2) [] σ6 H8 { s8 with heap := s8.heap.update s2.heap.objs.size (Obj.mapSeq fun a => a.push yv), toks := s8.toks } :=
          (nopin I8).turned (it := s2.heap.objs.size) (fun b o hb e => (yY s8.heap _ (Ne.symm hb)).trans e) p4 hDC (.inr (yb _)) (fun x c e => nCD x c e) fun p hp => absurd (show p∈([] : List (Addr × Obj)) from hp) (by simp)
        refine ⟨m', hm, i+1, σ6, H8, ys++[y], its++[yv], _, I9, ?_, p2, q, rv.append (.cons r8 .nil), p4, w8⟩
        refine T.keep _ _ _ p1 fun b hb o e => (yY s8.heap _ ?_).trans e
        intro z
        rw [z] at ndf
        exact ndf hb
  exact codeAny_compStart_list (loop _ rfl) (T.self X.A 0 _ _ _ st4 (loop _ rfl))
end L2
namespace L2
open PySem PySem.Spec PyProof.Rows Wd
end L2
namespace L2
open PySem PySem.Spec PyProof.Rows Wd
section
variable {X : Cx}
theorem jF {i o : Expr}{ty td : TE}{pos : Pos}(hu : X.A.units+1 < cLine)(hi : PE X i ty)(ho : PE X o td)(h1 : behindInMarks .NotIn o=false) : PT X (.Compare i [.NotIn] [o] pos) (tB (ml ty td)) := tm (mm hu hi ho) h1
end
end L2
namespace Wd
structure Srf (u : List L) : Prop where
  ne : u≠[]
  nd : u.Nodup
  iv : ∀ x∈u, inv x∈u
  le : u.length≤12
theorem Srf.pos {u : List L}(S : Srf u) : 0 < u.length := yw.mpr S.ne
def cX (u : List L)(g : Nat) : L := u.getD ((g+1) % u.length) 0
def bZ (u : List L)(g : Nat) : Nat := u.idxOf (inv (cX u g))
theorem cm {u : List L}(S : Srf u)(g : Nat) : u[(g+1) % u.length]? = some (cX u g) := by
  have h := B3 (g+1) S.pos
  unfold cX
  rw [yj, yc h]
  rfl
theorem eK {u : List L}(S : Srf u)(g : Nat) : cX u g∈u := yu (cm S g)
theorem cU {u : List L}(S : Srf u)(g : Nat) : bZ u g < u.length := A9 (S.iv _ (eK S g))
structure Sn (u : List L) (S : List Nat) : Prop where
  nd : S.Nodup
  lt : ∀ g∈S, g < u.length
theorem mS : ∀ (n : Nat) (S : List Nat), S.Nodup → (∀ g∈S, g < n) → S.length≤n
  | 0, S, _, h => by
    cases S with
    | nil => exact yb _
    | cons a r => exact absurd (h a yA) (Nat.not_lt_zero _)
  | n+1, S, nd, h => by
    by_cases hn : n∈S
    · have q := mS n (S.erase n) (nd.erase n) fun g hg => by
        have := (List.Nodup.mem_erase_iff nd).mp hg
        have := h g this.2
        omega
      rw [List.length_erase_of_mem hn] at q
      omega
    · have q := mS n S nd fun g hg => by
        have h1 := h g hg
        have h2 : g≠n := fun e => hn (e ▸ hg)
        omega
      omega
theorem Sn.le {u : List L}{S : List Nat}(h : Sn u S) : S.length≤u.length := mS _ _ h.nd h.lt
theorem Sn.snoc {u : List L}{S : List Nat}(h : Sn u S){g : Nat}(hg : g < u.length)(hn : g∉S) : Sn u (S++[g]) := by
  refine ⟨?_, fun x hx => ?_⟩
  · rw [zI]
    refine ⟨h.nd, by simp, fun a ha b hb e => ?_⟩
    rw [ym] at hb
    subst hb
    exact hn (e ▸ ha)
  · rcases yJ.mp hx with h1 | h1
    · exact h.lt x h1
    · rw [ym] at h1
      exact h1 ▸ hg
theorem Sn.nil (u : List L) : Sn u [] := ⟨Ay, fun _ h => absurd h (by simp)⟩
def mT (u : List L) : Nat → Nat → List Nat → List L → List Nat × List L
  | 0, _, S, w => (S, w)
  | n+1, g, S, w => if g∈S then (S, w) else mT u n (bZ u g) (S++[g]) (w++[cX u g])
def wk (u : List L)(g : Nat)(S : List Nat)(w : List L) : List Nat × List L := mT u (u.length+1 - S.length) g S w
theorem pf {u : List L}{g : Nat}{S : List Nat}{w : List L}(h : g∈S) : wk u g S w=(S, w) := by
  unfold wk
  cases u.length+1 - S.length with
  | zero => rfl
  | succ n => unfold mT;rw [if_pos h]
theorem kg {u : List L}{g : Nat}{S : List Nat}{w : List L}(hs : Sn u S)(hg : g < u.length)(h : g∉S) : wk u g S w=wk u (bZ u g) (S++[g]) (w++[cX u g]) := by
  have h1 := (hs.snoc hg h).le
  rw [x_, yi] at h1
  unfold wk
  rw [x_, yi]
  have e : u.length+1 - S.length=(u.length+1 - (S.length+1))+1 := by omega
  rw [e]
  show (if g∈S then (S, w) else _)=_
  rw [if_neg h]
theorem kh (u : List L) : ∀ (n g : Nat) (S : List Nat) (w : List L), w.length≤(mT u n g S w).2.length
  | 0, _, _, _ => yb _
  | n+1, g, S, w => by
    unfold mT
    split
    · exact yb _
    · have := kh u n (bZ u g) (S++[g]) (w++[cX u g])
      rw [x_, yi] at this
      omega
theorem wu {u : List L}{g : Nat}{S : List Nat}(hs : Sn u S)(hg : g < u.length)(h : g∉S) : (wk u g S []).2≠[] := by
  rw [kg hs hg h]
  have := kh u (u.length+1 - (S++[g]).length) (bZ u g) (S++[g]) ([]++[cX u g])
  intro e
  unfold wk at e
  rw [e] at this
  simp at this
def cw (u : List L) : Nat → List Nat × List (List L)
  | 0 => ([], [])
  | i+1 => if i∈(cw u i).1 then cw u i else ((wk u i (cw u i).1 []).1, (cw u i).2++[(wk u i (cw u i).1 []).2])
theorem jG (u : List L) : ∀ i, (cw u i).2.length≤i
  | 0 => yb _
  | i+1 => by
    have := jG u i
    unfold cw
    split
    · omega
    · show ((cw u i).2++[_]).length≤i+1
      rw [x_, yi]
      omega
theorem eA {u : List L}{i : Nat}(h : i∈(cw u i).1) : cw u (i+1)=cw u i := by
  show (if _ then _ else _)=_
  rw [if_pos h]
theorem fk {u : List L}{i : Nat}(h : i∉(cw u i).1) : cw u (i+1)=((wk u i (cw u i).1 []).1, (cw u i).2++[(wk u i (cw u i).1 []).2]) := by
  show (if _ then _ else _)=_
  rw [if_neg h]
def hol (u : List L) : List (List L) := (cw u u.length).2
end Wd
namespace Kx
open PySem PySem.Spec PyProof.Rows L2 Wd
theorem mU (u : List L)(x : L)(i : Nat) : StrLaws.At (toS u) (toS [x]) (toS u).length i ↔ u[i]? = some x := by
  unfold StrLaws.At
  rw [ab, ab, StrLaws.subAt_eq, ab, aV, aV, beq_iff_eq, ← List.map_drop, ← List.map_take]
  simp only [yi]
  constructor
  · rintro ⟨h1, h2⟩
    have h2 := dZ h2
    have : (u.drop i).take 1=[u[i]] := by rw [Aa (by omega)];rfl
    rw [this] at h2
    rw [yc (by omega)]
    exact yW some (y_ h2).1
  · intro h
    obtain ⟨hl, e⟩ := ya.mp h
    refine ⟨by omega, ?_⟩
    rw [Aa hl, e]
    rfl
theorem mV {u : List L}{x : L}(h : x∈u) : ∃ rest, Builtin.Str.occurrences (toS u) (toS [x]) 0 (toS u).length 1=u.idxOf x::rest := by
  have hlt := A9 h
  have hx : u[u.idxOf x]? = some x := by rw [yc hlt];exact yW some (Aj hlt)
  rcases StrLaws.occ_head (toS u) (toS [x]) 1 (yb 1) with ⟨h0, hn⟩ | ⟨i, r, h0, hi, hn⟩
  · exact absurd ((mU u x _).mpr hx) (hn _)
  · refine ⟨r, ?_⟩
    rw [h0]
    have hi := (mU u x i).mp hi
    have : i=u.idxOf x := by
      rcases Nat.lt_trichotomy i (u.idxOf x) with h1 | h1 | h1
      · have q := List.not_of_lt_findIdx (p := (· == x)) h1
        obtain ⟨hl, e⟩ := ya.mp hi
        exact absurd (beq_iff_eq.mpr e) (by simpa using q)
      · exact h1
      · exact absurd ((mU u x _).mpr hx) (hn _ h1)
    rw [this]
theorem none_of {H H' : Hp}{a : Addr}(s : aD H H')(h : H' a=none) : H a=none := by
  cases e : H a with
  | none => rfl
  | some o => exact absurd (s _ _ e) (by rw [h];intro z;cases z)
def sk (S : List Nat) : List (Key × V) := S.map fun g : Nat => (Sum.inl (g : Int), V.bl true)
theorem ki (S : List Nat)(g : Nat) : (cN (sk S) (Sum.inl (g : Int))).isSome=decide (g∈S) := by
  rw [← cO]
  unfold sk
  rw [List.any_map, zT, List.any_eq_true, Bj]
  constructor
  · rintro ⟨x, hx, e⟩
    have e : (Sum.inl (x : Int) : Key)=Sum.inl (g : Int) := Bv e
    have e := Sum.inl.inj e
    have : x=g := by omega
    exact this ▸ hx
  · intro h
    exact ⟨g, h, yG rfl⟩
theorem qz {S : List Nat}{g : Nat}(h : g∉S) : cW (sk S) (Sum.inl (g : Int)) (V.bl true)=sk (S++[g]) := by
  have e := ki S g
  rw [yr h] at e
  rw [oT _ (by cases h : cN (sk S) (Sum.inl (g : Int)) with | none => rfl | some v => rw [h] at e;cases e)]
  unfold sk
  rw [yK]
  rfl
theorem qA (S : List Nat) : (sk S).length=S.length := by unfold sk; rw [x9]
inductive mW (vs : List V)(H : Hp)(Q : VK)(u3_ : XK) : Prop
  | mk : ∀ (u : List L) (g : Nat) (a : Addr) (S : List Nat), (vs=[tx u, .int g, .ref a]) → (Srf u) → (g < u.length) → (Sn u S) → (H a=some (.dK (sk S))) → (∀ H', H' a=some (.dK (sk (wk u g S []).1)) → Sn u (wk u g S []).1 → bG a H H' → Q (tx (wk u g S []).2) H') → mW vs H Q u3_
inductive d7 (vs : List V)(H : Hp)(Q : VK)(u3_ : XK) : Prop
  | mk : ∀ u, (vs=[tx u]) → (Srf u) → (∀ (l : Addr) (H' : Hp), H l=none → H' l=some (.lst ((hol u).map tx)) → aD H H' → Q (.ref l) H') → d7 vs H Q u3_
inductive fm (vs : List V)(H : Hp)(Q : VK)(u3_ : XK) : Prop
  | mk : ∀ u, (vs=[tx u]) → (Srf u) → (∀ (H' : Hp), aD H H' → Q (.int ((1+(u.length : Int) / 2 - ((hol u).length : Int)) / 2)) H') → fm vs H Q u3_
theorem mX (u : List L)(i : Nat) : ((cw u i).2.map tx).length≤i := by
  rw [x9]
  exact jG u i
theorem sm_at {i : Nat}(h : i < 6) : atI ("abcdef" : Str).cps.toList (i : Int)=some (cp ⟨i, by omega⟩) := by
  rw [← mG]
  exact bp (k := i) rfl (sm6 ⟨i, h⟩)
end Kx
namespace Wd
section
variable {α : Type}
def Adj : List α → α → α → Prop
  | a::b::t, x, y => (x=a ∧ y=b) ∨ Adj (b::t) x y
  | _, _, _ => False
theorem dm {a b : α}{t : List α}{x y : α} : Adj (a::b::t) x y ↔ (x=a ∧ y=b) ∨ Adj (b::t) x y := Iff.rfl
theorem gK {a x y : α} : Adj [a] x y ↔ False := Iff.rfl
theorem d8 : ∀ (l : List α) (c : α) (m : List α) (x y : α), Adj (l++c::m) x y ↔ Adj (l++[c]) x y ∨ Adj (c::m) x y
  | [], c, m, x, y => by simp [gK]
  | [a], c, m, x, y => by
    show Adj (a::c::m) x y ↔ Adj [a, c] x y ∨ _
    rw [dm, dm, gK]
    simp
  | a::b::l, c, m, x, y => by
    have ih := d8 (b::l) c m x y
    show Adj (a::b::(l++c::m)) x y ↔ Adj (a::b::(l++[c])) x y ∨ _
    rw [dm, dm]
    have ih : Adj (b::(l++c::m)) x y ↔ Adj (b::(l++[c])) x y ∨ Adj (c::m) x y := ih
    rw [ih, or_assoc]
theorem gL : ∀ {l : List α} {x y : α}, Adj l x y → x∈l ∧ y∈l
  | [], _, _, h => h.elim
  | [a], _, _, h => h.elim
  | a::b::t, x, y, h => by
    rcases h with ⟨rfl, rfl⟩ | h
    · simp
    · have := gL h
      exact ⟨yd _ this.1, yd _ this.2⟩
theorem fo : ∀ {l : List α} {x y : α}, Adj l x y → ∃ s t, l=s++x::y::t
  | [], _, _, h => h.elim
  | [a], _, _, h => h.elim
  | a::b::t, x, y, h => by
    rcases h with ⟨rfl, rfl⟩ | h
    · exact ⟨[], t, rfl⟩
    · obtain ⟨s, t', e⟩ := fo h
      exact ⟨a::s, t', by rw [e];rfl⟩
theorem kj {s t : List α}{x y : α} : Adj (s++x::y::t) x y := by
  rw [d8]
  exact .inr (.inl ⟨rfl, rfl⟩)
theorem mY {β : Type}(f : α → β) : ∀ {l : List α} {x y : β}, Adj (l.map f) x y → ∃ a b, Adj l a b ∧ x=f a ∧ y=f b
  | [], _, _, h => h.elim
  | [a], _, _, h => h.elim
  | a::b::t, x, y, h => by
    rcases h with ⟨rfl, rfl⟩ | h
    · exact ⟨a, b, .inl ⟨rfl, rfl⟩, rfl, rfl⟩
    · obtain ⟨a', b', h', e1, e2⟩ := mY f (l := b::t) h
      exact ⟨a', b', .inr h', e1, e2⟩
theorem rJ {l : List α}{a b : α}(h : Adj l a b) : Adj l.reverse b a := by
  obtain ⟨s, t, rfl⟩ := fo h
  have : (s++a::b::t).reverse=t.reverse++b::a::s.reverse := by simp
  rw [this]
  exact kj
def Nx : List α → α → α → Prop
  | [], _, _ => False
  | h::t, x, y => Adj (h::t++[h]) x y
theorem bH : ∀ (A B : List α) (x y : α), Nx (A++B) x y ↔ Nx (B++A) x y
  | [], B, x, y => by simp
  | a::A, [], x, y => by simp
  | a::A, b::B, x, y => by
    show Adj (a::(A++b::B)++[a]) x y ↔ Adj (b::(B++a::A)++[b]) x y
    have e1 : a::(A++b::B)++[a]=(a::A)++b::(B++[a]) := by simp
    have e2 : b::(B++a::A)++[b]=(b::B)++a::(A++[b]) := by simp
    rw [e1, e2, d8 (a::A) b, d8 (b::B) a, or_comm]
    rfl
theorem bg {w : List α}{x y : α}(h : Nx w x y) : x∈w ∧ y∈w := by
  cases w with
  | nil => exact h.elim
  | cons a t =>
    have := gL h
    simp at this ⊢
    exact ⟨by rcases this.1 with h | h | h <;> simp [h], by rcases this.2 with h | h | h <;> simp [h]⟩
theorem qB {β : Type}(f : α → β){w : List α}{x y : β}(h : Nx (w.map f) x y) : ∃ a b, Nx w a b ∧ x=f a ∧ y=f b := by
  cases w with
  | nil => exact h.elim
  | cons a t =>
    have h : Adj ((a::t++[a]).map f) x y := by
      have h : Adj (f a::t.map f++[f a]) x y := h
      simpa using h
    exact mY f h
theorem bD {w : List α}{x : α}(h : x∈w) : ∃ A B, w=A++x::B := by
  obtain ⟨A, B, e⟩ := List.append_of_mem h
  exact ⟨A, B, e⟩
theorem fq {x y : α}{t : List α}(nd : (x::t).Nodup) : Nx (x::t) x y ↔ (t++[x]).head? = some y := by
  cases t with
  | nil =>
    show Adj [x, x] x y ↔ _
    rw [dm, gK]
    simp [eq_comm]
  | cons b r =>
    show Adj (x::b::(r++[x])) x y ↔ _
    rw [dm]
    constructor
    · rintro (⟨_, e⟩ | h)
      · simp [e]
      · exfalso
        have hx : x∉b::r := (yt.mp nd).1
        obtain ⟨s, t, e⟩ := fo h
        have e : (b::r)++[x]=s++x::y::t := e
        have h2 : (s++x::y::t)=(s++[x])++(y::t) := by simp
        rcases Bm.mp e with ⟨a', e1, e2⟩ | ⟨c', e1, e2⟩
        · have := yW List.length e2
          simp only [x_, yN, zh] at this
          omega
        · cases c' with
          | nil => simp at e2
          | cons c c' =>
            have : c=x := by
              have := (y_ e2).1
              exact this.symm
            subst this
            exact hx (by rw [e1];simp)
    · intro h
      simp at h
      exact .inl ⟨rfl, h.symm⟩
theorem rK {w : List α}{x : α}(h : x∈w) : ∃ y, Nx w x y := by
  obtain ⟨A, B, rfl⟩ := bD h
  cases e : B++A with
  | nil => exact ⟨x, (bH _ _ _ _).mpr (by show Adj (x::(B++A)++[x]) x x;rw [e];exact .inl ⟨rfl, rfl⟩)⟩
  | cons c r => exact ⟨c, (bH _ _ _ _).mpr (by show Adj (x::(B++A)++[x]) x c;rw [e];exact .inl ⟨rfl, rfl⟩)⟩
theorem iJ {A B : List α}(nd : (A++B).Nodup) : (B++A).Nodup := (AE.nodup_iff).mp nd
theorem fv {w : List α}{x y z : α}(nd : w.Nodup)(h1 : Nx w x y)(h2 : Nx w x z) : y=z := by
  obtain ⟨A, B, rfl⟩ := bD (bg h1).1
  have h1 := (bH _ _ _ _).mp h1
  have h2 := (bH _ _ _ _).mp h2
  have nd : (x::(B++A)).Nodup := iJ nd
  have h1 := (fq nd).mp h1
  have h2 := (fq nd).mp h2
  exact yh (h1.symm.trans h2)
theorem eB {w : List α}{x y : α}(h : Nx w x y) : Nx w.reverse y x := by
  cases w with
  | nil => exact h.elim
  | cons a t =>
    have h := rJ (show Adj (a::t++[a]) x y from h)
    have e : (a::t++[a]).reverse=a::t.reverse++[a] := by simp
    rw [e] at h
    have e2 : (a::t).reverse=t.reverse++[a] := by simp
    rw [e2, bH]
    exact h
theorem qC {w : List α}{x y : α}(h : Nx w.reverse y x) : Nx w x y := by
  have := eB h
  rwa [zo] at this
theorem iK {w : List α}{x y z : α}(nd : w.Nodup)(h1 : Nx w y x)(h2 : Nx w z x) : y=z := fv ((zJ w).nodup_iff.mpr nd) (eB h1) (eB h2)
end
end Wd
namespace Wd
section
variable {α : Type}
structure Cy (R : α → α → Prop) (w : List α) : Prop where
  ne : w≠[]
  nd : w.Nodup
  st : ∀ x y, Nx w x y → R x y
def Fnl (R : α → α → Prop) : Prop := ∀ x y z, R x y → R x z → y=z
theorem kl {R : α → α → Prop}(hR : Fnl R) : ∀ (t t' : List α) (x z : α), (∀ a b, Adj (x::t++[z]) a b → R a b) → (∀ a b, Adj (x::t'++[z]) a b → R a b) → z∉t → z∉t' → t=t'
  | [], [], _, _, _, _, _, _ => rfl
  | [], b::r, x, z, h1, h2, _, n2 => by
    have e1 := h1 x z (.inl ⟨rfl, rfl⟩)
    have e2 := h2 x b (.inl ⟨rfl, rfl⟩)
    exact absurd (hR _ _ _ e1 e2) (fun e => n2 (by rw [e];simp))
  | a::r, [], x, z, h1, h2, n1, _ => by
    have e1 := h1 x a (.inl ⟨rfl, rfl⟩)
    have e2 := h2 x z (.inl ⟨rfl, rfl⟩)
    exact absurd (hR _ _ _ e2 e1) (fun e => n1 (by rw [e];simp))
  | a::r, b::r', x, z, h1, h2, n1, n2 => by
    have e1 := h1 x a (.inl ⟨rfl, rfl⟩)
    have e2 := h2 x b (.inl ⟨rfl, rfl⟩)
    obtain rfl := hR _ _ _ e1 e2
    rw [kl hR r r' a z (fun p q h => h1 p q (.inr h)) (fun p q h => h2 p q (.inr h)) (fun h => n1 (yd _ h)) (fun h => n2 (yd _ h))]
def Rts (w v : List α) : Prop := ∃ A B C D, w=A++B ∧ v=C++D ∧ B++A=D++C
theorem Cy.rot {R : α → α → Prop}{A B : List α}(h : Cy R (A++B)) : Cy R (B++A) :=
  ⟨fun e => h.ne (by have := An.mp e;rw [this.1, this.2];rfl), iJ h.nd, fun x y n => h.st x y ((bH _ _ _ _).mpr n)⟩
theorem Cy.same {R : α → α → Prop}(hR : Fnl R){w v : List α}(hw : Cy R w)(hv : Cy R v){x : α}(h1 : x∈w)(h2 : x∈v) : Rts w v := by
  obtain ⟨A, B, rfl⟩ := bD h1
  obtain ⟨C, D, rfl⟩ := bD h2
  have hw := hw.rot
  have hv := hv.rot
  refine ⟨A, x::B, C, x::D, rfl, rfl, ?_⟩
  show x::(B++A)=x::(D++C)
  rw [kl hR (B++A) (D++C) x x (fun a b h => hw.st a b h) (fun a b h => hv.st a b h) (yt.mp (show (x::(B++A)).Nodup from hw.nd)).1 (yt.mp (show (x::(D++C)).Nodup from hv.nd)).1]
structure Dc (R : α → α → Prop) (u : List α) (Ws : List (List α)) : Prop where
  cy : ∀ w∈Ws, Cy R w
  pm : Ws.flatten.Perm u
theorem Dc.nd {R : α → α → Prop}{u : List α}{Ws : List (List α)}(h : Dc R u Ws)(nd : u.Nodup) : Ws.flatten.Nodup := h.pm.nodup_iff.mpr nd
theorem Dc.both {R : α → α → Prop}(hR : Fnl R){u : List α}{Ws Vs : List (List α)}(h : Dc R u Ws)(g : Dc R u Vs) : ∀ w∈Ws, ∃ v∈Vs, Rts w v := by
  intro w hw
  have c := h.cy w hw
  obtain ⟨x, hx⟩ := Ab w c.ne
  have : x∈Vs.flatten := g.pm.mem_iff.mpr (h.pm.mem_iff.mp (zc.mpr ⟨w, hw, hx⟩))
  obtain ⟨v, hv, hxv⟩ := zc.mp this
  exact ⟨v, hv, c.same hR (g.cy v hv) hx hxv⟩
end
def Rh (u : List L) : L → L → Prop := fun x y => Nx u (inv x) y
theorem uv {u : List L}(S : Srf u) : Fnl (Rh u) := fun _ _ _ h1 h2 => fv S.nd h1 h2
theorem mZ {u : List L}{k : Nat}{x y : L}(h1 : u[k]? = some x)(h2 : u[(k+1) % u.length]? = some y) : Nx u x y := by
  obtain ⟨hk, e1⟩ := ya.mp h1
  have e : u=u.take k++x::u.drop (k+1) := by
    rw [← e1, List.getElem_cons_drop, List.take_append_drop]
  by_cases hl : k+1 < u.length
  · rw [zm hl] at h2
    obtain ⟨hk2, e2⟩ := ya.mp h2
    have e3 : u.drop (k+1)=y::u.drop (k+2) := by rw [Aa hk2, e2]
    rw [e, e3, bH]
    exact .inl ⟨rfl, rfl⟩
  · have hl : k+1=u.length := by omega
    rw [hl, B7] at h2
    have e3 : u.drop (k+1)=[] := BI (by omega)
    rw [e, e3, bH]
    show Adj (x::(u.take k)++[x]) x y
    cases k with
    | zero =>
      rw [h1] at h2
      obtain rfl := yh h2
      exact .inl ⟨rfl, rfl⟩
    | succ k =>
      cases u with
      | nil => simp at hk
      | cons a t =>
        have : a=y := by simpa using h2
        subst this
        exact .inl ⟨rfl, rfl⟩
theorem rL {u : List L}(S : Srf u)(g : Nat) : Rh u (cX u g) (cX u (bZ u g)) := by
  have h := cU S g
  refine mZ (k := bZ u g) ?_ (cm S _)
  rw [yc h]
  exact yW some (Aj h)
theorem ux {u : List L}(nd : u.Nodup){i j : Nat}{x : L}(h1 : u[i]? = some x)(h2 : u[j]? = some x) : i=j := by
  obtain ⟨hi, e1⟩ := ya.mp h1
  obtain ⟨hj, e2⟩ := ya.mp h2
  have p := List.pairwise_iff_getElem.mp nd
  rcases Nat.lt_trichotomy i j with h | h | h
  · exact absurd (e1.trans e2.symm) (p i j hi hj h)
  · exact h
  · exact absurd (e2.trans e1.symm) (p j i hj hi h)
theorem km {u : List L}(S : Srf u){g h : Nat}(hg : g < u.length)(hh : h < u.length)(e : cX u g=cX u h) : g=h := by
  have := ux S.nd (cm S g) (e ▸ cm S h)
  have e2 : ∀ g : Nat, g < u.length → (g+1) % u.length=if g+1=u.length then 0 else g+1 := fun g hg => by
    split
    · rename_i h
      rw [h, B7]
    · exact zm (by omega)
  rw [e2 g hg, e2 h hh] at this
  split at this <;> split at this <;> omega
theorem iL {u : List L}(S : Srf u){g h : Nat}(hg : g < u.length)(hh : h < u.length)(e : bZ u g=bZ u h) : g=h := by
  refine km S hg hh ?_
  have a := Aj (cU S g)
  have b := Aj (cU S h)
  have : inv (cX u g)=inv (cX u h) := by
    rw [← a, ← b]
    congr 1
  rw [← aE (cX u g), this, aE]
def Row (u : List L)(C : List Nat)(g : Nat) : Prop := ∀ a b, Adj (C++[g]) a b → b=bZ u a
theorem Row.on {u : List L}{C : List Nat}{g : Nat}(h : Row u C g) : Row u (C++[g]) (bZ u g) := by
  intro a b q
  rw [yX] at q
  rcases (d8 C g [bZ u g] a b).mp q with q | q
  · exact h a b q
  · rcases q with ⟨rfl, rfl⟩ | q
    · rfl
    · exact q.elim
theorem Row.round {u : List L}(S : Srf u){C : List Nat}{g : Nat}(h : Row u C g)(nd : C.Nodup)(lt : ∀ c∈C, c < u.length)(hg : g∈C) : ∃ r, C=g::r := by
  obtain ⟨A, B, rfl⟩ := bD hg
  rcases zW A with rfl | ⟨A', p, e0⟩
  · exact ⟨B, rfl⟩
  · exfalso
    rw [zX] at e0
    subst e0
    have e1 : g=bZ u p := h p g (by
      have : A'++[p]++g::B++[g]=A'++p::g::(B++[g]) := by simp
      rw [this];exact kj)
    obtain ⟨M, z, e⟩ : ∃ M z, g::B=M++[z] := by
      rcases zW (g::B) with h | ⟨M, z, h⟩
      · cases h
      · exact ⟨M, z, by rw [h, zX]⟩
    have e2 : g=bZ u z := h z g (by
      have : A'++[p]++g::B++[g]=(A'++[p]++M)++z::g::[] := by rw [e];simp
      rw [this];exact kj)
    have hz : z∈g::B := by rw [e];simp
    have hpz : p=z := iL S (lt p (by simp)) (lt z (by
      rw [yJ];exact .inr hz)) (e1.symm.trans e2)
    subst hpz
    have := zI.mp nd
    exact this.2.2 p (by simp) p hz rfl
end Wd
namespace Wd
def rot (w : List L)(p : Nat) : List L := w.drop p++w.take p
end Wd
namespace Wd
def J (u v : List L) : Prop := ∀ x y, u.getLast? = some x → v.head? = some y → y≠inv x
theorem aQ : ∀ (u v : List L), Rd (u++v) ↔ Rd u ∧ Rd v ∧ J u v
  | [], v => by
    constructor
    · intro h
      exact ⟨trivial, h, fun x y hx => by simp at hx⟩
    · intro h
      exact h.2.1
  | [x], [] => by
    constructor
    · intro h
      exact ⟨trivial, trivial, fun x y _ hy => by simp at hy⟩
    · intro _
      exact trivial
  | [x], y::v => by
    constructor
    · intro h
      refine ⟨trivial, h.2, fun a b ha hb => ?_⟩
      have ha : x=a := by simpa using ha
      have hb : y=b := by simpa using hb
      subst ha hb
      exact h.1
    · intro h
      exact ⟨h.2.2 x y rfl rfl, h.2.1⟩
  | x::y::u, v => by
    have ih := aQ (y::u) v
    constructor
    · intro h
      have h2 := ih.mp h.2
      refine ⟨⟨h.1, h2.1⟩, h2.2.1, fun a b ha hb => h2.2.2 a b ?_ hb⟩
      rw [BA] at ha
      exact ha
    · intro h
      refine ⟨h.1.1, ih.mpr ⟨h.1.2, h.2.1, fun a b ha hb => h.2.2 a b ?_ hb⟩⟩
      rw [BA]
      exact ha
theorem qD {x y : L}(h : y=inv x) : x=inv y := by rw [h, aE]
theorem kn : ∀ {w : List L}, Rd w → Rd w.reverse
  | [], _ => trivial
  | x::w, h => by
    rw [yS, aQ]
    refine ⟨kn h.tail, trivial, fun a b ha hb => ?_⟩
    have hb : x=b := by simpa using hb
    subst hb
    cases w with
    | nil => simp at ha
    | cons y w =>
      have ha : y=a := by simpa using ha
      subst ha
      intro e
      exact h.1 (qD e)
theorem bE {w : List L}(h : Rd w) : red w=w := by
  unfold red
  have := jC (kn h)
  rw [zo] at this
  rw [this, zo]
theorem fw (w : List L) : Rd (red w) := kn (fZ w iB)
theorem rM (w : List L) : red (red w)=red w := bE (fw w)
theorem wx {w : List L}(h : Rd w) : Rd (bk w) := by
  have q : ∀ w : List L, Rd w → Rd (w.map inv) := by
    intro w
    induction w with
    | nil => intro _;trivial
    | cons x w ih =>
      intro h
      cases w with
      | nil => trivial
      | cons y w => exact ⟨fun e => h.1 (by have e2 := yW inv e;rw [aE, aE] at e2;rw [e2]), ih h.2⟩
  exact kn (q w h)
def Eqv (u v : List L) : Prop := red u=red v
theorem Eqv.app {a b c d : List L}(h : Eqv a b)(h2 : Eqv c d) : Eqv (a++c) (b++d) := by
  unfold Eqv at *
  rw [← ck, ← b9, h, h2, b9, ck]
theorem Eqv.refl (a : List L) : Eqv a a := rfl
theorem Eqv.symm {a b : List L}(h : Eqv a b) : Eqv b a := Eq.symm h
theorem Eqv.trans {a b c : List L}(h : Eqv a b)(h2 : Eqv b c) : Eqv a c := Eq.trans h h2
theorem gM (a : List L) : Eqv (red a) a := rM a
theorem ko (a : List L) : Eqv (a++bk a) [] := ka a
theorem m3 (a : List L) : Eqv (bk a++a) [] := by
  have := ko (bk a)
  rw [ff] at this
  exact this
theorem Eqv.mid {u v : List L}(a b : List L)(h : Eqv u v) : Eqv (a++u++b) (a++v++b) := ((Eqv.refl a).app h).app (Eqv.refl b)
theorem gN (a b c : List L) : Eqv (a++(bk b++b)++c) (a++c) := by
  have := Eqv.mid a c (m3 b)
  rw [yP] at this
  exact this
theorem kq (a b c : List L) : Eqv (a++(b++bk b)++c) (a++c) := by
  have := Eqv.mid a c (ko b)
  rw [yP] at this
  exact this
theorem iM {a b : List L}(h : Eqv a b) : Eqv (bk a) (bk b) := by
  -- bk a=bk a b bk b=bk a a bk b=bk b
  have h1 : Eqv (bk a) (bk a++(b++bk b)) := by
    have := (Eqv.refl (bk a)).app (ko b)
    rw [yP] at this
    exact this.symm
  have h2 : Eqv (bk a++(b++bk b)) (bk a++(a++bk b)) := (Eqv.refl _).app (h.symm.app (.refl _))
  have h3 : Eqv (bk a++(a++bk b)) (bk b) := by
    have := (m3 a).app (Eqv.refl (bk b))
    rw [yX, BP] at this
    exact this
  exact h1.trans (h2.trans h3)
structure Rnd (c : List L) : Prop where
  ne : c≠[]
  rd : Rd c
  jn : J c c
end Wd
namespace L2
open PySem PySem.Spec PyProof.Rows Wd
theorem uy (s b : List L)(z : L) : atI (toS (s++z::b)).cps.toList (-1 - (b.length : Int))=some (cp z) := by
  rw [aV]
  unfold atI ixN
  rw [if_neg (by omega), if_pos (by rw [x9, x_, yN];omega)]
  show ((s++z::b).map cp)[_]? = _
  have e : (-1 - (b.length : Int)+(((s++z::b).map cp).length : Int)).toNat=s.length := by rw [x9, x_, yN];omega
  rw [e, yp, yF (yb _), AD]
  rfl
def Bts (f : Nat → Nat)(n p q : Nat) : Prop := ∃ k, k < n ∧ (∀ t, t < k → f (p+t)=f (q+t)) ∧ f (q+k) < f (p+k)
structure LP (f : Nat → Nat) (n i j k : Nat) : Prop where
  ne : i≠j
  al : ∀ t, t < k → f (i+t)=f (j+t)
  bt : ∀ p, p < max i j → p≠i → p≠j → ∃ q, Bts f n p q
theorem LP.start (f : Nat → Nat)(n : Nat) : LP f n 0 1 0 := ⟨by omega, fun t h => by omega, fun p h1 h2 h3 => by omega⟩
theorem LP.on {f : Nat → Nat}{n i j k : Nat}(h : LP f n i j k)(e : f (i+k)=f (j+k)) : LP f n i j (k+1) :=
  ⟨h.ne, fun t ht => by
    by_cases q : t=k
    · rw [q];exact e
    · exact h.al t (by omega), h.bt⟩
theorem kr {f : Nat → Nat}{n i j k : Nat}(hk : k < n)(al : ∀ t, t < k → f (i+t)=f (j+t))(l : f (j+k) < f (i+k)){p : Nat}(h1 : i≤p)(h2 : p≤i+k) : ∃ q, Bts f n p q := by
  refine ⟨j+(p - i), k - (p - i), by omega, fun t ht => ?_, ?_⟩
  · have := al (p - i+t) (by omega)
    rw [show i+(p - i+t)=p+t by omega, show j+(p - i+t)=j+(p - i)+t by omega] at this
    exact this
  · rw [show j+(p - i)+(k - (p - i))=j+k by omega, show p+(k - (p - i))=i+k by omega]
    exact l
theorem LP.first {f : Nat → Nat}{n i j k : Nat}(h : LP f n i j k)(hk : k < n)(l : f (j+k) < f (i+k))(hn : i+(k+1)≠j) : LP f n (i+(k+1)) j 0 :=
  ⟨hn, fun t ht => by omega, fun p h1 h2 h3 => by
    by_cases a : i≤p ∧ p≤i+k
    · exact kr hk h.al l a.1 a.2
    · exact h.bt p (by omega) (by omega) h3⟩
theorem LP.firstE {f : Nat → Nat}{n i j k : Nat}(h : LP f n i j k)(hk : k < n)(l : f (j+k) < f (i+k))(hn : i+(k+1)=j) : LP f n (i+(k+1)) (j+1) 0 :=
  ⟨by omega, fun t ht => by omega, fun p h1 h2 h3 => by
    by_cases a : i≤p ∧ p≤i+k
    · exact kr hk h.al l a.1 a.2
    · exact h.bt p (by omega) (by omega) (by omega)⟩
theorem LP.second {f : Nat → Nat}{n i j k : Nat}(h : LP f n i j k)(hk : k < n)(l : f (i+k) < f (j+k))(hn : i≠j+(k+1)) : LP f n i (j+(k+1)) 0 :=
  ⟨hn, fun t ht => by omega, fun p h1 h2 h3 => by
    by_cases a : j≤p ∧ p≤j+k
    · exact kr hk (fun t ht => (h.al t ht).symm) l a.1 a.2
    · exact h.bt p (by omega) h2 (by omega)⟩
theorem LP.secondE {f : Nat → Nat}{n i j k : Nat}(h : LP f n i j k)(hk : k < n)(l : f (i+k) < f (j+k))(hn : i=j+(k+1)) : LP f n i (j+(k+1)+1) 0 :=
  ⟨by omega, fun t ht => by omega, fun p h1 h2 h3 => by
    by_cases a : j≤p ∧ p≤j+k
    · exact kr hk (fun t ht => (h.al t ht).symm) l a.1 a.2
    · exact h.bt p (by omega) h2 (by omega)⟩
theorem LP.fin {f : Nat → Nat}{n i j k p : Nat}(h : LP f n i j k)(hf : ∀ t, f (t+n)=f t)(hn : 0 < n)(e : n≤max i j ∨ n≤k)(hp : p < n)(hb : ∀ q, ¬ Bts f n p q) : ∀ t, f (min i j+t)=f (p+t) := by
  by_cases e1 : n≤max i j
  · have : p=i ∨ p=j := by
      apply Bn
      intro c
      obtain ⟨q, hq⟩ := h.bt p (by omega) (by omega) (by omega)
      exact hb q hq
    have hne := h.ne
    have : p=min i j := by omega
    intro t
    rw [this]
  have e2 : n≤k := by omega
  have hper : ∀ m t, f (t+m*n)=f t := fun m => by
    induction m with
    | zero => intro t;rw [Nat.zero_mul, BU]
    | succ m ih => intro t;rw [B5, ← B1, hf, ih]
  have al : ∀ t, f (i+t)=f (j+t) := fun t => by
    have := h.al (t % n) (by have := B3 t hn;omega)
    have e : t=t % n+t / n*n := by rw [B6];exact (Nat.mod_add_div t n).symm
    rw [e, ← B1, ← B1, hper, hper, this]
  obtain ⟨a, b, hab, emin, emax, al⟩ : ∃ a b, a < b ∧ a=min i j ∧ b=max i j ∧ ∀ t, f (a+t)=f (b+t) := by
    have hne := h.ne
    by_cases q : i < j
    · exact ⟨i, j, q, by omega, by omega, al⟩
    · exact ⟨j, i, by omega, by omega, by omega, fun t => (al t).symm⟩
  have down : ∀ N q, q < N → ∃ q', q' < b ∧ ∀ t, f (q' + t)=f (q+t) := by
    intro N
    induction N with
    | zero => intro q hq;omega
    | succ N ih =>
      intro q hq
      by_cases c : q < b
      · exact ⟨q, c, fun _ => rfl⟩
      · obtain ⟨q', h1, h2⟩ := ih (q - (b - a)) (by omega)
        refine ⟨q', h1, fun t => ?_⟩
        rw [h2 t]
        have := al (q - b+t)
        rw [show a+(q - b+t)=q - (b - a)+t by omega, show b+(q - b+t)=q+t by omega] at this
        exact this
  obtain ⟨q', h1, h2⟩ := down (p+1) p (by omega)
  have : q'=a := by
    apply Bn
    intro c
    obtain ⟨q, k', hk', h3, h4⟩ := h.bt q' (by omega) (by omega) (by omega)
    exact hb q ⟨k', hk', fun t ht => by rw [← h2];exact h3 t ht, by rw [← h2];exact h4⟩
  intro t
  rw [← emin, ← this]
  exact h2 t
def rnd (w : List L)(t : Nat) : Nat := ((w.map cp)[t % w.length]?).getD 0
theorem rN (w : List L)(t : Nat) : rnd w (t+w.length)=rnd w t := by unfold rnd; rw [Nat.add_mod_right]
theorem ku {w : List L}{t : Nat}{x : L}(h : (w++w)[t]? = some x) : rnd w t=cp x := by
  unfold rnd
  have hl := (ya.mp h).1
  rw [x_] at hl
  by_cases c : t < w.length
  · rw [zm c, yp]
    rw [yU c] at h
    rw [h]
    rfl
  · have e : t % w.length=t - w.length := by
      rw [Nat.mod_eq_sub_mod (by omega), zm (by omega)]
    rw [e, yp]
    rw [yF (by omega)] at h
    rw [h]
    rfl
def ph (w : List L)(p : Nat) : List Nat := (List.range w.length).map fun t => rnd w (p+t)
theorem gO {w : List L}{p : Nat}(h : p≤w.length) : (w.drop p++w.take p).map cp=ph w p := by
  apply List.ext_getElem?
  intro t
  unfold ph
  by_cases c : t < w.length
  · rw [yp, yp, List.getElem?_range c]
    show _=some (rnd w (p+t))
    by_cases d : p+t < w.length
    · rw [yU (by rw [zj];omega), List.getElem?_drop]
      obtain ⟨x, hx⟩ : ∃ x, w[p+t]? = some x := ⟨_, yc d⟩
      rw [hx, ku (x := x) (by rw [yU d];exact hx)]
      rfl
    · rw [yF (by rw [zj];omega), zj, Br (by omega)]
      obtain ⟨x, hx⟩ : ∃ x, w[t - (w.length - p)]? = some x := ⟨_, yc (by omega)⟩
      rw [hx, ku (x := x) (by rw [yF (by omega), show p+t - w.length=t - (w.length - p) by omega];exact hx)]
      rfl
  · rw [zY (by simp;omega), zY (by simp;omega)]
theorem rO {w : List L}{p q : Nat}(h : Bts (rnd w) w.length p q) : ph w q < ph w p := by
  obtain ⟨k, hk, h1, h2⟩ := h
  unfold ph
  rw [List.lt_iff_exists]
  refine .inr ⟨k, by simpa using hk, by simpa using hk, fun j hj => ?_, ?_⟩
  · simp only [List.getElem_map, List.getElem_range]
    exact (h1 j hj).symm
  · simp only [List.getElem_map, List.getElem_range]
    exact h2
theorem pj (w : List L)(q : Nat) : ph w (q % w.length)=ph w q := by
  unfold ph
  apply Af
  intro t _
  unfold rnd
  rw [Nat.mod_add_mod]
def fx (w : List L) : List (List L) := (List.range (max 1 w.length)).map fun i => w.drop i++w.take i
theorem kx (ys : List Str)(h : ys≠[]) : ∃ m, cG m ys := by
  have hp : 0 < ys.length := yw.mpr h
  obtain ⟨h1, h2⟩ := d6 ys (ys.length - 1)
  have q : ∀ i, i < ys.length → cH ys i∈ys := fun i hi => by
    unfold cH
    rw [yj, yc hi]
    exact AL hi
  refine ⟨cH ys (argBest (btS ys) (ys.length - 1)), q _ (by omega), fun y hy => ?_⟩
  obtain ⟨j, hj, e⟩ := List.getElem_of_mem hy
  have := h2 j (by omega)
  have e2 : cH ys j=y := by
    unfold cH
    rw [yj, yc hj, e]
    rfl
  rw [e2] at this
  exact this
theorem LP.least {w : List L}{i j k : Nat}(h : LP (rnd w) w.length i j k)(e : w.length≤max i j ∨ w.length≤k)(h0 : w≠[]) : cG (toS (w.drop (min i j)++w.take (min i j))) ((fx w).map toS) ∧ min i j < w.length := by
  have hn : 0 < w.length := yw.mpr h0
  obtain ⟨m, hm⟩ := kx ((fx w).map toS) (by
    intro e
    have := yW List.length e
    simp [fx] at this)
  obtain ⟨v, hv, ev⟩ := yE.mp hm.1
  obtain ⟨p, hp, ep⟩ := yE.mp hv
  rw [Aw] at hp
  have hp : p < w.length := by omega
  have mem : ∀ q, q < w.length → toS (w.drop q++w.take q)∈(fx w).map toS := fun q hq => List.mem_map_of_mem (yE.mpr ⟨q, Aw.mpr (by omega), rfl⟩)
  have hb : ∀ q, ¬ Bts (rnd w) w.length p q := fun q hq => by
    have lt := rO hq
    rw [← pj w q] at lt
    have hq' := B3 q hn
    have le := hm.2 _ (mem _ hq')
    rw [← ev, ← ep, aV, aV, gO (by omega), gO (by omega)] at le
    exact absurd lt (List.not_lt.mpr le)
  have al := h.fin (rN w) hn e hp hb
  by_cases hmn : min i j < w.length
  · refine ⟨?_, hmn⟩
    have e1 : toS (w.drop (min i j)++w.take (min i j))=m := by
      rw [← ev, ← ep]
      apply Str.ext'
      apply AK.mp
      rw [aV, aV, gO (by omega), gO (by omega)]
      unfold ph
      exact Af fun t _ => al t
    rw [e1]
    exact hm
  · exfalso
    have hne := h.ne
    obtain ⟨q, hq⟩ := h.bt p (by omega) (by omega) (by omega)
    exact hb q hq
end L2
namespace Wd
def Cj (u v : List L) : Prop := ∃ t, Eqv (t++u++bk t) v
def Rt (m p : List L) : Prop := ∃ a b, m=a++b ∧ p=b++a
theorem Rt.refl (m : List L) : Rt m m := ⟨[], m, rfl, by simp⟩
theorem Rt.symm {m p : List L}(h : Rt m p) : Rt p m := let ⟨a, b, e, f⟩ := h; ⟨b, a, f, e⟩
theorem Rt.trans {m p q : List L}(h : Rt m p)(g : Rt p q) : Rt m q := by
  obtain ⟨a, b, rfl, e⟩ := h
  obtain ⟨c, d, f, rfl⟩ := g
  have e : b++a=c++d := e.symm.trans f
  rcases Bm.mp e with ⟨x, rfl, rfl⟩ | ⟨x, rfl, rfl⟩
  · exact ⟨x, d++b, by simp, by simp⟩
  · exact ⟨a++c, x, by simp, by simp⟩
theorem pk {m p : List L}(h : Rt m p) : Cj m p := by
  obtain ⟨a, b, rfl, rfl⟩ := h
  refine ⟨bk a, ?_⟩
  rw [ff]
  have := gN [] a (b++a)
  simpa using this
theorem Cj.refl (u : List L) : Cj u u := ⟨[], by simp [Eqv, bk]⟩
theorem Cj.symm {u v : List L}(h : Cj u v) : Cj v u := by
  obtain ⟨t, h⟩ := h
  refine ⟨bk t, ?_⟩
  rw [ff]
  have h1 : Eqv (bk t++v++t) (bk t++(t++u++bk t)++t) := Eqv.mid _ _ h.symm
  refine h1.trans ?_
  have h2 : Eqv (bk t++(t++u++bk t)++t) (u++(bk t++t)) := by
    have := gN [] t (u++bk t++t)
    simpa using this
  refine h2.trans ?_
  have := gN u t []
  simpa using this
theorem Cj.trans {u v x : List L}(h : Cj u v)(g : Cj v x) : Cj u x := by
  obtain ⟨t, h⟩ := h
  obtain ⟨r, g⟩ := g
  refine ⟨r++t, ?_⟩
  have h1 : Eqv (r++(t++u++bk t)++bk r) (r++v++bk r) := Eqv.mid _ _ h
  have e : r++t++u++bk (r++t)=r++(t++u++bk t)++bk r := by rw [bQ];simp
  rw [e]
  exact h1.trans g
theorem Cj.eqv {u u' v v' : List L}(h : Cj u v)(a : Eqv u u')(b : Eqv v v') : Cj u' v' := by
  obtain ⟨t, h⟩ := h
  exact ⟨t, ((Eqv.mid t (bk t) a).symm.trans h).trans b⟩
theorem Cj.bk {u v : List L}(h : Cj u v) : Cj (bk u) (bk v) := by
  obtain ⟨t, h⟩ := h
  refine ⟨t, ?_⟩
  have := iM h
  rw [bQ, bQ, ff] at this
  rw [← yX] at this
  exact this
def R0 (m : List L) : Prop := m≠[] → Rnd m
theorem px {x : L}{r : List L}(h : Rnd (x::r)) : Rnd (r++[x]) := by
  obtain ⟨_, h2, h3⟩ := h
  refine ⟨by simp, ?_, ?_⟩
  · rw [aQ]
    refine ⟨h2.tail, trivial, fun a b ha hb => ?_⟩
    have hb : x=b := yh hb
    subst hb
    refine h3 a x ?_ rfl
    rw [Ak, ha]
    rfl
  · intro a b ha hb
    have ha : x=a := by simpa using ha
    subst ha
    cases r with
    | nil =>
      have hb : x=b := yh hb
      subst hb
      exact fun e => fe _ e.symm
    | cons y r =>
      have hb : y=b := yh hb
      subst hb
      exact h2.1
theorem m4 {x : L}{r : List L}(h : Rnd (r++[x])) : Rnd (x::r) := by
  obtain ⟨_, h2, h3⟩ := h
  rw [aQ] at h2
  obtain ⟨h4, _, h5⟩ := h2
  have lx : (r++[x]).getLast? = some x := by simp
  refine ⟨by simp, ?_, ?_⟩
  · cases r with
    | nil => trivial
    | cons y r => exact ⟨h3 x y lx rfl, h4⟩
  · intro a b ha hb
    have hb : x=b := yh hb
    subst hb
    cases r with
    | nil =>
      have ha : x=a := yh ha
      subst ha
      exact fun e => fe _ e.symm
    | cons y r =>
      refine h5 a x ?_ rfl
      rw [Ak] at ha
      rw [← ha]
      cases hq : (y::r).getLast? with
      | none => simp at hq
      | some z => rfl
theorem kY : ∀ (n : Nat) (s m p : List L), s.length≤n → Rd s → Rnd m → R0 p → Rd p → Eqv (s++m++bk s) p → Rt m p := by
  intro n
  induction n with
  | zero =>
    intro s m p hs _ hm _ hp h
    have : s=[] := zl (by omega)
    subst this
    have e : red m=red p := by simpa [Eqv, bk] using h
    rw [bE hm.rd, bE hp] at e
    rw [e]
    exact Rt.refl _
  | succ n ih =>
    intro s m p hs hr hm hp0 hp h
    by_cases hs0 : s=[]
    · subst hs0
      exact ih [] m p (zb _) trivial hm hp0 hp h
    obtain ⟨s', x, rfl⟩ : ∃ s' x, s=s'++[x] := ⟨s.dropLast, s.getLast hs0, (y4 hs0).symm⟩
    have hl : s'.length≤n := by rw [x_, yi] at hs;omega
    have hr' := (aQ s' [x]).mp hr
    have eb : bk (s'++[x])=inv x::bk s' := by rw [bQ, bR];rfl
    rw [eb] at h
    -- the first letter goes
    by_cases c1 : m.head? = some (inv x)
    · obtain ⟨r, rfl⟩ : ∃ r, m=inv x::r := by
        cases m with
        | nil => cases c1
        | cons y r => exact ⟨r, by rw [yh c1]⟩
      have h2 : Eqv (s'++(r++[inv x])++bk s') p := by
        refine Eqv.trans ?_ h
        have := (kq s' [x] (r++[inv x]++bk s')).symm
        rw [bR] at this
        simpa using this
      have q := ih s' (r++[inv x]) p hl hr'.1 (px hm) hp0 hp h2
      exact Rt.trans ⟨[inv x], r, rfl, rfl⟩ q
    by_cases c2 : m.getLast? = some x
    · obtain ⟨r, rfl⟩ : ∃ r, m=r++[x] := by
        have hne := hm.ne
        refine ⟨m.dropLast, ?_⟩
        have e := (y4 hne).symm
        rw [List.getLast?_eq_some_getLast hne] at c2
        rw [yh c2] at e
        exact e
      have h2 : Eqv (s'++(x::r)++bk s') p := by
        refine Eqv.trans ?_ h
        have := (kq (s'++x::r) [x] (bk s')).symm
        rw [bR] at this
        simpa using this
      have q := ih s' (x::r) p hl hr'.1 (m4 hm) hp0 hp h2
      exact Rt.trans ⟨r, [x], rfl, rfl⟩ q
    -- else all stays, and is not round
    exfalso
    have rdl : Rd (s'++[x]++m) := by
      rw [aQ]
      refine ⟨hr, hm.rd, fun a b ha hb => ?_⟩
      have ha : x=a := by simpa using ha
      subst ha
      intro e
      exact c1 (by rw [hb, e])
    have rdr : Rd (s'++[x]++m++(inv x::bk s')) := by
      rw [aQ]
      refine ⟨rdl, ?_, fun a b ha hb => ?_⟩
      · rw [← eb]
        exact wx hr
      · have hb : inv x=b := yh hb
        subst hb
        have hla : m.getLast? = some a := by
          rw [AQ] at ha
          cases hq : m.getLast? with
          | none => exact absurd (List.getLast?_eq_none_iff.mp hq) hm.ne
          | some z => rw [hq] at ha;simpa using ha
        intro e
        have : x=a := by have := yW inv e;rwa [aE, aE] at this
        exact c2 (by rw [hla, this])
    have ep : s'++[x]++m++(inv x::bk s')=p := by
      have e : red (s'++[x]++m++(inv x::bk s'))=red p := h
      rwa [bE rdr, bE hp] at e
    have hpn : p≠[] := by rw [← ep];simp
    have P := hp0 hpn
    -- its first letter and its last one
    obtain ⟨y, hy, hly⟩ : ∃ y, (s'++[x]).head? = some y ∧ (inv x::bk s').getLast? = some (inv y) := by
      cases s' with
      | nil => exact ⟨x, rfl, rfl⟩
      | cons z r => exact ⟨z, rfl, by rw [gG, Ak, AQ];rfl⟩
    refine P.jn (inv y) y ?_ ?_ (by rw [aE])
    · rw [← ep, AQ, hly]
      rfl
    · rw [← ep, yX, List.head?_append, hy]
      rfl
theorem qE {u v f m g p : List L}(eu : red u=f++m++bk f)(ev : red v=g++p++bk g)(hm : R0 m)(hp : R0 p) : Cj u v ↔ Rt m p := by
  have hu : Eqv u (f++m++bk f) := by rw [← eu];exact (gM u).symm
  have hv : Eqv v (g++p++bk g) := by rw [← ev];exact (gM v).symm
  have rdm : Rd m := by
    have := fw u
    rw [eu, aQ, aQ] at this
    exact this.1.2.1
  have rdp : Rd p := by
    have := fw v
    rw [ev, aQ, aQ] at this
    exact this.1.2.1
  have cu : Cj m u := ⟨f, hu.symm⟩
  have cv : Cj p v := ⟨g, hv.symm⟩
  constructor
  · intro h
    obtain ⟨t, ht⟩ := (cu.trans h).trans cv.symm
    by_cases m0 : m=[]
    · subst m0
      have e : Eqv [] p := by
        refine Eqv.trans ?_ ht
        rw [yP]
        exact (ko t).symm
      have e : red []=red p := e
      rw [bE rdp] at e
      rw [← e]
      exact Rt.refl _
    · have ht' : Eqv (red t++m++bk (red t)) p := by
        refine Eqv.trans ?_ ht
        exact ((gM t).app (Eqv.refl m)).app (iM (gM t))
      exact kY _ (red t) m p (yb _) (fw t) (hm m0) hp rdp ht'
  · intro h
    exact (cu.symm.trans (pk h)).trans cv
end Wd
namespace L2
open PySem PySem.Spec PyProof.Rows Wd
theorem dn {m p : List L} : Rt m p ↔ p∈fx m := by
  unfold fx
  rw [yE]
  constructor
  · rintro ⟨a, b, rfl, rfl⟩
    by_cases hb : b=[]
    · subst hb
      refine ⟨0, Aw.mpr (by omega), by simp⟩
    · have := yw.mpr hb
      refine ⟨a.length, Aw.mpr (by rw [x_];omega), ?_⟩
      rw [List.drop_left' rfl, A_ rfl]
  · rintro ⟨i, _, rfl⟩
    exact ⟨m.take i, m.drop i, (List.take_append_drop i m).symm, rfl⟩
theorem ky {m p : List L}{a b : Str}(ha : cG a ((fx m).map toS))(hb : cG b ((fx p).map toS)) : a=b ↔ Rt m p := by
  obtain ⟨x, hx, rfl⟩ := yE.mp ha.1
  obtain ⟨y, hy, rfl⟩ := yE.mp hb.1
  constructor
  · intro e
    have e := cF e
    subst e
    exact (dn.mpr hx).trans (dn.mpr hy).symm
  · intro h
    refine cG.one ha ⟨?_, fun z hz => ?_⟩
    · exact yE.mpr ⟨y, dn.mp (h.trans (dn.mpr hy)), rfl⟩
    · obtain ⟨w, hw, rfl⟩ := yE.mp hz
      exact hb.2 _ (yE.mpr ⟨w, dn.mp (h.symm.trans (dn.mpr hw)), rfl⟩)
end L2
namespace Wd
def Pre (u : List L)(S : List Nat) : Prop := ∀ g∈S, ∃ g'∈S, bZ u g'=g
theorem uA {u : List L}(U : Srf u){S0 : List Nat}(pre : Pre u S0){g0 : Nat}(h0 : g0∉S0) : ∀ (k : Nat) (C : List Nat) (g : Nat), k+(S0++C).length=u.length+1 → Sn u (S0++C) → g < u.length → Row u C g → ((C=[] ∧ g=g0) ∨ ∃ r, C=g0::r) →
    ∃ C', wk u g (S0++C) (C.map (cX u))=(S0++C', C'.map (cX u)) ∧ Sn u (S0++C') ∧ (∃ r, C'=g0::r) ∧ Row u C' g0 := by
  intro k
  induction k with
  | zero =>
    intro C g hk hs _ _ _
    have := hs.le
    omega
  | succ k ih =>
    intro C g hk hs hg hr hh
    by_cases hm : g∈S0++C
    · rw [pf hm]
      have nd := zI.mp hs.nd
      have hC : ∃ r, C=g0::r := by
        rcases hh with ⟨rfl, rfl⟩ | h
        · exact absurd (by simpa using hm) h0
        · exact h
      have hgC : g∈C := by
        rcases yJ.mp hm with h | h
        · exfalso
          obtain ⟨g', h1, h2⟩ := pre g h
          obtain ⟨M, z, e⟩ : ∃ M z, C=M++[z] := by
            obtain ⟨r, rfl⟩ := hC
            rcases zW (g0::r) with h | ⟨M, z, h⟩
            · cases h
            · exact ⟨M, z, by rw [h, zX]⟩
          have e2 : g=bZ u z := hr z g (by
            have : C++[g]=M++z::g::[] := by rw [e];simp
            rw [this];exact kj)
          have hz : z∈C := by rw [e];simp
          have := iL U (hs.lt g' (yJ.mpr (.inl h1))) (hs.lt z (yJ.mpr (.inr hz))) (h2.trans e2)
          exact nd.2.2 g' h1 z hz this
        · exact h
      obtain ⟨r, e⟩ := Row.round U hr nd.2.1 (fun c hc => hs.lt c (yJ.mpr (.inr hc))) hgC
      obtain ⟨r', e'⟩ := hC
      have : g=g0 := by rw [e] at e';exact (y_ e').1
      subst this
      exact ⟨C, rfl, hs, ⟨r, e⟩, hr⟩
    · have hs' := hs.snoc hg hm
      rw [kg hs hg hm]
      have e1 : S0++C++[g]=S0++(C++[g]) := yX ..
      have e2 : C.map (cX u)++[cX u g]=(C++[g]).map (cX u) := by simp
      rw [e1] at hs' ⊢
      rw [e2]
      refine ih (C++[g]) (bZ u g) ?_ hs' (cU U g) hr.on (.inr ?_)
      · rw [← e1, x_, yi]
        omega
      · rcases hh with ⟨rfl, rfl⟩ | ⟨r, rfl⟩
        · exact ⟨[], rfl⟩
        · exact ⟨r++[g], rfl⟩
def Gc (u : List L)(C : List Nat) : Prop := ∃ g r, C=g::r ∧ Row u C g
theorem Gc.st {u : List L}{C : List Nat}(h : Gc u C){a b : Nat}(n : Nx C a b) : b=bZ u a := by
  obtain ⟨g, r, rfl, h⟩ := h
  exact h a b n
theorem Gc.pre {u : List L}{C : List Nat}(h : Gc u C){g : Nat}(hg : g∈C) : ∃ g'∈C, bZ u g'=g := by
  obtain ⟨y, hy⟩ := rK (w := C.reverse) (x := g) (by simpa using hg)
  have hy := qC hy
  exact ⟨y, (bg hy).1, (h.st hy).symm⟩
structure HI (u : List L) (i : Nat) (Cs : List (List Nat)) : Prop where
  s : (cw u i).1=Cs.flatten
  w : (cw u i).2=Cs.map (List.map (cX u))
  sn : Sn u Cs.flatten
  gc : ∀ C∈Cs, Gc u C
  al : ∀ g, g < i → g∈Cs.flatten
theorem qF {u : List L}(U : Srf u) : ∀ i, i≤u.length → ∃ Cs, HI u i Cs
  | 0, _ => ⟨[], rfl, rfl, Sn.nil u, fun _ h => absurd h (by simp), fun g h => absurd h (by omega)⟩
  | i+1, hi => by
    obtain ⟨Cs, h⟩ := qF U i (by omega)
    by_cases hm : i∈(cw u i).1
    · refine ⟨Cs, by rw [eA hm];exact h.s, by rw [eA hm];exact h.w, h.sn, h.gc, fun g hg => ?_⟩
      by_cases e : g=i
      · subst e
        rw [← h.s]
        exact hm
      · exact h.al g (by omega)
    · rw [h.s] at hm
      have pre : Pre u Cs.flatten := fun g hg => by
        obtain ⟨C, hC, hg⟩ := zc.mp hg
        obtain ⟨g', h1, h2⟩ := (h.gc C hC).pre hg
        exact ⟨g', zc.mpr ⟨C, hC, h1⟩, h2⟩
      have hle := h.sn.le
      obtain ⟨C, e, hs, ⟨r, hr⟩, hrow⟩ := uA U pre hm (u.length+1 - Cs.flatten.length) [] i (by rw [yP];omega) (by rw [yP];exact h.sn) (by omega) (fun a b q => q.elim) (.inl ⟨rfl, rfl⟩)
      rw [yP] at e
      have e : wk u i Cs.flatten []=(Cs.flatten++C, C.map (cX u)) := e
      have ho : cw u (i+1)=((wk u i (cw u i).1 []).1, (cw u i).2++[(wk u i (cw u i).1 []).2]) := fk (by rw [h.s];exact hm)
      rw [h.s, e, h.w] at ho
      have ef : (Cs++[C]).flatten=Cs.flatten++C := by simp
      refine ⟨Cs++[C], by rw [ho, ef], by rw [ho];simp, by rw [ef];exact hs, fun D hD => ?_, fun g hg => ?_⟩
      · rcases yJ.mp hD with hD | hD
        · exact h.gc D hD
        · rw [ym] at hD
          subst hD
          exact ⟨i, r, hr, hrow⟩
      · rw [ef, yJ]
        by_cases e : g=i
        · subst e
          exact .inr (by rw [hr];simp)
        · exact .inl (h.al g (by omega))
theorem pA {α : Type}[DecidableEq α]{a b : List α}(na : a.Nodup)(nb : b.Nodup)(h : ∀ x, x∈a ↔ x∈b) : a.Perm b := by
  rw [List.perm_iff_count]
  intro x
  by_cases hx : x∈a
  · rw [na.count, nb.count, if_pos hx, if_pos ((h x).mp hx)]
  · rw [List.count_eq_zero.mpr hx, List.count_eq_zero.mpr (fun q => hx ((h x).mpr q))]
theorem fy {α β : Type}(f : α → β) : ∀ {l : List α}, l.Nodup → (∀ x∈l, ∀ y∈l, f x=f y → x=y) → (l.map f).Nodup
  | [], _, _ => Ay
  | a::t, nd, h => by
    rw [yM, yt]
    obtain ⟨h1, h2⟩ := yt.mp nd
    refine ⟨fun q => ?_, fy f h2 fun x hx y hy => h x (yd _ hx) y (yd _ hy)⟩
    obtain ⟨b, hb, e⟩ := yE.mp q
    have := h b (yd _ hb) a yA e
    exact h1 (this ▸ hb)
theorem fz {u : List L}(U : Srf u) : Dc (Rh u) u (hol u) := by
  obtain ⟨Cs, h⟩ := qF U u.length (yb _)
  have hw : hol u=Cs.map (List.map (cX u)) := h.w
  rw [hw]
  have inj : ∀ x∈Cs.flatten, ∀ y∈Cs.flatten, cX u x=cX u y → x=y := fun x hx y hy e => km U (h.sn.lt x hx) (h.sn.lt y hy) e
  refine ⟨fun w hw => ?_, ?_⟩
  · obtain ⟨C, hC, rfl⟩ := yE.mp hw
    have g := h.gc C hC
    have sub : ∀ x∈C, x∈Cs.flatten := fun x hx => zc.mpr ⟨C, hC, hx⟩
    refine ⟨?_, fy _ (List.Sublist.nodup (Ba hC) h.sn.nd) fun x hx y hy => inj x (sub x hx) y (sub y hy), fun x y n => ?_⟩
    · obtain ⟨g0, r, rfl, _⟩ := g
      simp
    · obtain ⟨a, b, n', rfl, rfl⟩ := qB _ n
      obtain rfl := g.st n'
      exact rL U a
  · rw [← List.map_flatten]
    refine pA (fy _ h.sn.nd inj) U.nd fun x => ?_
    constructor
    · intro hx
      obtain ⟨g, _, rfl⟩ := yE.mp hx
      exact eK U g
    · intro hx
      obtain ⟨k, hk, e⟩ := AO.mp hx
      have hp := U.pos
      refine yE.mpr ⟨(k+u.length - 1) % u.length, h.al _ (B3 _ hp), ?_⟩
      have e2 : ((k+u.length - 1) % u.length+1) % u.length=k := by
        rw [Nat.mod_add_mod]
        have : k+u.length - 1+1=k+u.length := by omega
        rw [this, Nat.add_mod_right]
        exact zm hk
      have := cm U ((k+u.length - 1) % u.length)
      rw [e2, yc hk, e] at this
      exact (yh this).symm
theorem Rts.rt {w v : List L}(h : Rts w v) : Rt w v := by
  obtain ⟨A, B, C, D, rfl, rfl, e⟩ := h
  exact Rt.trans (p := B++A) ⟨A, B, rfl, rfl⟩ (by rw [e];exact ⟨D, C, rfl, rfl⟩)
theorem m5 {u : List L}(U : Srf u){w : List L}(hw : w∈hol u){x y : L}(n : Nx w x y) : y≠inv x := by
  have c := (fz U).cy w hw
  have r : Nx u (inv x) y := c.st x y n
  intro e
  subst e
  have hm := (bg r).1
  obtain ⟨A, B, rfl⟩ := bD hm
  have r := (bH _ _ _ _).mp r
  have nd : (inv x::(B++A)).Nodup := iJ U.nd
  have h := (fq nd).mp r
  have hx : x∈B++A := by
    have := U.iv (inv x) hm
    rw [aE] at this
    simp only [yJ, yB] at this ⊢
    rcases this with h | h | h
    · exact .inr h
    · exact absurd h.symm (fe x)
    · exact .inl h
  cases e : B++A with
  | nil => rw [e] at hx;cases hx
  | cons c t =>
    rw [e] at h nd
    simp at h
    exact (yt.mp nd).1 (by rw [h];simp)
end Wd
namespace Wd
section
variable {α : Type}
theorem eC {A B : List α}{x a b : α}(nd : (A++x::B).Nodup) : Nx (A++B) a b ↔ a≠x ∧ b≠x ∧ (Nx (A++x::B) a b ∨ (Nx (A++x::B) a x ∧ Nx (A++x::B) x b)) := by
  rw [bH A B, bH A (x::B), bH A (x::B), bH A (x::B)]
  have nd : (x::(B++A)).Nodup := iJ nd
  show Nx (B++A) a b ↔ a≠x ∧ b≠x ∧ (Nx (x::(B++A)) a b ∨ (Nx (x::(B++A)) a x ∧ Nx (x::(B++A)) x b))
  generalize B++A=v at nd ⊢
  obtain ⟨hx, ndv⟩ := yt.mp nd
  rw [fq nd]
  cases v with
  | nil =>
    show False ↔ _
    constructor
    · exact False.elim
    · rintro ⟨h1, h2, h | h⟩
      · have := (bg h).1
        simp at this
        exact h1 this
      · simp at h
        exact h2 h.2.symm
  | cons c t =>
    have hc : c≠x := fun e => hx (by rw [e];simp)
    have e1 : ∀ p q, Nx (x::c::t) p q ↔ (p=x ∧ q=c) ∨ Adj (c::t++[x]) p q := fun p q => Iff.rfl
    obtain ⟨M, z, e⟩ : ∃ M z, c::t=M++[z] := by
      rcases zW (c::t) with h | ⟨M, z, h⟩
      · cases h
      · exact ⟨M, z, by rw [h, zX]⟩
    have e2 : ∀ p q r, Adj (c::t++[r]) p q ↔ Adj (c::t) p q ∨ (p=z ∧ q=r) := fun p q r => by
      have : c::t++[r]=M++z::[r] := by rw [e];simp
      rw [this, d8, ← e, dm, gK]
      simp
    have nin : ∀ {p q}, Adj (c::t) p q → p≠x ∧ q≠x := fun h => ⟨fun e => hx (e ▸ (gL h).1), fun e => hx (e ▸ (gL h).2)⟩
    have hz : z≠x := fun e' => hx (by rw [← e', e];simp)
    show Adj (c::t++[c]) a b ↔ _
    rw [e1, e1, e2, e2, e2]
    have hh : ((c::t++[x]).head? = some b) ↔ b=c := by simp [eq_comm]
    rw [hh]
    constructor
    · rintro (h | ⟨rfl, rfl⟩)
      · exact ⟨(nin h).1, (nin h).2, .inl (.inr (.inl h))⟩
      · exact ⟨hz, hc, .inr ⟨.inr (.inr ⟨rfl, rfl⟩), rfl⟩⟩
    · rintro ⟨h1, h2, (⟨h, _⟩ | h | ⟨_, h⟩) | ⟨⟨h, _⟩ | h | ⟨h, _⟩, h'⟩⟩
      · exact absurd h h1
      · exact .inl h
      · exact absurd h h2
      · exact absurd h h1
      · exact absurd rfl (nin h).2
      · exact .inr ⟨h, h'⟩
end
end Wd
namespace Wd
section
variable {α : Type}
theorem Rts.pm {w v : List α}(h : Rts w v) : w.Perm v := by
  obtain ⟨A, B, C, D, rfl, rfl, e⟩ := h
  exact AE.trans (by rw [e];exact AE)
theorem gP : ∀ {Ws Vs : List (List α)}, Ws.Perm Vs → Ws.flatten.Perm Vs.flatten
  | _, _, .nil => .refl _
  | _, _, .cons x h => by simpa using (gP h).append_left x
  | _, _, .swap x y l => by
    simp only [yR, ← yX]
    exact BJ _ AE
  | _, _, .trans h g => (gP h).trans (gP g)
theorem Dc.pms {R : α → α → Prop}{u : List α}{Ws Vs : List (List α)}(h : Dc R u Ws)(p : Vs.Perm Ws) : Dc R u Vs := ⟨fun w hw => h.cy w (p.mem_iff.mp hw), (gP p).trans h.pm⟩
theorem kz {R : α → α → Prop}(hR : Fnl R){β : Type}(l : List α → β)(hl : ∀ w v, Rts w v → l w=l v) : ∀ (Ws Vs : List (List α)) (u : List α), Dc R u Ws → Dc R u Vs → (Ws.map l).Perm (Vs.map l)
  | [], Vs, u, h, g => by
    have hu : u=[] := by simpa using h.pm
    subst hu
    cases Vs with
    | nil => exact .refl _
    | cons v T =>
      exfalso
      have c := g.cy v (by simp)
      have e : (v::T).flatten=[] := by simpa using g.pm
      have : v=[] := by
        rw [yR] at e
        exact (An.mp e).1
      exact c.ne this
  | w::T, Vs, u, h, g => by
    obtain ⟨v, hv, r⟩ := h.both hR g w (by simp)
    obtain ⟨S, S', e⟩ := List.append_of_mem hv
    have p : (v::(S++S')).Perm Vs := by rw [e];exact Ae.symm
    have g' := g.pms p
    have q : (w++T.flatten).Perm (w++(S++S').flatten) := by
      have h1 : (w++T.flatten).Perm u := by simpa using h.pm
      have h2 : (v++(S++S').flatten).Perm u := by
        have := g'.pm
        rwa [yR] at this
      exact h1.trans (h2.symm.trans (BJ _ r.pm.symm))
    have q := (List.perm_append_left_iff w).mp q
    have ih := kz hR l hl T (S++S') T.flatten ⟨fun x hx => h.cy x (by simp [hx]), .refl _⟩ ⟨fun x hx => g'.cy x (yd _ hx), q.symm⟩
    have : (Vs.map l).Perm (l v::(S++S').map l) := by simpa using (p.map l).symm
    rw [yM, hl w v r]
    exact (ih.cons _).trans this.symm
theorem uB {R : α → α → Prop}(hR : Fnl R){Ws Vs : List (List α)}{u : List α}(h : Dc R u Ws)(g : Dc R u Vs) : Ws.length=Vs.length := by
  have := (kz hR (fun _ => ()) (fun _ _ _ => rfl) Ws Vs u h g).length_eq
  simpa using this
theorem rP {u : List α}(nd : u.Nodup){p : α}(h : Nx u p p) : ∀ q∈u, q=p := by
  obtain ⟨A, B, rfl⟩ := bD (bg h).1
  have h := (bH _ _ _ _).mp h
  have nd : (p::(B++A)).Nodup := iJ nd
  have h := (fq nd).mp h
  cases e : B++A with
  | nil =>
    obtain ⟨rfl, rfl⟩ := An.mp e
    intro q hq
    simpa using hq
  | cons c t =>
    rw [e] at h nd
    simp at h
    exact absurd (by rw [h];simp) (yt.mp nd).1
end
end Wd
namespace Wd
end Wd
namespace Wd
theorem pB {u : List L}(U : Srf u){x : L}(hx : x∈u) : ¬ Nx u x x := fun h => fe x (rP U.nd h (inv x) (U.iv x hx))
end Wd
namespace PySem
open Sem (wp)
open AutoSeq1 (wpAny_loadPart')
set_option maxHeartbeats 1000000 in
theorem m6 (tp : Addr)(its : Array Value)(m : Nat)(dc : Option Addr)(sls : Array (Option Value)) :
    Meets (Builtin.«enumerate.__new__» ⟨[.type "enumerate", .ref tp], []⟩) (fun _ R s => s.heap.get? tp=some { cls := .type "tuple", dict := dc, data := .seq its m, slots := sls } ∧
      R (.ok (.ret (.ref (s.heap.push { cls := .type "tuple_iterator", data := .fields #[.ref tp, .int 0 0] }).objs.size)))
        { s with heap := (s.heap.push { cls := .type "tuple_iterator", data := .fields #[.ref tp, .int 0 0] }).push { cls := .type "enumerate", data := .fields #[.none, .bool false, .ref s.heap.objs.size, rawInt 0, .none, .none] } }) :=
  .of_wp fun prog w A R s h => by
    obtain ⟨hp, gg, dd, tk, os⟩ := s;obtain ⟨ht, h⟩ := h
    have hsub := sub_enumerate
    have hT : Heap.IsTuple (Shared.heap ⟨hp, gg, dd, tk, os⟩) tp its := ⟨_, ht, rfl, m, rfl⟩
    wp_walk using wpAny_loadPart' ht
    refine wpAny_stack_any fun stk => yn ?_
    split
    · rename_i cc _ _ _ _ _
      cases (cc == Value.type "enumerate")
      · (wp_walk using wpAny_loadPart' ht, zQ hT);exact ⟨_, rfl, h⟩
      · (wp_walk using wpAny_loadPart' ht, zQ hT);exact ⟨_, rfl, h⟩
    · (wp_walk using wpAny_loadPart' ht, zQ hT);exact ⟨_, rfl, h⟩
section
variable {prog : Program} {w : World} {A : Around} {E : Value → Shared → Prop} {s : Shared}
theorem pD {tp : Addr}{its : Array Value}{Q : Value → Shared → Prop}(hT : s.heap.IsTuple tp its)
    (h : ∀ h', IsEnum h' (s.heap.objs.size+1) s.heap.objs.size 0 .none → h'.IsTupleIter s.heap.objs.size tp 0 → (∀ b o, s.heap.get? b=some o → h'.get? b=some o) → Q (.ref (s.heap.objs.size+1)) { s with heap := h' }) :
    wpAny (model prog w) A (call (.type "enumerate") [.ref tp]) Q E s := by
  obtain ⟨⟨c, dc, dt, sls⟩, ht, hc, m, hd⟩ := hT
  obtain rfl : c = .type "tuple" := hc
  obtain rfl : dt = .seq its m := hd
  refine callType_new F.called_enumerate (by decide) (F.typeCall_enumerate_1 _) (F.newCall_enumerate_1 _) (fun ob => F.args_object_init_2 ob _) F.entry_enumerate_new (m6 tp its m dc sls) ⟨ht, ?_⟩
  have hz : (s.heap.push { cls := .type "tuple_iterator", data := .fields #[.ref tp, .int 0 0] }).objs.size=s.heap.objs.size+1 := zq ..
  show _ ∧ _
  rw [hz]
  have he := yk (s.heap.push { cls := .type "tuple_iterator", data := .fields #[.ref tp, .int 0 0] }) (o := { cls := .type "enumerate", data := .fields #[.none, .bool false, .ref s.heap.objs.size, rawInt 0, .none, .none] }) rfl
  rw [hz] at he
  exact ⟨⟨_, he, rfl⟩, h _ he ⟨_, x8 _ (yk _ rfl), rfl, rfl⟩ fun b o q => x8 _ (x8 _ q)⟩
theorem kZ {it tp : Addr}{k : Nat}{its : Array Value}{v : Value}{Q : Value → Shared → Prop}(hit : s.heap.IsTupleIter it tp k)(ht : s.heap.IsTuple tp its)(hv : its[k]? = some v)
    (hQ : ∀ h', h'.IsTupleIter it tp (k+1) → Heap.SameBut it s.heap h' → Q v { s with heap := h' }) : wpAny (model prog w) A (Builtin.SmallTypes.nextOf (.ref it)) Q E s := by
  obtain ⟨oi, gi, ci, di⟩ := id hit
  obtain ⟨ot, gt, _, nt, dt⟩ := ht
  unfold Builtin.SmallTypes.nextOf
  refine fu (y9 (name := Str.ofString "__next__") hit.typeIs zx (zk zx hit.typeIs Bb ?_ (AV _)))
  show wpAny _ _ (field (.ref it) 0 >>= _) _ _ s
  refine fu (y7 gi di (x := .ref tp) rfl ?_)
  show wpAny _ _ (if (Value.ref tp == Value.none)=true then _ else _) _ _ s
  rw [if_neg (show ¬ ((Value.ref tp == Value.none)=true) from yC)]
  show wpAny _ _ (field (.ref it) 1 >>= _) _ _ s
  refine fu (y7 gi di (x := .int k 0) rfl ?_)
  show wpAny _ _ (seqItems? (.ref tp) >>= _) _ _ s
  refine fu (zD gt dt ?_)
  simp only [yD, hv]
  refine fu (Ax gi di (by simp) (yn ⟨v, rfl, yn (hQ _ ?_ (zM ..))⟩))
  exact ⟨_, zA _ gi (AB (zB di _)), (Obj.cls_mapFields ..).trans ci, by rw [zB di];simp [rawInt]⟩
theorem iN {it tp : Addr}{k : Nat}{its : Array Value}{Q : Value → Shared → Prop}(hh : A.handled=none)(hit : s.heap.IsTupleIter it tp k)(ht : s.heap.IsTuple tp its)(hv : its[k]? = none)
    (hE : ∀ h' e, Heap.ExtBut it s.heap h' → (∃ o, h'.get? e=some o ∧ o.cls = .type "StopIteration") → E (.ref e) { s with heap := h' }) : wpAny (model prog w) A (Builtin.SmallTypes.nextOf (.ref it)) Q E s := by
  obtain ⟨oi, gi, ci, di⟩ := id hit
  obtain ⟨ot, gt, _, nt, dt⟩ := ht
  unfold Builtin.SmallTypes.nextOf
  refine fu (y9 (name := Str.ofString "__next__") hit.typeIs zx (zk zx hit.typeIs Bb ?_ (AV _)))
  show wpAny _ _ (field (.ref it) 0 >>= _) _ _ s
  refine fu (y7 gi di (x := .ref tp) rfl ?_)
  show wpAny _ _ (if (Value.ref tp == Value.none)=true then _ else _) _ _ s
  rw [if_neg (show ¬ ((Value.ref tp == Value.none)=true) from yC)]
  show wpAny _ _ (field (.ref it) 1 >>= _) _ _ s
  refine fu (y7 gi di (x := .int k 0) rfl ?_)
  show wpAny _ _ (seqItems? (.ref tp) >>= _) _ _ s
  refine fu (zD gt dt ?_)
  simp only [yD, hv]
  refine fu (AY (fu (Ax gi di (by simp) ?_)))
  show wpAny _ _ (newExc (.type "StopIteration") [] >>= _) _ _ _
  refine fu ?_
  simp only [newExc, newTuple]
  refine fu (wpAny_newObj_type ?_ (by size_fits))
  refine fu (m := firstArgMember _ _) (As (a := Value.none) (by first | rfl | (simp only [firstArgMember];rfl)) (wpAny_newObj_type ?_ (by size_fits)))
  simp only [raiseNew]
  refine fu (wpAny_handled ?_)
  first | rw [show A.in1.handled=none from hh] | rw [hh]
  exact fu (yn (wpAny_throw (hE _ _ (((zM ..).extBut.push _).push _) ⟨_, yk _ rfl, rfl⟩)))
theorem m7 {prog : Program}{w : World}{A : Around}(hh : A.handled=none)(it tp : Addr)(hne : tp≠it)(its : Array Value) :
    Draws prog w A it [it, tp] its.size (fun i x => its[i]? = some x) (fun i h => h.IsTupleIter it tp i ∧ h.IsTuple tp its) where
  live := fun i h st => let ⟨⟨o, e, _⟩, _⟩ := st;⟨o, e⟩
  frame := fun i h h' st kk => ⟨st.1.at fun o e => kk it (by simp) o e, let ⟨o, e, r⟩ := st.2;⟨o, kk tp (by simp) o e, r⟩⟩
  item := fun i s Q E hi st hQ => kZ st.1 st.2 (z_ hi) fun h' st' sb => hQ _ h' s.toks (z_ hi) ⟨st', let ⟨o, e, r⟩ := st.2;⟨o, (sb.2 tp hne).trans e, r⟩⟩ sb
  done := fun s Q E st hE => iN hh st.1 st.2 (Array.getElem?_eq_none (yb _)) hE
end
end PySem
namespace L2
open PySem PySem.Spec PyProof.Rows Wd
def sW (K : PySem.W.Frag)(a : Addr) : It := ⟨fun i H => ∃ xs x, SqT K H a xs ∧ xs[i]? = some x,
  fun i H v H' => ∃ (T : Addr) (x : V), H T=none ∧ v = .ref T ∧ (∀ xs, SqT K H a xs → xs[i]? = some x) ∧ H'=upd H T (.tup [.int i, x]), fun i H => ∃ xs, SqT K H a xs ∧ xs.length≤i⟩
theorem m8 {X : Cx}{pins : List (Addr × Obj)}{σ : St}{H : Hp}{s : Shared}{E : Value → Shared → Prop}{elts : List Expr}{k : Nat}{pos : Pos}{e it : Addr}{fp : List Addr}{n i : Nat}{Pv : Nat → Value → Prop}{St' : Nat → Heap → Prop}{old : Value}{tn : Nat → Heap → Prop}{Y : V → Hp → Prop}{x : V}
    (D : Draws X.prog X.w X.A.in1 it fp n Pv St') (I : Inv X pins σ H s) (hf : ∀ b∈[e, it], j0 X pins H b) (he : IsEnum s.heap e it i old) (hst : St' i s.heap) (hi : i < n) (hne : e≠it) (hef : e∉fp) (hrel : ∀ u, Pv i u → bj x u) (hit : ∃ o, s.heap.get? it=some o)
    (hY : ∀ T, H T=none → Y (.ref T) (upd H T (.tup [.int i, x]))) (htn : ∀ h', St' (i+1) h' → (∃ old, IsEnum h' e it ((i : Int)+1) old) → tn (i+1) h') :
    wpAny (model X.prog X.w) X.A (pyNext (.ref e)) (fun r s1 => ∃ u, r=some u ∧
      wpAny (model X.prog X.w) X.A (letOwnedTupleGo (.Tuple elts k pos) (.ref e) u) (fun _ s2 => ∃ y H', Inv X pins σ H' s2 ∧ bj y u ∧ Y y H' ∧ tn (i+1) s2.heap ∧ ∀ b∈[e, it], H' b=none) E s1) E s := by
  refine wpAny_pyNext_enum_itemD D he hst hi hne hef fun u h' tk hu b1 b2 b3 b4 b5 => ⟨_, rfl, wpAny_letOwnedTupleGo_enum b1 fun h2 c1 e2 => ?_⟩
  have hTe : s.heap.objs.size≠e := Az (yf he)
  have kk : ∀ b o, b∉[e, it] → s.heap.get? b=some o → h2.get? b=some o := fun b o hb q => by
    simp only [yB, yO, z0, not_or] at hb
    exact e2.extBut _ _ hb.1 (b5 b o hb.1 hb.2 q)
  have there : ∀ b∈[e, it], ∃ o, s.heap.get? b=some o := fun b hb => by
    simp only [yB, yO, z0] at hb
    rcases hb with rfl | rfl
    · exact ⟨_, he⟩
    · exact hit
  have I2 : Inv X pins σ (upd H s.heap.objs.size (.tup [.int i, x])) { s with heap := h2, toks := tk+1 } :=
    I.stepT (ch := [e, it]) (its := [.int i tk, u]) hf kk (yb _) (by show 2≤sizeLine;decide) (.cons ⟨_, rfl⟩ (.cons (hrel u hu) .nil)) ⟨_, e2.extBut _ _ hTe b3, rfl, _, rfl⟩ ⟨_, e2.extBut _ _ hTe b3, rfl⟩ there
  have hn : H s.heap.objs.size=none := I.hok.fresh (yb _)
  refine ⟨.ref s.heap.objs.size, _, I2, rfl, hY _ hn, htn h2 (D.frame _ _ _ b2 fun b hb o q => e2.extBut _ _ (fun z => hef (z ▸ hb)) q) ⟨_, c1⟩, fun b hb => ?_⟩
  obtain ⟨o, q⟩ := there b hb
  rw [av (yH (yf q))]
  exact (hf b hb).1
theorem pE {P : Program}{w : World}{K : PySem.W.Frag}{elts : List Expr}{k : Nat}{pos : Pos}{e it a : Addr}(hne : e≠it) :
    qQ P w K (.Tuple elts k pos) (sW K a) [e, it] e (fun i h => (∃ old, IsEnum h e it i old) ∧ h.IsTupleIter it a i) where
  mem := by simp
  obj := fun i h st b hb => by
    obtain ⟨⟨old, s1⟩, ⟨o, s2, _, d2⟩⟩ := st
    simp only [yB, yO, z0] at hb
    rcases hb with rfl | rfl
    · exact ⟨_, s1, fun v q => by cases q⟩
    · exact ⟨_, s2, fun v q => by rw [d2] at q;cases q⟩
  keep := fun i h h' st kk => by
    obtain ⟨⟨old, s1⟩, s2⟩ := st
    exact ⟨⟨old, kk e (by simp) _ s1⟩, s2.at fun o q => kk it (by simp) o q⟩
  item := by
    intro X hP hw hK hc i pins s σ H E I hf st hg
    subst hP hw hK
    obtain ⟨xs, x, hq, hx⟩ := hg
    obtain ⟨its, rv, p, hz⟩ := I.tuple hq
    obtain ⟨u, hu, ru⟩ := rv.get hx
    obtain ⟨⟨old, s1⟩, s2⟩ := st
    have hu' : its.toArray[i]? = some u := by simpa using hu
    have ha : a≠e := fun z => by obtain ⟨o, q, c, _⟩ := p;rw [z, s1] at q;cases q;simp at c
    have hb : a≠it := fun z => by obtain ⟨o, q, c, _⟩ := p;obtain ⟨o2, q2, c2, _⟩ := s2;rw [z, q2] at q;cases q;rw [c2] at c;simp at c
    refine m8 (tn := fun i h => (∃ old, IsEnum h e it i old) ∧ h.IsTupleIter it a i) (m7 (by exact I.ok.hd hc) it a hb its.toArray) I hf s1 ⟨s2, p⟩ (zw.mp hu').1 hne (by simp only [yB, yO, z0, not_or];exact ⟨hne, fun z => ha z.symm⟩)
      (fun u2 h2 => by rw [show its.toArray[i]? = some u2 from h2] at hu';cases hu';exact ru) (let ⟨o, q, _⟩ := s2;⟨o, q⟩) (fun T hT => ⟨T, x, hT, rfl, fun ys hy => by rw [I.tuple_inj hy hq];exact hx, rfl⟩) fun h' st' ho => ⟨by simpa using ho, st'.1⟩
  done := by
    intro X hP hw hK hc i pins s σ H E I hf st hg
    subst hP hw hK
    obtain ⟨xs, hq, hx⟩ := hg
    obtain ⟨its, rv, p, hz⟩ := I.tuple hq
    obtain ⟨⟨old, s1⟩, s2⟩ := st
    obtain ⟨f0, f1, f2, f3, f4, f5⟩ := hf it (by simp)
    have hl := rv.length
    have hb : a≠it := fun z => by obtain ⟨o, q, c, _⟩ := p;obtain ⟨o2, q2, c2, _⟩ := s2;rw [z, q2] at q;cases q;rw [c2] at c;simp at c
    have T : wpAny (model X.prog X.w) X.A (pyNext (.ref e)) (fun r s1 => r=none ∧ Inv X pins σ H s1) E s := by
      have hT : s.TypeIs (.ref e) "enumerate" := ⟨_, s1, rfl⟩
      unfold pyNext
      refine fu (Ai (y9 (name := Str.ofString "__next__") hT F.slot_enumerate_next (zk F.slot_enumerate_next hT F.entry_enumerate_next ?_ (F.args_enumerate_next_1 _))))
      show wpAny _ _ (field (.ref e) 2 >>= _) _ _ _
      refine fu (y7 s1 rfl (x := .ref it) rfl (fu (iN (by exact I.ok.hd hc) s2 p (by simp;omega) fun h' ex eb hx' => ?_)))
      obtain ⟨o, ho, hcl⟩ := hx'
      exact fu (BE (T := "StopIteration") (b := true) ⟨o, ho, hcl⟩ BV (yn ⟨rfl, I.turned (t' := s.toks) (fun b o hb q => eb b o hb q) f0 f1 f3 f4 f5⟩))
    exact T
  self := fun _ _ _ _ _ st h => let ⟨⟨_, s1⟩, _⟩ := st;wpAny_pyIter_enum s1 h
section
variable {X : Cx}
def xK (K : PySem.W.Frag)(ta : TA) : TI := fun σ H R => ta σ H fun vs H1 => ∃ a, vs=[.ref a] ∧ (∃ xs, SqT K H1 a xs) ∧ R (sW K a) H1
theorem fp2 {pins : List (Addr × Obj)}{σ : St}{H : Hp}{s : Shared}(I : Inv X pins σ H s) : ∀ b∈[s.heap.objs.size+1, s.heap.objs.size], j0 X pins H b := fun b hb => by
  have hge : s.heap.objs.size≤b := by
    simp only [yB, yO, z0] at hb
    rcases hb with rfl | rfl <;> omega
  exact I.fpOk hge (I.hok.fresh hge)
theorem uC {K : PySem.W.Frag}(hK : X.K=K){a : Expr}{ta : TA}{p pos tp : Pos}{elts : List Expr}{k : Nat}(hg : Gl X "enumerate")(hm : X.mg "enumerate" = none)(hb : bootBuiltins "enumerate" = some (.type "enumerate"))(ha : PA X [a] ta)(hs : starEach [a] X.env=[(false, eval a X.env)] := by rfl) :
    PI X (.Tuple elts k tp) (.Call (.Name "enumerate" p) [a] [] pos) (xK K ta) := by
  subst hK
  intro pins s σ H R I h
  refine Call_ (fS I hg hm hb (zf (thn (ha pos pins s σ H _ I h) fun us s1 zq2 => ?_) hs rfl))
  obtain ⟨vs, H1, I1, r1, q1⟩ := zq2
  obtain ⟨l, rfl, ⟨xs, hq⟩, q⟩ := q1
  obtain ⟨u1, rfl, ru⟩ := cV r1
  cases ru
  obtain ⟨its, rv, pl, hz⟩ := I1.tuple hq
  refine pD pl fun h' b1 b2 b4 => ?_
  have I2 : Inv X pins σ H1 { s1 with heap := h', toks := s1.toks } := I1.kept b4
  exact wpAny_pyIter_enum (s := { s1 with heap := h', toks := s1.toks }) b1 ⟨s1.heap.objs.size+1, [s1.heap.objs.size+1, s1.heap.objs.size], _, sW X.K l, H1, rfl, I2, pE (Nat.succ_ne_self _), ⟨⟨_, b1⟩, b2⟩, fp2 I1, q⟩
end
theorem rQ {K : PySem.W.Frag}{a : Addr}{xs : List V}{g : TG}{tb : TS}{D : jj}{σ : St}{H : Hp}(Pv : Nat → St → Hp → Prop)(h0 : Pv 0 σ H)(hl : ∀ i σ H, i≤xs.length → Pv i σ H → SqT K H a xs)
    (hs : ∀ i x σ H T, xs[i]? = some x → Pv i σ H → H T=none → g (.ref T) σ (upd H T (.tup [.int i, x])) fun σ2 H2 => tb { D with nx := Pv (i+1), ct := Pv (i+1), bk := D.nx } σ2 H2) (hd : ∀ σ H, Pv xs.length σ H → D.nx σ H) :
    ∃ W : Nat → Nat → St → Hp → Prop, (∃ m, W 0 m σ H) ∧ ∀ i m σ H, W i m σ H →
      ((sW K a).stop i H ∧ D.nx σ H) ∨ ((sW K a).go i H ∧ ∃ N : St → Hp → Prop, (∀ σ' H', N σ' H' → ∃ m', m' < m ∧ W (i+1) m' σ' H') ∧ ∀ x H', (sW K a).yld i H x H' → g x σ H' fun σ2 H2 => tb { D with nx := N, ct := N, bk := D.nx } σ2 H2) := by
  refine ⟨fun i m σ H => m=xs.length - i ∧ i≤xs.length ∧ Pv i σ H, ⟨xs.length, by simp, zb _, h0⟩, ?_⟩
  rintro i m σ H ⟨rfl, hi, p⟩
  have q := hl i σ H hi p
  by_cases hlt : i < xs.length
  · refine .inr ⟨⟨xs, xs[i], q, by simp [hlt]⟩, Pv (i+1), fun σ' H' p' => ⟨xs.length - (i+1), by omega, rfl, hlt, p'⟩, ?_⟩
    rintro v H' ⟨T, x, hT, rfl, hx, rfl⟩
    exact hs i x σ _ T (hx xs q) p hT
  · obtain rfl : i=xs.length := by omega
    exact .inl ⟨⟨xs, q, yb _⟩, hd σ H p⟩
end L2
namespace PySem
open Sem (wp)
structure Ap2 (z TO i1 i2 : Addr) (fp1 fp2 : List Addr) : Prop where
  z1 : z∉fp1
  z2 : z∉fp2
  o1 : TO∉fp1
  o2 : TO∉fp2
  i12 : i1∉fp2
  i21 : i2∉fp1
section
variable {prog : Program} {w : World} {A : Around} {E : Value → Shared → Prop} {s : Shared} {z TI TO i1 i2 : Addr} {k n1 n2 : Nat} {a b : Value} {fp1 fp2 : List Addr} {P1 P2 : Nat → Value → Prop} {S1 S2 : Nat → Heap → Prop}
theorem m9 {Q : Value → Shared → Prop}(D1 : Draws prog w A i1 fp1 n1 P1 S1)(D2 : Draws prog w A i2 fp2 n2 P2 S2)(D : Ap5 z TI TO i1 i2)
    (B : Ap2 z TO i1 i2 fp1 fp2) (hz : IsZip s.heap z TI TO .none) (hTI : IsPair s.heap TI (.ref i1) (.ref i2)) (hTO : IsPair s.heap TO a b) (h1 : S1 k s.heap) (h2 : S2 k s.heap) (hx : k < n1) (hy : k < n2)
    (hQ : ∀ h' tk v1 v2, P1 k v1 → P2 k v2 → IsZip h' z TI TO (rawInt s.heap.objs.size) → IsPair h' TO v1 v2 → S1 (k+1) h' → S2 (k+1) h' → IsPair h' s.heap.objs.size v1 v2 →
      (∀ e o, e≠z → e≠TO → e≠i1 → e≠i2 → s.heap.get? e=some o → h'.get? e=some o) → Q (.ref s.heap.objs.size) { s with heap := h', toks := tk }) :
    wpAny (model prog w) A (Builtin.«zip.__next__» ⟨[.ref z], []⟩) (fun fin s' => ∃ v, fin = .done (.ret v) ∧ Q v s') E s := by
  show wpAny _ _ (field (.ref z) 2 >>= _) _ _ _
  refine fu (y7 hz rfl (x := .bool false) rfl ?_)
  show wpAny _ _ (field (.ref z) 3 >>= _) _ _ _
  refine fu (y7 hz rfl (x := .ref TI) rfl (fu (zD hTI rfl ?_)))
  show wpAny _ _ (Builtin.SmallTypes.ownedTupleIsFree (.ref z) >>= _) _ _ _
  refine fu ?_
  unfold Builtin.SmallTypes.ownedTupleIsFree
  refine fu (y7 hz rfl (x := .none) rfl (yn ?_))
  simp only [Bz]
  refine fu (AY (fu (y7 hz rfl (x := .ref TO) rfl (fu (zC hz (by simp) fun g1 hz1 e1 => ?_)))))
  have hz1 : IsZip g1 z TI TO .ellipsis := hz1
  refine fu ?_
  simp only [List.zipIdx_cons, List.zipIdx_nil, BS, List.forIn_nil]
  refine fu (fu (BB ?_))
  show wpAny _ _ (Builtin.SmallTypes.nextOf (.ref i1) >>= _) _ _ _
  refine fu (D1.item k _ _ _ hx (D1.frame _ _ _ h1 fun q hq o eq => e1.extBut _ _ (fun zz => B.z1 (zz ▸ hq)) eq) fun v1 g2 tk2 p1 j1 e2 => yn ?_)
  have o2 : IsPair g2 TO a b := e2.extBut _ _ D.TOi1 (e1.extBut _ _ D.TOz hTO)
  refine fu (zD o2 rfl (fu (AR o2 fun g3 o3 e3 => fu (wpAny_letGo (yn ?_)))))
  have o3 : IsPair g3 TO v1 b := o3
  refine fu (fu (BB ?_))
  show wpAny _ _ (Builtin.SmallTypes.nextOf (.ref i2) >>= _) _ _ _
  refine fu (D2.item k _ _ _ hy (D2.frame _ _ _ h2 fun q hq o eq => e3.extBut _ _ (fun zz => B.o2 (zz ▸ hq)) (e2.extBut _ _ (fun zz => B.i12 (zz ▸ hq)) (e1.extBut _ _ (fun zz => B.z2 (zz ▸ hq)) eq))) fun v2 g4 tk4 p2 j2 e4 => yn ?_)
  have o4 : IsPair g4 TO v1 b := e4.extBut _ _ D.TOi2 o3
  refine fu (zD o4 rfl (fu (AR o4 fun g5 o5 e5 => fu (wpAny_letGo (yn (yn ?_))))))
  have o5 : IsPair g5 TO v1 v2 := o5
  refine fu (zD o5 rfl (fu (wpAny_newTuple ?_)))
  have hsz : g5.objs.size=s.heap.objs.size := by rw [e5.1, e4.1, e3.1, e2.1, e1.1]
  have z5 : IsZip g5 z TI TO .ellipsis := e5.extBut _ _ D.TOz.symm (e4.extBut _ _ D.i2z.symm (e3.extBut _ _ D.TOz.symm (e2.extBut _ _ D.i1z.symm hz1)))
  have kk : ∀ e o, e≠z → e≠TO → e≠i1 → e≠i2 → s.heap.get? e=some o → g5.get? e=some o := fun e o n1 n2 n3 n4 q => e5.extBut _ _ n2 (e4.extBut _ _ n4 (e3.extBut _ _ n2 (e2.extBut _ _ n3 (e1.extBut _ _ n1 q))))
  have j1' : S1 (k+1) g5 := D1.frame _ _ _ j1 fun q hq o eq => e5.extBut _ _ (fun zz => B.o1 (zz ▸ hq)) (e4.extBut _ _ (fun zz => B.i21 (zz ▸ hq)) (e3.extBut _ _ (fun zz => B.o1 (zz ▸ hq)) eq))
  have j2' : S2 (k+1) g5 := D2.frame _ _ _ j2 fun q hq o eq => e5.extBut _ _ (fun zz => B.o2 (zz ▸ hq)) eq
  have zlt : z < g5.objs.size := yf z5
  show wpAny _ _ (Builtin.SmallTypes.ownedTupleHandOut (.ref z) (.ref g5.objs.size) >>= _) _ _ _
  refine fu ?_
  unfold Builtin.SmallTypes.ownedTupleHandOut
  have z6 : IsZip (g5.push { cls := .type "tuple", data := .seq #[v1, v2] }) z TI TO .ellipsis := x8 _ z5
  refine fu (zC z6 (by simp) fun g7 z7 e7 => ?_)
  have z7 : IsZip g7 z TI TO (rawInt g5.objs.size) := z7
  refine zC z7 (by simp) fun g8 z8 e8 => ?_
  have z8 : IsZip g8 z TI TO (rawInt g5.objs.size) := z8
  have up : ∀ e o, e≠z → g5.get? e=some o → g8.get? e=some o := fun e o n1 q => e8.extBut _ _ n1 (e7.extBut _ _ n1 (x8 _ q))
  have T8 : IsPair g8 g5.objs.size v1 v2 := e8.extBut _ _ (Az zlt) (e7.extBut _ _ (Az zlt) (yk _ rfl))
  rw [hsz] at z8 T8
  refine yn ⟨_, rfl, ?_⟩
  show Q (.ref g5.objs.size) _
  rw [hsz]
  exact hQ g8 _ v1 v2 p1 p2 z8 (up _ _ D.TOz o5) (D1.frame _ _ _ j1' fun q hq o eq => up q o (fun zz => B.z1 (zz ▸ hq)) eq) (D2.frame _ _ _ j2' fun q hq o eq => up q o (fun zz => B.z2 (zz ▸ hq)) eq) T8 fun e o n1 n2 n3 n4 q => up e o n1 (kk e o n1 n2 n3 n4 q)
theorem pF {Q : Fin → Shared → Prop}(D1 : Draws prog w A i1 fp1 n1 P1 S1)(D2 : Draws prog w A i2 fp2 n2 P2 S2)(D : Ap5 z TI TO i1 i2)
    (B : Ap2 z TO i1 i2 fp1 fp2) (hz : IsZip s.heap z TI TO .none) (hTI : IsPair s.heap TI (.ref i1) (.ref i2)) (hTO : IsPair s.heap TO a b) (h1 : S1 k s.heap) (h2 : S2 k s.heap) (hend : k=n1 ∨ (k < n1 ∧ k=n2))
    (hE : ∀ h' tk e, (∀ c o, c≠z → c≠TO → c≠i1 → c≠i2 → s.heap.get? c=some o → h'.get? c=some o) → (∃ o, h'.get? e=some o ∧ o.cls = .type "StopIteration") → E (.ref e) { s with heap := h', toks := tk }) :
    wpAny (model prog w) A (Builtin.«zip.__next__» ⟨[.ref z], []⟩) Q E s := by
  show wpAny _ _ (field (.ref z) 2 >>= _) _ _ _
  refine fu (y7 hz rfl (x := .bool false) rfl ?_)
  show wpAny _ _ (field (.ref z) 3 >>= _) _ _ _
  refine fu (y7 hz rfl (x := .ref TI) rfl (fu (zD hTI rfl ?_)))
  show wpAny _ _ (Builtin.SmallTypes.ownedTupleIsFree (.ref z) >>= _) _ _ _
  refine fu ?_
  unfold Builtin.SmallTypes.ownedTupleIsFree
  refine fu (y7 hz rfl (x := .none) rfl (yn ?_))
  simp only [Bz]
  refine fu (AY (fu (y7 hz rfl (x := .ref TO) rfl (fu (zC hz (by simp) fun g1 hz1 e1 => ?_)))))
  have hz1 : IsZip g1 z TI TO .ellipsis := hz1
  refine fu ?_
  simp only [List.zipIdx_cons, List.zipIdx_nil, BS, List.forIn_nil]
  refine fu (fu (BB ?_))
  show wpAny _ _ (Builtin.SmallTypes.nextOf (.ref i1) >>= _) _ _ _
  rcases hend with hk | ⟨hk, hk2⟩
  · subst hk
    refine fu (D1.done _ _ _ (D1.frame _ _ _ h1 fun q hq o eq => e1.extBut _ _ (fun zz => B.z1 (zz ▸ hq)) eq) fun g2 ev e2 he => ?_)
    obtain ⟨oe, hoe, hce⟩ := he
    have z2 : IsZip g2 z TI TO .ellipsis := e2 _ _ D.i1z.symm hz1
    have hez : ev≠z := fun q => by subst q;rw [z2] at hoe;cases hoe;simp at hce
    exact zC z2 (by simp) fun g3 _ e3 => hE g3 _ ev (fun c o n1 _ n3 _ q => e3.extBut _ _ n1 (e2 _ _ n3 (e1.extBut _ _ n1 q))) ⟨oe, e3.extBut _ _ hez hoe, hce⟩
  · refine fu (D1.item k _ _ _ hk (D1.frame _ _ _ h1 fun q hq o eq => e1.extBut _ _ (fun zz => B.z1 (zz ▸ hq)) eq) fun v1 g2 tk2 p1 j1 e2 => yn ?_)
    have o2 : IsPair g2 TO a b := e2.extBut _ _ D.TOi1 (e1.extBut _ _ D.TOz hTO)
    refine fu (zD o2 rfl (fu (AR o2 fun g3 o3 e3 => fu (wpAny_letGo (yn ?_)))))
    refine fu (fu (BB ?_))
    show wpAny _ _ (Builtin.SmallTypes.nextOf (.ref i2) >>= _) _ _ _
    have h2' := D2.frame _ _ _ h2 fun q hq o eq => e3.extBut _ _ (fun zz => B.o2 (zz ▸ hq)) (e2.extBut _ _ (fun zz => B.i12 (zz ▸ hq)) (e1.extBut _ _ (fun zz => B.z2 (zz ▸ hq)) eq))
    rw [hk2] at h2'
    refine fu (D2.done _ _ _ h2' fun g4 ev e4 he => ?_)
    obtain ⟨oe, hoe, hce⟩ := he
    have z4 : IsZip g4 z TI TO .ellipsis := e4 _ _ D.i2z.symm (e3.extBut _ _ D.TOz.symm (e2.extBut _ _ D.i1z.symm hz1))
    have hez : ev≠z := fun q => by subst q;rw [z4] at hoe;cases hoe;simp at hce
    exact zC z4 (by simp) fun g5 _ e5 => hE g5 _ ev (fun c o n1 n2 n3 n4 q => e5.extBut _ _ n1 (e4 _ _ n4 (e3.extBut _ _ n2 (e2.extBut _ _ n3 (e1.extBut _ _ n1 q))))) ⟨oe, e5.extBut _ _ hez hoe, hce⟩
theorem k_ {Q : Option Value → Shared → Prop}(D1 : Draws prog w A.in1 i1 fp1 n1 P1 S1)(D2 : Draws prog w A.in1 i2 fp2 n2 P2 S2)(D : Ap5 z TI TO i1 i2)
    (B : Ap2 z TO i1 i2 fp1 fp2) (hz : IsZip s.heap z TI TO .none) (hTI : IsPair s.heap TI (.ref i1) (.ref i2)) (hTO : IsPair s.heap TO a b) (h1 : S1 k s.heap) (h2 : S2 k s.heap) (hx : k < n1) (hy : k < n2)
    (hQ : ∀ h' tk v1 v2, P1 k v1 → P2 k v2 → IsZip h' z TI TO (rawInt s.heap.objs.size) → IsPair h' TO v1 v2 → S1 (k+1) h' → S2 (k+1) h' → IsPair h' s.heap.objs.size v1 v2 →
      (∀ e o, e≠z → e≠TO → e≠i1 → e≠i2 → s.heap.get? e=some o → h'.get? e=some o) → Q (some (.ref s.heap.objs.size)) { s with heap := h', toks := tk }) :
    wpAny (model prog w) A (pyNext (.ref z)) Q E s := by
  have hT : s.TypeIs (.ref z) "zip" := ⟨_, hz, rfl⟩
  unfold pyNext
  exact fu (Ai (y9 (name := Str.ofString "__next__") hT Bc (zk Bc hT F.entry_zip_next
    (m9 D1 D2 D B hz hTI hTO h1 h2 hx hy fun h' tk v1 v2 q1 q2 b1 b2 b3 b4 b5 b6 => yn (hQ h' tk v1 v2 q1 q2 b1 b2 b3 b4 b5 b6)) (F.args_zip_next_1 _))))
theorem m_ {Q : Option Value → Shared → Prop}(D1 : Draws prog w A.in1 i1 fp1 n1 P1 S1)(D2 : Draws prog w A.in1 i2 fp2 n2 P2 S2)(D : Ap5 z TI TO i1 i2)
    (B : Ap2 z TO i1 i2 fp1 fp2) (hz : IsZip s.heap z TI TO .none) (hTI : IsPair s.heap TI (.ref i1) (.ref i2)) (hTO : IsPair s.heap TO a b) (h1 : S1 k s.heap) (h2 : S2 k s.heap) (hend : k=n1 ∨ (k < n1 ∧ k=n2))
    (hQ : ∀ h' tk, (∀ c o, c≠z → c≠TO → c≠i1 → c≠i2 → s.heap.get? c=some o → h'.get? c=some o) → Q none { s with heap := h', toks := tk }) : wpAny (model prog w) A (pyNext (.ref z)) Q E s := by
  have hT : s.TypeIs (.ref z) "zip" := ⟨_, hz, rfl⟩
  unfold pyNext
  refine fu (Ai (y9 (name := Str.ofString "__next__") hT Bc (zk Bc hT F.entry_zip_next
    (pF D1 D2 D B hz hTI hTO h1 h2 hend fun h' tk e hk he => ?_) (F.args_zip_next_1 _))))
  obtain ⟨o, ho, hc⟩ := he
  refine fu (BE (T := "StopIteration") (b := true) ⟨o, ho, hc⟩ BV ?_)
  exact yn (hQ _ _ hk)
end
end PySem
namespace PySem
end PySem
namespace L2
open PySem PySem.Spec PyProof.Rows Wd
section
variable {X : Cx}
end
end L2
namespace PySem
abbrev zu1 (h : Heap)(x : Str)(t : Tok) : Heap := h.push { cls := .type "str_ascii_iterator", data := .fields #[.str x t, .int 0 0] }
abbrev zu2 (h : Heap)(x : Str)(t : Tok)(q : Addr) : Heap := (zu1 h x t).push { cls := .type "tuple_iterator", data := .fields #[.ref q, .int 0 0] }
abbrev zu3 (h : Heap)(x : Str)(t : Tok)(q : Addr) : Heap := (zu2 h x t q).push { cls := .type "tuple", data := .seq #[.ref h.objs.size, .ref (zu1 h x t).objs.size] }
abbrev zu4 (h : Heap)(x : Str)(t : Tok)(q : Addr) : Heap := (zu3 h x t q).push { cls := .type "tuple", data := .seq #[.none, .none] }
abbrev zu5 (h : Heap)(x : Str)(t : Tok)(q : Addr) : Heap := (zu4 h x t q).push { cls := .type "zip", data := .fields #[.none, .bool false, .bool false, .ref (zu2 h x t q).objs.size, .ref (zu3 h x t q).objs.size] }
set_option maxHeartbeats 2000000 in
theorem jH (x : Str)(t : Tok)(q : Addr)(ys : Array Value)(hx : x.cps.all (· < 128)=true) : Meets (Builtin.«zip.__new__» ⟨[.type "zip", .str x t, .ref q], []⟩) (fun _ R s => s.heap.IsTuple q ys ∧ R (.ok (.ret (.ref (zu4 s.heap x t q).objs.size))) { s with heap := zu5 s.heap x t q }) :=
  .of_wp fun prog w A R s h => by
    obtain ⟨hp, gg, dd, tk, os⟩ := s
    obtain ⟨t2, h⟩ := h
    have hsub := sub_zip
    have T2 : Heap.IsTuple (Shared.heap ⟨hp.push { cls := .type "str_ascii_iterator", data := .fields #[.str x t, .int 0 0] }, gg, dd, tk, os⟩) q ys := by
      obtain ⟨o, e, r⟩ := t2
      exact ⟨o, x8 _ e, r⟩
    wp_walk using wpAny_pyIter_ascii hx, zQ T2
    exact ⟨_, rfl, h⟩
theorem lg {prog : Program}{w : World}{A : Around}{E : Value → Shared → Prop}{s : Shared}{x : Str}{t : Tok}{q : Addr}{ys : Array Value}{Q : Value → Shared → Prop}(hx : x.cps.all (· < 128)=true)(hy : s.heap.IsTuple q ys)
    (h : ∀ h', IsZip h' (s.heap.objs.size+4) (s.heap.objs.size+2) (s.heap.objs.size+3) .none → IsPair h' (s.heap.objs.size+2) (.ref s.heap.objs.size) (.ref (s.heap.objs.size+1)) → IsPair h' (s.heap.objs.size+3) .none .none →
      wq h' s.heap.objs.size x t 0 → h'.IsTupleIter (s.heap.objs.size+1) q 0 → (∀ c o, s.heap.get? c=some o → h'.get? c=some o) → Q (.ref (s.heap.objs.size+4)) { s with heap := h' }) :
    wpAny (model prog w) A (call (.type "zip") [.str x t, .ref q]) Q E s := by
  refine callType_new F.called_zip (by decide) (F.typeCall_zip_2 _ _) (F.newCall_zip_2 _ _) (fun obj => F.args_object_init_3 obj _ _) F.entry_zip_new (jH x t q ys hx) ⟨hy, ?_⟩
  have n1 : (zu1 s.heap x t).objs.size=s.heap.objs.size+1 := zq ..
  have n2 : (zu2 s.heap x t q).objs.size=s.heap.objs.size+2 := by rw [zq, n1]
  have n3 : (zu3 s.heap x t q).objs.size=s.heap.objs.size+3 := by rw [zq, n2]
  have n4 : (zu4 s.heap x t q).objs.size=s.heap.objs.size+4 := by rw [zq, n3]
  have g5 : (zu5 s.heap x t q).get? (zu4 s.heap x t q).objs.size=some _ := yk _ rfl
  have g4 : (zu5 s.heap x t q).get? (zu3 s.heap x t q).objs.size=some _ := x8 _ (yk _ rfl)
  have g3 : (zu5 s.heap x t q).get? (zu2 s.heap x t q).objs.size=some _ := x8 _ (x8 _ (yk _ rfl))
  have g2 : (zu5 s.heap x t q).get? (zu1 s.heap x t).objs.size=some _ := x8 _ (x8 _ (x8 _ (yk _ rfl)))
  have g1 : (zu5 s.heap x t q).get? s.heap.objs.size=some _ := x8 _ (x8 _ (x8 _ (x8 _ (yk _ rfl))))
  show _ ∧ _
  rw [n2, n3, n4] at g5
  rw [n1, n2] at g3
  rw [n3] at g4
  rw [n1] at g2
  rw [n4]
  exact ⟨⟨_, g5, rfl⟩, h _ g5 g3 g4 ⟨_, g1, rfl, rfl⟩ ⟨_, g2, rfl, rfl⟩ fun c o q => x8 _ (x8 _ (x8 _ (x8 _ (x8 _ q))))⟩
end PySem
namespace L2
open PySem PySem.Spec PyProof.Rows Wd
def sX (K : PySem.W.Frag)(x : Str)(q : Addr) : It := ⟨fun i H => ∃ ys y, SqT K H q ys ∧ i < x.cps.size ∧ ys[i]? = some y,
  fun i H v H' => ∃ (T : Addr) (c : Nat) (y : V), H T=none ∧ v = .ref T ∧ x.cps[i]? = some c ∧ (∀ ys, SqT K H q ys → ys[i]? = some y) ∧ H'=upd H T (.tup [.str ⟨#[c]⟩, y]),
  fun i H => ∃ ys, SqT K H q ys ∧ i=min x.cps.size ys.length⟩
theorem uD {s : Shared}{z TI TO i1 i2 q : Addr}{a c : Value}{i : Nat}{x : Str}{t : Tok}{ys : Array Value}(D : Ap5 z TI TO i1 i2)(s1 : IsZip s.heap z TI TO .none)(s3 : IsPair s.heap TO a c)(s4 : wq s.heap i1 x t i)(s5 : s.heap.IsTupleIter i2 q i)
    (p2 : IsTup s.heap q ys) (hTO : q≠TO) : q≠i2 ∧ Ap2 z TO i1 i2 [i1] [i2, q] := by
  obtain ⟨o1, g1, c1, _⟩ := s4
  obtain ⟨o2, g2, c2, _⟩ := s5
  obtain ⟨o4, g4, c4, _⟩ := p2
  have n2 : q≠i2 := fun e => by rw [e, g2] at g4;cases g4;rw [c2] at c4;simp at c4
  have n4 : q≠z := fun e => by rw [e, s1] at g4;cases g4;simp at c4
  have n6 : q≠i1 := fun e => by rw [e, g1] at g4;cases g4;rw [c1] at c4;simp at c4
  refine ⟨n2, ?_, ?_, ?_, ?_, ?_, ?_⟩ <;> simp only [yB, yO, z0, not_or]
  · exact D.i1z.symm
  · exact ⟨D.i2z.symm, n4.symm⟩
  · exact D.TOi1
  · exact ⟨D.TOi2, hTO.symm⟩
  · exact ⟨D.i12, n6.symm⟩
  · exact D.i12.symm
theorem lh {P : Program}{w : World}{K : PySem.W.Frag}{elts : List Expr}{k : Nat}{pos : Pos}{z TI TO i1 i2 : Addr}{x : Str}{t : Tok}{q : Addr}(D : Ap5 z TI TO i1 i2)(hTO : q≠TO) :
    qQ P w K (.Tuple elts k pos) (sX K x q) [z, TI, TO, i1, i2] z (fun i h => IsZip h z TI TO .none ∧ IsPair h TI (.ref i1) (.ref i2) ∧ (∃ a b, IsPair h TO a b) ∧ wq h i1 x t i ∧ h.IsTupleIter i2 q i) where
  mem := by simp
  obj := fun i h st b hb => by
    obtain ⟨s1, s2, ⟨a, c, s3⟩, ⟨o1, s4, _, d4⟩, ⟨o2, s5, _, d5⟩⟩ := st
    simp only [yB, yO, z0] at hb
    rcases hb with rfl | rfl | rfl | rfl | rfl
    · exact ⟨_, s1, fun v q => by cases q⟩
    · exact ⟨_, s2, fun v q => by cases q⟩
    · exact ⟨_, s3, fun v q => by cases q⟩
    · exact ⟨_, s4, fun v q => by rw [d4] at q;cases q⟩
    · exact ⟨_, s5, fun v q => by rw [d5] at q;cases q⟩
  keep := fun i h h' st kk => by
    obtain ⟨s1, s2, ⟨a, c, s3⟩, ⟨o1, s4, r4⟩, ⟨o2, s5, r5⟩⟩ := st
    exact ⟨kk z (by simp) _ s1, kk TI (by simp) _ s2, ⟨a, c, kk TO (by simp) _ s3⟩, ⟨o1, kk i1 (by simp) _ s4, r4⟩, ⟨o2, kk i2 (by simp) _ s5, r5⟩⟩
  item := by
    intro X hP hw hK hc i pins s σ H E I hf st hg
    subst hP hw hK
    obtain ⟨ys, vy, hq2, hx, hy⟩ := hg
    obtain ⟨its2, rv2, p2, hz2⟩ := I.tuple hq2
    obtain ⟨u2, hu2, ru2⟩ := rv2.get hy
    obtain ⟨s1, s2, ⟨a, c, s3⟩, s4, s5⟩ := st
    have hu2' : its2.toArray[i]? = some u2 := by simpa using hu2
    obtain ⟨np1, np2⟩ := uD D s1 s3 s4 s5 p2 hTO
    refine k_ (Draws.strAscii (by exact I.ok.hd hc) i1 x t) (m7 (by exact I.ok.hd hc) i2 q np1 its2.toArray) D np2 s1 s2 s3 s4 ⟨s5, p2⟩ hx (zw.mp hu2').1 fun h' tk v1 v2 w1 w2 b1 b2 b3 b4 b5 b6 => ⟨_, rfl, ?_⟩
    obtain ⟨cc, uu, hcc, rfl⟩ := w1
    obtain rfl : u2=v2 := by rw [show its2.toArray[i]? = some v2 from w2] at hu2';exact (yh hu2').symm
    refine wpAny_letOwnedTupleGo_zip b1 fun h2 c1' e2 => ?_
    have there : ∀ b∈[z, TI, TO, i1, i2], ∃ o, s.heap.get? b=some o := fun b hb => by
      obtain ⟨o1, q4, _⟩ := s4
      obtain ⟨o2, q5, _⟩ := s5
      simp only [yB, yO, z0] at hb
      rcases hb with rfl | rfl | rfl | rfl | rfl
      · exact ⟨_, s1⟩
      · exact ⟨_, s2⟩
      · exact ⟨_, s3⟩
      · exact ⟨_, q4⟩
      · exact ⟨_, q5⟩
    have kk : ∀ b o, b∉[z, TI, TO, i1, i2] → s.heap.get? b=some o → h2.get? b=some o := fun b o hb e => by
      simp only [yB, yO, z0, not_or] at hb
      exact e2.extBut _ _ hb.1 (b6 b o hb.1 hb.2.2.1 hb.2.2.2.1 hb.2.2.2.2 e)
    have hTz : s.heap.objs.size≠z := Az (yf s1)
    have I2 : Inv X pins σ (upd H s.heap.objs.size (.tup [.str ⟨#[cc]⟩, vy])) { s with heap := h2, toks := tk } :=
      I.stepT (ch := [z, TI, TO, i1, i2]) (its := [.str ⟨#[cc]⟩ uu, u2]) hf kk (yb _) (by show 2≤sizeLine;decide) (.cons ⟨_, rfl⟩ (.cons ru2 .nil)) ⟨_, e2.extBut _ _ hTz b5, rfl, _, rfl⟩ ⟨_, e2.extBut _ _ hTz b5, rfl⟩ there
    have hnT : H s.heap.objs.size=none := I.hok.fresh (yb _)
    have sTI : IsPair h2 TI (.ref i1) (.ref i2) := e2.extBut _ _ D.TIz (b6 _ _ D.TIz D.TITO D.TIi1 D.TIi2 s2)
    refine ⟨.ref s.heap.objs.size, _, I2, rfl, ⟨s.heap.objs.size, cc, vy, hnT, rfl, hcc, fun zs hz => by rw [I.tuple_inj hz hq2];exact hy, rfl⟩,
      ⟨c1', sTI, ⟨_, _, e2.extBut _ _ D.TOz b2⟩, b3.extBut e2.extBut D.i1z, b4.1.at fun o q => e2.extBut _ _ D.i2z q⟩, fun b hb => ?_⟩
    obtain ⟨o, q⟩ := there b hb
    rw [av (yH (yf q))]
    exact (hf b hb).1
  done := by
    intro X hP hw hK hc i pins s σ H E I hf st hg
    subst hP hw hK
    obtain ⟨ys, hq2, hi⟩ := hg
    obtain ⟨its2, rv2, p2, hz2⟩ := I.tuple hq2
    have hl2 := rv2.length
    obtain ⟨s1, s2, ⟨a, c, s3⟩, s4, s5⟩ := st
    obtain ⟨np1, np2⟩ := uD D s1 s3 s4 s5 p2 hTO
    refine m_ (Draws.strAscii (by exact I.ok.hd hc) i1 x t) (m7 (by exact I.ok.hd hc) i2 q np1 its2.toArray) D np2 s1 s2 s3 s4 ⟨s5, p2⟩ ?_ fun h' tk kk => ⟨rfl, ?_⟩
    · simp only [yg]
      omega
    · have nch : ∀ {b u}, H b=some u → b∉[z, TI, TO, i1, i2] := fun e q => by rw [(hf _ q).1] at e;cases e
      have k2 : ∀ b o, b∉[z, TI, TO, i1, i2] → s.heap.get? b=some o → h'.get? b=some o := fun b o hb e => by
        simp only [yB, yO, z0, not_or] at hb
        exact kk b o hb.1 hb.2.2.1 hb.2.2.2.1 hb.2.2.2.2 e
      refine I.step (g' := s.gens) (d' := s.drawn) (ch := [z, TI, TO, i1, i2]) (fun b hb => ?_) (fun b o _ _ hc e _ => k2 b o hc e) (fun b o _ _ hc e _ => ⟨o.slots, k2 b o hc e⟩) (fun _ _ _ _ n => n) (fun b o hc e => ⟨o, k2 b o hc e⟩)
        (fun _ _ e => e) (fun _ _ _ e => e) (fun b ps e => ⟨#[], by rw [e];simp⟩) (fun m hm => ?_) (fun b u e => ?_) I.bare
      · obtain ⟨_, f1, _, f3, f4, f5⟩ := hf b hb
        exact ⟨f3, f1, f4, f5⟩
      · obtain ⟨o, es, ep, ho, r⟩ := hm
        exact ⟨o, es, ep, k2 _ o (fun q => (hf _ q).2.1 rfl) ho, r⟩
      · refine (I.hok b u e).stay (fun c v hc q => k2 c v ?_ q) (fun _ q => q) fun _ _ q => q
        rcases hc with q | q
        · rw [q];exact nch e
        · exact nch q
  self := fun _ _ _ _ _ st h => wpAny_pyIter_zip st.1 h
section
variable {X : Cx}
def uE (K : PySem.W.Frag)(ta : TA) : TI := fun σ H R => ta σ H fun vs H1 => ∃ x q, vs=[.str x, .ref q] ∧ x.cps.all (· < 128)=true ∧ (∃ ys, SqT K H1 q ys) ∧ R (sX K x q) H1
theorem pH {K : PySem.W.Frag}(hK : X.K=K){a b : Expr}{ta : TA}{p pos tp : Pos}{elts : List Expr}{k : Nat}(hg : Gl X "zip")(hm : X.mg "zip" = none)(hb : bootBuiltins "zip" = some (.type "zip"))(ha : PA X [a, b] ta)(hs : starEach [a, b] X.env=(false, eval a X.env)::starEach [b] X.env := by rfl)(hs2 : (backTo pos (starEach [b] X.env)).any (·.1)=false := by rfl) :
    PI X (.Tuple elts k tp) (.Call (.Name "zip" p) [a, b] [] pos) (uE K ta) := by
  subst hK
  intro pins s σ H R I h
  refine Call_ (fS I hg hm hb (zf (thn (ha pos pins s σ H _ I h) fun us s1 zq1 => ?_) hs hs2))
  obtain ⟨vs, H1, I1, r1, q1⟩ := zq1
  obtain ⟨x, l2, rfl, hx, ⟨ys, hy⟩, q⟩ := q1
  obtain ⟨u1, u2, rfl, r3, r4⟩ := qV r1
  obtain ⟨tt, rfl⟩ := r3
  cases r4
  obtain ⟨its2, rv2, p2, hz2⟩ := I1.tuple hy
  refine lg hx p2 fun h' b1 b2 b3 b4 b5 b6 => ?_
  have I2 : Inv X pins σ H1 { s1 with heap := h', toks := s1.toks } := I1.kept b6
  have hlt : l2 < s1.heap.objs.size := by obtain ⟨o, e, _⟩ := p2;exact yf e
  refine wpAny_pyIter_zip (s := { s1 with heap := h', toks := s1.toks }) b1 ?_
  refine ⟨s1.heap.objs.size+4, [s1.heap.objs.size+4, s1.heap.objs.size+2, s1.heap.objs.size+3, s1.heap.objs.size, s1.heap.objs.size+1], _, sX X.K x l2, H1, rfl, I2,
    lh (t := tt) (uq s1.heap.objs.size) (yH (yo hlt (Nat.le_add_right _ _))), ⟨b1, b2, ⟨_, _, b3⟩, b4, b5⟩, fun b hb => ?_, q⟩
  have hge : s1.heap.objs.size≤b := by
    simp only [yB, yO, z0] at hb
    rcases hb with rfl | rfl | rfl | rfl | rfl <;> omega
  exact I1.fpOk hge (I1.hok.fresh hge)
end
theorem nc {K : PySem.W.Frag}{z : Str}{q : Addr}{ys : List V}{g : TG}{tb : TS}{D : jj}{σ : St}{H : Hp}(Pv : Nat → St → Hp → Prop)(h0 : Pv 0 σ H)(hl : ∀ i σ H, Pv i σ H → SqT K H q ys)
    (hs : ∀ i c y σ H T, z.cps[i]? = some c → ys[i]? = some y → Pv i σ H → H T=none → g (.ref T) σ (upd H T (.tup [.str ⟨#[c]⟩, y])) fun σ2 H2 => tb { D with nx := Pv (i+1), ct := Pv (i+1), bk := D.nx } σ2 H2) (hd : ∀ σ H, Pv (min z.cps.size ys.length) σ H → D.nx σ H) :
    ∃ W : Nat → Nat → St → Hp → Prop, (∃ m, W 0 m σ H) ∧ ∀ i m σ H, W i m σ H →
      ((sX K z q).stop i H ∧ D.nx σ H) ∨ ((sX K z q).go i H ∧ ∃ N : St → Hp → Prop, (∀ σ' H', N σ' H' → ∃ m', m' < m ∧ W (i+1) m' σ' H') ∧ ∀ x H', (sX K z q).yld i H x H' → g x σ H' fun σ2 H2 => tb { D with nx := N, ct := N, bk := D.nx } σ2 H2) := by
  refine ⟨fun i m σ H => m=min z.cps.size ys.length - i ∧ i≤min z.cps.size ys.length ∧ Pv i σ H, ⟨min z.cps.size ys.length, by simp, zb _, h0⟩, ?_⟩
  rintro i m σ H ⟨rfl, hi, pv⟩
  have q2 := hl i σ H pv
  by_cases hlt : i < min z.cps.size ys.length
  · refine .inr ⟨⟨ys, ys[i], q2, by omega, yc (by omega)⟩, Pv (i+1), fun σ' H' p' => ⟨min z.cps.size ys.length - (i+1), by omega, rfl, hlt, p'⟩, ?_⟩
    rintro v H' ⟨T, c, y, hT, rfl, hx, hy, rfl⟩
    exact hs i c y σ _ T hx (hy ys q2) pv hT
  · obtain rfl : i=min z.cps.size ys.length := by omega
    exact .inl ⟨⟨ys, q2, rfl⟩, hd σ H pv⟩
end L2
namespace L2
open PySem PySem.Spec PyProof.Rows Wd
section
variable {X : Cx}
inductive fA  (x : V)(y : V)(H : Hp)(Q : VK) : Prop
  | mk : ∀ i j, (x = .str i) → (y = .str j) → (Q (.bl (decide (j.cps.toList < i.cps.toList))) H) → fA x y H Q
theorem nh : OpR X (compareOp .Gt) fA := by
  intro pins s σ H x y v u Q I rx ry h
  obtain ⟨i, j, rfl, rfl, q⟩ := h
  obtain ⟨t, rfl⟩ := rx
  obtain ⟨t', rfl⟩ := ry
  exact PySem.P.gt_str (aO I q rfl)
end
end L2
namespace Wd
def img (ws : List (List L))(x : L) : List L := if x.val < 6 then ws.getD x.val [] else bk (ws.getD (x.val - 6) [])
def sub (ws : List (List L))(u : List L) : List L := u.flatMap (img ws)
theorem bT (x : L) : (inv x).val=if x.val < 6 then x.val+6 else x.val - 6 := by unfold inv; split <;> rfl
theorem gQ (ws : List (List L))(x : L) : img ws (inv x)=bk (img ws x) := by
  unfold img
  rw [bT]
  by_cases h : x.val < 6
  · rw [if_pos h, if_pos h, if_neg (by omega), Nat.add_sub_cancel]
  · have := x.isLt
    rw [if_neg h, if_neg h, if_pos (by omega), ff]
theorem dI (ws : List (List L))(x : L)(u : List L) : sub ws (x::u)=img ws x++sub ws u := by simp [sub]
theorem ba (ws : List (List L))(u v : List L) : sub ws (u++v)=sub ws u++sub ws v := by simp [sub]
theorem d9 (ws : List (List L))(x : L) : sub ws [x]=img ws x := by simp [sub]
theorem iO (ws : List (List L)) : ∀ u, sub ws (bk u)=bk (sub ws u)
  | [] => rfl
  | x::u => by rw [gG, ba, iO ws u, d9, gQ, dI, bQ]
theorem jI (ws : List (List L))(v : List L) : ∀ (st : List L), Rd st → act (sub ws (red v)) st=act (sub ws v) st := by
  have all : ∀ (u v : List L) (st : List L), v=u.reverse → Rd st → act (sub ws (red v)) st=act (sub ws v) st := by
    intro u
    induction u with
    | nil => intro v st e _;subst e;rfl
    | cons x u ih =>
      intro v st e h
      subst e
      rw [yS, ba, a_, ← ih _ st rfl h]
      unfold red
      rw [bY]
      cases hq : act u.reverse [] with
      | nil => 
        show act (sub ws [x]) st=act (sub ws [x]) (act (sub ws []) st)
        rfl
      | cons y r =>
        show act (sub ws (if y=inv x then r else x::y::r).reverse) st=act (sub ws [x]) (act (sub ws (y::r).reverse) st)
        by_cases e : y=inv x
        · have hx : x=inv y := by rw [e, aE]
          rw [if_pos e, yS, ba, a_, hx, d9, d9, gQ, mE _ (fZ _ h)]
        · rw [if_neg e, yS, ba, a_]
  exact fun st h => all v.reverse v st (by simp) h
theorem bU (ws : List (List L))(v : List L) : red (sub ws (red v))=red (sub ws v) := by
  unfold red
  rw [show (act v []).reverse=red v from rfl, jI ws v [] iB]
def cK (ws vs : List (List L)) : List (List L) := ws.map fun w => red (sub vs w)
theorem dJ (v : List L) : red (red v)=red v := by
  have := ck v []
  rwa [yP, yP] at this
theorem qG (u : List L) : red (bk (red u))=red (bk u) := by
  have h1 : red (bk u++u)=[] := by
    have := ka (bk u)
    rwa [ff] at this
  have h2 : red (bk (red u)++red u)=[] := by
    have := ka (bk (red u))
    rwa [ff] at this
  have e1 : red (red (bk (red u))++red (u++bk u))=red (bk (red u)) := by rw [ka, yP, dJ]
  have e2 : red (red (bk (red u))++red (u++bk u))=red (bk u) := by
    rw [ck, b9, ← yX, ← ck, ← b9 (bk (red u)) u, h2]
    rfl
  rw [← e1, e2]
theorem iP (ws vs : List (List L))(x : L) : red (img (cK ws vs) x)=red (sub vs (img ws x)) := by
  have g : ∀ n, (cK ws vs).getD n []=red (sub vs (ws.getD n [])) := fun n => by
    unfold cK
    rw [yj, yj, yp]
    cases ws[n]? with
    | none => rfl
    | some w => rfl
  unfold img
  by_cases h : x.val < 6
  · rw [if_pos h, if_pos h, g, dJ]
  · rw [if_neg h, if_neg h, g, iO, qG]
theorem bF (ws vs : List (List L)) : ∀ u, red (sub (cK ws vs) u)=red (sub vs (sub ws u))
  | [] => rfl
  | x::u => by
    rw [dI, dI, ba, ← ck, iP, ck, ← b9, bF ws vs u, b9]
def aR (n : Nat) : List (List L) := (([0, 1, 2, 3, 4, 5] : List L).take n).map fun x => [x]
def InM (n : Nat)(u : List L) : Prop := ∀ x∈u, x.val % 6 < n
theorem fB : ∀ (n : Nat) (h : n≤6) (x : L), x.val < n → (aR n).getD x.val []=[x] := by
  intro n h x hx
  have : ∀ (n : Fin 7) (x : L), x.val < n.val → (aR n.val).getD x.val []=[x] := by decide
  exact this ⟨n, by omega⟩ x hx
theorem iQ {n : Nat}(h : n≤6){x : L}(hx : x.val % 6 < n) : img (aR n) x=[x] := by
  unfold img
  have := x.isLt
  by_cases h1 : x.val < 6
  · rw [if_pos h1, fB n h x (by omega)]
  · rw [if_neg h1]
    have e : (inv x).val=x.val - 6 := by rw [bT, if_neg h1]
    have := fB n h (inv x) (by omega)
    rw [e] at this
    rw [this, bR, aE]
theorem cL {n : Nat}(h : n≤6) : ∀ {u : List L}, InM n u → sub (aR n) u=u
  | [], _ => rfl
  | x::u, hu => by
    rw [dI, iQ h (hu x yA), cL h fun y hy => hu y (yd _ hy)]
    rfl
theorem InM.bk {n : Nat}{u : List L}(h : InM n u) : InM n (bk u) := by
  intro x hx
  unfold Wd.bk at hx
  rw [zO, yE] at hx
  obtain ⟨y, hy, rfl⟩ := hx
  have h1 := h y hy
  have := y.isLt
  rw [bT]
  split <;> omega
theorem nj : ∀ (u st : List L) (x : L), x∈act u st → x∈u ∨ x∈st
  | [], st, x, h => .inr h
  | y::u, st, x, h => by
    rw [eG] at h
    rcases nj u _ x h with h | h
    · exact .inl (yd _ h)
    · cases st with
      | nil =>
        have h : x∈[y] := h
        rw [ym] at h
        exact .inl (h ▸ yA)
      | cons z r =>
        have h : x∈(if z=inv y then r else y::z::r) := h
        split at h
        · exact .inr (yd _ h)
        · rcases yB.mp h with h | h
          · exact .inl (h ▸ yA)
          · exact .inr h
theorem nk {u : List L}{x : L}(h : x∈red u) : x∈u := by
  unfold red at h
  rw [zO] at h
  rcases nj u [] x h with h | h
  · exact h
  · cases h
theorem InM.red {n : Nat}{u : List L}(h : InM n u) : InM n (red u) := fun x hx => h x (nk hx)
structure lj (n b : Nat) (ws : List (List L)) : Prop where
  len : ws.length=n
  rd : ∀ w∈ws, red w=w
  ins : ∀ w∈ws, InM n w
  le : ∀ w∈ws, w.length≤b
theorem lj.img {n b : Nat}{ws : List (List L)}(M : lj n b ws)(x : L) : InM n (img ws x) ∧ (img ws x).length≤b := by
  have g : ∀ k, InM n (ws.getD k []) ∧ (ws.getD k []).length≤b := fun k => by
    rw [yj]
    cases h : ws[k]? with
    | none => exact ⟨fun x hx => (by cases hx), zb _⟩
    | some w => exact ⟨M.ins w (yu h), M.le w (yu h)⟩
  unfold Wd.img
  split
  · exact g _
  · exact ⟨(g _).1.bk, by rw [b8];exact (g _).2⟩
theorem lj.sub {n b : Nat}{ws : List (List L)}(M : lj n b ws) : ∀ u : List L, InM n (sub ws u) ∧ (sub ws u).length≤u.length*b
  | [] => ⟨fun x hx => (by cases hx), zb _⟩
  | x::u => by
    obtain ⟨h1, h2⟩ := M.sub u
    obtain ⟨h3, h4⟩ := M.img x
    rw [dI]
    refine ⟨fun y hy => ?_, ?_⟩
    · rcases yJ.mp hy with hy | hy
      · exact h3 y hy
      · exact h1 y hy
    · rw [x_, yN, B5]
      omega
theorem lj.then {n a b : Nat}{ws vs : List (List L)}(M : lj n a ws)(N : lj n b vs) : lj n (a*b) (cK ws vs) := by
  refine ⟨by unfold cK;rw [x9, M.len], ?_, ?_, ?_⟩
  all_goals
    intro w hw
    obtain ⟨v, hv, rfl⟩ := yE.mp hw
  · exact dJ _
  · exact (N.sub v).1.red
  · have h1 := bu (Wd.sub vs v)
    have h2 := (N.sub v).2
    have h3 := Nat.mul_le_mul_right b (M.le v hv)
    omega
theorem bA {n : Nat}(h : n≤6) : lj n 1 (aR n) := by
  have q : ∀ w∈aR n, ∃ x : L, w=[x] ∧ x.val < n := by
    intro w hw
    have : ∀ (n : Fin 7), ∀ w∈aR n.val, ∃ x : L, w=[x] ∧ x.val < n.val := by decide
    exact this ⟨n, by omega⟩ w hw
  refine ⟨by unfold aR;rw [x9, yy];simp;omega, ?_, ?_, ?_⟩
  all_goals
    intro w hw
    obtain ⟨x, rfl, hx⟩ := q w hw
  · rfl
  · intro y hy
    rw [ym] at hy
    subst hy
    omega
  · exact yb _
end Wd
namespace PySem
section
variable {prog : Program} {w : World} {A : Around} {E : Value → Shared → Prop}
end
end PySem
namespace L2
open PySem PySem.Spec PyProof.Rows Wd
section
variable {X : Cx} {pos : Pos}
inductive wy (x : V)(y : V)(H : Hp)(Q : VK) : Prop
  | mk : ∀ da db, (Dt H x da) → (Dt H y db) → (da.canLay0=true) → (db.canLay0=true) → (da.depth≤10) → (Q (.bl (!PyData.eqv da db)) H) → wy x y H Q
theorem fC (hu : X.A.units+64 < cLine) : OpR X (compareOp .NotEq) wy := by
  intro pins s σ H x y v u Q I rx ry h
  obtain ⟨da, db, ha, hb, la, lb, dp, q⟩ := h
  obtain ⟨as, ra⟩ := ha.reads I.hok rx
  obtain ⟨bs, rb⟩ := hb.reads I.hok ry
  exact EqBoolInt.of_rcne (SeqAt.rcNeAt_reads ra rb la lb (by omega)) ⟨.bl _, H, I, rfl, q⟩
end
theorem rR (u : List L) : (PyData.str (toS u)).canLay0=true := by
  unfold PyData.canLay0 PyData.strOk
  rw [← Array.all_toList, aV, BD]
  intro c hc
  obtain ⟨x, _, rfl⟩ := yE.mp hc
  have := rA x
  exact yG (by omega)
theorem iR : ∀ ws : List (List L), PyData.canLayAll0 (ws.map fun u => .str (toS u))=true
  | [] => rfl
  | u::ws => by
    rw [yM, PyData.canLayAll0, rR, iR ws]
    rfl
end L2
namespace L2
open PySem PySem.Spec PyProof.Rows Wd
section
variable {X : Cx}
inductive qH (x : V)(vs : List V)(H : Hp)(Q : VK) : Prop
  | mk : ∀ z y, (x = .str z) → (vs=[.str y]) → (Q (.int (Txt.find z y)) H) → qH x vs H Q
theorem pI : MtR X "str.find" qH := by
  intro pins s σ H x vs v us Q I rx rv h
  obtain ⟨z, y, rfl, rfl, q⟩ := h
  obtain ⟨t, rfl⟩ := rx
  obtain ⟨u1, rfl, ⟨t1, rfl⟩⟩ := cV rv
  exact SC.find ⟨.int _, H, I.tok _, ⟨_, rfl⟩, q⟩
inductive kA (x : V)(vs : List V)(H : Hp)(Q : VK) : Prop
  | mk : ∀ z, (x = .str z) → (vs=[]) → (Q (.bl (Txt.islower z)) H) → kA x vs H Q
theorem lp : MtR X "str.islower" kA := by
  intro pins s σ H x vs v us Q I rx rv h
  obtain ⟨z, rfl, rfl, q⟩ := h
  obtain ⟨t, rfl⟩ := rx
  cases rv
  exact SC.islower ⟨.bl _, H, I, rfl, q⟩
end
theorem nq : ∀ x : L, Txt.islower (toS [x])=decide (x.val < 6) := by decide +kernel
theorem uF : ∀ i : _root_.Fin 6, ("abcdef" : Str).cps[i.val]? = some (cp ⟨i.val, by omega⟩) := by decide +kernel
theorem sm_at {i c : Nat}(h : ("abcdef" : Str).cps[i]? = some c) : ∃ x : L, x.val=i ∧ i < 6 ∧ c=cp x := by
  have hl : i < 6 := by
    obtain ⟨h1, _⟩ := zw.mp h
    have : ("abcdef" : Str).cps.size=6 := by decide +kernel
    omega
  have := uF ⟨i, hl⟩
  rw [this] at h
  exact ⟨⟨i, by omega⟩, rfl, hl, (yh h).symm⟩
theorem nr : ∀ ws : List (List L), Txt.join ("" : Str) (ws.map toS)=toS ws.flatten := by
  intro ws
  have e0 : ("" : Str)=Str.empty := by decide +kernel
  unfold Txt.join
  rw [StrLaws.glued_eq_join, e0]
  induction ws with
  | nil => rfl
  | cons x r ih =>
    cases r with
    | nil =>
      show toS x=_
      simp
    | cons y r =>
      show toS x++Str.empty++Str.join Str.empty ((y::r).map toS)=_
      rw [ih, Str.append_empty, aC]
      rfl
theorem pJ (ws : List (List L)) : ((ws.map toS).map (·.length)).sum=ws.flatten.length := by
  induction ws with
  | nil => rfl
  | cons x r ih =>
    simp only [yM, List.sum_cons, yR, x_]
    rw [ih, ab]
theorem pK (ws : List (List L))(u : List L) : Txt.join ("" : Str) ((u.map (img ws)).map toS)=toS (sub ws u) := by
  rw [nr]
  rfl
end L2
namespace Kx
open PySem PySem.Spec PyProof.Rows L2 Wd
structure ow (n b : Nat) (ws : List (List L)) (H : Hp) (p : Addr) : Prop where
  at_ : H p=some (.tup (ws.map tx))
  ok : lj n b ws
theorem ow.same {n b : Nat}{ws : List (List L)}{H H' : Hp}{p : Addr}(M : ow n b ws H p)(s : aD H H') : ow n b ws H' p := ⟨s _ _ M.at_, M.ok⟩
inductive eM (vs : List V)(H : Hp)(Q : VK)(u3_ : XK) : Prop
  | mk : ∀ (p : Addr) (u : List L) (n b : Nat) (ws : List (List L)), (vs=[.ref p, tx u]) → (ow n b ws H p) → (n≤6) → (InM n u) → (u.length≤5000) → (u.length*b≤5000) → (b≤5000) → (∀ H', aD H H' → Q (tx (red (sub ws u))) H') → eM vs H Q u3_
inductive nu (vs : List V)(H : Hp)(Q : VK)(u3_ : XK) : Prop
  | mk : ∀ (p q : Addr) (n a b : Nat) (ws us : List (List L)), (vs=[.ref p, .ref q]) → (ow n a ws H p) → (ow n b us H q) → (n≤6) → (a≤5000) → (a*b≤5000) → (b≤5000) → (∀ (r : Addr) (H' : Hp), H r=none → aD H H' → ow n (a*b) (cK ws us) H' r → Q (.ref r) H') → nu vs H Q u3_
inductive jJ (vs : List V)(H : Hp)(Q : VK)(u3_ : XK) : Prop
  | mk : ∀ (n : Nat), (vs=[.int (n : Int)]) → (1≤n) → (n≤6) → (∀ (r : Addr) (H' : Hp), H r=none → aD H H' → ow n 1 (aR n) H' r → Q (.ref r) H') → jJ vs H Q u3_
end Kx
namespace Wd
def cn (n : Nat)(e o : L) : List (List L) := (aR n).set (e.val % 6) (if e.val < 6 then [o, e] else bk [o, e])
theorem d_ {n : Nat}(h : n≤6){x : L}(hx : x.val < n) : (aR n)[x.val]? = some [x] := by
  have := fB n h x hx
  rw [yj] at this
  have hl : x.val < (aR n).length := by rw [(bA h).len];exact hx
  rw [yc hl] at this ⊢
  exact yW some this
theorem nv {n : Nat}(h : n≤6)(e o : L) : (cn n e o).length=n := by unfold cn; rw [List.length_set, (bA h).len]
theorem ny {n : Nat}(h : n≤6){e o : L}(he : e.val % 6 < n) : (cn n e o)[e.val % 6]? = some (if e.val < 6 then [o, e] else bk [o, e]) := by
  unfold cn
  rw [zP (by rw [(bA h).len];exact he)]
theorem iS {n k : Nat}{e o : L}(hk : k≠e.val % 6) : (cn n e o)[k]? = (aR n)[k]? := by
  unfold cn
  rw [zF (fun z => hk z.symm)]
theorem jK {n : Nat}(h : n≤6){e o : L}(he : e.val % 6 < n) : img (cn n e o) e=[o, e] := by
  have := e.isLt
  unfold img
  by_cases h1 : e.val < 6
  · have q := ny h (o := o) he
    rw [if_pos h1, zm h1] at q
    rw [if_pos h1, yj, q]
    rfl
  · have q := ny h (o := o) he
    rw [if_neg h1, show e.val % 6=e.val - 6 by omega] at q
    rw [if_neg h1, yj, q]
    show bk (bk [o, e])=_
    rw [ff]
theorem bK {n : Nat}(h : n≤6){e o x : L}(hx : x.val % 6 < n)(hn : x.val % 6≠e.val % 6) : img (cn n e o) x=[x] := by
  have q := iQ h hx
  have := x.isLt
  have g : ∀ k, k≠e.val % 6 → (cn n e o).getD k []=(aR n).getD k [] := fun k hk => by rw [yj, yj, iS hk]
  unfold img at q ⊢
  by_cases h1 : x.val < 6
  · rw [if_pos h1] at q ⊢
    rw [g _ (by omega)]
    exact q
  · rw [if_neg h1] at q ⊢
    rw [g _ (by omega)]
    exact q
theorem gR {n : Nat}(h : n≤6){e o : L}(he : e.val % 6 < n)(ho : o.val % 6 < n)(hn : o.val % 6≠e.val % 6) : lj n 2 (cn n e o) := by
  have P := bA h
  have hi : e≠inv o := fun z => hn (by rw [z, bT];split <;> omega)
  have r1 : red [o, e]=[o, e] := by
    show (act [e] [o]).reverse=_
    show (push [o] e).reverse=_
    show (if o=inv e then [] else [e, o]).reverse=_
    rw [if_neg (fun z => hi (by rw [z, aE]))]
    rfl
  have r2 : red (bk [o, e])=bk [o, e] := by
    show (push [inv e] (inv o)).reverse=[inv e, inv o]
    show (if inv e=inv (inv o) then [] else [inv o, inv e]).reverse=_
    rw [if_neg (fun z => hi (by rw [aE] at z;rw [← z, aE]))]
    rfl
  have i1 : InM n [o, e] := fun y hy => by
    simp only [yB, yO, z0] at hy
    rcases hy with rfl | rfl
    · exact ho
    · exact he
  have all : ∀ w∈cn n e o, w∈aR n ∨ w=[o, e] ∨ w=bk [o, e] := by
    intro w hw
    rcases List.mem_or_eq_of_mem_set hw with hw | hw
    · exact .inl hw
    · rw [hw]
      split
      · exact .inr (.inl rfl)
      · exact .inr (.inr rfl)
  refine ⟨nv h e o, fun w hw => ?_, fun w hw => ?_, fun w hw => ?_⟩
  all_goals rcases all w hw with hw | rfl | rfl
  · exact P.rd w hw
  · exact r1
  · exact r2
  · exact P.ins w hw
  · exact i1
  · exact i1.bk
  · have := P.le w hw;omega
  · exact yb _
  · exact yb _
theorem rS {n : Nat}(h : n≤6){e o : L}(he : e.val % 6 < n)(ho : o.val % 6 < n)(hn : o.val % 6≠e.val % 6) : cK (cn n e o) (cn n e (inv o))=aR n := by
  have hio : (inv o).val % 6=o.val % 6 := by have := o.isLt;rw [bT];split <;> omega
  have two : red (sub (cn n e (inv o)) [o, e])=[e] := by
    rw [show [o, e]=[o]++[e] from rfl, ba, d9, d9, jK h he, bK h ho hn]
    show (act [inv o, e] (push [] o)).reverse=_
    show (act [e] (push [o] (inv o))).reverse=_
    show (act [e] (if o=inv (inv o) then [] else [inv o, o])).reverse=_
    rw [if_pos (aE o).symm]
    rfl
  apply List.ext_getElem?
  intro k
  unfold cK
  rw [yp]
  by_cases hk : k < n
  · by_cases e1 : k=e.val % 6
    · rw [e1, ny h he]
      have hl := e.isLt
      by_cases h1 : e.val < 6
      · rw [if_pos h1, zm h1, d_ h (by omega)]
        exact yW some two
      · rw [if_neg h1]
        have e2 : e.val % 6=(inv e).val := by rw [bT, if_neg h1];omega
        rw [e2, d_ h (by rw [← e2];exact he)]
        show some (red (sub (cn n e (inv o)) (bk [o, e])))=_
        rw [iO, ← qG, two]
        rfl
    · have hx : (⟨k, by omega⟩ : L).val < n := hk
      have q := d_ h hx
      have q : (aR n)[k]? = some [⟨k, by omega⟩] := q
      rw [iS e1, q]
      show some (red (sub (cn n e (inv o)) [⟨k, by omega⟩]))=_
      rw [d9, bK h (by show k % 6 < n;omega) (by show k % 6≠_;omega)]
      rfl
  · rw [zY (by rw [nv h];omega), zY (by rw [(bA h).len];omega)]
    rfl
theorem nz {n : Nat}{ws vs : List (List L)}(h : n≤6)(e : cK ws vs=aR n){u : List L}(hu : InM n u) : red (sub vs (red (sub ws u)))=red u := by rw [bU, ← bF, e, cL h hu]
def farOf (u : List L)(i : Nat)(sd : Int) : L := u.getD (((i : Int)+sd) % (u.length : Int)).toNat 0
structure jL (n : Nat) (u : List L) : Prop where
  len : u.length=2*n
  nd : u.Nodup
  ins : InM n u
theorem fD {u : List L}(h : u≠[])(i : Nat)(sd : Int) : u[(((i : Int)+sd) % (u.length : Int)).toNat]? = some (farOf u i sd) := by
  have hp := yw.mpr h
  have h1 := zH ((i : Int)+sd) (show (u.length : Int)≠0 by omega)
  have h2 := zR ((i : Int)+sd) (show (0 : Int) < (u.length : Int) by omega)
  unfold farOf
  rw [yj, yc (by omega)]
  rfl
theorem qI {n : Nat}{u : List L}(R : jL n u)(hn : 2≤n){i : Nat}(hi : i < u.length){sd : Int}(hs : sd=1 ∨ sd = -1){e : L}(he : u[i]? = some e)(hc : farOf u i sd≠inv e) : (farOf u i sd).val % 6≠e.val % 6 := by
  have hl := R.len
  have hne : u≠[] := yw.mp (by omega)
  have g := fD hne i sd
  have ne : (((i : Int)+sd) % (u.length : Int)).toNat≠i := by
    rcases hs with rfl | rfl
    · by_cases c : i+1=u.length
      · have : ((i : Int)+1) % (u.length : Int)=0 := by rw [show (i : Int)+1=(u.length : Int) by omega, Int.emod_self]
        rw [this]
        show 0≠i
        omega
      · rw [z3 (by omega) (by omega)]
        omega
    · by_cases c : i=0
      · subst c
        have : ((0 : Nat) : Int) + -1 = -1 := rfl
        have h2 : (((0 : Nat) : Int) + -1) % (u.length : Int)=(u.length : Int) - 1 := by
          rw [← Int.add_emod_right, z3 (by omega) (by omega)]
          omega
        rw [h2]
        omega
      · rw [z3 (by omega) (by omega)]
        omega
  have n1 : farOf u i sd≠e := fun z => by
    have hj := (ya.mp g).1
    have e1 := (ya.mp g).2
    have e2 := (ya.mp he).2
    exact ne ((List.getElem_inj R.nd).mp (by rw [e1, e2, z]))
  intro z
  have l1 := (farOf u i sd).isLt
  have l2 := e.isLt
  by_cases c : (farOf u i sd).val=e.val
  · exact n1 (Fin.ext c)
  · refine hc (Fin.ext ?_)
    rw [bT]
    split <;> omega
theorem jM {u : List L}(h : u≠[])(i : Nat)(sd : Int) : farOf u i sd∈u := yu (fD h i sd)
theorem uH {n : Nat}(h6 : n≤6){x : L}(hx : x.val % 6 < n) : x∈([0, 1, 2, 3, 4, 5] : List L).take n++([6, 7, 8, 9, 10, 11] : List L).take n := by
  have q : ∀ (n : Fin 7) (x : L), x.val % 6 < n.val → x∈([0, 1, 2, 3, 4, 5] : List L).take n.val++([6, 7, 8, 9, 10, 11] : List L).take n.val := by decide
  exact q ⟨n, by omega⟩ x hx
theorem pL {n : Nat}{u : List L}(h1 : 1≤n)(h6 : n≤6)(p : u.Perm (([0, 1, 2, 3, 4, 5] : List L).take n++([6, 7, 8, 9, 10, 11] : List L).take n)) : jL n u := by
  have q : ∀ n : Fin 7, (([0, 1, 2, 3, 4, 5] : List L).take n.val++([6, 7, 8, 9, 10, 11] : List L).take n.val).length=2*n.val ∧ (([0, 1, 2, 3, 4, 5] : List L).take n.val++([6, 7, 8, 9, 10, 11] : List L).take n.val).Nodup ∧ ∀ x∈([0, 1, 2, 3, 4, 5] : List L).take n.val++([6, 7, 8, 9, 10, 11] : List L).take n.val, x.val % 6 < n.val := by decide
  obtain ⟨a, b, c⟩ := q ⟨n, by omega⟩
  exact ⟨by rw [p.length_eq, a], p.nodup_iff.mpr b, fun x hx => c x (p.mem_iff.mp hx)⟩
end Wd
namespace L2
open PySem PySem.Spec PyProof.Rows Wd
section
variable {X : Cx}
end
end L2
namespace Kx
open PySem PySem.Spec PyProof.Rows L2 Wd
inductive uI (vs : List V)(H : Hp)(Q : VK)(u3_ : XK) : Prop
  | mk : ∀ (u : List L) (t : Addr) (i : Nat) (sd : Int), (vs=[tx u, .ref t]) → (H t=some (.tup [.int (i : Int), .int sd])) → (u≠[]) → (u.length≤100) → (Q (tx [farOf u i sd]) H) → uI vs H Q u3_
inductive pM (vs : List V)(H : Hp)(Q : VK)(u3_ : XK) : Prop
  | mk : ∀ (u : List L) (t : Addr) (i : Nat) (sd : Int) (e : L), (vs=[tx u, .ref t]) → (H t=some (.tup [.int (i : Int), .int sd])) → (u.length≤100) → (u[i]? = some e) → (∀ H', aD H H' → Q (.bl (!decide (farOf u i sd=inv e))) H') → pM vs H Q u3_
inductive rT (vs : List V)(H : Hp)(Q : VK)(u3_ : XK) : Prop
  | mk : ∀ (n : Nat) (e o : L), (vs=[.int (n : Int), tx [e], tx [o]]) → (1≤n) → (n≤6) → (e.val % 6 < n) → (∀ (r : Addr) (H' : Hp), H r=none → aD H H' → H' r=some (.tup ((cn n e o).map tx)) → Q (.ref r) H') → rT vs H Q u3_
inductive nA (vs : List V)(H : Hp)(Q : VK)(u3_ : XK) : Prop
  | mk : ∀ (u : List L) (t : Addr) (n i : Nat) (sd : Int) (e : L), (vs=[tx u, .ref t]) → (H t=some (.tup [.int (i : Int), .int sd])) → (jL n u) → (1≤n) → (n≤6) → (u[i]? = some e) → (farOf u i sd≠inv e) → (∀ (r a b : Addr) (H' : Hp), H r=none → aD H H' → H' r=some (.tup [.ref a, .ref b]) → H' a=some (.tup ((cn n e (farOf u i sd)).map tx)) → H' b=some (.tup ((cn n e (inv (farOf u i sd))).map tx)) → Q (.ref r) H') → nA vs H Q u3_
end Kx
namespace L2
open PySem PySem.Spec PyProof.Rows Wd
section
variable {X : Cx}
end
end L2
namespace L2
open PySem PySem.Spec PyProof.Rows
section
variable {X : Cx}
end
end L2
namespace L2
open PySem PySem.Spec PyProof.Rows
section
variable {prog : Program} {w : World} {A : Around} {E : Value → Shared → Prop} {s : Shared}
end
section
variable {X : Cx}
end
end L2
namespace L2
open PySem PySem.Spec PyProof.Rows Wd
section
variable {X : Cx}
end
end L2
namespace Kx
open PySem PySem.Spec PyProof.Rows L2 Wd
def jn (yl : List Nat) : List (List Nat) → List Nat
  | [] => []
  | [p] => p
  | p::q::r => p++yl++jn yl (q::r)
end Kx
namespace L2
open PySem PySem.Spec PyProof.Rows Wd
section
variable {X : Cx} {tg : Expr}
end
end L2
namespace Kx
open PySem PySem.Spec PyProof.Rows L2 Wd
def dV : V → PyData
  | .int i => .int i
  | .str z => .str z
  | _ => .none
end Kx
namespace Wd
def rfI (u : List L)(a b : L) : Int := ((u.idxOf b : Int) - (u.idxOf a : Int)) % (u.length : Int)
def ic (u : List L)(x z : L) : Int := if rfI u x z < rfI u x (inv x) then 1 else 0
def sd (u : List L)(x y : L) : Int := ic u x y - ic u x (inv y)
def lt6 (j : Nat) : L := if h : j < 12 then ⟨j, h⟩ else 0
end Wd
namespace L2
open PySem PySem.Spec PyProof.Rows
section
variable {X : Cx}
end
end L2
namespace Kx
open PySem PySem.Spec PyProof.Rows L2 Wd
theorem iT : ∀ (r : List Str) (x : Str), risingS x r=true → (x::r).Pairwise fun a b => a.cps.toList≤b.cps.toList
  | [], x, _ => by simp
  | z::r, x, h => by
    have l := er (z::r) x h
    unfold risingS at h
    rw [Ad] at h
    exact List.Pairwise.cons (fun y hy => l.2 y (yd _ hy)) (iT r z h.2)
theorem iV {l : List Str}(h : sortedS l=true) : l.Pairwise fun a b => a.cps.toList≤b.cps.toList := by
  cases l with
  | nil => exact .nil
  | cons x r => exact iT r x h
theorem lq {a b : List Str}(ha : sortedS a=true)(hb : sortedS b=true)(p : a.Perm b) : a=b :=
  List.Perm.eq_of_pairwise (fun x y _ _ h1 h2 => Str.ext' (AK.mp (List.le_antisymm h1 h2))) (iV ha) (iV hb) p
def xV (k : Nat) : List L := (List.range k).map lt6++bk ((List.range k).map lt6)
end Kx
namespace L2
open PySem PySem.Spec PyProof.Rows
section
variable {prog : Program} {w : World} {A : Around} {E : Value → Shared → Prop} {s : Shared}
end
section
variable {X : Cx}
end
end L2
namespace HT
open PySem PySem.Spec PyProof.Rows
section
variable {prog : Program} {w : World} {A : Around} {E : Value → Shared → Prop} {s : Shared}
end
end HT
namespace L2
open PySem PySem.Spec PyProof.Rows Wd
end L2
namespace L2
open PySem PySem.Spec PyProof.Rows Wd
section
variable {X : Cx}
end
end L2
namespace Kx
open PySem PySem.Spec PyProof.Rows L2 Wd
end Kx
namespace Kx
open PySem PySem.Spec PyProof.Rows L2 Wd
end Kx
namespace L2
open PySem PySem.Spec PyProof.Rows Wd
section
variable {X : Cx}
end
end L2
namespace Wd
theorem Srf.rev {u : List L}(U : Srf u) : Srf u.reverse := ⟨by simpa using U.ne, (zJ u).nodup_iff.mpr U.nd, fun x hx => by rw [zO] at hx ⊢; exact U.iv x hx, by rw [zd]; exact U.le⟩
theorem fE {x y : L}(h : inv x=inv y) : x=y := by rw [← aE x, h, aE]
theorem uJ {w : List L}{x y : L}(h : Nx (bk w) x y) : ∃ a b, Nx w a b ∧ x=inv b ∧ y=inv a := by
  have h := eB h
  unfold bk at h
  rw [zo] at h
  obtain ⟨a, b, n, e1, e2⟩ := qB inv h
  exact ⟨a, b, n, e2, e1⟩
def nm (N : List L)(x : L) : L := if x.val < 6 then N.getD x.val 0 else inv (N.getD (x.val - 6) 0)
theorem nB {x y : L}(h : x.val % 6=y.val % 6) : x=y ∨ x=inv y := by
  have q : ∀ x y : L, x.val % 6=y.val % 6 → x=y ∨ x=inv y := by decide
  exact q x y h
end Wd
namespace L2
open PySem PySem.Spec PyProof.Rows Wd
theorem jN {α β : Type}(f : α → β){zs ys : List β}(p : ys.Perm zs) : ∀ W : List α, ys=W.map f → ∃ V : List α, V.Perm W ∧ zs=V.map f := by
  induction p with
  | nil =>
    intro W e
    exact ⟨W, .refl _, e⟩
  | cons x _ ih =>
    intro W e
    cases W with
    | nil => cases e
    | cons w W =>
      obtain ⟨e1, e2⟩ := y_ e
      obtain ⟨V, h1, h2⟩ := ih W e2
      exact ⟨w::V, h1.cons w, by rw [h2, e1];rfl⟩
  | swap x y l =>
    intro W e
    match W, e with
    | a::b::W, e =>
      obtain ⟨e1, e2⟩ := y_ e
      obtain ⟨e2, e3⟩ := y_ e2
      exact ⟨b::a::W, List.Perm.swap a b W, by rw [e1, e2, e3];rfl⟩
  | trans _ _ ih1 ih2 =>
    intro W e
    obtain ⟨V, h1, h2⟩ := ih1 W e
    obtain ⟨V2, h3, h4⟩ := ih2 V h2
    exact ⟨V2, h3.trans h1, h4⟩
section
variable {X : Cx}
inductive bV (K : PySem.W.Frag)(xs : List V)(H : Hp)(Q : VK) : Prop
  | mk : ∀ (l : Addr) (W : List (List L)), (xs=[.ref l]) → (SqL K H l (W.map tx)) → (W.length < 64) → (∀ (p : Addr) (V : List (List L)), H p=none → V.Perm W → sortedS (V.map toS)=true → Q (.ref p) (upd H p (.lst (V.map tx)))) → bV K xs H Q
theorem bf : dw X (.builtin "sorted") (bV X.K) := by
  intro pins s σ H xs us Q I r h
  obtain ⟨l, W, rfl, hq, h64, q⟩ := h
  have ew : W.map tx=(W.map toS).map V.str := by rw [y8];rfl
  rw [ew] at hq
  obtain ⟨u, rfl, ru⟩ := cV r
  cases ru
  obtain ⟨its, rv, pl, hz⟩ := I.list hq
  have hS := cP rv
  have hlen : its.length=(W.map toS).length := by rw [← rv.length, x9]
  rw [x9] at hlen
  refine sorted_strs pl.isList hS (by omega) fun out zs hO hp hs => ?_
  obtain ⟨e, he⟩ := sortedAll_at s.heap its out
  have hv : aW (zs.map V.str) out.toList := et hO
  have I2 : Inv X pins σ (upd H (s.heap.objs.size+1) (.lst (zs.map V.str))) { s with heap := sortedAll s.heap its out, toks := s.toks } :=
    I.laid (fun b o e => sortedAll_old e) (Aq _) ⟨by rw [x9, hp.length_eq];rw [x9] at hz;exact hz, out.toList, e, hv, by simpa [seqObj] using he⟩
  obtain ⟨V, h1, h2⟩ := jN toS hp.symm W rfl
  subst h2
  have q := q (s.heap.objs.size+1) V (I.hok.fresh (Aq _)) h1 hs
  have ev : V.map tx=(V.map toS).map L2.V.str := by rw [y8];rfl
  rw [ev] at q
  exact ⟨.ref (s.heap.objs.size+1), _, I2, rfl, q⟩
end
end L2
namespace Kx
open PySem PySem.Spec PyProof.Rows L2 Wd
theorem uK (w : List L) : ∃ v, cG (toS v) ((fx w).map toS) := by
  obtain ⟨m, h⟩ := kx ((fx w).map toS) (by unfold fx;simp)
  obtain ⟨v, _, rfl⟩ := yE.mp h.1
  exact ⟨v, h⟩
def lw (w : List L) : List L := Classical.choose (uK w)
theorem pN (w : List L) : cG (toS (lw w)) ((fx w).map toS) := Classical.choose_spec (uK w)
theorem rV {m p : List L}(h : Rt m p) : lw m=lw p := cF ((ky (pN m) (pN p)).mpr h)
end Kx
namespace Wd
section
variable {α : Type}
theorem jO {h : α → List α} : ∀ {l : List α}, (∀ x∈l, h x=[x]) → l.flatMap h=l
  | [], _ => rfl
  | x::r, k => by rw [Av, k x yA, jO fun y hy => k y (yd _ hy)];rfl
theorem qJ (C : List α)(x y : α)(D : List α) : Nx (C++x::y::D) x y := by
  rw [bH]
  exact .inl ⟨rfl, rfl⟩
theorem uL {C D : List α}{f e : α}(nd : (C++f::e::D).Nodup){a b : α}(n : Nx (C++f::e::D) a b) :
    (a=f ∧ b=e) ∨ (b=f ∧ a≠f ∧ Nx (C++e::D) a e) ∨ (a≠f ∧ b≠f ∧ b≠e ∧ Nx (C++e::D) a b) := by
  have hfe := qJ C f e D
  have ne : e≠f := fun z => by
    subst z
    have := (zI.mp nd).2.1
    exact (yt.mp this).1 yA
  by_cases ha : a=f
  · subst ha
    exact .inl ⟨rfl, fv nd n hfe⟩
  by_cases hb : b=f
  · subst hb
    exact .inr (.inl ⟨rfl, ha, (eC nd).mpr ⟨ha, ne, .inr ⟨n, hfe⟩⟩⟩)
  · refine .inr (.inr ⟨ha, hb, fun z => ?_, (eC nd).mpr ⟨ha, hb, .inl n⟩⟩)
    subst z
    exact ha (iK nd n hfe)
end
def tuv (e f : L)(w : List L) : List L := w.flatMap fun x => if x=f then [] else if x=e then [f, e] else [x]
theorem ed (e f : L)(a b : List L) : tuv e f (a++b)=tuv e f a++tuv e f b := by unfold tuv; rw [zN]
theorem nC {e f : L}{w : List L}(h1 : f∉w)(h2 : e∉w) : tuv e f w=w := jO fun x hx => by
  have a : ¬ x=f := fun z => h1 (z ▸ hx)
  have b : ¬ x=e := fun z => h2 (z ▸ hx)
  show (if x=f then [] else if x=e then [f, e] else [x])=_
  rw [if_neg a, if_neg b]
theorem wz {e f : L}(ne : e≠f)(r : List L) : tuv e f (e::r)=f::e::tuv e f r := by
  show (if e=f then [] else if e=e then [f, e] else [e])++tuv e f r=_
  rw [if_neg ne, if_pos rfl]
  rfl
theorem uM {e f : L}(r : List L) : tuv e f (f::r)=tuv e f r := by
  show (if f=f then [] else if f=e then [f, e] else [f])++tuv e f r=_
  rw [if_pos rfl]
  rfl
theorem iW {e f : L}(ne : e≠f){w : List L}(nd : w.Nodup) :
    ∃ l, l.Nodup ∧ f∉l ∧ (∀ x, x∈l ↔ x∈w ∧ x≠f) ∧ (∀ a b, Nx l a b → a≠f ∧ b≠f ∧ (Nx w a b ∨ (Nx w a f ∧ Nx w f b))) ∧
      ((e∉l ∧ tuv e f w=l) ∨ ∃ C D, l=C++e::D ∧ tuv e f w=C++f::e::D) := by
  obtain ⟨l, h1, h2, h3, h4, h5⟩ : ∃ l, l.Nodup ∧ f∉l ∧ (∀ x, x∈l ↔ x∈w ∧ x≠f) ∧ (∀ a b, Nx l a b → a≠f ∧ b≠f ∧ (Nx w a b ∨ (Nx w a f ∧ Nx w f b))) ∧ tuv e f w=tuv e f l := by
    by_cases hf : f∈w
    · obtain ⟨A, B, rfl⟩ := bD hf
      have nd2 : (f::(A++B)).Nodup := (Ae.nodup_iff).mp nd
      have nf := (yt.mp nd2).1
      refine ⟨A++B, (yt.mp nd2).2, nf, fun x => ?_, fun a b n => (eC nd).mp n, ?_⟩
      · constructor
        · intro hx
          refine ⟨?_, fun z => nf (z ▸ hx)⟩
          rcases yJ.mp hx with h | h
          · exact yz _ h
          · exact ye _ (yd _ h)
        · rintro ⟨hx, n⟩
          rcases yJ.mp hx with h | h
          · exact yz _ h
          · rcases yB.mp h with h | h
            · exact absurd h n
            · exact ye _ h
      · rw [ed, uM, ← ed]
    · refine ⟨w, nd, hf, fun x => ⟨fun h => ⟨h, fun z => hf (z ▸ h)⟩, fun h => h.1⟩, fun a b n => ⟨fun z => hf (z ▸ (bg n).1), fun z => hf (z ▸ (bg n).2), .inl n⟩, rfl⟩
  refine ⟨l, h1, h2, h3, h4, ?_⟩
  rw [h5]
  by_cases he : e∈l
  · obtain ⟨C, D, rfl⟩ := bD he
    have nd2 : (e::(C++D)).Nodup := (Ae.nodup_iff).mp h1
    have ni := (yt.mp nd2).1
    refine .inr ⟨C, D, rfl, ?_⟩
    rw [ed, wz ne, nC (fun h => h2 (yz _ h)) (fun h => ni (yz _ h)), nC (fun h => h2 (ye _ (yd _ h))) (fun h => ni (ye _ h))]
  · exact .inl ⟨he, nC h2 he⟩
def sld (u : List L)(e g : L)(b : Bool) : List L := u.flatMap fun x => if x=g then (if b then [x, e] else [e, x]) else if x=e then [] else [x]
theorem fF {u : List L}{e g : L}(nd : u.Nodup)(he : e∈u)(hg : g∈u)(ne : g≠e)(b : Bool) :
    ∃ A B C D, u=A++e::B ∧ A++B=C++g::D ∧ sld u e g b=(if b then C++g::e::D else C++e::g::D) := by
  obtain ⟨A, B, rfl⟩ := bD he
  have nd2 : (e::(A++B)).Nodup := (Ae.nodup_iff).mp nd
  have ni := (yt.mp nd2).1
  have nd3 := (yt.mp nd2).2
  have hg2 : g∈A++B := by
    rcases yJ.mp hg with h | h
    · exact yz _ h
    · rcases yB.mp h with h | h
      · exact absurd h ne
      · exact ye _ h
  obtain ⟨C, D, e1⟩ := bD hg2
  refine ⟨A, B, C, D, rfl, e1, ?_⟩
  have e2 : sld (A++e::B) e g b=sld (A++B) e g b := by
    unfold sld
    rw [zN, zN, Av, if_neg (fun z => ne z.symm), if_pos rfl]
    rfl
  rw [e2, e1]
  rw [e1] at nd3 ni
  have nd4 : (g::(C++D)).Nodup := (Ae.nodup_iff).mp nd3
  have ng := (yt.mp nd4).1
  have hid : ∀ l : List L, (∀ x∈l, x∈C++D) → (l.flatMap fun x => if x=g then (if b then [x, e] else [e, x]) else if x=e then [] else [x])=l := fun l hl => jO fun x hx => by
    have hx := hl x hx
    have a : ¬ x=g := fun z => ng (z ▸ hx)
    have a2 : ¬ x=e := fun z => ni (by
      subst z
      rcases yJ.mp hx with h | h
      · exact yz _ h
      · exact ye _ (yd _ h))
    rw [if_neg a, if_neg a2]
  unfold sld
  rw [zN, Av, if_pos rfl, hid C fun x hx => yz _ hx, hid D fun x hx => ye _ hx]
  cases b <;> rfl
theorem eN {u : List L}{e g : L}(nd : u.Nodup)(he : e∈u)(hg : g∈u)(ne : g≠e)(b : Bool) : (sld u e g b).Perm u := by
  obtain ⟨A, B, C, D, rfl, e1, e2⟩ := fF nd he hg ne b
  rw [e2]
  refine List.Perm.trans ?_ Ae.symm
  rw [e1]
  cases b with
  | true =>
    have : (C++g::e::D : List L)=(C++[g])++e::D := by simp
    rw [if_pos rfl, this]
    refine Ae.trans ?_
    simp
  | false => exact Ae
theorem rW (u : List L)(e g : L) : (sld u e g false).reverse=sld u.reverse e g true := by
  unfold sld
  rw [List.reverse_flatMap]
  congr 1
  funext x
  show (if x=g then (if false=true then [x, e] else [e, x]) else if x=e then [] else [x]).reverse=_
  by_cases h : x=g
  · rw [if_pos h, if_pos h];rfl
  · rw [if_neg h, if_neg h]
    by_cases h2 : x=e
    · rw [if_pos h2];rfl
    · rw [if_neg h2];rfl
theorem uN {u : List L}{e f : L}(nd : u.Nodup)(n : Nx u e f)(hf : inv f∈u)(ne : f≠inv e)(hfe : f≠e) :
    Nx (sld u e (inv f) true) (inv f) e ∧ (∀ a b, a≠e → b≠e → Nx u a b → a≠inv f → Nx (sld u e (inv f) true) a b) ∧ (∀ p, p≠e → Nx u p e → p≠inv f → Nx (sld u e (inv f) true) p f) ∧
      (∀ b, b≠e → Nx u (inv f) b → Nx (sld u e (inv f) true) e b) ∧ (Nx u (inv f) e → Nx (sld u e (inv f) true) e f) := by
  have ne' : inv f≠e := fun z => ne (by rw [← z, aE])
  have he := (bg n).1
  have ndv := (eN nd he hf ne' true).nodup_iff.mpr nd
  obtain ⟨A, B, C, D, rfl, e1, e2⟩ := fF nd he hf ne' true
  rw [if_pos rfl] at e2
  rw [e2] at ndv ⊢
  have h1 : Nx (C++inv f::e::D) (inv f) e := qJ _ _ _ _
  have e3 : (C++inv f::e::D : List L)=(C++[inv f])++e::D := by simp
  have e4 : (C++inv f::D : List L)=(C++[inv f])++D := by simp
  have key : ∀ a b, Nx (A++B) a b → (a≠inv f → Nx (C++inv f::e::D) a b) ∧ (a=inv f → Nx (C++inv f::e::D) e b) := by
    intro a b q
    rw [e1, e4] at q
    rw [e3] at ndv h1 ⊢
    obtain ⟨qa, qb, q⟩ := (eC ndv).mp q
    constructor
    · intro ha
      rcases q with q | ⟨q, _⟩
      · exact q
      · exact absurd (iK ndv q h1) ha
    · rintro rfl
      rcases q with q | ⟨_, q⟩
      · exact absurd (fv ndv q h1) qb
      · exact q
  refine ⟨h1, fun a b ha hb q hc => ?_, fun p hp q hc => ?_, fun b hb q => ?_, fun q => ?_⟩
  · exact (key a b ((eC nd).mpr ⟨ha, hb, .inl q⟩)).1 hc
  · exact (key p f ((eC nd).mpr ⟨hp, hfe, .inr ⟨q, n⟩⟩)).1 hc
  · exact (key _ b ((eC nd).mpr ⟨ne', hb, .inl q⟩)).2 rfl
  · exact (key _ f ((eC nd).mpr ⟨ne', hfe, .inr ⟨q, n⟩⟩)).2 rfl
theorem uO {u : List L}{e f : L}(U : Srf u)(n : Nx u e f)(ne : f≠inv e)(hfe : f≠e){w : List L}(c : Cy (Rh u) w) : Cy (Rh (sld u e (inv f) true)) (tuv e f w) := by
  have nd := U.nd
  have hf := U.iv f (bg n).2
  obtain ⟨r1, r2, r3, r4, r5⟩ := uN nd n hf ne hfe
  have hef : e≠f := fun z => hfe z.symm
  obtain ⟨l, l1, l2, l3, l4, l5⟩ := iW hef c.nd
  have pre : ∀ a, Nx w a f → inv a=e := fun a q => iK nd (c.st a f q) n
  -- what follows in the middle word
  have mid : ∀ a b, Nx l a b → b≠e → Nx (sld u e (inv f) true) (inv a) b := by
    intro a b q hb
    obtain ⟨qa, qb, q⟩ := l4 a b q
    rcases q with q | ⟨q, q'⟩
    · have q : Nx u (inv a) b := c.st a b q
      refine r2 _ _ (fun z => ?_) hb q (fun z => qa (fE z))
      rw [z] at q
      exact qb (fv nd q n)
    · rw [pre a q]
      exact r4 b hb (c.st f b q')
  have tof : ∀ a, Nx l a e → Nx (sld u e (inv f) true) (inv a) f := by
    intro a q
    obtain ⟨qa, qb, q⟩ := l4 a e q
    rcases q with q | ⟨q, q'⟩
    · have q : Nx u (inv a) e := c.st a e q
      refine r3 _ (fun z => ?_) q (fun z => qa (fE z))
      rw [z] at q
      exact hef (fv nd q n)
    · rw [pre a q]
      exact r5 (c.st f e q')
  have lne : l≠[] := by
    obtain ⟨x, hx⟩ := Ab w c.ne
    by_cases h : f∈w
    · obtain ⟨a, b, e1⟩ : ∃ a b, w=a++f::b := bD h
      obtain ⟨y, hy⟩ : ∃ y, Nx w.reverse f y := rK (zO.mpr h)
      have hy := qC hy
      have hy2 := pre y hy
      exact List.ne_nil_of_mem ((l3 y).mpr ⟨(bg hy).1, fun z => ne (by rw [← z, ← hy2, aE])⟩)
    · exact List.ne_nil_of_mem ((l3 x).mpr ⟨hx, fun z => h (z ▸ hx)⟩)
  rcases l5 with ⟨h1, h2⟩ | ⟨C, D, h1, h2⟩
  · rw [h2]
    exact ⟨lne, l1, fun a b q => mid a b q (fun z => h1 (z ▸ (bg q).2))⟩
  · rw [h2]
    subst h1
    have ndz : (C++f::e::D).Nodup := (Ae.nodup_iff).mpr (yt.mpr ⟨l2, l1⟩)
    refine ⟨by simp, ndz, fun a b q => ?_⟩
    show Nx _ (inv a) b
    rcases uL ndz q with ⟨rfl, rfl⟩ | ⟨rfl, ha, q⟩ | ⟨ha, hb, hbe, q⟩
    · exact r1
    · exact tof a q
    · exact mid a b q hbe
theorem kC (e f : L) : ∀ Ws : List (List L), (Ws.map (tuv e f)).flatten=tuv e f Ws.flatten
  | [] => rfl
  | w::T => by rw [yM, yR, yR, ed, kC e f T]
theorem pO {e f : L}(ne : e≠f){u : List L}(nd : u.Nodup)(he : e∈u)(hf : f∈u) : (tuv e f u).Perm u := by
  obtain ⟨l, l1, l2, l3, l4, l5⟩ := iW ne nd
  have p : (f::l).Perm u := pA (yt.mpr ⟨l2, l1⟩) nd fun x => by
    rw [yB, l3]
    constructor
    · rintro (rfl | h)
      · exact hf
      · exact h.1
    · intro h
      by_cases z : x=f
      · exact .inl z
      · exact .inr ⟨h, z⟩
  rcases l5 with ⟨h1, _⟩ | ⟨C, D, h1, h2⟩
  · exact absurd ((l3 e).mpr ⟨he, ne⟩) h1
  · rw [h2]
    subst h1
    exact Ae.trans p
theorem qK {u : List L}{e f : L}(U : Srf u)(n : Nx u e f)(ne : f≠inv e)(hfe : f≠e){Ws : List (List L)}(d : Dc (Rh u) u Ws) : Dc (Rh (sld u e (inv f) true)) (sld u e (inv f) true) (Ws.map (tuv e f)) := by
  have hf := U.iv f (bg n).2
  have ne' : inv f≠e := fun z => ne (by rw [← z, aE])
  refine ⟨fun w hw => ?_, ?_⟩
  · obtain ⟨w', hw', rfl⟩ := yE.mp hw
    exact uO U n ne hfe (d.cy w' hw')
  · rw [kC]
    exact ((d.pm.flatMap_right _).trans (pO (fun z => hfe z.symm) U.nd (bg n).1 (bg n).2)).trans (eN U.nd (bg n).1 hf ne' true).symm
theorem nD {u : List L}(U : Srf u){Ws : List (List L)}(h : Dc (Rh u) u Ws) : Dc (Rh u.reverse) u.reverse (Ws.map bk) := by
  refine ⟨fun w hw => ?_, ?_⟩
  · obtain ⟨v, hv, rfl⟩ := yE.mp hw
    have c := h.cy v hv
    refine ⟨fun e => c.ne ?_, ?_, fun x y n => ?_⟩
    · rw [← ff v, e]
      rfl
    · unfold bk
      exact (zJ _).nodup_iff.mpr (fy _ c.nd fun x _ y _ e => fE e)
    · obtain ⟨a, b, n', rfl, rfl⟩ := uJ n
      have := c.st a b n'
      unfold Rh at this ⊢
      rw [aE]
      exact eB this
  · have e : (Ws.map bk).flatten.Perm (Ws.flatten.map inv) := by
      clear h
      induction Ws with
      | nil => exact .refl _
      | cons w T ih =>
        rw [yM, yR, yR, yK]
        exact List.Perm.append (zJ _) ih
    refine e.trans ((h.pm.map inv).trans ?_)
    refine List.Perm.trans ?_ (zJ u).symm
    refine pA (fy _ U.nd fun x _ y _ e => fE e) U.nd fun x => ?_
    constructor
    · intro hx
      obtain ⟨y, hy, rfl⟩ := yE.mp hx
      exact U.iv y hy
    · intro hx
      exact yE.mpr ⟨inv x, U.iv x hx, aE x⟩
def wA (e f : L)(b : Bool)(w : List L) : List L := if b then tuv e f w else bk (tuv e f (bk w))
def Bes (u : List L)(e f : L)(b : Bool) : Prop := if b then Nx u e f else Nx u f e
theorem Srf.perm {u v : List L}(U : Srf u)(p : v.Perm u) : Srf v := ⟨fun e => U.ne (List.Perm.nil_eq (e ▸ p)).symm, p.nodup_iff.mpr U.nd, fun x hx => p.mem_iff.mpr (U.iv x (p.mem_iff.mp hx)), by rw [p.length_eq]; exact U.le⟩
theorem Bes.mem {u : List L}{e f : L}{b : Bool}(h : Bes u e f b) : e∈u ∧ f∈u := by
  cases b with
  | true => exact bg h
  | false => exact ⟨(bg h).2, (bg h).1⟩
theorem uP {u : List L}{e f : L}{b : Bool}(U : Srf u)(n : Bes u e f b)(ne : f≠inv e)(hfe : f≠e){Ws : List (List L)}(d : Dc (Rh u) u Ws) : Dc (Rh (sld u e (inv f) b)) (sld u e (inv f) b) (Ws.map (wA e f b)) := by
  cases b with
  | true => exact qK U n ne hfe d
  | false =>
    have ne' : inv f≠e := fun z => ne (by rw [← z, aE])
    have n' : Nx u.reverse e f := eB n
    have d1 := qK U.rev n' ne hfe (nD U d)
    rw [← rW] at d1
    have V : Srf (sld u e (inv f) false) := U.perm (eN U.nd n.mem.1 (U.iv f n.mem.2) ne' false)
    have d2 := nD V.rev d1
    rw [zo, y8, y8] at d2
    exact d2
end Wd
namespace Wd
open Kx
theorem jP (ws : List (List L)){a b : List L}(h : Eqv a b) : Eqv (sub ws a) (sub ws b) := by
  show red _=red _
  rw [← bU ws a, show red a=red b from h, bU]
theorem Cj.sub (ws : List (List L)){a b : List L}(h : Cj a b) : Cj (sub ws a) (sub ws b) := by
  obtain ⟨t, h⟩ := h
  refine ⟨Wd.sub ws t, ?_⟩
  have := jP ws h
  rwa [ba, ba, iO] at this
theorem uQ (ws : List (List L)){a b : List L}(h : Rt a b) : Rt (sub ws a) (sub ws b) := by
  obtain ⟨x, y, rfl, rfl⟩ := h
  exact ⟨Wd.sub ws x, Wd.sub ws y, ba _ _ _, ba _ _ _⟩
theorem uR (e f : L){a b : List L}(h : Rt a b) : Rt (tuv e f a) (tuv e f b) := by
  obtain ⟨x, y, rfl, rfl⟩ := h
  exact ⟨tuv e f x, tuv e f y, ed _ _ _ _, ed _ _ _ _⟩
theorem jQ {n : Nat}(h6 : n≤6){e f : L}(he : e.val % 6 < n) : ∀ {w : List L}, InM n w → f∉w → inv e∉w → sub (cn n e f) w=tuv e f w
  | [], _, _, _ => rfl
  | x::r, hi, h1, h2 => by
    have ih := jQ h6 he (fun y hy => hi y (yd _ hy)) (fun h => h1 (yd _ h)) (fun h => h2 (yd _ h)) (w := r) (f := f)
    have xf : ¬ x=f := fun z => h1 (by rw [z];exact yA)
    show img _ x++sub _ r=(if x=f then [] else if x=e then [f, e] else [x])++tuv e f r
    rw [ih, if_neg xf]
    by_cases xe : x=e
    · rw [if_pos xe, xe, jK h6 he]
    · rw [if_neg xe, bK h6 (hi x yA) (fun z => (nB z).elim xe (fun q => h2 (by rw [← q];exact yA)))]
theorem qL {n : Nat}(h6 : n≤6){u : List L}{e f : L}(U : Srf u)(hu : InM n u)(q : Nx u e f)(ne : f≠inv e)(hfe : f≠e){w : List L}(c : Cy (Rh u) w)(hw : ∀ x∈w, x∈u) : Cj (sub (cn n e f) w) (tuv e f w) := by
  have he := hu e (bg q).1
  have hiw : InM n w := fun x hx => hu x (hw x hx)
  by_cases hf : f∈w
  · obtain ⟨A, B, rfl⟩ := bD hf
    have c2 : Cy (Rh u) (f::(B++A)) := c.rot
    -- what stands ahead of f is the back of e
    have hne : B++A≠[] := fun z => by
      rw [z] at c2
      have := c2.st f f (.inl ⟨rfl, rfl⟩)
      exact ne (by rw [iK U.nd q this, aE])
    obtain ⟨M, z, e1⟩ : ∃ M z, B++A=M++[z] := ⟨(B++A).dropLast, (B++A).getLast hne, (y4 hne).symm⟩
    have hz : z=inv e := by
      rw [e1] at c2
      have n1 : Nx (f::(M++[z])) z f := by
        have : Nx ((f::M)++[z]) z f := by
          rw [bH]
          exact .inl ⟨rfl, rfl⟩
        exact this
      have := iK U.nd (c2.st z f n1) q
      rw [← this, aE]
    have rt : Rt (A++f::B) (inv e::f::M) := by
      refine Rt.trans (p := f::(B++A)) ⟨A, f::B, rfl, rfl⟩ ⟨f::M, [inv e], ?_, rfl⟩
      rw [e1, hz]
      rfl
    have c3 : (inv e::f::M).Nodup := by
      have := c2.nd
      rw [e1, hz] at this
      have p : (f::(M++[inv e])).Perm (inv e::f::M) := by
        refine List.Perm.trans (List.Perm.cons f (List.perm_append_singleton _ _)) (List.Perm.swap _ _ _)
      exact p.nodup_iff.mp this
    have m1 : inv e∉M := fun h => (yt.mp c3).1 (yd _ h)
    have m2 : f∉M := (yt.mp (yt.mp c3).2).1
    have hM : InM n M := fun x hx => hiw x (by
      have : x∈B++A := by rw [e1];exact yz _ hx
      rcases yJ.mp this with h | h
      · exact ye _ (yd _ h)
      · exact yz _ h)
    have hfn := hu f (bg q).2
    have hnf : f.val % 6≠e.val % 6 := fun z => (nB z).elim hfe ne
    refine ((pk (uQ _ rt)).trans ?_).trans (pk (uR e f rt.symm))
    have s1 : sub (cn n e f) (inv e::f::M)=[inv e]++(bk [f]++[f])++tuv e f M := by
      show img _ (inv e)++(img _ f++sub _ M)=_
      rw [gQ, jK h6 he, bK h6 hfn hnf, jQ h6 he hM m2 m1]
      rfl
    have s2 : tuv e f (inv e::f::M)=[inv e]++tuv e f M := by
      have t1 : tuv e f (inv e::f::M)=(if inv e=f then [] else if inv e=e then [f, e] else [inv e])++tuv e f (f::M) := rfl
      rw [t1, if_neg (fun z => ne z.symm), if_neg (fe e), uM]
    rw [s1, s2]
    exact ⟨[], by
      show Eqv ([]++_++[]) _
      rw [BP, yP]
      exact gN _ _ _⟩
  · have hi : inv e∉w := fun h => by
      obtain ⟨y, hy⟩ := rK h
      have r : Nx u (inv (inv e)) y := c.st _ _ hy
      rw [aE] at r
      exact hf (by rw [fv U.nd q r];exact (bg hy).2)
    rw [jQ h6 he hiw hf hi]
    exact Cj.refl _
theorem wB {u w : List L}(c : Cy (Rh u) w) : Cy (Rh u.reverse) (bk w) := by
  refine ⟨fun e => c.ne ?_, ?_, fun x y n => ?_⟩
  · rw [← ff w, e]
    rfl
  · unfold bk
    exact (zJ _).nodup_iff.mpr (fy _ c.nd fun x _ y _ e => fE e)
  · obtain ⟨a, b, n', rfl, rfl⟩ := uJ n
    have := c.st a b n'
    unfold Rh at this ⊢
    rw [aE]
    exact eB this
theorem uS {n : Nat}(h6 : n≤6){u : List L}{e f : L}{b : Bool}(U : Srf u)(hu : InM n u)(q : Bes u e f b)(ne : f≠inv e)(hfe : f≠e){w : List L}(c : Cy (Rh u) w)(hw : ∀ x∈w, x∈u) : Cj (sub (cn n e f) w) (wA e f b w) := by
  cases b with
  | true => exact qL h6 U hu q ne hfe c hw
  | false =>
    have := qL h6 U.rev (fun x hx => hu x (zO.mp hx)) (eB q) ne hfe (wB c) (fun x hx => by
      unfold bk at hx
      rw [zO] at hx ⊢
      obtain ⟨y, hy, rfl⟩ := yE.mp hx
      exact U.iv y (hw y hy))
    have := this.bk
    rwa [iO, ff] at this
theorem rX {u : List L}{i : Nat}{e : L}(he : u[i]? = some e){sd : Int}(hs : sd=1 ∨ sd = -1) : Bes u e (farOf u i sd) (decide (sd=1)) := by
  have hi : i < u.length := (ya.mp he).1
  have hne : u≠[] := yw.mp (by omega)
  have g := fD hne i sd
  rcases hs with rfl | rfl
  · show Nx u e _
    refine mZ he ?_
    rw [show (((i : Int)+1) % (u.length : Int)).toNat=(i+1) % u.length by
      rw [show ((i : Int)+1)=((i+1 : Nat) : Int) by omega, ← BG, yD]] at g
    exact g
  · show Nx u _ e
    refine mZ g ?_
    have : ((((i : Int) + -1) % (u.length : Int)).toNat+1) % u.length=i := by
      by_cases c : i=0
      · subst c
        have h2 : (((0 : Nat) : Int) + -1) % (u.length : Int)=(u.length : Int) - 1 := by
          rw [← Int.add_emod_right, z3 (by omega) (by omega)]
          omega
        rw [h2, show ((u.length : Int) - 1).toNat+1=u.length by omega, B7]
      · rw [z3 (by omega) (by omega), show ((i : Int) + -1).toNat+1=i by omega, zm hi]
    rw [this]
    exact he
theorem jL.perm {n : Nat}{u v : List L}(R : jL n u)(p : v.Perm u) : jL n v := ⟨by rw [p.length_eq, R.len], p.nodup_iff.mpr R.nd, fun x hx => R.ins x (p.mem_iff.mp hx)⟩
structure Sl (n : Nat) (u v : List L) (k : Nat) (M N : List (List L)) : Prop where
  row : jL n v
  srf : Srf v
  m : lj n (2 ^ k) M
  h : lj n (2 ^ k) N
  id : ∀ x, InM n x → Eqv (sub N (sub M x)) x
  dc : ∃ F : List L → List L, Dc (Rh v) v ((hol u).map F) ∧ ∀ w∈hol u, Cj (sub M w) (F w)
theorem Sl.start {n : Nat}{u : List L}(h6 : n≤6)(R : jL n u)(U : Srf u) : Sl n u u 0 (aR n) (aR n) := by
  have hin : ∀ w∈hol u, InM n w := fun w hw x hx => R.ins x ((fz U).pm.mem_iff.mp (zc.mpr ⟨w, hw, hx⟩))
  refine ⟨R, U, bA h6, bA h6, fun x hx => ?_, fun w => w, ?_, fun w hw => ?_⟩
  · rw [cL h6 hx, cL h6 hx]
    exact Eqv.refl _
  · rw [List.map_id']
    exact fz U
  · rw [cL h6 (hin w hw)]
    exact Cj.refl _
theorem Sl.on {n : Nat}{u v : List L}{k : Nat}{M N : List (List L)}(h2 : 2≤n)(h6 : n≤6)(S : Sl n u v k M N){i : Nat}{e : L}{sd : Int}(he : v[i]? = some e)(hs : sd=1 ∨ sd = -1)(hc : farOf v i sd≠inv e) :
    Sl n u (sld v e (inv (farOf v i sd)) (decide (sd=1))) (k+1) (cK M (cn n e (farOf v i sd))) (cK (cn n e (inv (farOf v i sd))) N) := by
  have hi : i < v.length := (ya.mp he).1
  have hne : v≠[] := yw.mp (by omega)
  have hev := yu he
  have hfm := qI S.row h2 hi hs he hc
  have hfv := jM hne i sd
  have hb := rX he hs
  generalize farOf v i sd=f at hc hfm hfv hb ⊢
  have en := S.row.ins e hev
  have fn := S.row.ins f hfv
  have hfe : f≠e := fun z => hfm (by rw [z])
  have ne' : inv f≠e := fun z => hc (by rw [← z, aE])
  have hif : (inv f).val % 6=f.val % 6 := by have := f.isLt;rw [bT];split <;> omega
  have p := eN S.srf.nd hev (S.srf.iv f hfv) ne' (decide (sd=1))
  obtain ⟨F, d, hF⟩ := S.dc
  have hvi : InM n v := S.row.ins
  refine ⟨S.row.perm p, S.srf.perm p, ?_, ?_, fun x hx => ?_, fun w => wA e f (decide (sd=1)) (F w), ?_, fun w hw => ?_⟩
  · rw [Nat.pow_succ]
    exact S.m.then (gR h6 en fn hfm)
  · rw [Nat.pow_succ, B6]
    exact (gR h6 en (by omega) (by omega)).then S.h
  · have h1 : Eqv (sub (cK M (cn n e f)) x) (sub (cn n e f) (sub M x)) := bF _ _ x
    have hm : InM n (sub M x) := (S.m.sub x).1
    have h3 : Eqv (sub (cn n e (inv f)) (sub (cn n e f) (sub M x))) (sub M x) := by
      have := nz h6 (rS h6 en fn hfm) hm
      show red _=_
      rw [← this, bU]
    refine Eqv.trans (bF _ _ _) ?_
    refine Eqv.trans (jP N ((jP _ h1).trans h3)) ?_
    exact S.id x hx
  · have := uP S.srf hb hc hfe d
    rw [y8] at this
    exact this
  · have c := d.cy (F w) (yE.mpr ⟨w, hw, rfl⟩)
    have hin : ∀ x∈F w, x∈v := fun x hx => d.pm.mem_iff.mp (zc.mpr ⟨F w, yE.mpr ⟨w, hw, rfl⟩, hx⟩)
    have c1 := uS h6 S.srf hvi hb hc hfe c hin
    exact (((hF w hw).sub (cn n e f)).eqv (Eqv.symm (bF _ _ w)) (Eqv.refl _)).trans c1
end Wd
namespace L2
open PySem PySem.Spec PyProof.Rows
section
variable {X : Cx} {pins : List (Addr × Obj)} {σ : St} {H : Hp} {s : Shared}
theorem nE {x : Str}{i : Nat}{pos : Pos}{v : V}{Q : Value → Shared → Prop}(I : Inv X pins σ H s)(hN : X.N[i]? = some x)(hv : Vis X.env.scope x)(e : σ[i]? = some (some v))(h : ∀ u, bj v u → Q u s)
    (hd : (x == ("__debug__" : Str))=false := by decide) (hcd : (x == ("__classdict__" : Str))=false := by decide) : wpAny (model X.prog X.w) X.A (eval (.Name x pos) X.env) Q X.xe s := by
  obtain ⟨m, hn, hl⟩ := I.loc
  obtain ⟨u, r, l⟩ := hl i x v hN e hv
  rcases l with ⟨hk, hm⟩ | ⟨hk, c, hc, hcell⟩
  · exact AW (z9 I.ok.kind hk hn hm (h u r)) hd
  · rcases hk with hk | hk
    · exact AW (A0 I.ok.kind hk hc hcell (h u r)) hd
    · exact AW (wpAny_loadName_free I.ok.kind hk hc hcell (h u r) hcd) hd
theorem nF {M : Model}{A : Around}{E : Value → Shared → Prop}{i : Nat}{x : Str}{v : V}{u : Value}{Q : Unit → Shared → Prop}(I : Inv X pins σ H s)(hN : X.N.Nodup)(hi : X.N[i]? = some x)(hk : X.env.scope.names.lookup x=some .local)(r : bj v u)
    (h : ∀ h' m, Inv X pins (σ.set i (some v)) H { s with heap := h', toks := s.toks+1 } → h'.Ns X.env.locals m → m x=some u → Q () { s with heap := h', toks := s.toks+1 }) : wpAny M A (storeName X.env x u) Q E s := by
  obtain ⟨m, hn, hl⟩ := id I.loc
  have hcls : (X.env.scope.kind == .class || (X.env.scope.kind == .module && X.env.locals != X.env.globals))=false := by rw [I.ok.kind];rfl
  have hiσ : i < σ.length := by rw [I.len];exact (ya.mp hi).1
  have cne := I.cne
  have tracked : ∀ {a : Addr} {h' : Heap}, (∃ o, s.heap.get? a=some o ∧ H a=none) → Heap.SameBut a s.heap h' → HOk X.prog X.w H h' := fun {a h'} ha hs b ob e => by
    obtain ⟨_, _, hfree⟩ := ha
    refine (I.hok b ob e).stay (fun c w' hc q => (hs.2 c ?_).trans q) (fun _ q => q) fun _ _ q => q
    rintro rfl
    rcases hc with rfl | hc
    · rw [hfree] at e;cases e
    · rw [hfree] at hc;cases hc
  refine wpAny_storeName_local hk hn (fun h' hn' hs => ?_) hcls
  obtain ⟨oL, _, _, hoL, _⟩ := id hn
  refine h _ _ ⟨I.ok, I.os, I.bare, ⟨fun b o e n hb hx => ?_, fun b o e n hb hx => ?_, I.base.free, fun b o e hx => ?_, I.base.tups, I.base.frzs, I.base.tbls⟩, ⟨_, hn', fun j y v' e1 e2 e3 => ?_⟩, fun y c e => ?_, I.free, I.freeC, fun p hp => ?_, tracked ⟨oL, hoL, I.free⟩ hs, by simpa using I.len⟩ hn' (by simp)
  · exact (hs.2 b (yH (yo (yf e) I.ok.above))).trans (I.base.keep b o e n hb hx)
  · obtain ⟨sl, e1⟩ := I.base.slot b o e n hb hx
    exact ⟨sl, (hs.2 b (yH (yo (yf e) I.ok.above))).trans e1⟩
  · obtain ⟨o', e1⟩ := I.base.there b o e hx
    exact ⟨o', (hs.2 b (yH (yo (yf e) I.ok.above))).trans e1⟩
  · by_cases hj : j=i
    · subst hj
      rw [hi] at e1;cases e1
      rw [zP hiσ] at e2
      cases e2
      exact ⟨u, r, .inl ⟨hk, by simp⟩⟩
    · rw [zF (Ne.symm hj)] at e2
      obtain ⟨u', r', q⟩ := hl j y v' e1 e2 e3
      refine ⟨u', r', ?_⟩
      rcases q with ⟨k, e⟩ | ⟨k, c, e, z⟩
      · refine .inl ⟨k, ?_⟩
        have : y≠x := fun e => hj (gp hN e1 (e ▸ hi))
        simp [this, e]
      · exact .inr ⟨k, c, e, z.sameBut hs (cne y c e)⟩
  · obtain ⟨w', z⟩ := I.cell y c e
    exact ⟨w', z.sameBut hs (cne y c e)⟩
  · obtain ⟨e, n, ne, nf, d⟩ := I.pin p hp
    exact ⟨(hs.2 p.1 ne).trans e, n, ne, nf, d⟩
inductive tMv (iz iw ix iy : Nat)(u : TS)(D : jj)(σ : St)(H : Hp) : Prop
  | mk : ∀ (S : Str) (p : Addr) (i : Int) (r : List V) (c : Nat), σ[iz]? = some (some (.str S)) → σ[iw]? = some (some (.ref p)) → H p=some (.tup (.int i::r)) → S.length≤1000 → atI S.cps.toList i=some c →
      u D ((σ.set ix (some (.str ⟨#[c]⟩))).set iy (some (.str (Txt.replace S ⟨#[c]⟩ "")))) H → tMv iz iw ix iy u D σ H
theorem nG {iz iw ix iy : Nat}{z w x y : Str}{rest : List Stmt}{u : TS}{k0 k1 : Nat}{p1 p2 p3 p4 p5 p6 p7 p8 p9 p10 p11 p12 p13 p14 : Pos}
    (hN : X.N.Nodup) (hNz : X.N[iz]? = some z) (hNw : X.N[iw]? = some w) (hNx : X.N[ix]? = some x) (hNy : X.N[iy]? = some y)
    (hkz : X.env.scope.names.lookup z=some .local) (hkw : X.env.scope.names.lookup w=some .local) (hkx : X.env.scope.names.lookup x=some .local) (hky : X.env.scope.names.lookup y=some .local)
    (hne : ix≠iz) (hp1 : gu (.Constant (.int 0) k0 p4)) (hp2 : gu (.Subscript (.Name w p3) (.Constant (.int 0) k0 p4) p5)) (h2 : PSs X rest u)
    (hs1 : swapsWith (.Subscript (.Name z p2) (.Subscript (.Name w p3) (.Constant (.int 0) k0 p4) p5) p6) (some (.Name x p1)) p7.line X.env=pure false := by rfl)
    (hs2 : swapsWith (.Call (.Attribute (.Name z p9) "replace" p10) [.Name x p11, .Constant (.str "") k1 p12] [] p13) (some (.Name y p8)) p14.line X.env=pure false := by rfl)
    (hd1 : (z == ("__debug__" : Str))=false := by decide) (hd2 : (w == ("__debug__" : Str))=false := by decide) (hd3 : (x == ("__debug__" : Str))=false := by decide)
    (hc1 : (z == ("__classdict__" : Str))=false := by decide) (hc2 : (w == ("__classdict__" : Str))=false := by decide)
    (hbase : attributeBase (.Name z p9) "replace" X.env (eval (.Name z p9) X.env)=eval (.Name z p9) X.env := by rfl)
    (hfew : ((backTo p13 (starEach [.Name x p11, .Constant (.str "") k1 p12] X.env)).all (fun x => !x.1) && (backToKw p13 (keywordEach [] X.env)).all (fun x => x.1.isSome)
      && decide (([.Name x p11, .Constant (.str "") k1 p12] : List Expr).length+([] : List Keyword).length+(if ([] : List Keyword).isEmpty then 0 else 1) < 30))=true := by rfl)
    (hline : (p10.endLine == p13.line)=true := by rfl)
    (hst : backTo p13 (starEach [.Name x p11, .Constant (.str "") k1 p12] X.env)=[(false, eval (.Name x p11) X.env), (false, eval (.Constant (.str "") k1 p12) X.env)] := by rfl) :
    PSs X (.Assign [.Name x p1] (.Subscript (.Name z p2) (.Subscript (.Name w p3) (.Constant (.int 0) k0 p4) p5) p6) p7 :: .Assign [.Name y p8] (.Call (.Attribute (.Name z p9) "replace" p10) [.Name x p11, .Constant (.str "") k1 p12] [] p13) p14::rest) (tMv iz iw ix iy u) := by
  intro pins s σ H D I h
  obtain ⟨S, p, i, r, c, hz, hw, hp, hS, hc, q⟩ := h
  have hn63 := dy
  have l16 : sizeLine=16777216 := A3
  have ixlt : ix < σ.length := by rw [I.len];exact (ya.mp hNx).1
  refine AH (Bo (Bs (nE I hNz (.inl hkz) hz (fun uz rz => Bs (nE I hNw (.inl hkw) hw (fun uw rw' => wpAny_Constant_int ?_) hd2 hc2)) hd1 hc1)) hs1)
  cases rw'
  obtain ⟨tz, rfl⟩ := rz
  have I1 := I.tok (s.toks+1)
  obtain ⟨its, rv, pl, hsz⟩ := I1.tuple (SqT.of hp)
  obtain ⟨u0, e0, t0, rfl⟩ := rv.get (i := 0) rfl
  have hl := rv.length
  have hl : its.length=r.length+1 := hl.symm
  refine Al (x := .int i t0) pl.typeIs slot_tuple_getitem.lookup (getItem_tuple (j := 0) pl (by decide) (by decide) (by rw [BY (by decide) (by rw [yg];omega)];rfl) (by simpa using e0) ⟨rfl, ?_⟩) (hp1 _ _)
  obtain ⟨j, a1, a2, a3, a4, a5⟩ := gs hc
  have hlS : S.cps.toList.length=S.length := by simp [Str.length]
  rw [hlS] at a1 a4 a5
  refine tail_any (zZ _ S tz) slot_str_getitem.lookup (getItem_str (c := c) (by
    have e1 : decide (i < -(2 ^ 63 : Int))=false := yr (by omega)
    have e2 : decide (i≥2 ^ 63)=false := yr (by omega)
    rw [e1, e2, BZ]) (by rw [a1];simpa using a2) ?_) (hp2 _ _)
  refine nF (I1.tok _) hN hNx hkx (v := .str ⟨#[c]⟩) ⟨_, rfl⟩ fun h' m I2 hm hmx => ?_
  refine AH (Bo (wpAny_Call_method_late hbase hfew hline rfl (nE I2 hNz (.inl hkz) (by rw [zF hne];exact hz) (fun uz rz => ?_) hd1 hc1)) hs2)
  obtain ⟨tz2, rfl⟩ := rz
  refine ⟨"str", "str.replace", yL, PySem.F.slot_str_replace, PySem.F.type_str_replace, zZ _ _ _, (fun _ e => nomatch e), ?_⟩
  rw [hst]
  refine Am rfl (Calls.evalArgs_plain ?_)
  refine Bf (AW (z9 I2.ok.kind hkx hm hmx ?_) hd3)
  refine Bf (Calls.Constant_str (Calls.spliced_nil ?_))
  have hyz : ((⟨#[c]⟩ : Str) == ("" : Str))=false := by
    cases e : ((⟨#[c]⟩ : Str) == ("" : Str)) with
    | false => rfl
    | true =>
      have e := eq_of_beq e
      have : (⟨#[c]⟩ : Str).length=("" : Str).length := by rw [e]
      have h0 : ("" : Str).length=0 := by decide +kernel
      rw [h0] at this
      exact absurd this (by show ¬ 1=0;decide)
  have e0 : ("" : Str).length=0 := by decide +kernel
  refine SC.replace (by show s.toks+1≠0;omega) (by show s.toks+1+1+1≠0;omega) (by show s.toks+1≠s.toks+1+1+1;omega) hyz (by rw [e0];omega) fun t' k => ?_
  have I3 := I2.tok k
  refine eD I3 hN hNy (.inl hky) (v := .str (Txt.replace S ⟨#[c]⟩ "")) ⟨_, rfl⟩ (fun s' I4 => ?_) (.inr hky)
  exact h2 pins s' _ H D I4 q
end
end L2
namespace PySem
open Sem (wp)
theorem lr {t : SetTable}{es : Array (Int × Value)}{h : Int}{x : Value}(hp : t.plain=false) : (layNew t es h x).2.1.plain=false := by
  unfold layNew
  split
  · dsimp only
    unfold SetTable.orStandIn
    split
    · exact hp
    · rfl
  · rfl
theorem iY {t t' : SetTable}{hs : Array Int}{w : Nat}{order : Array Nat}(h : t.relaid hs w=some (t', order)) : t'.plain=t.plain := by
  unfold SetTable.relaid SetTable.laid at h
  cases hq : SetTable.layClean (SetTable.sizeAbove w - 1) hs with
  | none => rw [hq] at h;cases h
  | some o => rw [hq] at h;cases h;rfl
theorem iZ {t : SetTable}{es : Array (Int × Value)}{w : Nat}(hp : t.plain=false) : (relayAll t es w).2.1.plain=false := by
  unfold relayAll
  split
  · rename_i t' order he
    dsimp only
    split
    · exact (iY he).trans hp
    · rfl
  · rfl
section
variable {prog : Program} {w : World} {A : Around} {E : Value → Shared → Prop} {s : Shared}
def ddp (val : Nat → Str) : Nat → List Str
  | 0 => []
  | i+1 => if val i∈ddp val i then ddp val i else ddp val i++[val i]
theorem nH (val : Nat → Str) : ∀ i, (ddp val i).length≤i
  | 0 => yb _
  | i+1 => by
    have ih := nH val i
    unfold ddp
    split
    · omega
    · rw [x_, yi];omega
section
variable {R : Result → Shared → Prop} {I : Addr} {fp wr : List Addr} {G : Array GenState → Array GenState → Prop} {n : Nat} {P : Nat → Value → Prop} {St : Nat → Shared → Prop}
end
end
end PySem
namespace PySem
open Sem (wp)
section
variable {prog : Program} {w : World} {A : Around} {E : Value → Shared → Prop} {s : Shared}
abbrev sob (led : Bool) : Obj := { cls := .type "set", dict := none, data := .set #[] 0 (.fresh 0 0 led) }
end
end PySem
namespace PySem
open Sem (wp)
abbrev ldr (w : World) : Bool := !w.params.followText "set-order"
theorem lu {t : SetTable}{es : Array (Int × Value)}{h : Int}{x : Value} : (layNew t es h x).2.1.led=t.led := by
  unfold layNew
  split
  · dsimp only
    unfold SetTable.orStandIn
    split
    · rfl
    · rfl
  · rfl
theorem ly {t t' : SetTable}{hs : Array Int}{w : Nat}{order : Array Nat}(h : t.relaid hs w=some (t', order)) : t'.led=t.led := by
  unfold SetTable.relaid SetTable.laid at h
  cases hq : SetTable.layClean (SetTable.sizeAbove w - 1) hs with
  | none => rw [hq] at h;cases h
  | some o => rw [hq] at h;cases h;rfl
theorem i0 {t : SetTable}{es : Array (Int × Value)}{w : Nat} : (relayAll t es w).2.1.led=t.led := by
  unfold relayAll
  split
  · rename_i t' order he
    dsimp only
    split
    · exact ly he
    · rfl
  · rfl
section
variable {prog : Program} {w : World} {A : Around} {E : Value → Shared → Prop} {s : Shared}
def i3 (prog : Program)(w : World)(h : Heap)(a : Addr)(dl : List Str) : Prop :=
  ∃ o es ep t, h.get? a=some o ∧ o.ExactSet ∧ o.data = .set es ep t ∧ ElemsOf (strKind prog w) es.toList ∧ (∀ k, k∈dl ↔ ∃ e∈es.toList, (strKind prog w).is k e.2=true) ∧ es.size < scanBound ∧ t.fits es.size=true ∧ es.size=dl.length ∧ (dl≠[] → t.plain=false) ∧ t.led=ldr w
theorem xb {a : Addr}{o : Obj}{es es1 : Array (Int × Value)}{ep : Nat}{t t2 : SetTable}{dl : List Str}(ho : s.heap.get? a=some o)(hex : o.ExactSet)(hd : o.data = .set es ep t)(hel : ElemsOf (strKind prog w) es1.toList)
    (hm : ∀ k, k∈dl ↔ ∃ e∈es1.toList, (strKind prog w).is k e.2=true) (hb : es1.size < scanBound) (hf : t2.fits es1.size=true) (hn : es1.size=dl.length) (hp : t2.plain=false) (hld : t2.led=ldr w) :
    (s.heap.update a (Obj.putSet es1 t2)).get? a=some { o with data := .set es1 (ep+1) t2 } ∧ i3 prog w (s.heap.update a (Obj.putSet es1 t2)) a dl := by
  have hg : (s.heap.update a (Obj.putSet es1 t2)).get? a=some { o with data := .set es1 (ep+1) t2 } := by
    have q := zA (Obj.putSet es1 t2) ho (by rw [putSet_of es1 t2 hd];rfl)
    rwa [putSet_of es1 t2 hd] at q
  exact ⟨hg, _, es1, ep+1, t2, hg, hex, rfl, hel, hm, hb, hf, hn, fun _ => hp, hld⟩
theorem xM {a : Addr}{dl : List Str}{z : Str}{u : Tok}{Q : Bool → Shared → Prop}(hS : i3 prog w s.heap a dl)(hroom : dl.length+1 < scanBound)
    (h : ∀ h' b, Heap.SameBut a s.heap h' → i3 prog w h' a (if z∈dl then dl else dl++[z]) → Q b { s with heap := h' }) :
    wpAny (model prog w) A (setAddHashed a (.str z u) ((strKind prog w).hash z)) Q E s := by
  obtain ⟨o, es, ep, t, ho, hex, hd, hel, hm, hb, hf, hn, hpl, hld⟩ := hS
  have hkey : (strKind prog w).is z (.str z u)=true := strKind_is prog w z u
  have hsc : (Value.str z u).scannable=true := rfl
  unfold setAddHashed setAddHashedIn
  refine Ag (fu (wpAny_setState_of ho hd hf ?_))
  dsimp only
  rw [byScan_of (knd := strKind prog w) hsc hb hel]
  simp only [↓reduceIte]
  unfold setAddByScan
  refine fu (fu (AY (fu (wpAny_setScan_of (knd := strKind prog w) hkey ho hd hf hel ?_))))
  cases hr : List.findIdx? (fun e => (strKind prog w).is z e.2) es.toList with
  | some j =>
    dsimp only
    obtain ⟨hj, hpj, _⟩ := List.findIdx?_eq_some_iff_getElem.mp hr
    have hz : z∈dl := (hm z).mpr ⟨es.toList[j], AL hj, hpj⟩
    refine yn (yn ?_)
    have q := h s.heap false (Heap.SameBut.refl a s.heap) (by rw [if_pos hz];exact ⟨o, es, ep, t, ho, hex, hd, hel, hm, hb, hf, hn, hpl, hld⟩)
    have e : s={ s with heap := s.heap } := by cases s;rfl
    rw [e];exact q
  | none =>
    dsimp only
    have hz : z∉dl := fun hz => by
      obtain ⟨e, he, hp⟩ := (hm z).mp hz
      have q := List.findIdx?_eq_none_iff.mp hr e he
      rw [hp] at q
      cases q
    have hq : ∀ h', Heap.SameBut a s.heap h' → i3 prog w h' a (dl++[z]) → Q true { s with heap := h' } := fun h' sb hs => h h' true sb (by rw [if_neg hz];exact hs)
    have hperm := layNew_perm t es ((strKind prog w).hash z) (.str z u)
    have hfits := layNew_fits t es ((strKind prog w).hash z) (.str z u)
    have hoff := fun hp : t.plain=false => lr (es := es) (h := (strKind prog w).hash z) (x := .str z u) hp
    have hl1 : (layNew t es ((strKind prog w).hash z) (.str z u)).2.1.led=ldr w := lu.trans hld
    generalize hL : layNew t es ((strKind prog w).hash z) (.str z u)=L at hperm hfits hoff hl1 ⊢
    obtain ⟨es1, t1, wasDummy, gave⟩ := L
    dsimp only at hperm hfits hoff hl1 ⊢
    rw [Array.toList_push] at hperm
    have hel1 : ElemsOf (strKind prog w) es1.toList := (hel.push hkey hsc).perm hperm
    have hm1 : ∀ k, k∈dl++[z] ↔ ∃ e∈es1.toList, (strKind prog w).is k e.2=true := fun k => by
      rw [← mem_push_iff (knd := strKind prog w) (S := fun k => decide (k∈dl)) hkey (fun k => by rw [Bj];exact hm k) hperm k]
      simp
    have hsz1 : es1.size=(dl++[z]).length := by rw [← y6, hperm.length_eq, x_, y6, hn, x_];rfl
    have hb1 : es1.size < scanBound := by rw [hsz1, x_];exact hroom
    have tail : ∀ t2 : SetTable, t2.plain=false → t2.led=ldr w → t2.fits es1.size=true → wpAny (model prog w) A (do
        storeSet a es1 t2
        if (!wasDummy && t2.tooFull)=true then do
            (match (relayAll t2 es1 (SetTable.grown es1.size)).2.2 with | true => rule "set.scan.the-table-gave-way" | false => pure ())
            storeSet a (relayAll t2 es1 (SetTable.grown es1.size)).1 (relayAll t2 es1 (SetTable.grown es1.size)).2.1
            pure (some true)
          else pure (some true)) (fun r s' => wpAny (model prog w) A (match r with | some added => pure added | none => setAddHashedIn a (.str z u) ((strKind prog w).hash z) 99999) Q E s') E s := fun t2 hp2 hd2 hf2 => by
      refine fu (wpAny_storeSet_of ho hd ?_ (fits_of_scanBound hb1))
      obtain ⟨ho1, hS1⟩ := xb ho hex hd hel1 hm1 hb1 hf2 hsz1 hp2 hd2
      have hsb1 := zM s.heap a (Obj.putSet es1 t2)
      split
      · have hp := relayAll_perm t2 es1 (SetTable.grown es1.size)
        have hfr := relayAll_fits t2 es1 (SetTable.grown es1.size)
        have hof := iZ (es := es1) (w := SetTable.grown es1.size) hp2
        have hof2 := (i0 (t := t2) (es := es1) (w := SetTable.grown es1.size)).trans hd2
        generalize relayAll t2 es1 (SetTable.grown es1.size)=Rl at hp hfr hof hof2 ⊢
        obtain ⟨es2, t3, gave2⟩ := Rl
        dsimp only at hp hfr hof hof2 ⊢
        have hsz : es2.size=es1.size := by rw [← y6, hp.length_eq, y6]
        have go : wpAny (model prog w) A (storeSet a es2 t3 >>= fun _ => pure (some true)) (fun r s' => wpAny (model prog w) A (match r with | some added => pure added | none => setAddHashedIn a (.str z u) ((strKind prog w).hash z) 99999) Q E s') E { s with heap := s.heap.update a (Obj.putSet es1 t2) } := by
          refine fu (wpAny_storeSet_of ho1 rfl ?_ (fits_of_scanBound (by rw [hsz];exact hb1)))
          obtain ⟨_, hS2⟩ := xb (s := { s with heap := s.heap.update a (Obj.putSet es1 t2) }) ho1 hex rfl (hel1.perm hp) (fun k => (hm1 k).trans ⟨fun zq2 => (by obtain ⟨e, he, q⟩ := zq2;exact ⟨e, hp.mem_iff.mpr he, q⟩), fun zq1 => (by obtain ⟨e, he, q⟩ := zq1;exact ⟨e, hp.mem_iff.mp he, q⟩)⟩) (by rw [hsz];exact hb1) hfr (hsz.trans hsz1) hof hof2
          exact yn (yn (hq _ (hsb1.trans (zM _ a _)) hS2))
        cases gave2
        · exact fu (yn go)
        · exact fu (AY go)
      · exact yn (yn (hq _ hsb1 hS1))
    have rest : wpAny (model prog w) A (do
        let byValue ← if t1.plain=true then hashByValue 8 (.str z u) else pure true
        storeSet a es1 (if byValue=true then t1 else { t1 with plain := false })
        if (!wasDummy && (if byValue=true then t1 else { t1 with plain := false } : SetTable).tooFull)=true then do
            (match (relayAll (if byValue=true then t1 else { t1 with plain := false }) es1 (SetTable.grown es1.size)).2.2 with | true => rule "set.scan.the-table-gave-way" | false => pure ())
            storeSet a (relayAll (if byValue=true then t1 else { t1 with plain := false }) es1 (SetTable.grown es1.size)).1 (relayAll (if byValue=true then t1 else { t1 with plain := false }) es1 (SetTable.grown es1.size)).2.1
            pure (some true)
          else pure (some true)) (fun r s' => wpAny (model prog w) A (match r with | some added => pure added | none => setAddHashedIn a (.str z u) ((strKind prog w).hash z) 99999) Q E s') E s := by
      by_cases hp1 : t1.plain=true
      · rw [if_pos hp1]
        refine fu ?_
        rw [hashByValue_scannable 8 hsc]
        refine yn ?_
        exact tail { t1 with plain := false } rfl hl1 (SetTable.fits_plain_off hfits)
      · rw [if_neg hp1]
        refine fu (yn ?_)
        exact tail t1 (by simpa using hp1) hl1 hfits
    cases gave
    · exact fu (yn rest)
    · exact fu (AY rest)
theorem i3.at {h h' : Heap}{a : Addr}{dl : List Str}(hS : i3 prog w h a dl)(k : ∀ o, h.get? a=some o → h'.get? a=some o) : i3 prog w h' a dl := by
  obtain ⟨o, es, ep, t, ho, r⟩ := hS
  exact ⟨o, es, ep, t, k o ho, r⟩
section
variable {R : Result → Shared → Prop} {I : Addr} {fp wr : List Addr} {G : Array GenState → Array GenState → Prop} {n : Nat} {P : Nat → Value → Prop} {St : Nat → Shared → Prop}
theorem xN (W : WalksS prog w A.in1 I fp wr G n P St)(S : Addr)(hSf : S∉fp)(val : Nat → Str)(hval : ∀ i v, P i v → ∃ t, v = .str (val i) t)(hb : n+1 < scanBound) :
    ∀ (k i : Nat) (s : Shared), n - i=k → i≤n → St i s → i3 prog w s.heap S (ddp val i) → (∀ s', Moved (S::wr) G s s' → i3 prog w s'.heap S (ddp val n) → R (.ok (.ret .none)) s') →
      codeAny (model prog w) A (.builtin "set.update.loop" ⟨[.ref S, .ref I], []⟩) R s := by
  have nw : S∉wr := fun q => hSf (W.sub _ q)
  have sub : ∀ b∈wr, b∈S::wr := fun b q => yd _ q
  intro k
  induction k with
  | zero =>
    intro i s hk hi st hS hR
    obtain rfl : i=n := by omega
    refine Bd Ac ?_
    rw [AS zr _]
    show wpAny _ A.in1 (pyNext (.ref I) >>= _) _ _ s
    refine fu (W.done s _ _ st fun s' mv => ?_)
    show wpAny _ A.in1 (ret Value.none) _ _ s'
    exact yn (hR s' (mv.mono sub) (hS.at fun o q => mv.heap S o nw q))
  | succ k ih =>
    intro i s hk hi st hS hR
    have hlt : i < n := by omega
    refine Bd Ac ?_
    rw [AS zr _]
    show wpAny _ A.in1 (pyNext (.ref I) >>= _) _ _ s
    refine fu (W.item i s _ _ hlt st fun v s' hP st' mv => ?_)
    obtain ⟨u, rfl⟩ := hval i v hP
    have hS' : i3 prog w s'.heap S (ddp val i) := hS.at fun o q => mv.heap S o nw q
    show wpAny _ A.in1 (holding [Value.str (val i) u] (setAdd S (.str (val i) u)) >>= _) _ _ s'
    refine fu (Ag ?_)
    unfold setAdd
    refine Ag (fu ((strKind prog w).pyHash (k := val i) (strKind_is _ _ _ _) ?_))
    have hl := nH val i
    refine xM (s := { s' with toks := s'.toks+1 }) hS' (by omega) fun h' b sb hS2 => ?_
    refine yn ⟨plainId_quiet zr _, ih (i+1) _ (by omega) hlt (W.frame _ s' _ _ st' (Aq _) fun c hc o q => ?_) (by unfold ddp;exact hS2) fun s'' mv2 hS3 => ?_⟩
    · rw [sb.2 c (fun e : c=S => hSf (e ▸ hc))];exact q
    · refine hR s'' (Moved.trans W.gtrans ((mv.mono sub).then_heap (Aq _) fun c o hc q => ?_) mv2) hS3
      rw [sb.2 c (fun e : c=S => hc (e ▸ yA))];exact q
end
theorem gT (a : Value){Q₁ : Value → Shared → Prop}(q : Q₁ (.ref s.heap.objs.size) { s with heap := s.heap.push (sob (ldr w)) }) :
    codeAny (model prog w) A (.call (.builtin "set.__new__") ⟨[.type "set", a], []⟩) (wants Q₁ E) s := by
  refine codeAny_of_tree ?_
  show wpAny _ A.in1 (do checkBuiltinCall "set.__new__" ⟨[.type "set", a], []⟩;again (.builtin "set.__new__" ⟨[.type "set", a], []⟩)) _ _ s
  refine fu (As (F.newCall_set_1 a) (yn ⟨plainId_quiet F.plain_set_new _, Bd F.entry_set_new ?_⟩))
  rw [AS F.plain_set_new _]
  unfold Builtin.«set.__new__» Builtin.Frozenset.newClass
  have hsub := sub_set_self
  obtain ⟨hp, gn, dr, tk, os⟩ := s
  dsimp only
  wp_walk
  refine wpAny_askSetting (yn ?_)
  dsimp only
  simp only [newObj]
  exact fu (wpAny_alloc (yn (yn q)))
set_option maxHeartbeats 3200000 in
theorem nJ {l : Addr}{its : Array Value}{val : Nat → Str}{Q : Value → Shared → Prop}(hh : A.handled=none)(hl : s.heap.IsList l its)(hval : ∀ (i : Nat) (v : Value), its[i]? = some v → ∃ t, v = .str (val i) t)(hb : its.size+1 < scanBound)
    (h : ∀ (h' : Heap) (tk : Nat), i3 prog w h' s.heap.objs.size (ddp val its.size) → (∀ b o, b < s.heap.objs.size → s.heap.get? b=some o → h'.get? b=some o) → Q (.ref s.heap.objs.size) { s with heap := h', toks := tk }) :
    wpAny (model prog w) A (call (.type "set") [.ref l]) Q E s := by
  obtain ⟨c, tl, hmro⟩ := F.called_set.mro
  have hmade := F.called_set.made
  have hsub := F.called_set.sub
  refine wpAny_call (codeAny_of_tree ?_)
  show wpAny _ _ (callAny (.type "set") _) _ _ _
  refine yn ⟨Code.quiet_builtin _ (by decide +kernel), Bd F.entry_type_call ?_⟩
  rw [Around.under_plain (weight_type_call_type "set" [.ref l] []) rfl]
  have x1 := F.called_set.notType
  have x2 := F.called_set.canCreate
  have x3 := F.typeCall_set_1 (.ref l)
  repeat (any_goals (first | assumption | wp_step))
  refine Bg (gT (.ref l) (E := E) (Q₁ := fun ob s1 => ob = .ref s.heap.objs.size ∧ s1={ s with heap := s.heap.push (sob (ldr w)) }) ⟨rfl, rfl⟩) fun r s1 hr => ?_
  cases r with
  | error e => exact hr
  | ok fl =>
    cases fl with
    | ret ob =>
      obtain ⟨rfl, rfl⟩ := hr
      have gS : (s.heap.push (sob (ldr w))).get? s.heap.objs.size=some (sob (ldr w)) := yk _ rfl
      have hT : Shared.TypeIs { s with heap := s.heap.push (sob (ldr w)) } (.ref s.heap.objs.size) "set" := ⟨_, gS, rfl⟩
      have x4 := F.called_set.init.lookup
      have x5 := F.called_set.init.bind (.ref s.heap.objs.size)
      repeat (any_goals (first | assumption | wp_step))
      refine Bg (codeAny_call_builtin (R := wants (fun r s2 => r = .none ∧ ∃ h' tk, s2={ s with heap := h', toks := tk } ∧ i3 prog w h' s.heap.objs.size (ddp val its.size) ∧ (∀ b o, b < s.heap.objs.size → s.heap.get? b=some o → h'.get? b=some o)) E) F.called_set.init.plain F.entry_set_init (check_set_init_1 hT ?_)) fun r2 s2 hr2 => ?_
      · obtain ⟨⟨oc, od, odt, osl⟩, gl, hc, nl, hd⟩ := hl
        simp only at hc hd
        subst hc;subst hd
        have gl' : (s.heap.push (sob (ldr w))).get? l=some { cls := .type "list", dict := od, data := .seq its nl, slots := osl } := x8 _ gl
        have y1 := F.sub_list_set
        have y2 := F.sub_list_frozenset
        have y3 : (Value.type "list" == Value.type "dict")=false := by decide
        have L1 : (s.heap.push (sob (ldr w))).IsList l its := ⟨_, gl', rfl, nl, rfl⟩
        unfold Builtin.«set.__init__» noKeywords Builtin.Frozenset.updateFrom
        generalize hPI : pyIter=PI
        wp_walk
        subst hPI
        refine Bp L1 (fu (wpAny_runValue ?_))
        have llt : l < s.heap.objs.size := yf gl
        have z1 : (s.heap.push (sob (ldr w))).objs.size=s.heap.objs.size+1 := zq ..
        have nI : l≠(s.heap.push (sob (ldr w))).objs.size := by rw [z1];exact yH (Bx llt)
        have nf : s.heap.objs.size∉[(s.heap.push (sob (ldr w))).objs.size, l] := by
          rw [z1];simp only [yB, ym, yO, z0, not_or]
          exact ⟨yH (AJ _), Az llt⟩
        refine xN ((Walks.list (by simp [hh]) _ l nI its).toS) s.heap.objs.size nf val hval hb (its.size - 0) 0 _ (by omega) (zb _) ⟨⟨_, yk _ rfl, rfl, rfl⟩, L1.push _⟩ ?s0 ?rr
        case s0 => exact ⟨_, #[], 0, _, x8 _ gS, ⟨rfl, rfl, rfl⟩, rfl, fun e he => by simp at he, fun k => by simp [ddp], by decide, by rfl, rfl, fun q => absurd rfl q, rfl⟩
        case rr =>
          intro s' mv hS'
          obtain ⟨h', g', d', tk', os'⟩ := s'
          obtain rfl : g'=s.gens := mv.gens
          obtain rfl : d'=s.drawn := mv.drawn
          obtain rfl : os'=s.os := mv.os
          show wpAny _ _ _ _ _ _
          refine yn ?_
          show wpAny _ _ (ret Value.none) _ _ _
          refine yn ⟨rfl, h', tk', rfl, hS', fun b o hlt e => mv.heap b o ?_ (x8 _ (x8 _ e))⟩
          simp only [yB, ym, yO, z0, not_or]
          exact ⟨yH hlt, by rw [z1];exact yH (Bx hlt)⟩
      · cases r2 with
        | error e => exact hr2
        | ok fl2 =>
          cases fl2 with
          | ret r =>
            obtain ⟨rfl, h', tk, rfl, hS', hk'⟩ := hr2
            repeat (any_goals (first | assumption | wp_step))
            exact h _ _ hS' hk'
          | _ => exact hr2.elim
    | _ => exact hr.elim
end
end PySem
namespace PySem
open Sem (wp)
section
variable {prog : Program} {w : World} {A : Around} {E : Value → Shared → Prop} {s : Shared}
end
end PySem
namespace PySem
open Sem (wp)
section
variable {prog : Program} {w : World} {A : Around} {E : Value → Shared → Prop} {s : Shared}
end
end PySem
namespace PySem
open Sem (wp)
section
variable {prog : Program} {w : World} {A : Around} {E : Value → Shared → Prop} {s : Shared}
end
end PySem
namespace Ts
open PySem PyProof.Rows
section
variable {prog : Program} {w : World} {A : Around} {E : Value → Shared → Prop} {s : Shared} {κ : KeyKind}
end
end Ts
namespace Ts
open PySem PyProof.Rows
end Ts
namespace Ts
open PySem PyProof.Rows
variable {κ : KeyKind}
end Ts
namespace Ts
open PySem PyProof.Rows
section
variable {prog : Program} {w : World} {A : Around} {E : Value → Shared → Prop} {s : Shared} {κ : KeyKind}
end
end Ts
namespace Ts
open PySem PyProof.Rows
variable {κ : KeyKind}
section
variable {prog : Program} {w : World} {A : Around} {E : Value → Shared → Prop} {s : Shared}
end
end Ts
namespace Ts
open PySem PyProof.Rows
variable {κ : KeyKind}
section
variable {prog : Program} {w : World} {A : Around} {E : Value → Shared → Prop} {s : Shared}
end
end Ts
namespace Ts
open PySem PyProof.Rows
variable {κ : KeyKind}
section
variable {prog : Program} {w : World} {A : Around} {E : Value → Shared → Prop} {s : Shared}
end
end Ts
namespace Ts
open PySem PyProof.Rows
variable {κ : KeyKind}
section
variable {prog : Program} {w : World} {A : Around} {E : Value → Shared → Prop} {s : Shared}
end
end Ts
namespace Ts
open PySem PyProof.Rows
variable {κ : KeyKind}
section
variable {prog : Program} {w : World} {A : Around} {E : Value → Shared → Prop} {s : Shared}
end
end Ts
namespace Ts
open PySem PyProof.Rows
variable {κ : KeyKind}
section
variable {prog : Program} {w : World} {A : Around} {E : Value → Shared → Prop} {s : Shared}
end
end Ts
namespace L2
open PySem PySem.Spec PyProof.Rows
theorem fG (val : Nat → Str) : ∀ i, (ddp val i).Nodup
  | 0 => by unfold ddp;exact Ay
  | i+1 => by
    unfold ddp
    split
    · exact fG val i
    · rename_i h
      exact zI.mpr ⟨fG val i, yt.mpr ⟨yO, Ay⟩, fun a ha b hb e => h (by rw [ym] at hb;subst hb;subst e;exact ha)⟩
theorem nK (val : Nat → Str)(z : Str) : ∀ i, z∈ddp val i ↔ ∃ j, j < i ∧ val j=z
  | 0 => by unfold ddp;simp
  | i+1 => by
    have ih := nK val z i
    unfold ddp
    split
    · rename_i h
      rw [ih]
      constructor
      · rintro ⟨j, hj, e⟩;exact ⟨j, by omega, e⟩
      · rintro ⟨j, hj, e⟩
        by_cases q : j=i
        · subst q
          rw [← e]
          rw [e] at h ⊢
          exact ih.mp h
        · exact ⟨j, by omega, e⟩
    · rw [yJ, ih, ym]
      constructor
      · rintro (⟨j, hj, e⟩ | e)
        · exact ⟨j, by omega, e⟩
        · exact ⟨i, by omega, e.symm⟩
      · rintro ⟨j, hj, e⟩
        by_cases q : j=i
        · subst q;exact .inr e.symm
        · exact .inl ⟨j, by omega, e⟩
section
variable {prog : Program} {w : World} {A : Around} {E : Value → Shared → Prop} {s : Shared}
end
section
variable {X : Cx}
def StO (P : Program)(w : World)(a : Addr)(dl : List Str) : HO := .ext fun h => i3 P w h a dl
theorem i3.lay {P : Program}{w : World}{H : Hp}{h : Heap}{a : Addr}{dl : List Str}(x : i3 P w h a dl) : bN P w H h a (StO P w a dl) := by
  refine ⟨x, ?_, fun h1 h2 y k => y.at k⟩
  obtain ⟨o, _, _, _, e, _⟩ := x
  exact ⟨o, e⟩
inductive cq (K : PySem.W.Frag)(P : PySem.Program)(w : PySem.World)(xs : List V)(H : Hp)(Q : VK) : Prop
  | mk : ∀ (l : Addr) (ys : List Str), (xs=[.ref l]) → (SqL K H l (ys.map V.str)) → (ys.length≤4000) → (∀ (p : Addr) (dl : List Str), H p=none → dl.Nodup → (∀ z, z∈dl ↔ z∈ys) → Q (.ref p) (upd H p (StO P w p dl))) → cq K P w xs H Q
theorem fQ (hc : X.calm=true) : dw X (.type "set") (cq X.K X.prog X.w) := by
  intro pins s σ H xs us Q I r h
  obtain ⟨l, ys, rfl, hq, hz, q⟩ := h
  obtain ⟨u, rfl, ru⟩ := cV r
  cases ru
  obtain ⟨its, rv, pl, _⟩ := I.list hq
  have hlen : its.length=ys.length := by rw [← rv.length, x9]
  have hat : ∀ (i : Nat) (v : Value), its.toArray[i]? = some v → ∃ t, v = .str (ys.getD i ⟨#[]⟩) t := fun i v e => by
    rw [AC] at e
    have hi : i < ys.length := by
      have := (ya.mp e).1
      omega
    obtain ⟨u, eu, t, rfl⟩ := rv.get (i := i) (x := .str ys[i]) (by rw [yp, yc hi];rfl)
    rw [e] at eu
    cases eu
    exact ⟨t, by rw [yj, yc hi];rfl⟩
  refine nJ (I.ok.hd hc) pl.isList hat (by rw [yg, hlen];show _ < 4096;omega) fun h' tk hS k => ?_
  refine ⟨.ref s.heap.objs.size, _, I.laid (fun b o e => k b o (yf e) e) (yb _) (i3.lay hS), rfl, q _ _ (I.hok.fresh (yb _)) (fG _ _) fun z => ?_⟩
  rw [nK, yg, hlen]
  constructor
  · rintro ⟨j, hj, rfl⟩
    rw [yj, yc hj]
    exact AL _
  · intro hm
    obtain ⟨j, hj, e⟩ := AO.mp hm
    exact ⟨j, hj, by rw [yj, yc hj];exact e⟩
end
section
variable {prog : Program} {w : World} {A : Around} {E : Value → Shared → Prop} {s : Shared}
end
section
variable {X : Cx}
end
end L2
namespace Wd
open PySem L2
def lcp : List L → List L → List L
  | x::u, y::v => if x=y then x::lcp u v else []
  | _, _ => []
def xO (t o : List L) : Bool := decide (o≠t) && decide (t.length≤6*(lcp t o).length)
end Wd
namespace Kx
open PySem PySem.Spec PyProof.Rows L2 Wd
theorem jR : bootBuiltins "enumerate" = some (.type "enumerate") := by kernel_rfl
theorem nl : ¬ ("letter" : Str) = "number" := by decide +kernel
theorem nt : ¬ ("turn" : Str) = "number" := by decide +kernel
theorem tl : ¬ ("turn" : Str) = "letter" := by decide +kernel
end Kx
namespace Kx
open PySem PySem.Spec PyProof.Rows L2 Wd
end Kx
namespace Wd
open PySem L2
end Wd
namespace Kx
open PySem L2 Wd
end Kx
namespace PySem
open Sem (wp)
section
variable {prog : Program} {w : World} {A : Around} {E : Value → Shared → Prop} {s : Shared} {z TI TO i1 i2 : Addr} {x y : Str} {t u : Tok} {k c d : Nat} {a b : Value}
end
end PySem
namespace L2
open PySem PySem.Spec PyProof.Rows
section
variable {X : Cx}
end
end L2
namespace PySem
end PySem
namespace L2
open PySem PySem.Spec PyProof.Rows Wd
section
variable {X : Cx}
end
end L2
namespace HT
open PySem PySem.Spec PyProof.Rows
section
variable {prog : Program} {w : World} {A : Around} {E : Value → Shared → Prop} {s : Shared}
end
end HT
namespace L2
open PySem PySem.Spec PyProof.Rows Wd
section
variable {X : Cx}
end
end L2
namespace L2
open PySem PySem.Spec PyProof.Rows Wd
section
variable {X : Cx}
end
end L2
namespace HT
open PySem PySem.Spec PyProof.Rows PySem.SeqAt
end HT
namespace L2
open PySem PySem.Spec PyProof.Rows Wd
section
variable {X : Cx}
end
end L2
namespace Wd
def stp (t : List (List Nat))(s : Nat)(x : L) : Nat := if x.val < 6 then (t.getD x.val []).getD s 0 else (t.getD (x.val - 6) []).idxOf s
end Wd
namespace Kx
open PySem PySem.Spec PyProof.Rows L2 Wd
def whV : V → Bool
  | .int _ => true
  | _ => false
inductive Wh (K : PySem.W.Frag)(H : Hp) : V → Prop
  | mk {x : V} {n : String} {b1 b2 : Bool} (ty : j3 K H x (.type n)) (e1 : PySem.W.kitOne K (.type n) (.type "int")=some b1) (e2 : PySem.W.kitOne K (.type n) (.type "bool")=some b2) (h : whV x=(b1 && !b2)) : Wh K H x
inductive Cp (K : PySem.W.Frag)(H : Hp) : V → Option (Int × Int) → Prop
  | cap {a : Addr} {i j : Int} (h : H a=some (.tup [.int i, .int j])) : Cp K H (.ref a) (some (i, j))
  | tup {a : Addr} {xs : List V} (h : H a=some (.tup xs)) (hx : ∀ y∈xs, Wh K H y) (hl : xs.length≤400) (ne : ¬ (xs.length=2 ∧ xs.all whV=true)) : Cp K H (.ref a) none
  | oth {x : V} {n : String} (ty : j3 K H x (.type n)) (e : PySem.W.kitOne K (.type n) (.type "tuple")=some false) : Cp K H x none
inductive Cs (K : PySem.W.Frag)(H : Hp) : V → Option (List (Option (Int × Int))) → Prop
  | tup {a : Addr} {xs : List V} {cs : List (Option (Int × Int))} (h : H a=some (.tup xs)) (hx : ∀ (i : Nat) (x : V), xs[i]? = some x → ∃ c, cs[i]? = some c ∧ Cp K H x c) (hl : xs.length≤400) (hc : cs.length=xs.length) : Cs K H (.ref a) (some cs)
  | oth {x : V} {n : String} (ty : j3 K H x (.type n)) (e : PySem.W.kitOne K (.type n) (.type "tuple")=some false) : Cs K H x none
def fst (c : Option (Int × Int)) : Int := match c with | some (i, _) => i | none => 0
end Kx
namespace Kx
open PySem PySem.Spec PyProof.Rows L2 Wd
end Kx
namespace Kx
open PySem PySem.Spec PyProof.Rows L2 Wd
def iv (r : List Nat) : List V := r.map fun i : Nat => V.int (i : Int)
end Kx
namespace Kx
open PySem PySem.Spec PyProof.Rows L2 Wd
theorem wC : bootBuiltins "set" = some (.type "set") := by kernel_rfl
theorem rY {H : Hp}{d l : Addr}{o : HO}{W : List (List L)}(F : Fd H d)(h : H l=some (.lst (W.map tx)))(n : l≠d) : Fd (L2.upd H l o) d := by
  obtain ⟨c, i, ll, t, ns, h1, h2, h3, h4⟩ := F.ex
  have hc : c≠l := fun e => by
    subst e
    rw [h2] at h
    have h := HO.lst.inj (yh h)
    cases ns with
    | nil => exact h3 rfl
    | cons a ns =>
      cases W with
      | nil => cases h
      | cons w W => cases (y_ h).1
  exact ⟨c, i, ll, t, ns, by rw [av n.symm];exact h1, by rw [av hc];exact h2, h3, h4⟩
end Kx
namespace L2
open PySem PySem.Spec PyProof.Rows
section
variable {M : Model} {A : Around} {E : Value → Shared → Prop} {s : Shared}
end
end L2
namespace L2
open PySem PySem.Spec PyProof.Rows
def exo (a C : Addr)(d : Option Addr)(b : Bool) : Heap → Prop := fun h =>
  ∃ oe vs, h.get? a=some oe ∧ oe.cls = .ref C ∧ oe.dict=d ∧ oe.data = .fields vs ∧ vs.size=6 ∧ (b=true → vs[1]? = some .none)
abbrev Exo (a C : Addr)(d : Option Addr)(b : Bool) : HO := .ext (exo a C d b)
section
variable {P : Program} {w : World} {H : Hp} {h h' : Heap} {fs : List Addr} {e C : Addr} {d : Option Addr} {b : Bool} {fl : Value}
end
section
variable {P : Program} {w : World} {K : PySem.W.Frag} {mg : Str → Option Value} {base : Heap} {N : List Str} {qual : Str} {scope : Scope} {f : Addr} {cd : Value} {A : Around} {outer : List Env} {s : Shared} {H : Hp} {E : XK}
end
end L2
namespace L2
open PySem PySem.Spec PyProof.Rows
section
variable {prog : Program} {w : World} {A : Around} {E : Value → Shared → Prop} {h : Heap} {g : Array GenState} {d : Drawn} {t : Nat} {os : OsState} {K : PySem.W.Frag} {C fI : Addr} {bm : List Value}
end
section
variable {X : Cx} {k : Nat} {f C : Addr} {fd : FuncData} {ps : List Str} {sp : Sp} {x : Str} {p pos : Pos} {e : Expr} {es : List Expr} {t : TA} {bm : List Value}
end
end L2
namespace L2
open PySem PySem.Spec PyProof.Rows Builtin Builtin.ObjectAttr
section
variable {prog : Program} {w : World} {A : Around} {E : Value → Shared → Prop} {h : Heap} {g : Array GenState} {d : Drawn} {t : Nat} {os : OsState} {K : PySem.W.Frag} {C e : Addr} {bm : List Value} {oe : Obj} {vs : Array Value}
section
variable {name : Str} {v : Value} {mA : Str → Option Value}
end
end
end L2
namespace L2
open PySem PySem.Spec PyProof.Rows
def xdt (d : Addr)(fs : List (Str × V)) : Heap → Prop := fun h => ∃ mA, h.Ns1 d mA ∧ (∀ f, lJ (fs.lookup f) (mA f)) ∧ PySem.Within mA (fs.map (·.1))
abbrev Xdt (d : Addr)(fs : List (Str × V)) : HO := .ext (xdt d fs)
section
variable {X : Cx} {pins : List (Addr × Obj)} {σ : St} {H : Hp} {s : Shared} {A : Around} {E : Value → Shared → Prop} {a C : Addr} {b : Bool} {f : Str} {y : V} {u : Value} {Q : Unit → Shared → Prop}
end
section
variable {X : Cx} {o e value : Expr} {es : List Expr} {f x : Str} {p pos pos' apos : Pos} {ta tv te : TE} {t : TA} {R : Addr} {E : XK}
end
end L2
namespace L2
open PySem PySem.Spec PyProof.Rows
section
variable {prog : Program} {w : World} {A : Around} {E : Value → Shared → Prop} {s : Shared} {K : PySem.W.Frag} {C a : Addr} {bm : List Value} {oe : Obj} {od : Option Obj} {name : Str} {fill expr : Bool} {tk : Tok}
end
section
variable {X : Cx} {pins : List (Addr × Obj)} {σ : St} {H : Hp} {s : Shared} {A : Around} {E : Value → Shared → Prop} {a C dx : Addr} {b : Bool} {fs : List (Str × V)} {f : Str} {v : V}
end
section
variable {X : Cx} {e : Expr} {f : Str} {pos : Pos} {ta : TE}
end
end L2
namespace L2
open PySem PySem.Spec PyProof.Rows
section
variable {X : Cx} {pins : List (Addr × Obj)} {σ : St} {H : Hp} {s : Shared}
end
section
variable {M : Model} {A : Around} {E : Value → Shared → Prop} {s : Shared}
end
end L2
namespace L2
open PySem PySem.Spec PyProof.Rows
section
variable {X : Cx} {E : XK} {x : Str} {ps : List Str} {k j : Nat} {sp : Sp} {e a b : Expr} {es : List Expr} {t : TA} {te tb : TE} {tt : TT} {p pos pos' : Pos}
end
end L2
namespace L2
open PySem PySem.Spec PyProof.Rows
section
variable {K : PySem.W.Frag} {C R N : Addr} {dd d0 : Option Addr} {c0 oc : Value} {cd cdR : ClassData} {k0 k1 k2 k3 k5 : Option Value} {sl sl' : Array (Option Value)} {es : Array DictEntry} {n : Nat} {bm bm' : List Value}
end
end L2
namespace L2
open PySem PySem.Spec PyProof.Rows
section
variable {X : Cx} {x : Str} {C : Addr} {names : List Str} {k j : Nat} {e : Expr} {es : List Expr} {t : TA} {p pos : Pos}
end
section
variable {K : PySem.W.Frag} {C dx a : Addr} {b : Bool} {H : Hp}
end
section
variable {X : Cx} {K : PySem.W.Frag} {e : Expr} {f : Str} {pos : Pos} {ta : TE}
end
end L2
namespace L2
open PySem PySem.Spec PyProof.Rows
section
variable {X : Cx} {E : XK} {e a b c : Expr} {te ta tb : TE} {tA : TT} {pos : Pos}
end
end L2
namespace Kx
open PySem PySem.Spec PyProof.Rows L2 Wd
end Kx
namespace L2
open PySem PySem.Spec PyProof.Rows Wd
section
variable {X : Cx}
end
end L2
namespace Kx
open PySem PySem.Spec PyProof.Rows L2 Wd
def oL (o : Option (List L)) : List V := o.toList.map tx
end Kx
namespace Kx
open PySem PySem.Spec PyProof.Rows L2 Wd
theorem dq {n : Nat}(h : n≤16777216) : n≤sizeLine := by rw [aT]; exact h
theorem vx {t u : TS}{D : jj}{σ : L2.St}{H : Hp}(h : u D σ H) : jv t u D σ false H := lF h
theorem wD {u : TT}{σ : L2.St}{Q : Bool → Hp → Prop}{H : Hp}(h : u σ H Q) : lM u σ Q false H := lF h
end Kx
namespace L2
open PySem PySem.Spec PyProof.Rows Wd
end L2
namespace Kx
open PySem PySem.Spec PyProof.Rows L2 Wd
theorem xW {t u : TS}{D : jj}{σ : L2.St}{H : Hp}(h : t D σ H) : jv t u D σ true H := ud h
theorem xX {u : TT}{σ : L2.St}{Q : Bool → Hp → Prop}{H : Hp}(h : Q true H) : lM u σ Q true H := ud h
theorem xP {u : TT}{σ : L2.St}{Q : Bool → Hp → Prop}{H : Hp}(h : u σ H Q) : ju u σ Q true H := ud h
theorem xQ {u : TT}{σ : L2.St}{Q : Bool → Hp → Prop}{H : Hp}(h : Q false H) : ju u σ Q false H := lF h
theorem xY {ta tb : TE}{σ : L2.St}{Q : VK}{H : Hp}(h : ta σ H Q) : lP ta tb σ Q true H := ud h
theorem xZ {ta tb : TE}{σ : L2.St}{Q : VK}{H : Hp}(h : tb σ H Q) : lP ta tb σ Q false H := lF h
theorem nkT {Q : Bool → Hp → Prop}{H : Hp}(h : Q false H) : lN Q true H := h
def vW : V → List L
  | .str z => (ofS z).getD []
  | _ => []
def xc (u v : List L)(a b : Str) : Option (List V) → Option (Str × Nat)
  | some [x0, x1] => if x0 = .str "alike" ∧ wdV 6 x1=true then (if red (vW x1++u++bk (vW x1))=red v then none else some ("by", 0)) else some ("shape", 0)
  | some [x0, x1, x2] => if x0 = .str "unlike" ∧ wdV 6 x1=true ∧ wdV 6 x2=true then (if x1 ≠ .str a then some ("turn", 0) else if x2 ≠ .str b then some ("turn", 1) else if x1=x2 then some ("turn", 2) else none) else some ("shape", 0)
  | _ => some ("shape", 0)
def x6 : Option (Str × Nat) → PyData
  | none => .bool true
  | some (z, k) => .tuple [.str z, .int (k : Nat)]
theorem vz {u v : List L}{a b : Str} : xc u v a b (some [])=some (("shape" : Str), 0) := rfl
theorem uT {u v : List L}{a b : Str}{x y z t : V}{r : List V} : xc u v a b (some (x::y::z::t::r))=some (("shape" : Str), 0) := rfl
def XP (C : Addr)(H : Hp)(a : Addr)(z : Str)(k : Nat) : Prop := ∃ dx, H a=some (Exo a C (some dx) false) ∧ H dx=some (Xdt dx [("word", .str z), ("at", .int (k : Nat))])
end Kx
namespace Kx
open PySem PySem.Spec PyProof.Rows L2 Wd
inductive fR : List L → List L → List L × List L → Prop where
  | stop (f m : List L) : (∀ x mid, m≠x::(mid++[inv x])) → fR f m (f, m)
  | step (f : List L) (x : L) (mid : List L) (r : List L × List L) : fR (f++[x]) mid r → fR f (x::(mid++[inv x])) r
theorem bM {x : L}{mid : List L} : (x::(mid++[inv x]) : List L).length=mid.length+2 := by simp
theorem nM (x z : L)(mid : List L) : jl (x::(mid++[z])) (some 1) (some (((x::(mid++[z]) : List L).length : Int) - 1))=mid := by
  unfold jl
  have e1 : HT.sIx (x::(mid++[z])).length 0 (some 1)=1 := by
    have q := HT.dj (x::(mid++[z])).length 0 1
    rw [show ((1 : Nat) : Int)=1 from rfl] at q
    rw [q]
    simp
  have e2 : HT.sIx (x::(mid++[z])).length (x::(mid++[z])).length (some (((x::(mid++[z]) : List L).length : Int) - 1))=mid.length+1 := by
    have : (((x::(mid++[z]) : List L).length : Int) - 1)=((mid.length+1 : Nat) : Int) := by
      have : (x::(mid++[z]) : List L).length=mid.length+2 := by simp
      omega
    rw [this, HT.dj]
    simp
  rw [e1, e2]
  simp
theorem rZ (x : L)(r : List L)(h : r≠[]) : ∃ mid z, r=mid++[z] := ⟨r.dropLast, r.getLast h, (y4 h).symm⟩
inductive nN (vs : List V)(H : Hp)(Q : VK)(u3_ : XK) : Prop
  | mk : ∀ w, (vs=[tx w]) → (w.length≤5000) → (∀ (f m : List L) (p : Addr) (H' : Hp), fR [] (red w) (f, m) → f.length+m.length≤5000 → H' p=some (.tup [tx f, tx m]) → aD H H' → Q (.ref p) H') → nN vs H Q u3_
theorem fH (w : List L) : (fx w).length=max 1 w.length := by simp [fx]
inductive fJ (vs : List V)(H : Hp)(Q : VK)(u3_ : XK) : Prop
  | mk : ∀ w, (vs=[tx w]) → (w.length≤5000) → (∀ (m : Str) (H' : Hp), cG m ((fx w).map toS) → aD H H' → Q (.str m) H') → fJ vs H Q u3_
inductive gU (vs : List V)(H : Hp)(Q : VK)(u3_ : XK) : Prop
  | mk : ∀ w, (vs=[tx w]) → (w.length≤5000) → (∀ p : Nat, p≤w.length → cG (toS (w.drop p++w.take p)) ((fx w).map toS) → Q (.int (p : Int)) H) → gU vs H Q u3_
inductive wF (vs : List V)(H : Hp)(Q : VK)(u3_ : XK) : Prop
  | mk : ∀ w, (vs=[tx w]) → (w.length≤5000) → (∀ (m : Str) (f md : List L) (H' : Hp), fR [] (red w) (f, md) → cG m ((fx md).map toS) → aD H H' → Q (.str m) H') → wF vs H Q u3_
inductive r6 (vs : List V)(H : Hp)(Q : VK)(u3_ : XK) : Prop
  | mk : ∀ w, (vs=[tx w]) → (w.length≤5000) → (∀ (f md : List L) (H' : Hp), fR [] (red w) (f, md) → md.length≤w.length → (∀ x∈md, x∈w) → aD H H' → Q (tx md) H') → r6 vs H Q u3_
inductive jS (vs : List V)(H : Hp)(Q : VK)(u3_ : XK) : Prop
  | mk : ∀ (p : Addr) (u : List L) (n b : Nat) (ws : List (List L)), (vs=[.ref p, tx u]) → (ow n b ws H p) → (n≤6) → (InM n u) → (u.length≤5000) → (u.length*b≤5000) → (b≤5000) → (∀ (m : Str) (f md : List L) (H' : Hp), fR [] (red (sub ws u)) (f, md) → cG m ((fx md).map toS) → aD H H' → Q (.str m) H') → jS vs H Q u3_
theorem kD : ∀ {f m : List L} {r : List L × List L}, fR f m r → (∀ x∈r.2, x∈m) ∧ r.1.length+r.2.length≤f.length+m.length ∧ r.2.length≤m.length := by
  intro f m r h
  induction h with
  | stop f m hn => exact ⟨fun x hx => hx, yb _, yb _⟩
  | step f x mid r h ih =>
    obtain ⟨h1, h2, h3⟩ := ih
    rw [x_, yi] at h2
    rw [bM]
    exact ⟨fun y hy => yd _ (yz _ (h1 y hy)), by omega, by omega⟩
theorem nO {f0 x : List L}{r : List L × List L}(h : fR f0 x r) : ∃ g, r.1=f0++g ∧ x=g++r.2++bk g ∧ ∀ y mid, r.2≠y::(mid++[inv y]) := by
  induction h with
  | stop f m hn => exact ⟨[], by simp, by simp [bk], hn⟩
  | step f x mid r h ih =>
    obtain ⟨g, h1, h2, h3⟩ := ih
    refine ⟨x::g, by rw [h1];simp, ?_, h3⟩
    rw [gG, h2]
    simp
theorem gW {x f m : List L}(h : fR [] x (f, m))(hx : Rd x) : x=f++m++bk f ∧ (m≠[] → Rnd m) := by
  obtain ⟨g, h1, h2, h3⟩ := nO h
  have h1 : f=g := h1
  have h2 : x=g++m++bk g := h2
  have h3 : ∀ y mid, m≠y::(mid++[inv y]) := h3
  subst h1
  refine ⟨h2, fun hne => ?_⟩
  rw [h2, aQ, aQ] at hx
  refine ⟨hne, hx.1.2.1, fun a b ha hb => ?_⟩
  cases m with
  | nil => exact absurd rfl hne
  | cons y r =>
    have hb : y=b := yh hb
    subst hb
    by_cases hr : r=[]
    · subst hr
      have ha : y=a := yh ha
      subst ha
      exact fun e => fe _ e.symm
    · obtain ⟨mid, z, hz⟩ := rZ y r hr
      subst hz
      have ha : z=a := by
        rw [Ak] at ha
        simpa using ha
      subst ha
      intro e
      exact h3 y mid (by rw [qD e])
theorem jT : ∀ (n : Nat) (f m : List L), m.length≤n → ∃ r, fR f m r := by
  intro n
  induction n with
  | zero =>
    intro f m h
    have : m=[] := zl (by omega)
    subst this
    exact ⟨_, .stop f [] fun x mid e => by cases e⟩
  | succ n ih =>
    intro f m h
    by_cases c : ∃ x mid, m=x::(mid++[inv x])
    · obtain ⟨x, mid, rfl⟩ := c
      rw [bM] at h
      obtain ⟨r, hr⟩ := ih (f++[x]) mid (by omega)
      exact ⟨r, .step f x mid r hr⟩
    · exact ⟨_, .stop f m fun x mid e => c ⟨x, mid, e⟩⟩
theorem pP {u : List L}(U : Srf u) : (hol u).flatten.length=u.length := (fz U).pm.length_eq
theorem i4 {u : List L}(U : Srf u){w : List L}(hw : w∈hol u) : w≠[] ∧ w.length≤12 := by
  refine ⟨((fz U).cy w hw).ne, ?_⟩
  have h1 := List.Sublist.length_le (Ba hw)
  have h2 := pP U
  have := U.le
  omega
theorem nP : ∀ l : List L, (∀ x y, Adj l x y → y≠inv x) → Rd l
  | [], _ => trivial
  | [_], _ => trivial
  | x::y::r, h => ⟨h x y (.inl ⟨rfl, rfl⟩), nP (y::r) fun a b q => h a b (.inr q)⟩
theorem nQ {u : List L}(U : Srf u){w : List L}(hw : w∈hol u) : Rnd w := by
  have hne := (i4 U hw).1
  cases e : w with
  | nil => exact absurd e hne
  | cons h t =>
    have q : Rd ((h::t)++[h]) := nP _ fun x y a => m5 U hw (by rw [e];exact a)
    obtain ⟨r1, _, j⟩ := (aQ _ _).mp q
    refine ⟨by simp, r1, fun x y hx hy => j x y hx ?_⟩
    exact hy
theorem uU {u : List L}(U : Srf u){w : List L}(c : Cy (Rh u) w)(hw : ∀ x∈w, x∈u) : Rnd w := by
  have hn : ∀ x y, Nx w x y → y≠inv x := fun x y n e => by
    subst e
    exact pB U (U.iv x (hw x (bg n).1)) (c.st x _ n)
  cases e : w with
  | nil => exact absurd e c.ne
  | cons h t =>
    have q : Rd ((h::t)++[h]) := nP _ fun x y a => hn x y (by rw [e];exact a)
    obtain ⟨r1, _, j⟩ := (aQ _ _).mp q
    refine ⟨by simp, r1, fun x y hx hy => j x y hx ?_⟩
    exact hy
theorem nR {a b f m g p : List L}(h1 : fR [] (red a) (f, m))(h2 : fR [] (red b) (g, p))(c : Cj a b) : lw m=lw p := by
  obtain ⟨e1, r1⟩ := gW h1 (fw a)
  obtain ⟨e2, r2⟩ := gW h2 (fw b)
  exact rV ((qE e1 e2 r1 r2).mp c)
theorem nS {a f m w : List L}(h1 : fR [] (red a) (f, m))(c : Cj a w)(hw : Rnd w) : lw m=lw w := by
  obtain ⟨e1, r1⟩ := gW h1 (fw a)
  refine rV ((qE (g := []) (p := w) e1 ?_ r1 (fun _ => hw)).mp c)
  rw [bE hw.rd]
  simp [bk]
theorem eO {m : Str}{w : List L}(h : cG m ((fx w).map toS)) : m=toS (lw w) := (ky h (pN w)).mpr (Rt.refl _)
def mdl (x : List L) : List L := (Classical.choose (jT (red x).length [] (red x) (yb _))).2
theorem kE (x : List L) : ∃ f, fR [] (red x) (f, mdl x) := ⟨(Classical.choose (jT (red x).length [] (red x) (yb _))).1, Classical.choose_spec (jT (red x).length [] (red x) (yb _))⟩
theorem gX {u : List L}(U : Srf u){w : List L}(hw : w∈hol u) : ∀ x∈w, x∈u := fun x hx => (fz U).pm.mem_iff.mp (zc.mpr ⟨w, hw, hx⟩)
theorem qM (w : List L)(x : L) : x∈lw w ↔ x∈w := by
  obtain ⟨v, hv, e⟩ := yE.mp (pN w).1
  have e := cF e
  obtain ⟨a, b, h1, h2⟩ := dn.mpr hv
  rw [← e, h2, h1]
  simp only [yJ]
  exact Or.comm
theorem gh : ∀ {Ws : List (List L)}, (∀ w∈Ws, w≠[]) → Ws.flatten.Nodup → (Ws.map lw).Nodup
  | [], _, _ => Ay
  | w::T, h, nd => by
    rw [yR] at nd
    obtain ⟨n1, n2, n3⟩ := zI.mp nd
    rw [yM]
    refine yt.mpr ⟨fun hm => ?_, gh (fun v hv => h v (yd _ hv)) n2⟩
    obtain ⟨v, hv, e⟩ := yE.mp hm
    obtain ⟨x, hx⟩ := Ab w (h w yA)
    have hx2 : x∈v := (qM v x).mp (by rw [e];exact (qM w x).mpr hx)
    exact n3 x hx x (zc.mpr ⟨v, hv, hx2⟩) rfl
theorem Sl.all {n : Nat}{u v : List L}{k : Nat}{M N : List (List L)}(S : Sl n u v k M N)(U : Srf u)(hu : InM n u) :
    (hol v).length=(hol u).length ∧ (∃ G : List L → List L, ((hol u).map G).Perm ((hol v).map lw) ∧ ((hol u).map G).Nodup ∧ ∀ w∈hol u, ∀ f m, fR [] (red (sub M w)) (f, m) → lw m=G w) ∧
      (∃ G : List L → List L, ((hol v).map G).Perm ((hol u).map lw) ∧ ∀ w∈hol v, ∀ f m, fR [] (red (sub N w)) (f, m) → lw m=G w) ∧ ∀ w∈hol u, red (sub N (red (sub M w)))=w := by
  obtain ⟨F, d, hF⟩ := S.dc
  have V := S.srf
  have dv := fz V
  have fn := uv V
  have rF : ∀ w∈hol u, Rnd (F w) := fun w hw => uU V (d.cy _ (yE.mpr ⟨w, hw, rfl⟩)) fun x hx => d.pm.mem_iff.mp (zc.mpr ⟨F w, yE.mpr ⟨w, hw, rfl⟩, hx⟩)
  have iU : ∀ w∈hol u, InM n w := fun w hw x hx => hu x (gX U hw x hx)
  have back : ∀ w∈hol u, Cj w (sub N (F w)) := fun w hw => ((hF w hw).sub N).eqv (S.id w (iU w hw)) (Eqv.refl _)
  refine ⟨?_, ⟨fun w => lw (F w), ?_, ?_, fun w hw f m c => nS c (hF w hw) (rF w hw)⟩, ⟨fun w => lw (mdl (sub N w)), ?_, fun w hw f m c => ?_⟩, fun w hw => ?_⟩
  · have := uB fn dv d
    rw [x9] at this
    exact this
  · have := kz fn lw (fun a b r => rV r.rt) _ _ v d dv
    rw [y8] at this
    exact this
  · have := gh (fun w hw => (d.cy w hw).ne) (d.nd V.nd)
    rw [y8] at this
    exact this
  · have p := kz fn (fun w => lw (mdl (sub N w))) (fun a b r => by
      obtain ⟨f, h1⟩ := kE (sub N a)
      obtain ⟨g, h2⟩ := kE (sub N b)
      exact nR h1 h2 ((pk r.rt).sub N)) _ _ v dv d
    rw [y8] at p
    refine p.trans (List.Perm.of_eq ?_)
    refine Af fun w hw => ?_
    obtain ⟨f, h1⟩ := kE (sub N (F w))
    exact nS h1 (back w hw).symm (nQ U hw)
  · obtain ⟨g, h2⟩ := kE (sub N w)
    exact nR c h2 (Cj.refl _)
  · rw [bU, show red (sub N (sub M w))=red w from S.id w (iU w hw), bE (nQ U hw).rd]
end Kx
namespace Ts
open PySem PyProof.Rows
end Ts
namespace L2
open PySem PySem.Spec PyProof.Rows Wd Ts
section
variable {prog : Program} {w : World} {A : Around} {E : Value → Shared → Prop} {s : Shared}
end
section
variable {X : Cx}
end
end L2
namespace PySem
open Sem (wp)
section
variable {prog : Program} {w : World} {A : Around} {E : Value → Shared → Prop} {s : Shared}
section
variable {R : Result → Shared → Prop} {I : Addr} {fp wr : List Addr} {G : Array GenState → Array GenState → Prop} {n : Nat} {P : Nat → Value → Prop} {St : Nat → Shared → Prop}
end
end
end PySem
namespace L2
open PySem PySem.Spec PyProof.Rows Wd
section
variable {X : Cx}
end
end L2
namespace L2
open PySem PySem.Spec PyProof.Rows Wd
section
variable {X : Cx}
inductive dM (P : PySem.Program)(w : PySem.World)(xs : List V)(H : Hp)(Q : VK) : Prop
  | mk : ∀ (a : Addr) (dl : List Str), (xs=[.ref a]) → (H a=some (StO P w a dl)) → (Q (.int (dl.length : Int)) H) → dM P w xs H Q
theorem jU : dw X (.builtin "len") (dM X.prog X.w) := by
  intro pins s σ H xs us Q I r h
  obtain ⟨a, dl, rfl, ha, q⟩ := h
  obtain ⟨u, rfl, ru⟩ := cV r
  cases ru
  have hS : i3 X.prog X.w s.heap a dl := (I.hok a _ ha).1
  obtain ⟨o, es, ep, t, ho, hex, hd, hel, hm, hb, hf, hn, hpl, hld⟩ := hS
  have hb : es.size < 4096 := hb
  refine call_len_set ho hex hd hf (by omega) ?_
  rw [hn]
  exact ⟨.int (dl.length : Int), H, (I.tok _).tok _, ⟨_, rfl⟩, q⟩
end
theorem lz (u : List L)(e : L) : Txt.replace (toS u) ⟨#[cp e]⟩ "" = toS (u.filter (fun x => decide (x≠e))) := by
  have h := replace_strikes (toS u) (cp e)
  have e0 : ("" : Str)=⟨#[]⟩ := by decide +kernel
  rw [e0]
  have h2 : (toS (u.filter (fun x => decide (x≠e)))).cps.toList=(toS u).cps.toList.filter (· != cp e) := by
    rw [aV, aV, List.filter_map]
    congr 1
    refine List.filter_congr fun x _ => ?_
    show decide (x≠e)=(cp x != cp e)
    by_cases z : x=e
    · subst z;simp
    · rw [yG z]
      have : cp x≠cp e := fun q => z (mF x e q)
      simp [this]
  have h3 : (Txt.replace (toS u) ⟨#[cp e]⟩ ⟨#[]⟩).cps=(toS (u.filter (fun x => decide (x≠e)))).cps := AK.mp (h.trans h2.symm)
  generalize Txt.replace (toS u) ⟨#[cp e]⟩ ⟨#[]⟩=z at h3
  cases z
  cases hh : toS (u.filter (fun x => decide (x≠e)))
  rw [hh] at h3
  exact yW Str.mk h3
end L2
namespace Kx
open PySem PySem.Spec PyProof.Rows L2 Wd
def stp (v : List L)(s : Nat × Int) : List L := match v[s.1]? with
  | some e => sld v e (inv (farOf v s.1 s.2)) (decide (s.2=1))
  | none => v
theorem nU {v : List L}{i : Nat}{sd : Int}{e : L}(h : v[i]? = some e) : stp v (i, sd)=sld v e (inv (farOf v i sd)) (decide (sd=1)) := by
  unfold stp
  rw [h]
def OkS (v : List L)(s : Nat × Int) : Prop := ∃ e, v[s.1]? = some e ∧ (s.2=1 ∨ s.2 = -1) ∧ farOf v s.1 s.2≠inv e
def lG (u : List L)(ss : List (Nat × Int)) : Prop := ∀ k s, ss[k]? = some s → OkS ((ss.take k).foldl stp u) s
theorem lG.nil (u : List L) : lG u [] := fun k s h => by simp at h
theorem lG.snoc {u : List L}{ss : List (Nat × Int)}(h : lG u ss){s : Nat × Int}(o : OkS (ss.foldl stp u) s) : lG u (ss++[s]) := fun k t ht => by
  by_cases hk : k < ss.length
  · rw [yU hk] at ht
    rw [AM (by omega)]
    exact h k t ht
  · have : k=ss.length := by
      have := (ya.mp ht).1
      rw [x_, yi] at this
      omega
    subst this
    rw [yF (yb _), AD] at ht
    cases ht
    rw [AM (yb _), yT]
    exact o
structure jm (H : Hp) (ps : List Addr) (ss : List (Nat × Int)) : Prop where
  len : ps.length=ss.length
  at_ : ∀ (k : Nat) (s : Nat × Int), ss[k]? = some s → ∃ p, ps[k]? = some p ∧ H p=some (.tup [.int (s.1 : Int), .int s.2])
theorem jm.nil (H : Hp) : jm H [] [] := ⟨rfl, fun k s h => by simp at h⟩
theorem jm.to {H H' : Hp}{ps : List Addr}{ss : List (Nat × Int)}(h : jm H ps ss)(k : ∀ b xs, H b=some (.tup xs) → H' b=some (.tup xs)) : jm H' ps ss := ⟨h.len, fun j s e => by
  obtain ⟨p, h1, h2⟩ := h.at_ j s e
  exact ⟨p, h1, k _ _ h2⟩⟩
theorem jm.same {H H' : Hp}{ps : List Addr}{ss : List (Nat × Int)}(h : jm H ps ss)(s : aD H H') : jm H' ps ss := h.to fun b xs e => s _ _ e
theorem jm.snoc {H : Hp}{ps : List Addr}{ss : List (Nat × Int)}(h : jm H ps ss){p : Addr}{s : Nat × Int}(e : H p=some (.tup [.int (s.1 : Int), .int s.2])) : jm H (ps++[p]) (ss++[s]) := ⟨by rw [x_, x_, h.len]; rfl, fun k t ht => by
  by_cases hk : k < ss.length
  · rw [yU hk] at ht
    obtain ⟨p', h1, h2⟩ := h.at_ k t ht
    exact ⟨p', by rw [yU (by rw [h.len];exact hk)];exact h1, h2⟩
  · have : k=ss.length := by
      have := (ya.mp ht).1
      rw [x_, yi] at this
      omega
    subst this
    rw [yF (yb _), AD] at ht
    cases ht
    exact ⟨p, by rw [← h.len, yF (yb _), AD];rfl, e⟩⟩
theorem uV {n : Nat}{u : List L}(h2 : 2≤n)(h6 : n≤6)(R : jL n u)(U : Srf u){ss : List (Nat × Int)}(V : lG u ss) : ∀ k, k≤ss.length → ∃ M N, Sl n u ((ss.take k).foldl stp u) k M N := by
  intro k
  induction k with
  | zero => intro _;exact ⟨_, _, Sl.start h6 R U⟩
  | succ k ih =>
    intro hk
    obtain ⟨M, N, S⟩ := ih (by omega)
    have g : ss[k]? = some ss[k] := yc (by omega)
    obtain ⟨e, he, hs, hc⟩ := V k _ g
    have := S.on h2 h6 he hs hc
    rw [ze, g, Option.toList_some, Au]
    show ∃ M N, Sl n u (stp _ (ss[k])) (k+1) M N
    rw [nU he]
    exact ⟨_, _, this⟩
theorem uW {n : Nat}{u : List L}(h2 : 2≤n)(h6 : n≤6)(R : jL n u)(U : Srf u){ss : List (Nat × Int)}(V : lG u ss) : jL n (ss.foldl stp u) ∧ Srf (ss.foldl stp u) := by
  obtain ⟨M, N, S⟩ := uV h2 h6 R U V ss.length (yb _)
  rw [yT] at S
  exact ⟨S.row, S.srf⟩
inductive jV (vs : List V)(H : Hp)(Q : VK)(u3_ : XK) : Prop
  | mk : ∀ (d : Addr) (n : Nat), (vs=[.ref d, .int (n : Int)]) → (Fd H d) → (1≤n) → (n≤6) → (∀ (u : List L) (H' : Hp), jL n u → (∀ x : L, x.val % 6 < n → x∈u) → Fd H' d → bG d H H' → Q (tx u) H') → jV vs H Q u3_
inductive nV (vs : List V)(H : Hp)(Q : VK)(u3_ : XK) : Prop
  | mk : ∀ (u : List L) (i : Nat) (sd : Int) (e : L), (vs=[tx u, .int (i : Int), .int sd]) → (u.length≤12) → (u[i]? = some e) → ((∀ H', aD H H' → farOf u i sd=inv e → Q .non H')) → ((∀ (H' : Hp), aD H H' → farOf u i sd≠inv e → Q (tx (sld u e (inv (farOf u i sd)) (decide (sd=1)))) H')) → nV vs H Q u3_
inductive jW (vs : List V)(H : Hp)(Q : VK)(u3_ : XK) : Prop
  | mk : ∀ (u : List L) (t : Addr) (i : Nat) (sd : Int) (e : L), (vs=[tx u, .ref t]) → (H t=some (.tup [.int (i : Int), .int sd])) → (u.Nodup) → (u.length≤12) → (inv (farOf u i sd)∈u) → (u[i]? = some e) → (farOf u i sd≠inv e) → (∀ (H' : Hp), aD H H' → Q (tx (sld u e (inv (farOf u i sd)) (decide (sd=1)))) H') → jW vs H Q u3_
inductive nW (vs : List V)(H : Hp)(Q : VK)(u3_ : XK) : Prop
  | mk : ∀ (u : List L) (t : Addr) (n : Nat) (ss : List (Nat × Int)) (ps : List Addr), (vs=[tx u, .ref t]) → (H t=some (.tup (ps.map V.ref))) → (jm H ps ss) → (jL n u) → (Srf u) → (2≤n) → (n≤6) → (lG u ss) → (ss.length≤8) → (∀ (r a b : Addr) (v : List L) (M N : List (List L)) (H' : Hp), H r=none → aD H H' → H' r=some (.tup [tx v, .ref a, .ref b]) → H' a=some (.tup (M.map tx)) → H' b=some (.tup (N.map tx)) → Sl n u v ss.length M N → Q (.ref r) H') → nW vs H Q u3_
inductive gY (vs : List V)(H : Hp)(Q : VK)(u3_ : XK) : Prop
  | mk : ∀ (d : Addr) (u : List L) (n : Nat), (vs=[.ref d, tx u, .int 8]) → (Fd H d) → (jL n u) → (Srf u) → (2≤n) → (n≤6) → (∀ (r a b : Addr) (ss : List (Nat × Int)) (ps : List Addr) (H' : Hp), Fd H' d → bG d H H' → H' r=some (.tup [.ref a, .ref b]) → H' a=some (.lst (ps.map V.ref)) → jm H' ps ss → lG u ss → ss.length≤8 → Q (.ref r) H') → gY vs H Q u3_
inductive gZ (vs : List V)(H : Hp)(Q : VK)(u3_ : XK) : Prop
  | mk : ∀ (u : List L) (a : Addr) (n : Nat) (ss : List (Nat × Int)) (ps : List Addr), (vs=[tx u, .ref a]) → (H a=some (.lst (ps.map V.ref))) → (jm H ps ss) → (jL n u) → (Srf u) → (2≤n) → (n≤6) → (lG u ss) → (ss.length≤8) → (∀ (H' : Hp), aD H H' → Q (.bl true) H') → gZ vs H Q u3_
inductive kF (vs : List V)(H : Hp)(Q : VK)(u3_ : XK) : Prop
  | mk : ∀ w, (vs=[tx w]) → (w.length≤1000000) → (∀ H', aD H H' → Q (tx (red w)) H') → kF vs H Q u3_
inductive dN (vs : List V)(H : Hp)(Q : VK)(u3_ : XK) : Prop
  | mk : ∀ (p : Addr) (u : List L) (n b : Nat) (ws : List (List L)), (vs=[.ref p, tx u]) → (ow n b ws H p) → (n≤6) → (InM n u) → (u.length≤1000000) → (u.length*b≤1000000) → (b≤5000) → (∀ H', aD H H' → Q (tx (red (sub ws u))) H') → dN vs H Q u3_
theorem r9 {P : Program}{w : World}{K : PySem.W.Frag}{mg : Str → Option Value}{base : Heap}{x : Str}{ps : List Str}{k : Nat}(h : Fnc P w K mg base x ps k kF) : Fnc P w K mg base x ps k mO := by
  obtain ⟨f, fd, h1, h2, h3, h4⟩ := h.ex
  refine ⟨f, fd, h1, h2, h3, h4.imp fun vs H Q E q => ?_⟩
  obtain ⟨w, e, a, k⟩ := q
  exact ⟨w, e, by omega, k⟩
theorem nX {P : Program}{w : World}{K : PySem.W.Frag}{mg : Str → Option Value}{base : Heap}{x : Str}{ps : List Str}{k : Nat}(h : Fnc P w K mg base x ps k dN) : Fnc P w K mg base x ps k eM := by
  obtain ⟨f, fd, h1, h2, h3, h4⟩ := h.ex
  refine ⟨f, fd, h1, h2, h3, h4.imp fun vs H Q E q => ?_⟩
  obtain ⟨p, u, n, b, ws, e, M, a1, a2, a3, a4, a5, k⟩ := q
  exact ⟨p, u, n, b, ws, e, M, a1, a2, by omega, by omega, a5, k⟩
end Kx
namespace Kx
open PySem PySem.Spec PyProof.Rows L2 Wd
def top (i : Nat) : Stmt := PySem.Challenge.pw_ringwords_k65_whole_holes_go_over.main.body.getD i (.Pass ⟨0, 0, 0, 0⟩)
theorem jo {α : Type}{us : List α}(h : us.length=1) : ∃ a0, us=[a0] := by
  cases us with
  | nil => cases h
  | cons a0 us =>
    cases us with
    | nil => exact ⟨a0, rfl⟩
    | cons b us => cases h
theorem nY {α : Type}{us : List α}(h : us.length=2) : ∃ a0 a1, us=[a0, a1] := by
  cases us with
  | nil => cases h
  | cons a0 us =>
    cases us with
    | nil => cases h
    | cons a1 us =>
      cases us with
      | nil => exact ⟨a0, a1, rfl⟩
      | cons b us => cases h
theorem vA {α : Type}{us : List α}(h : us.length=3) : ∃ a0 a1 a2, us=[a0, a1, a2] := by
  cases us with
  | nil => cases h
  | cons a0 us =>
    cases us with
    | nil => cases h
    | cons a1 us =>
      cases us with
      | nil => cases h
      | cons a2 us =>
        cases us with
        | nil => exact ⟨a0, a1, a2, rfl⟩
        | cons b us => cases h
end Kx
namespace Kx
open PySem PySem.Spec PyProof.Rows L2 Wd
section
variable {P : Program} {w : World} {K : PySem.W.Frag} {mg : Str → Option Value} {base : Heap} {aB : Addr}
abbrev i5 : Stmt := top 33
theorem r_ : aG ["_law_feed_here", "_law_many", "_law_cell", "_law_mixed", "_law_found"] ["_law_feed_here", "_law_many"] (ai i5) := ⟨rfl, rfl, rfl, by decide +kernel, rfl, by decide +kernel, by decide +kernel⟩
theorem uX (D : Df K mg "_law_draw" i5)(T : Bt K w mg aB) : Fnc P w K mg base "_law_draw" ["_law_feed_here", "_law_many"] 1 iG := by
  have sc := r_
  refine D.ok sc (fun _ _ _ _ _ _ us hl => by obtain ⟨_, _, rfl⟩ := nY hl;rfl) (fun vs H Q E h => ?_) (fun f cdv A outer s H vs Q E hr h => ?_)
  · obtain ⟨d, m, rfl, _⟩ := h
    rfl
  · obtain ⟨d, m, rfl, F, m0, m1, k⟩ := h
    have hu := kQ hr
    refine ⟨_, (@ag _ _ _ _ _ (@cD _ _ _ _ _ _ _ _ _ hu (pv 0) aN (@aH _ _ _ _ _ _ _ _ bw (@bP _ _ _ _ _ _ hu (pv 0) aN (fun _ _ => rfl)) aq) rfl) (@ag _ _ _ _ _ (@b0 _ _ _ _ _ _ _ _ (@aL _ _ _ _ _ _ _ _ dW (@bP _ _ _ _ _ _ hu (pv 0) aN (fun _ _ => rfl)) aq (aP _)) (@ag _ _ _ _ _ (@au _ _ (2) _ _ _ _ sc.nd rfl (Or.inl rfl) (@bc _ _ _ _ _ _ _ eZ (@bP _ _ _ _ _ _ hu (pv 0) aN (fun _ _ => rfl)) (@aH _ _ _ _ _ _ _ _ cA (@bP _ _ _ _ _ _ hu (pv 0) aN (fun _ _ => rfl)) (@ar _ _ _ _ _ _ _ _ _ aX (by rfl) T.len yq (@aa _ _ _ _ _ (@bP _ _ _ _ _ _ hu (pv 0) aN (fun _ _ => rfl)) af (by rfl)) (by decide) (by decide) (by rfl) (by rfl))) (fun _ _ => rfl)) (by rfl) (by first | exact .inl rfl | exact .inr rfl | assumption)) (@ag _ _ _ _ _ (@cD _ _ _ _ _ _ _ _ _ hu (pv 0) aN (@aH _ _ _ _ _ _ _ _ bw (@bP _ _ _ _ _ _ hu (pv 0) aN (fun _ _ => rfl)) aq) rfl) (@ag _ _ _ _ _ (@b0 _ _ _ _ _ _ _ _ (@aL _ _ _ _ _ _ _ _ kK (pv 2) (@aH _ _ _ _ _ _ _ _ tJ aq aq) (aP _)) (@ag _ _ _ _ _ (@au _ _ (3) _ _ _ _ sc.nd rfl (Or.inl rfl) (@aH _ _ _ _ _ _ _ _ cA (@aH _ _ _ _ _ _ _ _ eU (@aH _ _ _ _ _ _ _ _ bw (@aH _ _ _ _ _ _ _ _ cA (pv 2) aq) (@aH _ _ _ _ _ _ _ _ eU aq (@bP _ _ _ _ _ _ hu (pv 0) aN (fun _ _ => rfl)))) aq) aq) (by rfl) (by first | exact .inl rfl | exact .inr rfl | assumption)) (@ag _ _ _ _ _ (@au _ _ (3) _ _ _ _ sc.nd rfl (Or.inl rfl) (@aH _ _ _ _ _ _ _ _ cA (@aH _ _ _ _ _ _ _ _ eU (@aH _ _ _ _ _ _ _ _ bw (@aH _ _ _ _ _ _ _ _ dh (pv 3) aq) (@aH _ _ _ _ _ _ _ _ eU aq (@bP _ _ _ _ _ _ hu (pv 0) aN (fun _ _ => rfl)))) aq) aq) (by rfl) (by first | exact .inl rfl | exact .inr rfl | assumption)) (@aj _ _ _ (@aK _ _ _ _ (@aH _ _ _ _ _ _ _ _ cA (@aH _ _ _ _ _ _ _ _ dh (pv 3) aq) (pv 1)))))) bo) (@aj _ _ _ (@cD _ _ _ _ _ _ _ _ _ hu (pv 0) aN (pv 2) rfl))))) bo) (@ag _ _ _ _ _ (@au _ _ (4) _ _ _ _ sc.nd rfl (Or.inl rfl) (@aH _ _ _ _ _ _ _ _ cA (@bP _ _ _ _ _ _ hu (pv 0) aN (fun _ _ => rfl)) (pv 1)) (by rfl) (by first | exact .inl rfl | exact .inr rfl | assumption)) (@ag _ _ _ _ _ (@cD _ _ _ _ _ _ _ _ _ hu (pv 0) aN (@aH _ _ _ _ _ _ _ _ dh (@bP _ _ _ _ _ _ hu (pv 0) aN (fun _ _ => rfl)) (pv 1)) rfl) (@aj _ _ _ (@aK _ _ _ _ (pv 4))))))), ?_⟩
    obtain ⟨c, i, l, t, ns, hd, hc, hne, h64⟩ := F.ex
    have dc : c≠d := kH hc hd (by intro z;cases z)
    have fin : ∀ (r i' l' t' : Int), 0≤r → r < m → Q (.int r) (upd H d (.dK (fkv c i' l' t'))) := fun r i' l' t' h0 h1 =>
      k r _ h0 h1 ⟨c, i', l', t', ns, ah, by rw [av dc];exact hc, hne, h64⟩ bG.upd
    have c1 : ∀ o, (upd H d o) c=some (.lst (ns.map V.int)) := fun o => by rw [av dc];exact hc
    have hl0 : (0 : Int) < ((ns.map V.int).length : Int) := by
      rw [x9]
      have := yw.mpr hne
      omega
    refine ⟨_, rfl, d, _, rfl, dg hd (mJ c i l t), _, _, rfl, rfl, _, rfl, d, _, rfl, dp hd (fg c i l t) (uk c i l t _), ?_⟩
    refine ⟨_, rfl, d, _, rfl, dg ah (iF c i l _), rfl, _, rfl, ?_⟩
    refine jk (fun _ => ?_) (fun _ => ?_)
    rotate_left
    · refine ⟨_, rfl, d, _, rfl, dg ah (iF c _ _ _), _, rfl, _, _, rfl, rfl, m0, ?_⟩
      refine ⟨_, rfl, d, _, rfl, dg ah (iF c _ _ _), _, rfl, _, _, rfl, rfl, ⟨m0, by omega⟩, _, rfl, d, _, rfl, dp ah (fg c _ _ _) (mK c _ _ _ _), ?_⟩
      refine ⟨_, rfl, ?_⟩
      rw [gm]
      exact fin _ _ _ _ (zH _ (by omega)) (zR _ m0)
    obtain ⟨n, hn⟩ := rG hne i
    refine ⟨_, rfl, d, _, rfl, dg ah (mI c i l _), _, rfl, d, _, rfl, dg ah (xa c i l _), _, rfl, d, _, rfl, dg ah (mI c i l _), c, _, rfl, .inl (SqL.of (c1 _)), _, _, rfl, rfl, hl0, c, _, _, _, rfl, rfl, SqL.of (c1 _), hn, ?_⟩
    refine ⟨_, rfl, d, _, rfl, dg ah (xa c i l _), _, _, rfl, rfl, _, rfl, d, _, rfl, dp ah (fg c i l _) (xJ c i l _ _), ?_⟩
    rw [gm]
    refine ⟨_, rfl, _, _, rfl, rfl, ⟨by decide, by decide, by decide⟩, _, _, rfl, rfl, _, rfl, ?_⟩
    refine jk (fun _ => ?_) (fun _ => ?_)
    · refine ⟨_, rfl, _, _, rfl, rfl, (by show (0 : Int) < 2147483629;decide), _, rfl, d, _, rfl, dg ah (mJ c _ l _), _, _, rfl, rfl, .inl ⟨by decide, by decide⟩, _, _, rfl, rfl, _, _, rfl, rfl, .inr ⟨by decide, by decide⟩, _, _, rfl, rfl, (by show (0 : Int) < 2147483647;decide), ?_⟩
      refine ⟨_, rfl, _, _, rfl, rfl, ⟨by decide, by decide⟩, _, rfl, d, _, rfl, dg ah (mJ c _ l _), _, _, rfl, rfl, .inl ⟨by decide, by decide⟩, _, _, rfl, rfl, _, _, rfl, rfl, .inr ⟨by decide, by decide⟩, _, _, rfl, rfl, (by show (0 : Int) < 2147483587;decide), ?_⟩
      refine ⟨_, rfl, _, _, rfl, rfl, ⟨by decide, by decide⟩, _, rfl, _, _, rfl, rfl, m0, ?_⟩
      exact fin _ _ _ _ (zH _ (by omega)) (zR _ m0)
    · refine ⟨_, rfl, _, rfl, d, _, rfl, dp ah (fg c _ l _) (mK c _ l _ _), ?_⟩
      rw [gm]
      refine ⟨_, rfl, d, _, rfl, dg ah (iF c _ _ _), _, rfl, _, _, rfl, rfl, m0, ?_⟩
      refine ⟨_, rfl, d, _, rfl, dg ah (iF c _ _ _), _, rfl, _, _, rfl, rfl, ⟨m0, by omega⟩, _, rfl, d, _, rfl, dp ah (fg c _ _ _) (mK c _ _ _ _), ?_⟩
      refine ⟨_, rfl, ?_⟩
      rw [gm]
      exact fin _ _ _ _ (zH _ (by omega)) (zR _ m0)
abbrev i6 : Stmt := top 32
theorem se : aG ["_law_script"] ["_law_script"] (ai i6) := ⟨rfl, rfl, rfl, by decide +kernel, rfl, by decide +kernel, by decide +kernel⟩
theorem uY (D : Df K mg "_law_feed" i6)(T : Bt K w mg aB) : Fnc P w K mg base "_law_feed" ["_law_script"] 1 (mL K) := by
  have sc := se
  refine D.ok sc (fun _ _ _ _ _ _ us hl => by obtain ⟨_, rfl⟩ := jo hl;rfl) (fun vs H Q E h => ?_) (fun f cdv A outer s H vs Q E hr h => ?_)
  · obtain ⟨a, ns, rfl, _⟩ := h
    rfl
  · obtain ⟨a, ns, rfl, hS, hlen, k⟩ := h
    have hu := kQ hr
    refine ⟨_, (@aj _ _ _ (@aK _ _ _ _ (@rm _ _ _ _ _ (@eE _ _ _ _ _ _ _ _ _ aN (@aH _ _ _ _ _ _ _ _ tZ (@aU _ _ _ _ _ _ _ _ _ ia (by rfl) T.list kd (@aa _ _ _ _ _ (@aZ _ _ _ _ _ _ _ _ _ _ q_ (pv 0) bB (@bb _ _ _ aq)) af (by rfl)) (by decide) (by decide) (by rfl) (by rfl)) (@aH _ _ _ _ _ _ _ _ t_ (@dC _ _ _ _ (@aa _ _ _ _ _ aq af (by rfl))) (@aU _ _ _ _ _ _ _ _ _ dA (by rfl) T.int o_ (@aa _ _ _ _ _ (@dX _ _ _ _ _ _ _ _ dW (@ar _ _ _ _ _ _ _ _ _ aX (by rfl) T.len yq (@aa _ _ _ _ _ (pv 0) af (by rfl)) (by decide) (by decide) (by rfl) (by rfl)) aq (aP _)) af (by rfl)) (by decide) (by decide) (by rfl) (by rfl)))) (@eE _ _ _ _ _ _ _ _ _ aN aq (@eE _ _ _ _ _ _ _ _ _ aN aq (@eE _ _ _ _ _ _ _ _ _ aN aq rl)))) rfl rfl (by simp) (by decide)))), ?_⟩
    intro p hp
    have s1 : aD H (upd H p (.dK [])) := aD.new hp
    have p1 : (upd H p (.dK [])) p=some (.dK []) := ah
    generalize upd H p (.dK [])=H1 at s1 p1
    refine ⟨_, rfl, _, rfl, a, _, rfl, s1.seq hS, fun q1 hq1 => ?_⟩
    rw [wo hlen]
    have s2 : aD H1 (upd H1 q1 (.lst (ns.map V.int))) := aD.new hq1
    have l2 : (upd H1 q1 (.lst (ns.map V.int))) q1=some (.lst (ns.map V.int)) := ah
    generalize upd H1 q1 (.lst (ns.map V.int))=H2 at s2 l2 ⊢
    refine ⟨q1, _, rfl, .inl (SqL.of l2), fun q2 hq2 => ?_⟩
    have s3 : aD H2 (upd H2 q2 (.lst (ns.map V.int))) := aD.new hq2
    have l3 : (upd H2 q2 (.lst (ns.map V.int))) q2=some (.lst (ns.map V.int)) := ah
    generalize upd H2 q2 (.lst (ns.map V.int))=H3 at s3 l3 ⊢
    refine ⟨(by show 1≤sizeLine;decide), fun q4 hq4 => ?_⟩
    have s4 : aD H3 (upd H3 q4 (.lst [V.int 0])) := aD.new hq4
    have l4 : (upd H3 q4 (.lst [V.int 0])) q4=some (.lst [V.int 0]) := ah
    generalize upd H3 q4 (.lst [V.int 0])=H4 at s4 l4 ⊢
    have s14 : aD H H4 := ((s1.trans s2).trans s3).trans s4
    refine ⟨_, rfl, a, _, rfl, .inl (s14.seq hS), rfl, .inr ⟨_, rfl, q4, _, _, rfl, rfl, l4, ?_, ?_, ?_, fun q5 hq5 => ?_⟩⟩
    · split <;> decide
    · split <;> decide
    · split <;> decide
    have s5 : aD H4 (upd H4 q5 (.lst (List.replicate ((if decide (V.int ((ns.map V.int).length : Int)=V.int 0)=true then 1 else 0 : Int)).toNat [V.int 0]).flatten)) := aD.new hq5
    have l5 : (upd H4 q5 (.lst (List.replicate ((if decide (V.int ((ns.map V.int).length : Int)=V.int 0)=true then 1 else 0 : Int)).toNat [V.int 0]).flatten)) q5=_ := ah
    generalize upd H4 q5 (.lst (List.replicate ((if decide (V.int ((ns.map V.int).length : Int)=V.int 0)=true then 1 else 0 : Int)).toNat [V.int 0]).flatten)=H5 at s5 l5 ⊢
    refine ⟨q2, q5, _, _, rfl, rfl, s5 _ _ (s4 _ _ l3), l5, ?_, fun q6 hq6 => ?_⟩
    · have e : (List.replicate ((if decide (V.int ((ns.map V.int).length : Int)=V.int 0)=true then 1 else 0 : Int)).toNat [V.int 0]).flatten.length≤1 := by split <;> decide
      have e2 : sizeLine=16777216 := A3
      have e3 : (ns.map V.int).length=ns.length := x9 ..
      omega
    have el : ns.map V.int++(List.replicate ((if decide (V.int ((ns.map V.int).length : Int)=V.int 0)=true then 1 else 0 : Int)).toNat [V.int 0]).flatten=(if ns=[] then [0] else ns).map V.int := by
      cases ns with
      | nil => rfl
      | cons n r =>
        have en : ¬ (decide (V.int (((n::r).map V.int).length : Int)=V.int 0)=true) := by
          rw [x9, yN]
          simp only [V.int.injEq, decide_eq_true_eq]
          omega
        rw [if_neg en, if_neg (by simp)]
        simp
    rw [el]
    have s6 : aD H5 (upd H5 q6 (.lst ((if ns=[] then [0] else ns).map V.int))) := aD.new hq6
    have l6 : (upd H5 q6 (.lst ((if ns=[] then [0] else ns).map V.int))) q6=_ := ah
    generalize upd H5 q6 (.lst ((if ns=[] then [0] else ns).map V.int))=H6 at s6 l6 ⊢
    have p6 : H6 p=some (.dK []) := s6 _ _ (s5 _ _ (s4 _ _ (s3 _ _ (s2 _ _ p1))))
    have pq : q6≠p := kH l6 p6 (by intro z;cases z)
    refine ⟨p6, fkv q6 0 0 0, rfl, (by show 4≤15;decide), ?_⟩
    rw [wg]
    refine k p _ hp ⟨q6, 0, 0, 0, (if ns=[] then [0] else ns), ah, by rw [av pq];exact l6, ?_, ?_⟩ fun b o e => ?_
    · split
      · simp
      · assumption
    · split
      · decide
      · omega
    · rw [av (ak e hp)]
      exact s6 _ _ (s5 _ _ (s14 _ _ e))
end
end Kx
namespace Kx
open PySem PySem.Spec PyProof.Rows L2 Wd
section
variable {P : Program} {w : World} {K : PySem.W.Frag} {mg : Str → Option Value} {base : Heap} {aB : Addr}
abbrev i7 : Stmt := top 7
theorem sf : aG ["word"] ["word"] (ai i7) := ⟨rfl, rfl, rfl, by decide +kernel, rfl, by decide +kernel, by decide +kernel⟩
theorem uZ (D : Df K mg "back" i7)(T : Bt K w mg aB) : Fnc P w K mg base "back" ["word"] 1 kf := by
  have sc := sf
  refine D.ok sc (fun _ _ _ _ _ _ us hl => by obtain ⟨_, rfl⟩ := jo hl;rfl) (fun vs H Q E h => ?_) (fun f cdv A outer s H vs Q E hr h => ?_)
  · obtain ⟨u, rfl, _⟩ := h
    rfl
  · obtain ⟨u, rfl, hu, k⟩ := h
    have l16 := aT
    refine ⟨_, (@aj _ _ _ (@aK _ _ _ _ (@dY _ _ _ _ _ _ _ _ _ _ _ _ yL AF AG jB aN (@aa _ _ _ _ _ (@dk _ _ _ _ _ _ _ (["letter"]) (["letter"]) ([]) _ _ _ _ (@dG _ _ _ _ _ _ rfl (by kernel_rfl)) rfl (@rn _ _ _ _ _ _ rfl T.reversed kT (@aa _ _ _ _ _ (pv 0) af (by rfl)) (by rfl)) (fun _ _ _ _ => @aM _ _ (0) _ (show (["letter"] : List Str).Nodup from by decide +kernel) rfl (Or.inl rfl) (by first | exact .inl rfl | exact .inr rfl | assumption)) (fun _ _ _ _ => bW) (fun _ _ _ _ => by (exact (@mB _ _ _ _ _ _ _ _ _ T.dB rfl rfl rfl T.mgB (pv 0) (fun _ _ => rfl) (by decide)))) (by intro _ ;rfl)) af (by rfl)) (by rfl) (by rfl) (by rfl) (by rfl) (by rfl)))), ?_⟩
    refine ⟨rfl, _, rfl, _, rfl, (by rw [ab];omega), ?_⟩
    refine fc (own := ["letter"]) (cap := []) (J := v5 (toS u)) u.length (fun i ys σ H' => H'=H ∧ ys=fh ((bk u).take i) ∧ ∃ v, σ = [v]) ⟨rfl, rfl, none, rfl⟩ (fun i ys σ H' hi ⟨_, e, _⟩ => ?_) (by omega) (fun i ys σ H' hi _ => ?_) (fun ys σ H' _ => ?_) ?_ ?_
    · rw [e, bC, yy];omega
    · show i < (toS u).cps.size;rw [bJ];exact hi
    · show _=(toS u).cps.size;rw [bJ]
    · rintro i ys σ H1 x H2 N hi ⟨rfl, rfl, v, rfl⟩ ⟨rfl, c, hc, rfl⟩ hN
      rw [bJ] at hc
      obtain ⟨y, hy, e⟩ := d3 hc
      obtain ⟨t, ht⟩ := T.gB y
      refine ⟨_, rfl, toS [y], toS [inv y], t, by rw [e], ht, hN _ _ _ ⟨rfl, ?_, _, rfl⟩⟩
      rw [cb (uo u hi hy), ← fi]
      rfl
    · rintro ys σ H1 l ⟨rfl, rfl, v, rfl⟩ hl
      rw [zu (by rw [b8];exact yb _)]
      refine ⟨_, l, (bk u).map fun x => toS [x], rfl, rfl, SqL.of (by rw [ah, ke]), iI _ (by rw [b8];omega), ?_⟩
      rw [iH]
      exact k _ (aD.new hl)
abbrev nZ : Stmt := top 8
theorem u3 : aG ["word", "left", "letter"] ["word"] (ai nZ) := ⟨rfl, rfl, rfl, by decide +kernel, rfl, by decide +kernel, by decide +kernel⟩
theorem wG (D : Df K mg "reduced" nZ)(T : Bt K w mg aB) : Fnc P w K mg base "reduced" ["word"] 1 kF := by
  have sc := u3
  refine D.ok sc (fun _ _ _ _ _ _ us hl => by obtain ⟨_, rfl⟩ := jo hl;rfl) (fun vs H Q E h => ?_) (fun f cdv A outer s H vs Q E hr h => ?_)
  · obtain ⟨u, rfl, _⟩ := h
    rfl
  · obtain ⟨u, rfl, hu, k⟩ := h
    have l16 := aT
    refine ⟨_, (@ag _ _ _ _ _ (@au _ _ (1) _ _ _ _ sc.nd rfl (Or.inl rfl) (@dC _ _ _ _ af) (by rfl) (by first | exact .inl rfl | exact .inr rfl | assumption)) (@ag _ _ _ _ _ (@cx _ _ _ _ _ _ _ _ yQ rfl (@iq _ _ _ _ (pv 0)) (@aM _ _ (2) _ sc.nd rfl (Or.inl rfl) (by first | exact .inl rfl | exact .inr rfl | assumption)) (@aj _ _ _ (@b0 _ _ _ _ _ _ _ _ (@PW.pt _ _ _ (@g_ _ _ _ _ _ _ _ (@dz _ _ _ (pv 1) (fun _ => rfl)) (@eP _ _ _ _ (@aL _ _ _ _ _ _ _ _ dW (@bc _ _ _ _ _ _ _ eZ (pv 1) (@qR _ _ _ _ _ _ lT aq) (fun _ _ => rfl)) (@mB _ _ _ _ _ _ _ _ _ T.dB rfl rfl rfl T.mgB (pv 2) (fun _ _ => rfl) (by decide)) (aP _))))) (@aj _ _ _ (@dU _ _ _ _ (@ib _ _ _ _ _ _ _ _ _ za PySem.F.slot_list_pop PySem.F.type_list_pop tY (pv 1) (by rfl) (by rfl)) (by rfl))) (@aj _ _ _ (@dU _ _ _ _ (@dY _ _ _ _ _ _ _ _ _ _ _ _ za y0 zi cC (pv 1) (@aa _ _ _ _ _ (pv 2) af (by rfl)) (by rfl) (by rfl) (by rfl) (by rfl) (by rfl)) (by rfl))))) (by intro _ ;rfl)) (@aj _ _ _ (@aK _ _ _ _ (@dY _ _ _ _ _ _ _ _ _ _ _ _ yL AF AG jB aN (@aa _ _ _ _ _ (pv 1) af (by rfl)) (by rfl) (by rfl) (by rfl) (by rfl) (by rfl)))))), ?_⟩
    refine ⟨(by show 0≤sizeLine;decide), fun l hl => ?_⟩
    refine ⟨_, rfl, _, rfl, gC (z := toS u) (fun i σ H' => ∃ v, σ = [some (tx u), some (.ref l), v] ∧ aD H H' ∧ H' l=some (.lst (fh (act (u.take i) []).reverse))) ⟨none, rfl, aD.new hl, by rw [ah];rfl⟩ ?_ ?_⟩
    · rintro i c σ H1 hc ⟨v, rfl, s1, l1⟩
      obtain ⟨x, hx, e⟩ := d3 hc
      obtain ⟨t, ht⟩ := T.gB x
      have hi : i < u.length := (ya.mp hx).1
      have step : act (u.take (i+1)) []=push (act (u.take i) []) x := by rw [cb hx, bY]
      have long : (act (u.take i) []).length≤u.length := by
        have := cQ (u.take i) []
        rw [zh, yy] at this
        omega
      have nl : ∀ b o, H b=some o → b≠l := fun b o e => ak e hl
      have put : (act (u.take (i+1)) []=x::act (u.take i) []) → ∀ H2 : Hp, H2=upd H1 l (.lst (fh (act (u.take i) []).reverse++[tx [x]])) → ∃ v, [some (tx u), some (.ref l), some (V.str ⟨#[c]⟩)]=[some (tx u), some (.ref l), v] ∧ aD H H2 ∧ H2 l=some (.lst (fh (act (u.take (i+1)) []).reverse)) := fun e H2 eH => by
        subst eH
        refine ⟨_, rfl, fun b o q => by rw [av (nl b o q)];exact s1 b o q, ?_⟩
        rw [ah, e, yS, fi]
      refine ⟨_, rfl, _, .inl ⟨_, SqL.of l1, rfl⟩, ?_⟩
      cases hq : act (u.take i) [] with
      | nil =>
        rw [hq] at l1 step
        refine lF (lF ?_)
        refine ⟨_, rfl, .inl ⟨rfl, _, SqL.of l1⟩, _, rfl, l, _, _, rfl, rfl, l1, (by show 0 < sizeLine;decide), ?_⟩
        rw [hq] at put
        exact put step _ (by rw [e];rfl)
      | cons y r =>
        rw [hq] at l1 step long put
        have long : r.length+1≤u.length := long
        have e1 : fh (y::r).reverse=fh r.reverse++[tx [y]] := by rw [yS, fi]
        have e0 : (!(fh (y::r).reverse).isEmpty)=true := by rw [e1];simp
        rw [e0]
        refine ud ?_
        refine ⟨_, rfl, _, rfl, l, _, _, _, rfl, rfl, SqL.of l1, (by rw [e1];exact oP _ _), _, rfl, toS [x], toS [inv x], t, by rw [e], ht, rfl, _, rfl, ?_⟩
        · show if decide (tx [y]=tx [inv x])=true then _ else _
          rw [dH]
          refine jk (fun h => ?_) (fun h => ?_)
          · have h : y=inv x := by simpa using h
            refine ⟨_, rfl, .inl ⟨rfl, _, SqL.of l1⟩, l, _, tx [y], rfl, rfl, l1, ?_, ?_⟩
            · rw [e1];simp
            · refine ⟨_, rfl, fun b o q => by rw [av (nl b o q)];exact s1 b o q, ?_⟩
              rw [ah, e1, List.dropLast_concat, step]
              show _=some (HO.lst (fh (if y=inv x then r else x::y::r).reverse))
              rw [if_pos h]
          · have h : ¬ y=inv x := by simpa using h
            refine ⟨_, rfl, .inl ⟨rfl, _, SqL.of l1⟩, _, rfl, l, _, _, rfl, rfl, l1, (by rw [bC, zd, yN];omega), ?_⟩
            refine put ?_ _ (by rw [e];rfl)
            rw [step]
            show (if y=inv x then r else x::y::r)=_
            rw [if_neg h]
    · rintro σ H1 ⟨v, rfl, s1, l1⟩
      rw [bJ, yT] at l1
      refine ⟨rfl, _, rfl, _, l, (red u).map fun x => toS [x], rfl, rfl, SqL.of (by rw [l1, ← ke];rfl), iI _ ?_, ?_⟩
      · have := bu u;omega
      · rw [iH]
        exact k _ s1
end
end Kx
namespace Kx
open PySem PySem.Spec PyProof.Rows L2 Wd
section
variable {P : Program} {w : World} {K : PySem.W.Frag} {mg : Str → Option Value} {base : Heap} {aB : Addr}
abbrev fK : Stmt := top 34
theorem pQ : aG ["_law_word", "_law_found", "_law_sign"] ["_law_word"] (ai fK) := ⟨rfl, rfl, rfl, by decide +kernel, rfl, by decide +kernel, by decide +kernel⟩
theorem sh (D : Df K mg "_law_back" fK) : Fnc P w K mg base "_law_back" ["_law_word"] 1 kf := by
  have sc := pQ
  refine D.ok sc (fun _ _ _ _ _ _ us hl => by obtain ⟨_, rfl⟩ := jo hl;rfl) (fun vs H Q E h => ?_) (fun f cdv A outer s H vs Q E hr h => ?_)
  · obtain ⟨u, rfl, _⟩ := h
    rfl
  · obtain ⟨u, rfl, hu, k⟩ := h
    have l16 := aT
    refine ⟨_, (@ag _ _ _ _ _ (@au _ _ (1) _ _ _ _ sc.nd rfl (Or.inl rfl) aN (by rfl) (by first | exact .inl rfl | exact .inr rfl | assumption)) (@ag _ _ _ _ _ (@cx _ _ _ _ _ _ _ _ yQ rfl (@iq _ _ _ _ (pv 0)) (@aM _ _ (2) _ sc.nd rfl (Or.inl rfl) (by first | exact .inl rfl | exact .inr rfl | assumption)) (@aj _ _ _ (@au _ _ (1) _ _ _ _ sc.nd rfl (Or.inl rfl) (@aH _ _ _ _ _ _ _ _ aJ (@jY _ _ _ _ _ _ _ _ (@aL _ _ _ _ _ _ _ _ lX (pv 2) aN rfl) (@ib _ _ _ _ _ _ _ _ _ yL PySem.F.slot_str_upper PySem.F.type_str_upper oZ (pv 2) (by rfl) (by rfl)) (@ib _ _ _ _ _ _ _ _ _ yL BK BL j_ (pv 2) (by rfl) (by rfl))) (pv 1)) (by rfl) (by first | exact .inl rfl | exact .inr rfl | assumption))) (by intro _ ;rfl)) (@aj _ _ _ (@aK _ _ _ _ (pv 1))))), ?_⟩
    refine ⟨_, rfl, _, rfl, gC (z := toS u) (fun i σ H' => ∃ v, σ = [some (tx u), some (tx (bk (u.take i))), v] ∧ H'=H) ⟨none, (by rw [List.take_zero];show _=[some (tx u), some (tx []), none];rw [eh];rfl), rfl⟩ ?_ ?_⟩
    · rintro i c σ H1 hc ⟨v, rfl, rfl⟩
      obtain ⟨x, hx, e⟩ := d3 hc
      rw [e]
      have hi : i < u.length := (ya.mp hx).1
      have fin : ∀ z, z=toS [inv x] → ∃ v', [some (tx u), some (V.str (z++toS (bk (u.take i)))), some (V.str (toS [x]))]=[some (tx u), some (tx (bk (u.take (i+1)))), v'] ∧ H1=H1 := fun z ez => by
        refine ⟨some (V.str (toS [x])), ?_, rfl⟩
        rw [ez, gf, cb hx, bQ]
        rfl
      have room : ∀ z, z=toS [inv x] → z.length+(toS (bk (u.take i))).length≤sizeLine := fun z ez => by
        rw [ez, ab, ab, b8, yy]
        simp only [yi]
        omega
      refine ⟨_, rfl, _, _, rfl, rfl, _, rfl, ?_⟩
      rw [o8]
      refine jk (fun h => ?_) (fun h => ?_)
      · have h : x.val < 6 := by simpa using h
        exact ⟨_, rfl, rfl, _, rfl, rfl, (by rw [ab];show 1≤5592405;decide), _, rfl, _, _, rfl, rfl, room _ (iD h), fin _ (iD h)⟩
      · have h : ¬ x.val < 6 := by simpa using h
        exact ⟨_, rfl, rfl, _, rfl, rfl, (by rw [ab];show 1≤5592405;decide), _, rfl, _, _, rfl, rfl, room _ (iE h), fin _ (iE h)⟩
    · rintro σ H1 ⟨v, rfl, rfl⟩
      rw [bJ, yT]
      exact ⟨_, rfl, k _ (aD.refl _)⟩
abbrev i8 : Stmt := top 35
theorem si : aG ["_law_word", "_law_found", "_law_sign"] ["_law_word"] (ai i8) := ⟨rfl, rfl, rfl, by decide +kernel, rfl, by decide +kernel, by decide +kernel⟩
theorem u4 (D : Df K mg "_law_reduced" i8)(T : Bt K w mg aB)(F_lback : Fnc P w K mg base "_law_back" ["_law_word"] 1 kf) : Fnc P w K mg base "_law_reduced" ["_law_word"] 2 mO := by
  have sc := si
  refine D.ok sc (fun _ _ _ _ _ _ us hl => by obtain ⟨_, rfl⟩ := jo hl;rfl) (fun vs H Q E h => ?_) (fun f cdv A outer s H vs Q E hr h => ?_)
  · obtain ⟨u, rfl, _⟩ := h
    rfl
  · obtain ⟨u, rfl, hu, k⟩ := h
    have l16 := aT
    refine ⟨_, (@ag _ _ _ _ _ (@au _ _ (1) _ _ _ _ sc.nd rfl (Or.inl rfl) aN (by rfl) (by first | exact .inl rfl | exact .inr rfl | assumption)) (@ag _ _ _ _ _ (@cx _ _ _ _ _ _ _ _ yQ rfl (@iq _ _ _ _ (pv 0)) (@aM _ _ (2) _ sc.nd rfl (Or.inl rfl) (by first | exact .inl rfl | exact .inr rfl | assumption)) (@aj _ _ _ (@b0 _ _ _ _ _ _ _ _ (@PW.pt _ _ _ (@g_ _ _ _ _ _ _ _ (@aL _ _ _ _ _ _ _ _ hJ (pv 1) aN (aP _)) (@eP _ _ _ _ (@aL _ _ _ _ _ _ _ _ dW (@aI _ _ _ _ _ _ _ _ _ _ _ F_lback hr (by decide) rfl (@aa _ _ _ _ _ (pv 2) af (by rfl)) (by decide) (by rfl) (by rfl)) (@bc _ _ _ _ _ _ _ br (pv 1) (@aH _ _ _ _ _ _ _ _ ee (@ar _ _ _ _ _ _ _ _ _ ao (by rfl) T.len yq (@aa _ _ _ _ _ (pv 1) af (by rfl)) (by decide) (by decide) (by rfl) (by rfl)) aq) (fun _ _ => rfl)) (aP _))))) (@aj _ _ _ (@au _ _ (1) _ _ _ _ sc.nd rfl (Or.inl rfl) (@aZ _ _ _ _ _ _ _ _ _ _ bX (pv 1) bB (@bb _ _ _ (@aH _ _ _ _ _ _ _ _ ee (@ar _ _ _ _ _ _ _ _ _ ao (by rfl) T.len yq (@aa _ _ _ _ _ (pv 1) af (by rfl)) (by decide) (by decide) (by rfl) (by rfl)) aq))) (by rfl) (by first | exact .inl rfl | exact .inr rfl | assumption))) (@aj _ _ _ (@au _ _ (1) _ _ _ _ sc.nd rfl (Or.inl rfl) (@aH _ _ _ _ _ _ _ _ aJ (pv 1) (pv 2)) (by rfl) (by first | exact .inl rfl | exact .inr rfl | assumption))))) (by intro _ ;rfl)) (@aj _ _ _ (@aK _ _ _ _ (pv 1))))), ?_⟩
    refine ⟨_, rfl, _, rfl, gC (z := toS u) (fun i σ H' => ∃ v, σ = [some (tx u), some (tx (act (u.take i) []).reverse), v] ∧ aD H H') ⟨none, rfl, aD.refl _⟩ ?_ ?_⟩
    · rintro i c σ H1 hc ⟨v, rfl, s1⟩
      obtain ⟨x, hx, e⟩ := d3 hc
      rw [e]
      have hi : i < u.length := (ya.mp hx).1
      have step : act (u.take (i+1)) []=push (act (u.take i) []) x := by rw [cb hx, bY]
      have long : (act (u.take i) []).length≤u.length := by
        have := cQ (u.take i) []
        rw [zh, yy] at this
        omega
      rw [step]
      generalize act (u.take i) []=st at long
      have hst : (toS st.reverse).length≤sizeLine := by rw [ab, zd];omega
      cases st with
      | nil =>
        refine ⟨_, rfl, rfl, _, rfl, kW (by rw [List.reverse_nil, eh];simp) (lF ?_)⟩
        refine ⟨_, rfl, _, rfl, _, _, rfl, rfl, (by rw [ab, ab];simp;omega), ?_⟩
        rw [gf]
        exact ⟨_, rfl, s1⟩
      | cons y r =>
        rw [yN] at long
        have hl : (toS (y::r).reverse).length=r.length+1 := by rw [ab, zd, yN]
        refine ⟨_, rfl, rfl, _, rfl, kU (by rw [← eh];simpa using fun e => by have := yW List.length (kc e);simp at this) ?_⟩
        refine ⟨_, rfl, [x], rfl, (by show 1≤5000;decide), fun H2 s2 => ?_⟩
        refine ⟨_, rfl, _, rfl, _, rfl, hst, _, _, rfl, rfl, _, _, cp y, rfl, rfl, hst, bp (k := r.length) (by rw [hl];omega) ?_, rfl, _, rfl, ?_⟩
        · rw [yS, yF (by rw [zd];exact yb _), zd, AD]
          rfl
        · show if decide (tx (bk [x])=tx [y])=true then _ else _
          rw [dH, bR]
          have ep : push (y::r) x=if y=inv x then r else x::y::r := rfl
          rw [ep]
          refine jk (fun h => ?_) (fun h => ?_)
          · have h : inv x=y := by simpa using h
            rw [if_pos h.symm]
            refine ⟨_, rfl, _, rfl, _, rfl, hst, _, _, rfl, rfl, _, rfl, _, rfl, hst, ?_⟩
            rw [hl, aF, df _ (by omega), show (((r.length+1 : Nat) : Int) - 1).toNat=r.length by omega, yS, A_ (by rw [zd])]
            exact ⟨_, rfl, s1.trans s2⟩
          · have h : ¬ inv x=y := by simpa using h
            rw [if_neg fun e => h e.symm]
            refine ⟨_, rfl, _, rfl, _, _, rfl, rfl, (by rw [ab, ab, zd, yN];show r.length+1+1≤_;omega), ?_⟩
            rw [gf, yS (a := x)]
            exact ⟨_, rfl, s1.trans s2⟩
    · rintro σ H1 ⟨v, rfl, s1⟩
      rw [bJ, yT]
      exact ⟨_, rfl, k _ s1⟩
end
end Kx
namespace Kx
open PySem PySem.Spec PyProof.Rows L2 Wd
section
variable {P : Program} {w : World} {K : PySem.W.Frag} {mg : Str → Option Value} {base : Heap} {aB : Addr}
abbrev dO : Stmt := top 16
theorem n0 : aG ["change", "word", "becomes", "letter", "part"] ["change", "word"] (ai dO) := ⟨rfl, rfl, rfl, by decide +kernel, rfl, by decide +kernel, by decide +kernel⟩
theorem pR (D : Df K mg "mapped" dO)(T : Bt K w mg aB)(S : ∃ t, mg "SMALL" = some (.str "abcdef" t))(F_back : Fnc P w K mg base "back" ["word"] 1 kf)(F_red : Fnc P w K mg base "reduced" ["word"] 1 kF) : Fnc P w K mg base "mapped" ["change", "word"] 2 dN := by
  have sc := n0
  refine D.ok sc (fun _ _ _ _ _ _ us hl => by obtain ⟨_, _, rfl⟩ := nY hl;rfl) (fun vs H Q E h => ?_) (fun f cdv A outer s H vs Q E hr h => ?_)
  · obtain ⟨p, u, n, b, ws, rfl, _⟩ := h
    rfl
  · obtain ⟨p, u, n, b, ws, rfl, M, n6, hin, hul, hlen, hb, k⟩ := h
    have l16 := aT
    have hu := kQ hr
    obtain ⟨tS, mgS⟩ := S
    refine ⟨_, (@ag _ _ _ _ _ (@au _ _ (2) _ _ _ _ sc.nd rfl (Or.inr rfl) gw (by rfl) (by first | exact .inl rfl | exact .inr rfl | assumption)) (@ag _ _ _ _ _ (@cx _ _ _ _ _ _ _ _ yQ rfl (@pH _ _ rfl _ _ _ _ _ _ _ _ rfl T.zip wm (@aa _ _ _ _ _ (@gq _ _ (.str "abcdef") _ _ rfl mgS ⟨_, rfl⟩ (by decide)) (@aa _ _ _ _ _ (pv 0) af (by rfl)) (by rfl)) (by rfl) (by rfl)) (@lQ _ _ _ _ _ _ rfl (@cg _ _ _ _ _ (@aM _ _ (3) _ sc.nd rfl (Or.inl rfl) (by first | exact .inl rfl | exact .inr rfl | assumption)) (@cg _ _ _ _ _ (@aM _ _ (4) _ sc.nd rfl (Or.inl rfl) (by first | exact .inl rfl | exact .inr rfl | assumption)) jw (by rfl)) (by rfl)) (by rfl) (by rfl)) (@ag _ _ _ _ _ (@cD _ _ _ _ _ _ _ _ _ hu (pv 2) (pv 3) (pv 4) rfl) (@aj _ _ _ (@cD _ _ _ _ _ _ _ _ _ hu (pv 2) (@aI _ _ _ _ _ _ _ _ _ _ _ F_back hr (by decide) rfl (@aa _ _ _ _ _ (pv 3) af (by rfl)) (by decide) (by rfl) (by rfl)) (@aI _ _ _ _ _ _ _ _ _ _ _ F_back hr (by decide) rfl (@aa _ _ _ _ _ (pv 4) af (by rfl)) (by decide) (by rfl) (by rfl)) rfl))) (by intro _ ;rfl)) (@aj _ _ _ (@aK _ _ _ _ (@aI _ _ _ _ _ _ _ _ _ _ _ F_red hr (by decide) rfl (@aa _ _ _ _ _ (@dY _ _ _ _ _ _ _ _ _ _ _ _ yL AF AG jB aN (@aa _ _ _ _ _ (@dk _ _ _ _ _ _ _ (["letter", "becomes"]) (["letter"]) ([2]) _ _ _ _ (@dG _ _ _ _ _ _ rfl (by kernel_rfl)) rfl (@iq _ _ _ _ (pv 1)) (fun _ _ _ _ => @aM _ _ (0) _ (show (["letter", "becomes"] : List Str).Nodup from by decide +kernel) rfl (Or.inl rfl) (by first | exact .inl rfl | exact .inr rfl | assumption)) (fun _ _ _ _ => bW) (fun _ _ _ _ => by (exact (@bP _ _ _ _ _ _ hu (pv 1) (pv 0) (fun _ _ => rfl)))) (by intro _ ;rfl)) af (by rfl)) (by rfl) (by rfl) (by rfl) (by rfl) (by rfl)) af (by rfl)) (by decide) (by rfl) (by rfl)))))), ?_⟩
    have asc6 : ("abcdef" : Str).cps.all (· < 128)=true := by decide +kernel
    have sz6 : ("abcdef" : Str).cps.size=6 := by decide +kernel
    have hwl : (ws.map tx).length=n := by rw [x9, M.ok.len]
    intro d hd
    have keep : ∀ {H' : Hp} {o : HO}, aD H H' → aD H (upd H' d o) := fun s b o e => by rw [av (ak e hd)];exact s b o e
    refine ⟨_, rfl, _, p, rfl, asc6, ⟨_, SqT.of ((aD.new hd) _ _ M.at_)⟩, nc (ys := ws.map tx) (fun i σ H' => ∃ (a c : Option V) (kvs : List (Key × V)), σ = [some (.ref p), some (tx u), some (.ref d), a, c] ∧ aD H H' ∧ H' d=some (.dK kvs) ∧ kvs.length≤2*i ∧ i≤6 ∧ ∀ x : L, x.val % 6 < i → cN kvs (kS (toS [x]))=some (tx (img ws x)))
      ⟨none, none, [], rfl, aD.new hd, ah, by decide, by omega, fun x hx => by omega⟩ (fun i σ H' ⟨_, _, _, _, s1, _⟩ => SqT.of (s1 _ _ M.at_)) ?_ ?_⟩
    · rintro i c y σ H1 T hc hy ⟨a, c', kvs, rfl, s1, hk, hkl, hi6, hv⟩ hT
      obtain ⟨x, hxi, hi, rfl⟩ := L2.sm_at hc
      obtain ⟨v, hv1, rfl⟩ : ∃ v, ws[i]? = some v ∧ y=tx v := by
        rw [yp] at hy
        cases e : ws[i]? with
        | none => rw [e] at hy;cases hy
        | some v => rw [e] at hy;exact ⟨v, rfl, (yh hy).symm⟩
      have hvl : v.length≤5000 := yV (M.ok.le v (yu hv1)) hb
      have nT : T≠d := (ak hk hT).symm
      have ix : img ws x=v := by
        unfold img
        rw [if_pos (by omega), yj, hxi, hv1]
        rfl
      have iX : img ws (inv x)=bk v := by rw [gQ, ix]
      refine ⟨T, _, rfl, SqT.of ah, rfl, _, _, rfl, _, _, rfl, rfl, ?_⟩
      have s2 : aD H (upd H1 T (.tup [.str ⟨#[cp x]⟩, tx v])) := s1.then hT
      have k2 : (upd H1 T (.tup [.str ⟨#[cp x]⟩, tx v])) d=some (.dK kvs) := by rw [av nT.symm];exact hk
      generalize upd H1 T (.tup [.str ⟨#[cp x]⟩, tx v])=H2 at s2 k2 ⊢
      refine ⟨_, rfl, _, rfl, _, rfl, d, _, rfl, dp k2 (by omega) rfl, ?_⟩
      have s3 : aD H (upd H2 d (.dK (cW kvs (kS ⟨#[cp x]⟩) (tx v)))) := keep s2
      have k3 : (upd H2 d (.dK (cW kvs (kS ⟨#[cp x]⟩) (tx v)))) d=some (.dK (cW kvs (kS (toS [x])) (tx v))) := ah
      generalize upd H2 d (.dK (cW kvs (kS ⟨#[cp x]⟩) (tx v)))=H3 at s3 k3 ⊢
      refine ⟨_, rfl, v, rfl, hvl, fun H4 s4 => ⟨_, rfl, _, rfl, [x], rfl, (by show 1≤5000;decide), fun H5 s5 => ?_⟩⟩
      have k5 := s5 _ _ (s4 _ _ k3)
      have hl5 := bO kvs (kS (toS [x])) (tx v)
      have hl6 := bO (cW kvs (kS (toS [x])) (tx v)) (kS (toS (bk [x]))) (tx (bk v))
      refine ⟨d, _, rfl, dp k5 (by omega) rfl, ?_⟩
      refine ⟨_, _, _, rfl, keep (s3.trans (s4.trans s5)), ah, by omega, by omega, fun z hz => ?_⟩
      rw [j6, j6, bR]
      by_cases e1 : z=inv x
      · rw [e1, if_pos rfl, iX]
      · rw [if_neg (fun e => e1 (by have := cF (Sum.inr.inj e);simpa using this))]
        by_cases e2 : z=x
        · rw [e2, if_pos rfl, ix]
        · rw [if_neg (fun e => e2 (by have := cF (Sum.inr.inj e);simpa using this))]
          refine hv z ?_
          have hx6 : x.val < 6 := by omega
          have n1 : z.val≠x.val := fun e => e2 (Fin.ext e)
          have n2 : z.val≠x.val+6 := fun e => e1 (Fin.ext (by rw [bT, if_pos hx6];exact e))
          have := z.isLt
          omega
    · rintro σ H1 ⟨a, c, kvs, rfl, s1, hk, hkl, hi6, hv⟩
      rw [hwl, sz6, BF n6] at hv
      refine ⟨rfl, _, rfl, _, rfl, ?_⟩
      refine fc (own := ["letter"]) (cap := [2]) (J := Its (toS u)) u.length (fun i ys σ H' => ∃ v : Option V, σ = [v, some (.ref d)] ∧ ys=(((u.take i).map (img ws)).map toS).map V.str ∧ H'=H1) ⟨none, rfl, rfl, rfl⟩ (fun i ys σ H' hi ⟨v, _, e, _⟩ => ?_) (by omega) (fun i ys σ H' hi _ => ?_) (fun ys σ H' _ => ?_) ?_ ?_
      · rw [e, x9, x9, x9, yy];omega
      · show i < (toS u).cps.size;rw [bJ];exact hi
      · show _=(toS u).cps.size;rw [bJ]
      · rintro i ys σ H2 x H3 N hi ⟨v, rfl, rfl, rfl⟩ ⟨rfl, c', hc, rfl⟩ hN
        obtain ⟨y, hy, e⟩ := d3 hc
        have hyn := hin y (yu hy)
        refine ⟨_, rfl, _, rfl, d, _, rfl, dg hk (by rw [e];exact hv y hyn), hN _ _ _ ⟨_, rfl, ?_, rfl⟩⟩
        rw [cb hy, yK, yK, yK]
        rfl
      · rintro ys σ H2 l ⟨v, rfl, rfl, rfl⟩ hl
        have hsl := (M.ok.sub u).2
        have es : ((u.take u.length).map (img ws))=u.map (img ws) := by rw [yT]
        have ej : ("" : Str).length=0 := by decide +kernel
        refine ⟨_, l, (u.map (img ws)).map toS, rfl, rfl, SqL.of (by rw [ah, es]), ?_, ?_⟩
        · rw [pJ, ej, Nat.mul_zero, BU]
          have : (u.map (img ws)).flatten=sub ws u := rfl
          rw [this]
          omega
        · rw [pK]
          exact ⟨sub ws u, rfl, by omega, fun H' s' => k _ (s1.trans ((aD.new hl).trans s'))⟩
abbrev i9 : Stmt := top 17
theorem sj : aG ["one", "other"] ["one", "other"] (ai i9) := ⟨rfl, rfl, rfl, by decide +kernel, rfl, by decide +kernel, by decide +kernel⟩
theorem u5 (D : Df K mg "then" i9)(T : Bt K w mg aB)(F_mapped : Fnc P w K mg base "mapped" ["change", "word"] 2 eM) : Fnc P w K mg base "then" ["one", "other"] 3 nu := by
  have sc := sj
  refine D.ok sc (fun _ _ _ _ _ _ us hl => by obtain ⟨_, _, rfl⟩ := nY hl;rfl) (fun vs H Q E h => ?_) (fun f cdv A outer s H vs Q E hr h => ?_)
  · obtain ⟨p, q, n, a, b, ws, us, rfl, _⟩ := h
    rfl
  · obtain ⟨p, q, n, a, b, ws, us, rfl, M, N, n6, ha, hab, hb, k⟩ := h
    have l16 := aT
    have hwl : (ws.map tx).length=n := by rw [x9, M.ok.len]
    refine ⟨_, (@aj _ _ _ (@aK _ _ _ _ (@aU _ _ _ _ _ _ _ _ _ bI (by rfl) T.tuple gI (@aa _ _ _ _ _ (@dk _ _ _ _ _ _ _ (["part", "other"]) (["part"]) ([1]) _ _ _ _ (@dG _ _ _ _ _ _ rfl (by kernel_rfl)) rfl (@tF _ _ _ _ (pv 0)) (fun _ _ _ _ => @aM _ _ (0) _ (show (["part", "other"] : List Str).Nodup from by decide +kernel) rfl (Or.inl rfl) (by first | exact .inl rfl | exact .inr rfl | assumption)) (fun _ _ _ _ => bW) (fun _ _ _ _ => by (exact (@aI _ _ _ _ _ _ _ _ _ _ _ F_mapped hr (by decide) rfl (@aa _ _ _ _ _ (pv 1) (@aa _ _ _ _ _ (pv 0) af (by rfl)) (by rfl)) (by decide) (by rfl) (by rfl)))) (by intro _ ;rfl)) af (by rfl)) (by decide) (by decide) (by rfl) (by rfl)))), ?_⟩
    refine ⟨_, rfl, p, rfl, ⟨_, SqT.of M.at_⟩, ?_⟩
    refine pd (xs := ws.map tx) (own := ["part"]) (cap := [1]) (fun i ys σ H' => ∃ v : Option V, σ = [v, some (.ref q)] ∧ ys=(cK (ws.take i) us).map tx ∧ aD H H') ⟨none, rfl, rfl, aD.refl _⟩ (fun i ys σ H' hi ⟨v, _, e, _⟩ => ?_) (by omega) (fun i ys σ H' ⟨_, _, _, s1⟩ => SqT.of (s1 _ _ M.at_)) ?_ ?_
    · rw [e, x9]
      unfold cK
      rw [x9, yy]
      omega
    · rintro i ys σ H1 x N' hxi ⟨v, rfl, rfl, s1⟩ hN
      obtain ⟨w', hw, rfl⟩ : ∃ w', ws[i]? = some w' ∧ x=tx w' := by
        rw [yp] at hxi
        cases e : ws[i]? with
        | none => rw [e] at hxi;cases hxi
        | some v => rw [e] at hxi;exact ⟨v, rfl, (yh hxi).symm⟩
      have hm := yu hw
      have h1 := M.ok.le w' hm
      refine ⟨_, rfl, _, rfl, q, w', n, b, us, rfl, N.same s1, n6, M.ok.ins w' hm, by omega, yV (Nat.mul_le_mul_right b h1) hab, hb, fun H2 s2 => hN _ _ _ ⟨_, rfl, ?_, s1.trans s2⟩⟩
      unfold cK
      rw [ze, hw, yK, yK]
      rfl
    · rintro ys σ H1 l ⟨v, rfl, rfl, s1⟩ hl
      refine ⟨l, _, rfl, .inl ⟨SqL.of ah, fun r hr' => ?_⟩⟩
      rw [x9, zu (yb _)] at *
      have hr0 : H r=none := none_of (s1.then (o := .lst ((cK ws us).map tx)) hl) hr'
      exact k r _ hr0 ((s1.then hl).then hr') ⟨ah, M.ok.then N.ok⟩
abbrev fL : Stmt := top 18
theorem pS : aG ["many"] ["many"] (ai fL) := ⟨rfl, rfl, rfl, by decide +kernel, rfl, by decide +kernel, by decide +kernel⟩
theorem sm (D : Df K mg "plain" fL)(T : Bt K w mg aB)(S : ∃ t, mg "SMALL" = some (.str "abcdef" t)) : Fnc P w K mg base "plain" ["many"] 1 jJ := by
  have sc := pS
  refine D.ok sc (fun _ _ _ _ _ _ us hl => by obtain ⟨_, rfl⟩ := jo hl;rfl) (fun vs H Q E h => ?_) (fun f cdv A outer s H vs Q E hr h => ?_)
  · obtain ⟨n, rfl, _⟩ := h
    rfl
  · obtain ⟨n, rfl, h1, h6, k⟩ := h
    have l16 := aT
    obtain ⟨tS, mgS⟩ := S
    have e6 : ("abcdef" : Str).length=6 := by decide +kernel
    refine ⟨_, (@aj _ _ _ (@aK _ _ _ _ (@aU _ _ _ _ _ _ _ _ _ bI (by rfl) T.tuple gI (@aa _ _ _ _ _ (@aU _ _ _ _ _ _ _ _ _ (@bS _ rfl) (by rfl) T.list kd (@aa _ _ _ _ _ (@aZ _ _ _ _ _ _ _ _ _ _ bX (@gq _ _ (.str "abcdef") _ _ rfl mgS ⟨_, rfl⟩ (by decide)) bB (@bb _ _ _ (pv 0))) af (by rfl)) (by decide) (by decide) (by rfl) (by rfl)) af (by rfl)) (by decide) (by decide) (by rfl) (by rfl)))), ?_⟩
    have ez : Txt.slice ("abcdef" : Str) none (some (n : Int))=toS (([0, 1, 2, 3, 4, 5] : List L).take n) := by
      rw [← mG, aF, df _ (by omega), yD]
    refine ⟨_, rfl, _, rfl, _, rfl, by omega, ?_⟩
    rw [ez]
    have es : L2.fj (toS (([0, 1, 2, 3, 4, 5] : List L).take n))=(aR n).map tx := by
      unfold L2.fj aR
      rw [aV, y8, y8]
      rfl
    refine ⟨_, rfl, (by rw [ab, yy];simp;omega), fun l hl => ?_⟩
    rw [es]
    refine ⟨l, _, rfl, .inl ⟨SqL.of ah, fun r hr' => ?_⟩⟩
    exact k r _ (none_of (aD.new hl) hr') ((aD.new hl).then hr') ⟨ah, bA h6⟩
end
end Kx
namespace Kx
open PySem PySem.Spec PyProof.Rows L2 Wd
section
variable {P : Program} {w : World} {K : PySem.W.Frag} {mg : Str → Option Value} {base : Heap} {aB : Addr}
abbrev i_ : Stmt := top 10
theorem so : aG ["word", "whole", "size"] ["word"] (ai i_) := ⟨rfl, rfl, rfl, by decide +kernel, rfl, by decide +kernel, by decide +kernel⟩
theorem u6 (D : Df K mg "core" i_)(T : Bt K w mg aB)(F_back : Fnc P w K mg base "back" ["word"] 1 kf)(F_red : Fnc P w K mg base "reduced" ["word"] 1 mO) : Fnc P w K mg base "core" ["word"] 2 nN := by
  have sc := so
  refine D.ok sc (fun _ _ _ _ _ _ us hl => by obtain ⟨_, rfl⟩ := jo hl;rfl) (fun vs H Q E h => ?_) (fun f cdv A outer s H vs Q E hr h => ?_)
  · obtain ⟨u, rfl, _⟩ := h
    rfl
  · obtain ⟨u, rfl, hu, k⟩ := h
    have l16 := aT
    refine ⟨_, (@ag _ _ _ _ _ (@au _ _ (1) _ _ _ _ sc.nd rfl (Or.inl rfl) (@aI _ _ _ _ _ _ _ _ _ _ _ F_red hr (by decide) rfl (@aa _ _ _ _ _ (pv 0) af (by rfl)) (by decide) (by rfl) (by rfl)) (by rfl) (by first | exact .inl rfl | exact .inr rfl | assumption)) (@ag _ _ _ _ _ (@au _ _ (2) _ _ _ _ sc.nd rfl (Or.inl rfl) aq (by rfl) (by first | exact .inl rfl | exact .inr rfl | assumption)) (@ag _ _ _ _ _ (@du _ _ _ _ _ _ yQ (@PW.pt _ _ _ (@g_ _ _ _ _ _ _ _ (@aL _ _ _ _ _ _ _ _ kK (@aH _ _ _ _ _ _ _ _ eU aq (pv 2)) (@ar _ _ _ _ _ _ _ _ _ ao (by rfl) T.len yq (@aa _ _ _ _ _ (pv 1) af (by rfl)) (by decide) (by decide) (by rfl) (by rfl)) (aP _)) (@eP _ _ _ _ (@aL _ _ _ _ _ _ _ _ dW (@bc _ _ _ _ _ _ _ br (pv 1) (pv 2) (fun _ _ => rfl)) (@aI _ _ _ _ _ _ _ _ _ _ _ F_back hr (by decide) rfl (@aa _ _ _ _ _ (@bc _ _ _ _ _ _ _ br (pv 1) (@aH _ _ _ _ _ _ _ _ ee (@qR _ _ _ _ _ _ lT aq) (pv 2)) (fun _ _ => rfl)) af (by rfl)) (by decide) (by rfl) (by rfl)) (aP _))))) (@aj _ _ _ (@fT _ _ (2) _ _ _ _ _ _ sc.nd rfl (Or.inl rfl) aq fU (by first | exact .inl rfl | exact .inr rfl | assumption)))) (@aj _ _ _ (@aK _ _ _ _ (@hU _ _ _ _ _ (@aa _ _ _ _ _ (@aZ _ _ _ _ _ _ _ _ _ _ bX (pv 1) bB (@bb _ _ _ (pv 2))) (@aa _ _ _ _ _ (@aZ _ _ _ _ _ _ _ _ _ _ bX (pv 1) (@bb _ _ _ (pv 2)) (@bb _ _ _ (@aH _ _ _ _ _ _ _ _ ee (@ar _ _ _ _ _ _ _ _ _ ao (by rfl) T.len yq (@aa _ _ _ _ _ (pv 1) af (by rfl)) (by decide) (by decide) (by rfl) (by rfl)) (pv 2)))) af (by rfl)) (by rfl)))))))), ?_⟩
    refine ⟨_, rfl, u, rfl, by omega, fun H1 s1 => ?_⟩
    have hru := bu u
    have hw : (toS (red u)).length≤sizeLine := by rw [ab];omega
    refine ⟨fun n σ H' => ∃ (fr md : List L), σ = [some (tx u), some (tx (red u)), some (.int (fr.length : Int))] ∧ aD H H' ∧ red u=fr++(md++bk fr) ∧ (∀ r, fR fr md r → fR [] (red u) r) ∧ n=md.length, ⟨_, [], red u, rfl, s1, (by rw [uh, yP];rfl), fun _ q => q, rfl⟩, ?_⟩
    rintro n σ H2 ⟨fr, md, rfl, s2, eR, hC, rfl⟩
    have hlen : (red u).length=2*fr.length+md.length := by
      rw [eR, x_, x_, b8]
      omega
    have fin : (∀ x mid, md≠x::(mid++[inv x])) → ∀ H3, aD H H3 → ∀ p, H3 p=none → Q (.ref p) (upd H3 p (.tup [tx fr, tx md])) := fun hn H3 s3 p hp =>
      k fr md p _ (hC _ (.stop fr md hn)) (by omega) ah (s3.then hp)
    have c1 : jl (red u) none (some (fr.length : Int))=fr := by
      rw [df _ (by omega), yD, eR, A_]
      rfl
    have c2 : jl (red u) (some (fr.length : Int)) (some (((red u).length : Int) - (fr.length : Int)))=md := by
      have e : ((red u).length : Int) - (fr.length : Int)=((fr.length+md.length : Nat) : Int) := by omega
      unfold jl
      rw [e, HT.dj, HT.dj, A8 (by omega), A8 (by omega), eR, List.drop_left' rfl, Nat.add_sub_cancel_left, A_ rfl]
    by_cases h0 : md=[]
    · have e1 : decide ((2 : Int)*(fr.length : Int) < ((toS (red u)).length : Int))=false := by
        rw [ab]
        refine yr ?_
        rw [h0, zh] at hlen
        omega
      refine ⟨_, rfl, _, _, rfl, rfl, (Or.inl ⟨by decide, by decide⟩), _, rfl, _, rfl, hw, _, _, rfl, rfl, _, rfl, kW e1 (lF ?_)⟩
      have hn : ∀ x mid, md≠x::(mid++[inv x]) := fun x mid e => by rw [h0] at e;cases e
      refine ⟨_, rfl, _, rfl, _, rfl, _, rfl, hw, _, rfl, _, rfl, _, rfl, _, rfl, _, rfl, hw, _, rfl, _, _, rfl, rfl, _, rfl, _, rfl, hw, ?_⟩
      rw [aF, aF, ab, c1, c2]
      exact ⟨(by show 2≤sizeLine;decide), fun p hp => fin hn _ (s2) p hp⟩
    · have e1 : decide ((2 : Int)*(fr.length : Int) < ((toS (red u)).length : Int))=true := by
        rw [ab]
        refine yG ?_
        have := yw.mpr h0
        omega
      refine ⟨_, rfl, _, _, rfl, rfl, (Or.inl ⟨by decide, by decide⟩), _, rfl, _, rfl, hw, _, _, rfl, rfl, _, rfl, kU e1 ?_⟩
      obtain ⟨x, r, ex⟩ : ∃ x r, md=x::r := by
        cases md with
        | nil => exact absurd rfl h0
        | cons x r => exact ⟨x, r, rfl⟩
      obtain ⟨mid, z, ez⟩ : ∃ mid z, md=mid++[z] := ⟨md.dropLast, md.getLast h0, (y4 h0).symm⟩
      have ax : atI (toS (red u)).cps.toList (fr.length : Int)=some (cp x) := bp rfl (by rw [eR, ex, yF (yb _), AD];rfl)
      have az : atI (toS (red u)).cps.toList (-1 - (fr.length : Int))=some (cp z) := by
        have := uy (fr++mid) (bk fr) z
        rw [b8] at this
        rw [eR, ez, yX, ← yX]
        exact this
      refine ⟨_, rfl, _, rfl, _, _, cp x, rfl, rfl, hw, ax, _, rfl, _, rfl, _, rfl, _, _, rfl, rfl, _, _, cp z, rfl, rfl, hw, az, [z], rfl, (by show 1≤5000;decide), fun H3 s3 => ⟨rfl, _, rfl, ?_⟩⟩
      show if decide (tx [x]=tx (bk [z]))=true then _ else _
      rw [dH, bR]
      refine jk (fun h => ?_) (fun h => ?_)
      · have h : x=inv z := by simpa using h
        have hz : z=inv x := by rw [h, aE]
        obtain ⟨m2, em⟩ : ∃ m2, md=x::(m2++[inv x]) := by
          cases mid with
          | nil =>
            rw [ez] at ex
            have := (y_ ex).1
            rw [this] at hz
            exact absurd hz.symm (fe x)
          | cons y m2 =>
            rw [ez] at ex
            have := (y_ ex).1
            subst this
            exact ⟨m2, by rw [ez, hz];rfl⟩
        have hl2 : md.length=m2.length+2 := by rw [em];exact bM
        refine ⟨_, fun σ' H' q => q, ?_⟩
        refine ⟨_, rfl, _, _, rfl, rfl, m2.length, by omega, fr++[x], m2, ?_, s2.trans s3, ?_, fun q hq => hC q (by rw [em];exact .step fr x m2 q hq), rfl⟩
        · rw [x_, yi]
          rfl
        · rw [eR, em, bQ, bR]
          simp
      · have h : ¬ x=inv z := by simpa using h
        have hn : ∀ y m2, md≠y::(m2++[inv y]) := by
          intro y m2 e
          rw [ex] at e
          obtain ⟨e1, e2⟩ := y_ e
          subst e1
          have e3 : x::(m2++[inv x])=mid++[z] := by rw [← e2, ← ex, ez]
          have e4 := BM (s₁ := x::m2) (s₂ := mid) e3 rfl
          exact h (by rw [← (y_ e4).1, aE])
        refine ⟨_, rfl, _, rfl, _, rfl, _, rfl, hw, _, rfl, _, rfl, _, rfl, _, rfl, _, rfl, hw, _, rfl, _, _, rfl, rfl, _, rfl, _, rfl, hw, ?_⟩
        rw [aF, aF, ab, c1, c2]
        exact ⟨(by show 2≤sizeLine;decide), fun p hp => fin hn _ (s2.trans s3) p hp⟩
abbrev dP : Stmt := top 12
theorem n5 : aG ["word", "twice", "one", "other", "size"] ["word"] (ai dP) := ⟨rfl, rfl, rfl, by decide +kernel, rfl, by decide +kernel, by decide +kernel⟩
theorem pT (D : Df K mg "least_place" dP)(T : Bt K w mg aB) : Fnc P w K mg base "least_place" ["word"] 1 gU := by
  have sc := n5
  refine D.ok sc (fun _ _ _ _ _ _ us hl => by obtain ⟨_, rfl⟩ := jo hl;rfl) (fun vs H Q E h => ?_) (fun f cdv A outer s H vs Q E hr h => ?_)
  · obtain ⟨u, rfl, _⟩ := h
    rfl
  · obtain ⟨u, rfl, hu, k⟩ := h
    have l16 := aT
    refine ⟨_, (@ag _ _ _ _ _ (@au _ _ (1) _ _ _ _ sc.nd rfl (Or.inl rfl) (@aH _ _ _ _ _ _ _ _ aJ (pv 0) (pv 0)) (by rfl) (by first | exact .inl rfl | exact .inr rfl | assumption)) (@ag _ _ _ _ _ (@au _ _ (2) _ _ _ _ sc.nd rfl (Or.inl rfl) aq (by rfl) (by first | exact .inl rfl | exact .inr rfl | assumption)) (@ag _ _ _ _ _ (@au _ _ (3) _ _ _ _ sc.nd rfl (Or.inl rfl) aq (by rfl) (by first | exact .inl rfl | exact .inr rfl | assumption)) (@ag _ _ _ _ _ (@au _ _ (4) _ _ _ _ sc.nd rfl (Or.inl rfl) aq (by rfl) (by first | exact .inl rfl | exact .inr rfl | assumption)) (@ag _ _ _ _ _ (@du _ _ _ _ _ _ yQ (@PW.pt _ _ _ (@g_ _ _ _ _ _ _ _ (@aL _ _ _ _ _ _ _ _ kK (@ar _ _ _ _ _ _ _ _ _ (@lY _ rfl) (by rfl) T.max wj (@aa _ _ _ _ _ (pv 2) (@aa _ _ _ _ _ (pv 3) af (by rfl)) (by rfl)) (by decide) (by decide) (by rfl) (by rfl)) (@ar _ _ _ _ _ _ _ _ _ ao (by rfl) T.len yq (@aa _ _ _ _ _ (pv 0) af (by rfl)) (by decide) (by decide) (by rfl) (by rfl)) (aP _)) (@eP _ _ _ _ (@aL _ _ _ _ _ _ _ _ kK (pv 4) (@ar _ _ _ _ _ _ _ _ _ ao (by rfl) T.len yq (@aa _ _ _ _ _ (pv 0) af (by rfl)) (by decide) (by decide) (by rfl) (by rfl)) (aP _))))) (@aj _ _ _ (@b0 _ _ _ _ _ _ _ _ (@aL _ _ _ _ _ _ _ _ dW (@bc _ _ _ _ _ _ _ br (pv 1) (@aH _ _ _ _ _ _ _ _ bw (pv 2) (pv 4)) (fun _ _ => rfl)) (@bc _ _ _ _ _ _ _ br (pv 1) (@aH _ _ _ _ _ _ _ _ bw (pv 3) (pv 4)) (fun _ _ => rfl)) (aP _)) (@aj _ _ _ (@fT _ _ (4) _ _ _ _ _ _ sc.nd rfl (Or.inl rfl) aq fU (by first | exact .inl rfl | exact .inr rfl | assumption))) (@ag _ _ _ _ _ (@b0 _ _ _ _ _ _ _ _ (@aL _ _ _ _ _ _ _ _ nh (@bc _ _ _ _ _ _ _ br (pv 1) (@aH _ _ _ _ _ _ _ _ bw (pv 2) (pv 4)) (fun _ _ => rfl)) (@bc _ _ _ _ _ _ _ br (pv 1) (@aH _ _ _ _ _ _ _ _ bw (pv 3) (pv 4)) (fun _ _ => rfl)) (aP _)) (@aj _ _ _ (@fT _ _ (2) _ _ _ _ _ _ sc.nd rfl (Or.inl rfl) (@aH _ _ _ _ _ _ _ _ bw (pv 4) aq) fU (by first | exact .inl rfl | exact .inr rfl | assumption))) (@aj _ _ _ (@fT _ _ (3) _ _ _ _ _ _ sc.nd rfl (Or.inl rfl) (@aH _ _ _ _ _ _ _ _ bw (pv 4) aq) fU (by first | exact .inl rfl | exact .inr rfl | assumption)))) (@ag _ _ _ _ _ (@b0 _ _ _ _ _ _ _ _ (@aL _ _ _ _ _ _ _ _ dW (pv 2) (pv 3) (aP _)) (@aj _ _ _ (@fT _ _ (3) _ _ _ _ _ _ sc.nd rfl (Or.inl rfl) aq fU (by first | exact .inl rfl | exact .inr rfl | assumption))) bo) (@aj _ _ _ (@au _ _ (4) _ _ _ _ sc.nd rfl (Or.inl rfl) aq (by rfl) (by first | exact .inl rfl | exact .inr rfl | assumption)))))))) (@aj _ _ _ (@aK _ _ _ _ (@ar _ _ _ _ _ _ _ _ _ (@lZ _ rfl) (by rfl) T.min um (@aa _ _ _ _ _ (pv 2) (@aa _ _ _ _ _ (pv 3) af (by rfl)) (by rfl)) (by decide) (by decide) (by rfl) (by rfl))))))))), ?_⟩
    have hw : (toS u).length≤sizeLine := by rw [ab];omega
    refine ⟨_, rfl, _, rfl, _, _, rfl, rfl, (by rw [ab];omega), ?_⟩
    rw [aC]
    refine ⟨fun n σ H' => ∃ (i j q : Nat), σ = [some (tx u), some (tx (u++u)), some (.int (i : Int)), some (.int (j : Int)), some (.int (q : Int))] ∧ H'=H ∧ LP (rnd u) u.length i j q ∧ i≤2*u.length+1 ∧ j≤2*u.length+1 ∧ q≤u.length ∧ n+i+j+q=10*u.length+10 ∧ (u=[] → i=0), ⟨10*u.length+9, 0, 1, 0, rfl, rfl, LP.start _ _, by omega, by omega, by omega, by omega, fun _ => rfl⟩, ?_⟩
    rintro n σ H2 ⟨i, j, q, rfl, rfl, hL, hi, hj, hq, hm, hz⟩
    have hmax : (if (j : Int) > (i : Int) then (j : Int) else (i : Int))=((max i j : Nat) : Int) := by split <;> omega
    have hmin : (if (j : Int) < (i : Int) then (j : Int) else (i : Int))=((min i j : Nat) : Int) := by split <;> omega
    have fin : (u.length≤max i j ∨ u.length≤q) → Q (.int (if (j : Int) < (i : Int) then (j : Int) else (i : Int))) H2 := fun e => by
      rw [hmin]
      by_cases h0 : u=[]
      · have : min i j=0 := by rw [hz h0];omega
        rw [this]
        refine k 0 (by omega) ?_
        rw [h0]
        exact ⟨ym.mpr rfl, fun y hy => by rw [ym.mp hy];exact Bk _⟩
      · obtain ⟨a, b⟩ := hL.least e h0
        exact k _ (by omega) a
    by_cases h1 : max i j < u.length
    · refine ⟨_, rfl, _, rfl, _, _, rfl, _, rfl, _, rfl, hw, _, _, rfl, rfl, _, rfl, kU (by rw [hmax, ab];exact yG (by omega)) ?_⟩
      by_cases h2 : q < u.length
      · refine ⟨_, rfl, _, rfl, _, rfl, hw, _, _, rfl, rfl, _, rfl, kU (by rw [ab];exact yG (by omega)) ?_⟩
        have hw2 : (toS (u++u)).length≤sizeLine := by rw [ab, x_];omega
        obtain ⟨x, hx⟩ : ∃ x, (u++u)[i+q]? = some x := ⟨_, yc (by rw [x_];omega)⟩
        obtain ⟨y, hy⟩ : ∃ y, (u++u)[j+q]? = some y := ⟨_, yc (by rw [x_];omega)⟩
        have rx := ku hx
        have ry := ku hy
        have ax : atI (toS (u++u)).cps.toList ((i : Int)+(q : Int))=some (cp x) := bp (by omega) hx
        have ay : atI (toS (u++u)).cps.toList ((j : Int)+(q : Int))=some (cp y) := bp (by omega) hy
        have hne : u≠[] := fun e => by rw [e] at h1;simp at h1
        refine ⟨_, fun σ' H' q => q, ?_⟩
        refine ⟨_, rfl, _, rfl, _, rfl, _, _, rfl, rfl, _, _, cp x, rfl, rfl, hw2, ax, _, rfl, _, rfl, _, rfl, _, _, rfl, rfl, _, _, cp y, rfl, rfl, hw2, ay, rfl, _, rfl, ?_⟩
        show if decide (tx [x]=tx [y])=true then _ else _
        rw [dH]
        refine jk (fun h => ?_) (fun h => ?_)
        · have h : x=y := by simpa using h
          refine ⟨_, rfl, _, _, rfl, rfl, n - 1, by omega, i, j, q+1, rfl, rfl, hL.on (by rw [rx, ry, h]), hi, hj, by omega, by omega, hz⟩
        · have h : x≠y := by simpa using h
          have hc : cp x≠cp y := fun e => h (mF x y e)
          refine ⟨_, rfl, _, rfl, _, rfl, _, _, rfl, rfl, _, _, cp x, rfl, rfl, hw2, ax, _, rfl, _, rfl, _, rfl, _, _, rfl, rfl, _, _, cp y, rfl, rfl, hw2, ay, _, _, rfl, rfl, _, rfl, ?_⟩
          have hd : decide ((⟨#[cp y]⟩ : Str).cps.toList < (⟨#[cp x]⟩ : Str).cps.toList)=decide (cp y < cp x) := by
            show decide ([cp y] < [cp x])=_
            congr 1
            rw [List.cons_lt_cons_iff]
            simp
          rw [hd]
          refine jk (fun h => ?_) (fun h => ?_)
          · have h : cp y < cp x := by simpa using h
            refine ⟨_, rfl, _, rfl, _, _, rfl, rfl, _, _, rfl, rfl, _, rfl, _, rfl, rfl, _, rfl, ?_⟩
            have ei : (i : Int)+((q : Int)+1)=((i+(q+1) : Nat) : Int) := by omega
            by_cases he : i+(q+1)=j
            · refine kU (yG (yW V.int (by show (i : Int)+((q : Int)+1)=(j : Int);omega))) ?_
              refine ⟨_, rfl, _, _, rfl, rfl, n - 2, by omega, i+(q+1), j+1, 0, ?_, rfl, hL.firstE h2 (by rw [rx, ry];exact h) he, by omega, by omega, by omega, by omega, fun e => absurd e hne⟩
              show [_, _, some (V.int ((i : Int)+((q : Int)+1))), _, _]=_
              rw [ei]
              rfl
            · refine kW (yr fun e => he (by have e2 : (i : Int)+((q : Int)+1)=(j : Int) := V.int.inj e;omega)) ?_
              refine ⟨n - 1, by omega, i+(q+1), j, 0, ?_, rfl, hL.first h2 (by rw [rx, ry];exact h) he, by omega, by omega, by omega, by omega, fun e => absurd e hne⟩
              show [_, _, some (V.int ((i : Int)+((q : Int)+1))), _, _]=_
              rw [ei]
              rfl
          · have h : ¬ cp y < cp x := by simpa using h
            have h : cp x < cp y := by omega
            refine ⟨_, rfl, _, rfl, _, _, rfl, rfl, _, _, rfl, rfl, _, rfl, _, rfl, rfl, _, rfl, ?_⟩
            have ej : (j : Int)+((q : Int)+1)=((j+(q+1) : Nat) : Int) := by omega
            by_cases he : i=j+(q+1)
            · refine kU (yG (yW V.int (by show (i : Int)=(j : Int)+((q : Int)+1);omega))) ?_
              refine ⟨_, rfl, _, _, rfl, rfl, n - 2, by omega, i, j+(q+1)+1, 0, ?_, rfl, hL.secondE h2 (by rw [rx, ry];exact h) he, by omega, by omega, by omega, by omega, fun e => absurd e hne⟩
              show [_, _, _, some (V.int ((j : Int)+((q : Int)+1)+1)), _]=_
              rw [ej]
              rfl
            · refine kW (yr fun e => he (by have e2 : (i : Int)=(j : Int)+((q : Int)+1) := V.int.inj e;omega)) ?_
              refine ⟨n - 1, by omega, i, j+(q+1), 0, ?_, rfl, hL.second h2 (by rw [rx, ry];exact h) he, by omega, by omega, by omega, by omega, fun e => absurd e hne⟩
              show [_, _, _, some (V.int ((j : Int)+((q : Int)+1))), _]=_
              rw [ej]
              rfl
      · refine ⟨_, rfl, _, rfl, _, rfl, hw, _, _, rfl, rfl, _, rfl, kW (by rw [ab];exact yr (by omega)) ?_⟩
        exact ⟨_, rfl, _, rfl, _, _, rfl, fin (.inr (by omega))⟩
    · refine ⟨_, rfl, _, rfl, _, _, rfl, _, rfl, _, rfl, hw, _, _, rfl, rfl, _, rfl, kW (by rw [hmax, ab];exact yr (by omega)) (lF ?_)⟩
      exact ⟨_, rfl, _, rfl, _, _, rfl, fin (.inl (by omega))⟩
abbrev fM : Stmt := top 11
theorem pU : aG ["word", "place"] ["word"] (ai fM) := ⟨rfl, rfl, rfl, by decide +kernel, rfl, by decide +kernel, by decide +kernel⟩
theorem sq (D : Df K mg "least_turn" fM)(T : Bt K w mg aB)(F_leastp : Fnc P w K mg base "least_place" ["word"] 1 gU) : Fnc P w K mg base "least_turn" ["word"] 2 fJ := by
  have sc := pU
  refine D.ok sc (fun _ _ _ _ _ _ us hl => by obtain ⟨_, rfl⟩ := jo hl;rfl) (fun vs H Q E h => ?_) (fun f cdv A outer s H vs Q E hr h => ?_)
  · obtain ⟨u, rfl, _⟩ := h
    rfl
  · obtain ⟨u, rfl, hu, k⟩ := h
    have l16 := aT
    have hw : (toS u).length≤sizeLine := by rw [ab];omega
    refine ⟨_, (@ag _ _ _ _ _ (@au _ _ (1) _ _ _ _ sc.nd rfl (Or.inl rfl) (@aI _ _ _ _ _ _ _ _ _ _ _ F_leastp hr (by decide) rfl (@aa _ _ _ _ _ (pv 0) af (by rfl)) (by decide) (by rfl) (by rfl)) (by rfl) (by first | exact .inl rfl | exact .inr rfl | assumption)) (@aj _ _ _ (@aK _ _ _ _ (@aH _ _ _ _ _ _ _ _ aJ (@aZ _ _ _ _ _ _ _ _ _ _ bX (pv 0) (@bb _ _ _ (pv 1)) bB) (@aZ _ _ _ _ _ _ _ _ _ _ bX (pv 0) bB (@bb _ _ _ (pv 1))))))), ?_⟩
    refine ⟨_, rfl, u, rfl, hu, fun p hp hl => ?_⟩
    refine ⟨_, rfl, _, rfl, _, rfl, _, rfl, hw, _, rfl, _, rfl, _, rfl, _, rfl, hw, _, _, rfl, rfl, ?_, ?_⟩
    · rw [aF, aF, ab, ab]
      have h1 := cS u (some (p : Int)) none
      have h2 := cS u none (some (p : Int))
      omega
    · rw [aF, aF, cR _ (by omega), df _ (by omega), yD, aC]
      exact k _ _ hl (aD.refl _)
abbrev u7 : Stmt := top 14
theorem wH : aG ["word"] ["word"] (ai u7) := ⟨rfl, rfl, rfl, by decide +kernel, rfl, by decide +kernel, by decide +kernel⟩
theorem xR (D : Df K mg "least_middle" u7)(T : Bt K w mg aB)(F_core : Fnc P w K mg base "core" ["word"] 2 nN)(F_least : Fnc P w K mg base "least_turn" ["word"] 2 fJ) : Fnc P w K mg base "least_middle" ["word"] 3 wF := by
  have sc := wH
  refine D.ok sc (fun _ _ _ _ _ _ us hl => by obtain ⟨_, rfl⟩ := jo hl;rfl) (fun vs H Q E h => ?_) (fun f cdv A outer s H vs Q E hr h => ?_)
  · obtain ⟨u, rfl, _⟩ := h
    rfl
  · obtain ⟨u, rfl, hu, k⟩ := h
    refine ⟨_, (@aj _ _ _ (@aK _ _ _ _ (@aI _ _ _ _ _ _ _ _ _ _ _ F_least hr (by decide) rfl (@aa _ _ _ _ _ (@bc _ _ _ _ _ _ _ cY (@aI _ _ _ _ _ _ _ _ _ _ _ F_core hr (by decide) rfl (@aa _ _ _ _ _ (pv 0) af (by rfl)) (by decide) (by rfl) (by rfl)) aq (fun _ _ => rfl)) af (by rfl)) (by decide) (by rfl) (by rfl)))), ?_⟩
    refine ⟨_, rfl, u, rfl, hu, fun fr m p H1 hC hl hp s1 => ?_⟩
    have hm := (kD hC).2.2
    have hru := bu u
    have hm : m.length≤(red u).length := hm
    refine ⟨p, _, _, _, rfl, rfl, SqT.of hp, rfl, m, rfl, by omega, fun t H2 hL s2 => k t fr m H2 hC hL (s1.trans s2)⟩
abbrev u9 : Stmt := top 19
theorem wI : aG ["change", "way"] ["change", "way"] (ai u9) := ⟨rfl, rfl, rfl, by decide +kernel, rfl, by decide +kernel, by decide +kernel⟩
theorem xS (D : Df K mg "way_by" u9)(F_mapped : Fnc P w K mg base "mapped" ["change", "word"] 2 eM)(F_lm : Fnc P w K mg base "least_middle" ["word"] 3 wF) : Fnc P w K mg base "way_by" ["change", "way"] 4 jS := by
  have sc := wI
  refine D.ok sc (fun _ _ _ _ _ _ us hl => by obtain ⟨_, _, rfl⟩ := nY hl;rfl) (fun vs H Q E h => ?_) (fun f cdv A outer s H vs Q E hr h => ?_)
  · obtain ⟨p, u, n, b, ws, rfl, _⟩ := h
    rfl
  · obtain ⟨p, u, n, b, ws, rfl, M, n6, hin, hul, hlen, hb, k⟩ := h
    refine ⟨_, (@aj _ _ _ (@aK _ _ _ _ (@aI _ _ _ _ _ _ _ _ _ _ _ F_lm hr (by decide) rfl (@aa _ _ _ _ _ (@aI _ _ _ _ _ _ _ _ _ _ _ F_mapped hr (by decide) rfl (@aa _ _ _ _ _ (pv 0) (@aa _ _ _ _ _ (pv 1) af (by rfl)) (by rfl)) (by decide) (by rfl) (by rfl)) af (by rfl)) (by decide) (by rfl) (by rfl)))), ?_⟩
    have h1 := (M.ok.sub u).2
    have h2 := bu (sub ws u)
    refine ⟨_, rfl, _, rfl, p, u, n, b, ws, rfl, M, n6, hin, by omega, by omega, by omega, fun H1 s1 => ⟨_, rfl, by omega, fun m fr md H2 hC hL s2 => k m fr md H2 ?_ hL (s1.trans s2)⟩⟩
    rwa [dJ] at hC
end
end Kx
namespace Kx
open PySem PySem.Spec PyProof.Rows L2 Wd
section
variable {P : Program} {w : World} {K : PySem.W.Frag} {mg : Str → Option Value} {base : Heap} {aB : Addr}
abbrev n8 : Stmt := top 36
theorem u_ : aG ["_law_word", "_law_found"] ["_law_word"] (ai n8) := ⟨rfl, rfl, rfl, by decide +kernel, rfl, by decide +kernel, by decide +kernel⟩
theorem wJ (D : Df K mg "_law_middle" n8)(T : Bt K w mg aB)(F_lback : Fnc P w K mg base "_law_back" ["_law_word"] 1 kf)(F_lred : Fnc P w K mg base "_law_reduced" ["_law_word"] 2 mO) : Fnc P w K mg base "_law_middle" ["_law_word"] 3 r6 := by
  have sc := u_
  refine D.ok sc (fun _ _ _ _ _ _ us hl => by obtain ⟨_, rfl⟩ := jo hl;rfl) (fun vs H Q E h => ?_) (fun f cdv A outer s H vs Q E hr h => ?_)
  · obtain ⟨u, rfl, _⟩ := h
    rfl
  · obtain ⟨u, rfl, hu, k⟩ := h
    have l16 := aT
    have hru := bu u
    refine ⟨_, (@ag _ _ _ _ _ (@au _ _ (1) _ _ _ _ sc.nd rfl (Or.inl rfl) (@aI _ _ _ _ _ _ _ _ _ _ _ F_lred hr (by decide) rfl (@aa _ _ _ _ _ (pv 0) af (by rfl)) (by decide) (by rfl) (by rfl)) (by rfl) (by first | exact .inl rfl | exact .inr rfl | assumption)) (@ag _ _ _ _ _ (@du _ _ _ _ _ _ yQ (@PW.pt _ _ _ (@g_ _ _ _ _ _ _ _ (@aL _ _ _ _ _ _ _ _ tL (@ar _ _ _ _ _ _ _ _ _ ao (by rfl) T.len yq (@aa _ _ _ _ _ (pv 1) af (by rfl)) (by decide) (by decide) (by rfl) (by rfl)) aq (aP _)) (@eP _ _ _ _ (@aL _ _ _ _ _ _ _ _ dW (@bc _ _ _ _ _ _ _ br (pv 1) aq (fun _ _ => rfl)) (@aI _ _ _ _ _ _ _ _ _ _ _ F_lback hr (by decide) rfl (@aa _ _ _ _ _ (@bc _ _ _ _ _ _ _ br (pv 1) (@aH _ _ _ _ _ _ _ _ ee (@ar _ _ _ _ _ _ _ _ _ ao (by rfl) T.len yq (@aa _ _ _ _ _ (pv 1) af (by rfl)) (by decide) (by decide) (by rfl) (by rfl)) aq) (fun _ _ => rfl)) af (by rfl)) (by decide) (by rfl) (by rfl)) (aP _))))) (@aj _ _ _ (@au _ _ (1) _ _ _ _ sc.nd rfl (Or.inl rfl) (@aZ _ _ _ _ _ _ _ _ _ _ bX (pv 1) (@bb _ _ _ aq) (@bb _ _ _ (@aH _ _ _ _ _ _ _ _ ee (@ar _ _ _ _ _ _ _ _ _ ao (by rfl) T.len yq (@aa _ _ _ _ _ (pv 1) af (by rfl)) (by decide) (by decide) (by rfl) (by rfl)) aq))) (by rfl) (by first | exact .inl rfl | exact .inr rfl | assumption)))) (@aj _ _ _ (@aK _ _ _ _ (pv 1))))), ?_⟩
    refine ⟨_, rfl, u, rfl, by omega, fun H1 s1 => ?_⟩
    refine ⟨fun n σ H' => ∃ (fr md : List L), σ = [some (tx u), some (tx md)] ∧ aD H H' ∧ (∀ r, fR fr md r → fR [] (red u) r) ∧ fr.length+md.length≤u.length ∧ n=md.length, ⟨_, [], red u, rfl, s1, fun _ q => q, (by simp only [zh];omega), rfl⟩, ?_⟩
    rintro n σ H2 ⟨fr, md, rfl, s2, hC, hl, rfl⟩
    have fin : (∀ x mid, md≠x::(mid++[inv x])) → ∀ H3, aD H H3 → Q (tx md) H3 := fun hn H3 s3 => by
      have c := hC _ (.stop fr md hn)
      exact k fr md _ c (by omega) (fun x hx => nk ((kD c).1 x hx)) s3
    have hmd : (toS md).length≤sizeLine := by rw [ab];omega
    by_cases h1 : 1 < md.length
    · refine ⟨_, rfl, _, rfl, hmd, _, _, rfl, rfl, _, rfl, kU (by rw [ab];exact yG (by omega)) ?_⟩
      obtain ⟨x, mid, z, rfl⟩ := pe h1
      refine ⟨_, rfl, _, _, cp x, rfl, rfl, hmd, bp (k := 0) rfl rfl, _, rfl, _, rfl, _, rfl, hmd, _, _, rfl, rfl, _, _, cp z, rfl, rfl, hmd, bp (k := mid.length+1) ?_ ?_, [z], rfl, (by show 1≤5000;decide), fun H3 s3 => ⟨rfl, _, rfl, ?_⟩⟩
      · rw [ab];simp
      · simp
      show if decide (tx [x]=tx (bk [z]))=true then _ else _
      rw [dH, bR]
      refine jk (fun h => ?_) (fun h => ?_)
      · have h : x=inv z := by simpa using h
        have h : z=inv x := by rw [h, aE]
        subst h
        refine ⟨_, fun σ' H' q => q, ?_⟩
        refine ⟨_, rfl, _, rfl, _, rfl, _, rfl, hmd, _, _, rfl, rfl, _, rfl, _, rfl, hmd, ?_⟩
        rw [aF, ab, nM]
        rw [bM] at hl
        refine ⟨mid.length, by rw [bM];omega, fr++[x], mid, rfl, s2.trans s3, fun q hq => hC q (.step fr x mid q hq), ?_, rfl⟩
        rw [x_, yi]
        omega
      · have h : ¬ x=inv z := by simpa using h
        exact ⟨_, rfl, fin (fun y m2 e => by
          obtain ⟨e1, e2⟩ := y_ e
          subst e1
          have e3 := BM e2 rfl
          exact h (by rw [(y_ e3).1, aE])) _ (s2.trans s3)⟩
    · refine ⟨_, rfl, _, rfl, hmd, _, _, rfl, rfl, _, rfl, kW (by rw [ab];exact yr (by omega)) (lF ?_)⟩
      exact ⟨_, rfl, fin (fun x mid e => by rw [e, bM] at h1;omega) _ s2⟩
abbrev dQ : Stmt := top 37
theorem n9 : aG ["_law_word"] ["_law_word"] (ai dQ) := ⟨rfl, rfl, rfl, by decide +kernel, rfl, by decide +kernel, by decide +kernel⟩
theorem pV (D : Df K mg "_law_least" dQ)(T : Bt K w mg aB) : Fnc P w K mg base "_law_least" ["_law_word"] 1 fJ := by
  have sc := n9
  refine D.ok sc (fun _ _ _ _ _ _ us hl => by obtain ⟨_, rfl⟩ := jo hl;rfl) (fun vs H Q E h => ?_) (fun f cdv A outer s H vs Q E hr h => ?_)
  · obtain ⟨u, rfl, _⟩ := h
    rfl
  · obtain ⟨u, rfl, hu, k⟩ := h
    have l16 := aT
    have hw : (toS u).length≤sizeLine := by rw [ab];omega
    refine ⟨_, (@aj _ _ _ (@aK _ _ _ _ (@ar _ _ _ _ _ _ _ _ _ (@gH _ rfl) (by rfl) T.min um (@aa _ _ _ _ _ (@dk _ _ _ _ _ _ _ (["_law_k", "_law_word"]) (["_law_k"]) ([0]) _ _ _ _ (@dG _ _ _ _ _ _ rfl (by kernel_rfl)) rfl (@b7 _ _ _ _ _ _ rfl T.range (@aa _ _ _ _ _ (@aH _ _ _ _ _ _ _ _ bw (@ar _ _ _ _ _ _ _ _ _ ao (by rfl) T.len yq (@aa _ _ _ _ _ (pv 0) af (by rfl)) (by decide) (by decide) (by rfl) (by rfl)) (@aU _ _ _ _ _ _ _ _ _ dA (by rfl) T.int o_ (@aa _ _ _ _ _ (@dX _ _ _ _ _ _ _ _ dW (pv 0) aN (aP _)) af (by rfl)) (by decide) (by decide) (by rfl) (by rfl))) af (by rfl)) (by rfl)) (fun _ _ _ _ => @aM _ _ (0) _ (show (["_law_k", "_law_word"] : List Str).Nodup from by decide +kernel) rfl (Or.inl rfl) (by first | exact .inl rfl | exact .inr rfl | assumption)) (fun _ _ _ _ => bW) (fun _ _ _ _ => by (exact @aH _ _ _ _ _ _ _ _ aJ (by (exact (@aZ _ _ _ _ _ _ _ _ _ _ bX (pv 1) (@bb _ _ _ (pv 0)) bB))) (by (exact (@aZ _ _ _ _ _ _ _ _ _ _ bX (pv 1) bB (@bb _ _ _ (pv 0))))))) (by intro _ ;rfl)) af (by rfl)) (by decide) (by decide) (by rfl) (by rfl)))), ?_⟩
    have en : ((toS u).length : Int)+(if decide (tx u=V.str ("" : Str))=true then 1 else 0)=((max 1 u.length : Nat) : Int) := by
      rw [ab]
      by_cases h0 : u=[]
      · subst h0
        rw [eh]
        simp
      · have : ¬ tx u=V.str ("" : Str) := by
          rw [← eh]
          exact fun e => h0 (kc e)
        have hp := yw.mpr h0
        rw [yr this]
        simp
        omega
    refine ⟨_, rfl, _, rfl, hw, _, rfl, rfl, .inr ⟨_, rfl, _, _, rfl, rfl, ?_⟩⟩
    rw [en]
    refine ⟨_, rfl, by omega, by omega, ?_⟩
    rw [yD]
    refine fc (own := ["_law_k"]) (cap := [0]) (J := Itr 0 (max 1 u.length)) (max 1 u.length) (fun i ys σ H' => ∃ v : Option V, σ = [v, some (tx u)] ∧ ys=(((fx u).take i).map toS).map V.str ∧ H'=H) ⟨none, rfl, rfl, rfl⟩
      (fun i ys σ H' hi ⟨v, _, e, _⟩ => ?_) (by omega) (fun i ys σ H' hi _ => hi) (fun ys σ H' _ => yb _) ?_ ?_
    · rw [e, x9, x9, yy];omega
    · rintro i ys σ H1 x H2 N hi ⟨v, rfl, rfl, rfl⟩ ⟨rfl, rfl⟩ hN
      have e1 : (0+(i : Int)).toNat=i := by omega
      have e2 : (fx u)[i]? = some (u.drop i++u.take i) := by
        unfold fx
        rw [yp, List.getElem?_range hi]
        rfl
      refine ⟨_, rfl, _, rfl, _, rfl, _, rfl, hw, _, rfl, _, rfl, _, rfl, _, rfl, hw, _, _, rfl, rfl, ?_, hN _ _ _ ⟨_, rfl, ?_, rfl⟩⟩
      · rw [aF, aF, ab, ab]
        have h1 := cS u (some (0+(i : Int))) none
        have h2 := cS u none (some (0+(i : Int)))
        omega
      · rw [aF, aF, cR _ (by omega), df _ (by omega), e1, aC, ze, e2, yK, yK]
        rfl
    · rintro ys σ H1 l ⟨v, rfl, rfl, rfl⟩ hl
      rw [zu (by rw [fH];exact yb _)]
      refine ⟨l, (fx u).map toS, rfl, SqL.of ah, ?_, fun m hm => k m _ hm (aD.new hl)⟩
      intro e
      have := yW List.length e
      rw [x9, fH, zh] at this
      omega
end
end Kx
namespace Kx
open PySem PySem.Spec PyProof.Rows L2 Wd
section
variable {P : Program} {w : World} {K : PySem.W.Frag} {mg : Str → Option Value} {base : Heap} {aB : Addr}
abbrev n_ : Stmt := top 6
theorem va : aG ["letter"] ["letter"] (ai n_) := ⟨rfl, rfl, rfl, by decide +kernel, rfl, by decide +kernel, by decide +kernel⟩
theorem wK (D : Df K mg "number_of" n_)(T : Bt K w mg aB)(S : ∃ t, mg "SMALL" = some (.str "abcdef" t)) : Fnc P w K mg base "number_of" ["letter"] 1 rH := by
  have sc := va
  refine D.ok sc (fun _ _ _ _ _ _ us hl => by obtain ⟨_, rfl⟩ := jo hl;rfl) (fun vs H Q E h => ?_) (fun f cdv A outer s H vs Q E hr h => ?_)
  · obtain ⟨x, rfl, _⟩ := h
    rfl
  · obtain ⟨x, rfl, k⟩ := h
    obtain ⟨tS, mgS⟩ := S
    refine ⟨_, (@aj _ _ _ (@aK _ _ _ _ (@dY _ _ _ _ _ _ _ _ _ _ _ _ yL Ao Ap gJ (@gq _ _ (.str "abcdef") _ _ rfl mgS ⟨_, rfl⟩ (by decide)) (@aa _ _ _ _ _ (@ib _ _ _ _ _ _ _ _ _ yL BK BL j_ (pv 0) (by rfl) (by rfl)) af (by rfl)) (by rfl) (by rfl) (by rfl) (by rfl) (by rfl)))), ?_⟩
    exact ⟨rfl, _, rfl, rfl, _, rfl, rfl, (by rw [ab];show 1≤5592405;decide), _, _, _, _, rfl, rfl, ur x, k⟩
abbrev vb : Stmt := top 24
theorem wL : aG ["surface", "slide"] ["surface", "slide"] (ai vb) := ⟨rfl, rfl, rfl, by decide +kernel, rfl, by decide +kernel, by decide +kernel⟩
theorem xT (D : Df K mg "neighbour" vb)(T : Bt K w mg aB) : Fnc P w K mg base "neighbour" ["surface", "slide"] 1 uI := by
  have sc := wL
  refine D.ok sc (fun _ _ _ _ _ _ us hl => by obtain ⟨_, _, rfl⟩ := nY hl;rfl) (fun vs H Q E h => ?_) (fun f cdv A outer s H vs Q E hr h => ?_)
  · obtain ⟨u, t, i, sd, rfl, _⟩ := h
    rfl
  · obtain ⟨u, t, i, sd, rfl, ht, hne, hul, k⟩ := h
    have l16 := aT
    have hp := yw.mpr hne
    have hw : (toS u).length≤sizeLine := by rw [ab];omega
    refine ⟨_, (@aj _ _ _ (@aK _ _ _ _ (@bc _ _ _ _ _ _ _ br (pv 0) (@aH _ _ _ _ _ _ _ _ cA (@aH _ _ _ _ _ _ _ _ bw (@bc _ _ _ _ _ _ _ cY (pv 1) aq (fun _ _ => rfl)) (@bc _ _ _ _ _ _ _ cY (pv 1) aq (fun _ _ => rfl))) (@ar _ _ _ _ _ _ _ _ _ ao (by rfl) T.len yq (@aa _ _ _ _ _ (pv 0) af (by rfl)) (by decide) (by decide) (by rfl) (by rfl))) (fun _ _ => rfl)))), ?_⟩
    refine ⟨_, rfl, _, rfl, t, _, _, _, rfl, rfl, SqT.of ht, rfl, _, rfl, t, _, _, _, rfl, rfl, SqT.of ht, rfl, _, _, rfl, rfl, _, rfl, _, rfl, hw, _, _, rfl, rfl, (by show (0 : Int) < ((toS u).length : Int);rw [ab];omega), ?_⟩
    have h1 := zH ((i : Int)+sd) (show (u.length : Int)≠0 by omega)
    have ha : atI (toS u).cps.toList (((i : Int)+sd) % ((toS u).length : Int))=some (cp (farOf u i sd)) := by
      rw [ab]
      exact bp (k := (((i : Int)+sd) % (u.length : Int)).toNat) (by omega) (fD hne i sd)
    exact ⟨_, _, _, rfl, rfl, hw, ha, k⟩
abbrev oa : Stmt := top 23
theorem vc : aG ["surface", "slide"] ["surface", "slide"] (ai oa) := ⟨rfl, rfl, rfl, by decide +kernel, rfl, by decide +kernel, by decide +kernel⟩
theorem wM (D : Df K mg "can_slide" oa)(T : Bt K w mg aB)(F_back : Fnc P w K mg base "back" ["word"] 1 kf)(F_nb : Fnc P w K mg base "neighbour" ["surface", "slide"] 1 uI) : Fnc P w K mg base "can_slide" ["surface", "slide"] 2 pM := by
  have sc := vc
  refine D.ok sc (fun _ _ _ _ _ _ us hl => by obtain ⟨_, _, rfl⟩ := nY hl;rfl) (fun vs H Q E h => ?_) (fun f cdv A outer s H vs Q E hr h => ?_)
  · obtain ⟨u, t, i, sd, e, rfl, _⟩ := h
    rfl
  · obtain ⟨u, t, i, sd, e, rfl, ht, hul, he, k⟩ := h
    have l16 := aT
    have hi : i < u.length := (ya.mp he).1
    have hne : u≠[] := yw.mp (by omega)
    have hw : (toS u).length≤sizeLine := by rw [ab];omega
    refine ⟨_, (@aj _ _ _ (@aK _ _ _ _ (@tu _ _ _ _ _ _ _ (@oI _ _ _ _ _ _ _ _ _ _ _ _ tK kK aq (@bc _ _ _ _ _ _ _ cY (pv 1) aq (fun _ _ => rfl)) (@ar _ _ _ _ _ _ _ _ _ ao (by rfl) T.len yq (@aa _ _ _ _ _ (pv 0) af (by rfl)) (by decide) (by decide) (by rfl) (by rfl)) (by with_unfolding_all rfl)) (@tq _ _ _ _ _ (@dX _ _ _ _ _ _ _ _ hJ (@aI _ _ _ _ _ _ _ _ _ _ _ F_nb hr (by decide) rfl (@aa _ _ _ _ _ (pv 0) (@aa _ _ _ _ _ (pv 1) af (by rfl)) (by rfl)) (by decide) (by rfl) (by rfl)) (@aI _ _ _ _ _ _ _ _ _ _ _ F_back hr (by decide) rfl (@aa _ _ _ _ _ (@bc _ _ _ _ _ _ _ br (pv 0) (@bc _ _ _ _ _ _ _ cY (pv 1) aq (fun _ _ => rfl)) (fun _ _ => rfl)) af (by rfl)) (by decide) (by rfl) (by rfl)) (aP _)))))), ?_⟩
    have ae : atI (toS u).cps.toList (i : Int)=some (cp e) := bp rfl he
    refine ⟨_, rfl, t, _, _, _, rfl, rfl, SqT.of ht, rfl, _, _, rfl, rfl, _, rfl, kU (yG (by omega)) ?_⟩
    refine ⟨_, rfl, _, rfl, hw, _, _, rfl, rfl, _, rfl, kU (by rw [ab];exact yG (by omega)) ?_⟩
    refine ⟨_, rfl, _, rfl, u, t, i, sd, rfl, ht, hne, hul, ?_⟩
    refine ⟨_, rfl, _, rfl, t, _, _, _, rfl, rfl, SqT.of ht, rfl, _, _, _, rfl, rfl, hw, ae, [e], rfl, (by show 1≤5000;decide), fun H1 s1 => ⟨rfl, ?_⟩⟩
    show Q (.bl (!decide (tx [farOf u i sd]=tx (bk [e])))) H1
    rw [dH, bR]
    have := k H1 s1
    rwa [show decide ([farOf u i sd]=[inv e])=decide (farOf u i sd=inv e) from decide_eq_decide.mpr ⟨fun z => by simpa using z, fun z => by rw [z]⟩]
abbrev og : Stmt := top 26
theorem vd : aG ["many", "end", "other", "parts", "word"] ["many", "end", "other"] (ai og) := ⟨rfl, rfl, rfl, by decide +kernel, rfl, by decide +kernel, by decide +kernel⟩
theorem wN (D : Df K mg "putting_ahead" og)(T : Bt K w mg aB)(S : ∃ t, mg "SMALL" = some (.str "abcdef" t))(F_num : Fnc P w K mg base "number_of" ["letter"] 1 rH)(F_back : Fnc P w K mg base "back" ["word"] 1 kf) : Fnc P w K mg base "putting_ahead" ["many", "end", "other"] 2 rT := by
  have sc := vd
  refine D.ok sc (fun _ _ _ _ _ _ us hl => by obtain ⟨_, _, _, rfl⟩ := vA hl;rfl) (fun vs H Q E h => ?_) (fun f cdv A outer s H vs Q E hr h => ?_)
  · obtain ⟨n, e, o, rfl, _⟩ := h
    rfl
  · obtain ⟨n, e, o, rfl, h1, h6, he, k⟩ := h
    have l16 := aT
    obtain ⟨tS, mgS⟩ := S
    have e6 : ("abcdef" : Str).length=6 := by decide +kernel
    have ez : Txt.slice ("abcdef" : Str) none (some (n : Int))=toS (([0, 1, 2, 3, 4, 5] : List L).take n) := by
      rw [← mG, aF, df _ (by omega), yD]
    have es : L2.fj (toS (([0, 1, 2, 3, 4, 5] : List L).take n))=(aR n).map tx := by
      unfold L2.fj aR
      rw [aV, y8, y8]
      rfl
    refine ⟨_, (@ag _ _ _ _ _ (@au _ _ (3) _ _ _ _ sc.nd rfl (Or.inl rfl) (@aU _ _ _ _ _ _ _ _ _ (@bS _ rfl) (by rfl) T.list kd (@aa _ _ _ _ _ (@aZ _ _ _ _ _ _ _ _ _ _ bX (@gq _ _ (.str "abcdef") _ _ rfl mgS ⟨_, rfl⟩ (by decide)) bB (@bb _ _ _ (pv 0))) af (by rfl)) (by decide) (by decide) (by rfl) (by rfl)) (by rfl) (by first | exact .inl rfl | exact .inr rfl | assumption)) (@ag _ _ _ _ _ (@au _ _ (4) _ _ _ _ sc.nd rfl (Or.inl rfl) (@aH _ _ _ _ _ _ _ _ aJ (pv 2) (pv 1)) (by rfl) (by first | exact .inl rfl | exact .inr rfl | assumption)) (@ag _ _ _ _ _ (@qi _ _ _ _ _ _ (@jY _ _ _ _ _ _ _ _ (@dz _ _ _ (@ib _ _ _ _ _ _ _ _ _ yL PySem.F.slot_str_islower PySem.F.type_str_islower lp (pv 1) (by rfl) (by rfl)) (fun _ => rfl)) (pv 4) (@aI _ _ _ _ _ _ _ _ _ _ _ F_back hr (by decide) rfl (@aa _ _ _ _ _ (pv 4) af (by rfl)) (by decide) (by rfl) (by rfl))) (@tD _ _ _ _ _ _ _ (pv 3) (@aI _ _ _ _ _ _ _ _ _ _ _ F_num hr (by decide) rfl (@aa _ _ _ _ _ (pv 1) af (by rfl)) (by decide) (by rfl) (by rfl)) oQ (by intro _ ;rfl)) (by rfl) (by rfl) (by rfl)) (@aj _ _ _ (@aK _ _ _ _ (@aU _ _ _ _ _ _ _ _ _ bI (by rfl) T.tuple gI (@aa _ _ _ _ _ (pv 3) af (by rfl)) (by decide) (by decide) (by rfl) (by rfl))))))), ?_⟩
    refine ⟨_, rfl, _, rfl, _, rfl, by omega, ?_⟩
    rw [ez]
    refine ⟨_, rfl, (by rw [ab, yy];simp;omega), fun l hl => ?_⟩
    rw [es]
    refine ⟨_, rfl, _, rfl, _, _, rfl, rfl, (by rw [ab, ab];show 1+1≤_;omega), ?_⟩
    rw [aC]
    have eF : toS ([o]++[e])=toS [o, e] := rfl
    rw [eF]
    have ix : ixN ((aR n).map tx).length ((e.val % 6 : Nat) : Int)=some (e.val % 6) := by
      unfold ixN
      rw [if_pos (by omega), if_pos (by rw [x9, (bA h6).len];omega), yD]
    have f1 : (upd H l (.lst ((aR n).map tx))) l=some (.lst ((aR n).map tx)) := ah
    have s1 : aD H (upd H l (.lst ((aR n).map tx))) := aD.new hl
    generalize upd H l (.lst ((aR n).map tx))=H1 at f1 s1 ⊢
    have keep : ∀ {H2 : Hp} {o' : HO}, aD H H2 → aD H (upd H2 l o') := fun s b o' e => by rw [av (ak e hl)];exact s b o' e
    refine ⟨_, rfl, rfl, _, rfl, rfl, _, rfl, ?_⟩
    show if Txt.islower (toS [e])=true then _ else _
    rw [nq]
    refine jk (fun h => ?_) (fun h => ?_)
    · have h : e.val < 6 := by simpa using h
      refine ⟨_, rfl, _, rfl, _, rfl, e, rfl, l, _, _, _, rfl, rfl, f1, ix, ?_⟩
      have em : ((aR n).map tx).set (e.val % 6) (V.str (toS [o, e]))=(cn n e o).map tx := by
        unfold cn
        rw [if_pos h, List.map_set]
        rfl
      rw [em]
      refine ⟨_, rfl, l, _, rfl, .inl ⟨SqL.of ah, fun r hr' => ?_⟩⟩
      have s2 : aD H (upd H1 l (.lst ((cn n e o).map tx))) := keep s1
      exact k r _ (none_of s2 hr') (s2.then hr') ah
    · have h : ¬ e.val < 6 := by simpa using h
      refine ⟨_, rfl, [o, e], rfl, (by show 2≤5000;decide), fun H2 s2 => ?_⟩
      refine ⟨_, rfl, _, rfl, e, rfl, l, _, _, _, rfl, rfl, s2 _ _ f1, ix, ?_⟩
      have em : ((aR n).map tx).set (e.val % 6) (tx (bk [o, e]))=(cn n e o).map tx := by
        unfold cn
        rw [if_neg h, List.map_set]
      rw [em]
      refine ⟨_, rfl, l, _, rfl, .inl ⟨SqL.of ah, fun r hr' => ?_⟩⟩
      have s3 : aD H (upd H2 l (.lst ((cn n e o).map tx))) := keep (s1.trans s2)
      exact k r _ (none_of s3 hr') (s3.then hr') ah
abbrev ja : Stmt := top 21
theorem su : aG ["surface", "slide", "end", "many", "beside"] ["surface", "slide"] (ai ja) := ⟨rfl, rfl, rfl, by decide +kernel, rfl, by decide +kernel, by decide +kernel⟩
theorem ve (D : Df K mg "maps_of" ja)(T : Bt K w mg aB)(F_back : Fnc P w K mg base "back" ["word"] 1 kf)(F_can : Fnc P w K mg base "can_slide" ["surface", "slide"] 2 pM)(F_nb : Fnc P w K mg base "neighbour" ["surface", "slide"] 1 uI)(F_put : Fnc P w K mg base "putting_ahead" ["many", "end", "other"] 2 rT) : Fnc P w K mg base "maps_of" ["surface", "slide"] 3 nA := by
  have sc := su
  refine D.ok sc (fun _ _ _ _ _ _ us hl => by obtain ⟨_, _, rfl⟩ := nY hl;rfl) (fun vs H Q E h => ?_) (fun f cdv A outer s H vs Q E hr h => ?_)
  · obtain ⟨u, t, n, i, sd, e, rfl, _⟩ := h
    rfl
  · obtain ⟨u, t, n, i, sd, e, rfl, ht, R, h1, h6, he, hc, k⟩ := h
    have l16 := aT
    have hi : i < u.length := (ya.mp he).1
    have hne : u≠[] := yw.mp (by omega)
    have hlu := R.len
    have hw : (toS u).length≤sizeLine := by rw [ab];omega
    refine ⟨_, (@ag _ _ _ _ _ (@b0 _ _ _ _ _ _ _ _ (@jX _ _ _ _ (@dz _ _ _ (@aI _ _ _ _ _ _ _ _ _ _ _ F_can hr (by decide) rfl (@aa _ _ _ _ _ (pv 0) (@aa _ _ _ _ _ (pv 1) af (by rfl)) (by rfl)) (by decide) (by rfl) (by rfl)) (fun _ => rfl))) (@aj _ _ _ jZ) bo) (@ag _ _ _ _ _ (@au _ _ (2) _ _ _ _ sc.nd rfl (Or.inl rfl) (@bc _ _ _ _ _ _ _ br (pv 0) (@bc _ _ _ _ _ _ _ cY (pv 1) aq (fun _ _ => rfl)) (fun _ _ => rfl)) (by rfl) (by first | exact .inl rfl | exact .inr rfl | assumption)) (@ag _ _ _ _ _ (@au _ _ (3) _ _ _ _ sc.nd rfl (Or.inl rfl) (@aH _ _ _ _ _ _ _ _ dh (@ar _ _ _ _ _ _ _ _ _ ao (by rfl) T.len yq (@aa _ _ _ _ _ (pv 0) af (by rfl)) (by decide) (by decide) (by rfl) (by rfl)) aq) (by rfl) (by first | exact .inl rfl | exact .inr rfl | assumption)) (@ag _ _ _ _ _ (@au _ _ (4) _ _ _ _ sc.nd rfl (Or.inl rfl) (@aI _ _ _ _ _ _ _ _ _ _ _ F_nb hr (by decide) rfl (@aa _ _ _ _ _ (pv 0) (@aa _ _ _ _ _ (pv 1) af (by rfl)) (by rfl)) (by decide) (by rfl) (by rfl)) (by rfl) (by first | exact .inl rfl | exact .inr rfl | assumption)) (@aj _ _ _ (@aK _ _ _ _ (@hU _ _ _ _ _ (@aa _ _ _ _ _ (@aI _ _ _ _ _ _ _ _ _ _ _ F_put hr (by decide) rfl (@aa _ _ _ _ _ (pv 3) (@aa _ _ _ _ _ (pv 2) (@aa _ _ _ _ _ (pv 4) af (by rfl)) (by rfl)) (by rfl)) (by decide) (by rfl) (by rfl)) (@aa _ _ _ _ _ (@aI _ _ _ _ _ _ _ _ _ _ _ F_put hr (by decide) rfl (@aa _ _ _ _ _ (pv 3) (@aa _ _ _ _ _ (pv 2) (@aa _ _ _ _ _ (@aI _ _ _ _ _ _ _ _ _ _ _ F_back hr (by decide) rfl (@aa _ _ _ _ _ (pv 4) af (by rfl)) (by decide) (by rfl) (by rfl)) af (by rfl)) (by rfl)) (by rfl)) (by decide) (by rfl) (by rfl)) af (by rfl)) (by rfl))))))))), ?_⟩
    refine ⟨_, rfl, _, rfl, u, t, i, sd, e, rfl, ht, by omega, he, fun H1 s1 => ?_⟩
    refine ⟨_, rfl, kW (by rw [yr hc];rfl) ?_⟩
    have ht1 := s1 _ _ ht
    have ae : atI (toS u).cps.toList (i : Int)=some (cp e) := bp rfl he
    have en : ((toS u).length : Int) / 2=(n : Int) := by rw [ab];omega
    refine ⟨_, rfl, _, rfl, t, _, _, _, rfl, rfl, SqT.of ht1, rfl, _, _, _, rfl, rfl, hw, ae, ?_⟩
    refine ⟨_, rfl, _, rfl, hw, _, _, rfl, rfl, ⟨by decide, by decide⟩, ?_⟩
    rw [en]
    refine ⟨_, rfl, _, rfl, u, t, i, sd, rfl, ht1, hne, by omega, ?_⟩
    have hen := R.ins e (yu he)
    refine ⟨_, rfl, _, rfl, _, rfl, n, e, farOf u i sd, rfl, h1, h6, hen, fun ra H2 _ s2 ha => ?_⟩
    refine ⟨_, rfl, _, rfl, _, rfl, [farOf u i sd], rfl, (by show 1≤5000;decide), fun H3 s3 => ?_⟩
    refine ⟨n, e, inv (farOf u i sd), rfl, h1, h6, hen, fun rb H4 _ s4 hb => ?_⟩
    refine ⟨(dq (n := 2) (by decide)), fun r hr' => ?_⟩
    have s5 := s1.trans (s2.trans (s3.trans s4))
    exact k r ra rb _ (none_of s5 hr') (s5.then hr') ah ((aD.new hr') _ _ (s4 _ _ (s3 _ _ ha))) ((aD.new hr') _ _ hb)
end
end Kx
namespace Kx
open PySem PySem.Spec PyProof.Rows L2 Wd
theorem gj {α : Type} : ∀ {xs : List α} {k : Nat} {x : α}, xs[k]? = some x → xs.Perm (x::xs.eraseIdx k)
  | [], k, x, h => by simp at h
  | y::r, 0, x, h => by simp at h;subst h;exact List.Perm.refl _
  | y::r, k+1, x, h => by
    have := gj (xs := r) (k := k) (x := x) (by simpa using h)
    exact (List.Perm.cons y this).trans (List.Perm.swap _ _ _)
theorem sv {H : Hp}{d l : Addr}{z : Str}{o : HO}{xs : List V}(F : Fd H d)(h : H l=some (.lst xs))(n : l≠d)(hx : V.str z∈xs) : Fd (L2.upd H l o) d := by
  obtain ⟨c, i, ll, t, ns, h1, h2, h3, h4⟩ := F.ex
  have hc : c≠l := fun e => by
    subst e
    rw [h2] at h
    have h := HO.lst.inj (yh h)
    rw [← h] at hx
    obtain ⟨k, _, e⟩ := yE.mp hx
    cases e
  exact ⟨c, i, ll, t, ns, by rw [av (fun e => n e.symm)];exact h1, by rw [av hc];exact h2, h3, h4⟩
theorem lA (W : List L) : L2.fj (toS W)=fh W := by
  unfold L2.fj fh
  rw [aV, y8]
  rfl
theorem jb {α β : Type}(g : α → β) : ∀ (xs : List α) (k : Nat), (xs.map g).eraseIdx k=(xs.eraseIdx k).map g
  | [], k => by simp
  | x::r, 0 => by simp
  | x::r, k+1 => by
    rw [yM, Ah, Ah, yM, jb g r k]
theorem lC (W : List L)(k : Nat) : (fh W).eraseIdx k=fh (W.eraseIdx k) := jb _ W k
section
variable {P : Program} {w : World} {K : PySem.W.Frag} {mg : Str → Option Value} {base : Heap} {aB : Addr}
abbrev jc : Stmt := top 38
theorem sx : aG ["_law_feed_here", "_law_many", "_law_left", "_law_found", "_law_k"] ["_law_feed_here", "_law_many"] (ai jc) := ⟨rfl, rfl, rfl, by decide +kernel, rfl, by decide +kernel, by decide +kernel⟩
theorem vf (D : Df K mg "_law_surface" jc)(T : Bt K w mg aB)(F_draw : Fnc P w K mg base "_law_draw" ["_law_feed_here", "_law_many"] 1 iG) : Fnc P w K mg base "_law_surface" ["_law_feed_here", "_law_many"] 2 jV := by
  have sc := sx
  refine D.ok sc (fun _ _ _ _ _ _ us hl => by obtain ⟨_, _, rfl⟩ := nY hl;rfl) (fun vs H Q E h => ?_) (fun f cdv A outer s H vs Q E hr h => ?_)
  · obtain ⟨d, n, rfl, _⟩ := h
    rfl
  · obtain ⟨d, n, rfl, F, h1, h6, k⟩ := h
    have l16 := aT
    refine ⟨_, (@ag _ _ _ _ _ (@au _ _ (2) _ _ _ _ sc.nd rfl (Or.inl rfl) (@aU _ _ _ _ _ _ _ _ _ (@bS _ rfl) (by rfl) T.list kd (@aa _ _ _ _ _ (@aH _ _ _ _ _ _ _ _ aJ (@aZ _ _ _ _ _ _ _ _ _ _ bX aN bB (@bb _ _ _ (pv 1))) (@aZ _ _ _ _ _ _ _ _ _ _ bX aN bB (@bb _ _ _ (pv 1)))) af (by rfl)) (by decide) (by decide) (by rfl) (by rfl)) (by rfl) (by first | exact .inl rfl | exact .inr rfl | assumption)) (@ag _ _ _ _ _ (@au _ _ (3) _ _ _ _ sc.nd rfl (Or.inl rfl) aN (by rfl) (by first | exact .inl rfl | exact .inr rfl | assumption)) (@ag _ _ _ _ _ (@cx _ _ _ _ _ _ _ _ yQ rfl (@b7 _ _ _ _ _ _ rfl T.range (@aa _ _ _ _ _ (@aH _ _ _ _ _ _ _ _ eU aq (pv 1)) af (by rfl)) (by rfl)) (@aM _ _ (4) _ sc.nd rfl (Or.inl rfl) (by first | exact .inl rfl | exact .inr rfl | assumption)) (@aj _ _ _ (@au _ _ (3) _ _ _ _ sc.nd rfl (Or.inl rfl) (@aH _ _ _ _ _ _ _ _ aJ (pv 3) (@dY _ _ _ _ _ _ _ _ _ _ _ _ za PySem.F.slot_list_pop PySem.F.type_list_pop oS (pv 2) (@aa _ _ _ _ _ (@aI _ _ _ _ _ _ _ _ _ _ _ F_draw hr (by decide) rfl (@aa _ _ _ _ _ (pv 0) (@aa _ _ _ _ _ (@ar _ _ _ _ _ _ _ _ _ aX (by rfl) T.len yq (@aa _ _ _ _ _ (pv 2) af (by rfl)) (by decide) (by decide) (by rfl) (by rfl)) af (by rfl)) (by rfl)) (by decide) (by rfl) (by rfl)) af (by rfl)) (by rfl) (by rfl) (by rfl) (by rfl) (by rfl))) (by rfl) (by first | exact .inl rfl | exact .inr rfl | assumption))) (by intro _ ;rfl)) (@aj _ _ _ (@aK _ _ _ _ (pv 3)))))), ?_⟩
    refine ⟨_, rfl, _, rfl, _, rfl, (by rw [qv];omega), _, rfl, _, rfl, _, rfl, (by rw [qw];omega), _, _, rfl, rfl, ?_, ?_⟩
    · have q1 := AA ("abcdef" : Str) none (some (n : Int))
      have q2 := AA ("ABCDEF" : Str) none (some (n : Int))
      rw [qv] at q1
      rw [qw] at q2
      omega
    rw [pb (by omega)]
    have hsl : (sg (n : Int)).length=2*n := by rw [mP (by omega) (by omega)];omega
    refine ⟨_, rfl, (by rw [ab, hsl];omega), fun l hl => ?_⟩
    rw [lA]
    have nl := F.ne hl
    refine ⟨_, rfl, _, _, rfl, rfl, (Or.inl ⟨by decide, by decide⟩), ?_⟩
    refine ⟨_, rfl, by omega, by omega, ?_⟩
    rw [show ((2 : Int)*(n : Int)).toNat=2*n by omega]
    refine cz (lo := 0) (n := 2*n) (fun i σ H' => ∃ (v : Option V) (W left : List L), σ = [some (.ref d), some (.int (n : Int)), some (.ref l), some (tx W), v] ∧ H' l=some (.lst (fh left)) ∧ (W++left).Perm (sg (n : Int)) ∧ W.length=i ∧ Fd H' d ∧ bG d H H') ⟨none, [], sg (n : Int), (by rw [eh];rfl), ah, List.Perm.refl _, rfl, F.new hl, (aD.new hl).b⟩ ?_ ?_
    · rintro i σ H1 hi ⟨v, W, left, rfl, f1, pW, hW, F1, sb1⟩
      have hll : left.length=2*n - i := by
        have := pW.length_eq
        rw [x_, hW, hsl] at this
        omega
      refine ⟨_, rfl, _, rfl, .inl ⟨rfl, _, SqL.of f1⟩, _, rfl, _, rfl, l, _, rfl, .inl (SqL.of f1), d, _, rfl, F1, by rw [bC];omega, by rw [bC];omega, fun r H2 r0 r1 F2 sb2 => ?_⟩
      rw [bC] at r1
      have f2 := sb2 _ _ nl f1
      have hrk : r.toNat < left.length := by omega
      have gy : left[r.toNat]? = some left[r.toNat] := yc hrk
      generalize left[r.toNat]=y at gy
      refine ⟨l, _, r, r.toNat, tx [y], rfl, rfl, f2, by omega, by omega, (jy (by unfold ixN;rw [if_pos r0, if_pos (by rw [bC];omega)])).1, (by unfold fh;rw [yp, gy];rfl), ?_⟩
      rw [lC]
      refine ⟨_, _, rfl, rfl, (by rw [ab, ab];show _+1≤_;omega), ?_⟩
      rw [aC]
      have hy : V.str (toS [y])∈fh left := by
        unfold fh
        exact yE.mpr ⟨y, yu gy, rfl⟩
      refine ⟨_, W++[y], left.eraseIdx r.toNat, rfl, ah, ?_, by rw [x_, hW];rfl, sv F2 f2 nl hy, fun b o n' e => ?_⟩
      · refine List.Perm.trans ?_ pW
        rw [yX]
        exact List.Perm.append_left W (gj gy).symm
      · rw [av (ak e hl)]
        exact sb2 _ _ n' (sb1 _ _ n' e)
    · rintro σ H1 ⟨v, W, left, rfl, f1, pW, hW, F1, sb1⟩
      have hll : left.length=0 := by
        have := pW.length_eq
        rw [x_, hW, hsl] at this
        omega
      have : left=[] := zl hll
      subst this
      rw [yP] at pW
      have pW' : W.Perm (([0, 1, 2, 3, 4, 5] : List L).take n++([6, 7, 8, 9, 10, 11] : List L).take n) := by
        unfold sg at pW
        rwa [yD] at pW
      refine ⟨_, rfl, k W _ (pL h1 h6 pW') (fun x hx => pW'.mem_iff.mpr (uH h6 hx)) F1 sb1⟩
end
end Kx
namespace Kx
open PySem PySem.Spec PyProof.Rows L2 Wd
section
variable {P : Program} {w : World} {K : PySem.W.Frag} {mg : Str → Option Value} {base : Heap} {aB : Addr}
theorem pX (l : List L)(e g x : L)(b : Bool) : sld (l++[x]) e g b=sld l e g b++(if x=g then (if b then [x, e] else [e, x]) else if x=e then [] else [x]) := by
  unfold sld
  rw [zN, Av, List.flatMap_nil, yP]
theorem oh (e g : L)(b : Bool) : ∀ l : List L, (sld l e g b).length≤2*l.length
  | [] => zb _
  | x::r => by
    have ih := oh e g b r
    have : sld (x::r) e g b=(if x=g then (if b then [x, e] else [e, x]) else if x=e then [] else [x])++sld r e g b := rfl
    rw [this, x_, yN]
    have : (if x=g then (if b then [x, e] else [e, x]) else if x=e then [] else [x] : List L).length≤2 := by
      split
      · cases b <;> exact yb _
      · split
        · exact zb _
        · show 1≤2
          decide
    omega
theorem sy {α : Type}(a b : α)(sd : Int) : atI [a, b] (if decide (V.int sd=V.int 1)=true then 1 else 0)=some (if decide (sd=1)=true then b else a) := by
  by_cases h : sd=1
  · rw [yG (yW V.int h), yG h];rfl
  · rw [yr (fun z => h (V.int.inj z)), yr h];rfl
abbrev jd : Stmt := top 39
theorem sF : aG ["_law_row", "_law_place", "_law_side", "_law_goal", "_law_found", "_law_sign"] ["_law_row", "_law_place", "_law_side"] (ai jd) := ⟨rfl, rfl, rfl, by decide +kernel, rfl, by decide +kernel, by decide +kernel⟩
theorem vg (D : Df K mg "_law_slid" jd)(T : Bt K w mg aB)(F_lback : Fnc P w K mg base "_law_back" ["_law_word"] 1 kf) : Fnc P w K mg base "_law_slid" ["_law_row", "_law_place", "_law_side"] 2 nV := by
  have sc := sF
  refine D.ok sc (fun _ _ _ _ _ _ us hl => by obtain ⟨_, _, _, rfl⟩ := vA hl;rfl) (fun vs H Q E h => ?_) (fun f cdv A outer s H vs Q E hr h => ?_)
  · obtain ⟨u, i, sd, e, rfl, _⟩ := h
    rfl
  · obtain ⟨u, i, sd, e, rfl, hul, he, k1, k2⟩ := h
    have l16 := aT
    have hi : i < u.length := (ya.mp he).1
    have hne : u≠[] := yw.mp (by omega)
    have hw : (toS u).length≤sizeLine := by rw [ab];omega
    have ae : atI (toS u).cps.toList (i : Int)=some (cp e) := bp rfl he
    have h1 := zH ((i : Int)+sd) (show (u.length : Int)≠0 by omega)
    have ha : atI (toS u).cps.toList (((i : Int)+sd) % ((toS u).length : Int))=some (cp (farOf u i sd)) := by
      rw [ab]
      exact bp (k := (((i : Int)+sd) % (u.length : Int)).toNat) (by omega) (fD hne i sd)
    have hp : (fun x j : Int => 0 < j) ((i : Int)+sd) ((toS u).length : Int) := by show (0 : Int) < ((toS u).length : Int);rw [ab];omega
    refine ⟨_, (@ag _ _ _ _ _ (@b0 _ _ _ _ _ _ _ _ (@PW.pt _ _ _ (@oA _ _ _ _ _ _ _ (@jX _ _ _ _ (@oJ _ _ _ _ _ _ _ _ _ _ _ _ tK kK aq (pv 1) (@ar _ _ _ _ _ _ _ _ _ ao (by rfl) T.len yq (@aa _ _ _ _ _ (pv 0) af (by rfl)) (by decide) (by decide) (by rfl) (by rfl)) (by with_unfolding_all rfl))) (@lO _ _ _ _ (@aL _ _ _ _ _ _ _ _ dW (@bc _ _ _ _ _ _ _ br (pv 0) (@aH _ _ _ _ _ _ _ _ cA (@aH _ _ _ _ _ _ _ _ bw (pv 1) (pv 2)) (@ar _ _ _ _ _ _ _ _ _ ao (by rfl) T.len yq (@aa _ _ _ _ _ (pv 0) af (by rfl)) (by decide) (by decide) (by rfl) (by rfl))) (fun _ _ => rfl)) (@aI _ _ _ _ _ _ _ _ _ _ _ F_lback hr (by decide) rfl (@aa _ _ _ _ _ (@bc _ _ _ _ _ _ _ br (pv 0) (pv 1) (fun _ _ => rfl)) af (by rfl)) (by decide) (by rfl) (by rfl)) (aP _))))) (@aj _ _ _ (@aK _ _ _ _ qh)) bo) (@ag _ _ _ _ _ (@au _ _ (3) _ _ _ _ sc.nd rfl (Or.inl rfl) (@aI _ _ _ _ _ _ _ _ _ _ _ F_lback hr (by decide) rfl (@aa _ _ _ _ _ (@bc _ _ _ _ _ _ _ br (pv 0) (@aH _ _ _ _ _ _ _ _ cA (@aH _ _ _ _ _ _ _ _ bw (pv 1) (pv 2)) (@ar _ _ _ _ _ _ _ _ _ ao (by rfl) T.len yq (@aa _ _ _ _ _ (pv 0) af (by rfl)) (by decide) (by decide) (by rfl) (by rfl))) (fun _ _ => rfl)) af (by rfl)) (by decide) (by rfl) (by rfl)) (by rfl) (by first | exact .inl rfl | exact .inr rfl | assumption)) (@ag _ _ _ _ _ (@au _ _ (4) _ _ _ _ sc.nd rfl (Or.inl rfl) aN (by rfl) (by first | exact .inl rfl | exact .inr rfl | assumption)) (@ag _ _ _ _ _ (@cx _ _ _ _ _ _ _ _ yQ rfl (@iq _ _ _ _ (pv 0)) (@aM _ _ (5) _ sc.nd rfl (Or.inl rfl) (by first | exact .inl rfl | exact .inr rfl | assumption)) (@aj _ _ _ (@b0 _ _ _ _ _ _ _ _ (@aL _ _ _ _ _ _ _ _ dW (pv 5) (pv 3) (aP _)) (@aj _ _ _ (@au _ _ (4) _ _ _ _ sc.nd rfl (Or.inl rfl) (@aH _ _ _ _ _ _ _ _ aJ (pv 4) (@bc _ _ _ _ _ _ _ eZ (@dC _ _ _ _ (@aa _ _ _ _ _ (@aH _ _ _ _ _ _ _ _ aJ (@bc _ _ _ _ _ _ _ br (pv 0) (pv 1) (fun _ _ => rfl)) (pv 5)) (@aa _ _ _ _ _ (@aH _ _ _ _ _ _ _ _ aJ (pv 5) (@bc _ _ _ _ _ _ _ br (pv 0) (pv 1) (fun _ _ => rfl))) af (by rfl)) (by rfl))) (@aU _ _ _ _ _ _ _ _ _ dA (by rfl) T.int o_ (@aa _ _ _ _ _ (@dX _ _ _ _ _ _ _ _ dW (pv 2) aq (aP _)) af (by rfl)) (by decide) (by decide) (by rfl) (by rfl)) (fun _ _ => rfl))) (by rfl) (by first | exact .inl rfl | exact .inr rfl | assumption))) (@aj _ _ _ (@b0 _ _ _ _ _ _ _ _ (@aL _ _ _ _ _ _ _ _ hJ (pv 5) (@bc _ _ _ _ _ _ _ br (pv 0) (pv 1) (fun _ _ => rfl)) (aP _)) (@aj _ _ _ (@au _ _ (4) _ _ _ _ sc.nd rfl (Or.inl rfl) (@aH _ _ _ _ _ _ _ _ aJ (pv 4) (pv 5)) (by rfl) (by first | exact .inl rfl | exact .inr rfl | assumption))) bo)))) (by intro _ ;rfl)) (@aj _ _ _ (@aK _ _ _ _ (pv 4))))))), ?_⟩
    refine ⟨_, rfl, _, _, rfl, rfl, _, rfl, kU (yG (by omega)) ?_⟩
    refine ⟨_, rfl, _, rfl, hw, _, _, rfl, rfl, _, rfl, kW (by rw [ab, yG (by omega)];rfl) ?_⟩
    refine ⟨_, rfl, _, rfl, _, rfl, _, _, rfl, rfl, _, rfl, _, rfl, hw, _, _, rfl, rfl, hp, _, _, _, rfl, rfl, hw, ha, ?_⟩
    refine ⟨_, rfl, _, rfl, _, _, _, rfl, rfl, hw, ae, [e], rfl, (by show 1≤5000;decide), fun H1 s1 => ⟨rfl, _, rfl, ?_⟩⟩
    show if decide (tx [farOf u i sd]=tx (bk [e]))=true then _ else _
    rw [dH, bR]
    refine jk (fun h => ?_) (fun h => ?_)
    · have h : farOf u i sd=inv e := by simpa using h
      exact k1 _ s1 h
    · have h : ¬ farOf u i sd=inv e := by simpa using h
      refine ⟨_, rfl, _, rfl, _, rfl, _, _, rfl, rfl, _, rfl, _, rfl, hw, _, _, rfl, rfl, hp, _, _, _, rfl, rfl, hw, ha, [farOf u i sd], rfl, (by show 1≤5000;decide), fun H2 s2 => ?_⟩
      rw [bR]
      refine ⟨_, rfl, _, rfl, gC (z := toS u) (fun j σ H' => ∃ (v : Option V), σ = [some (tx u), some (.int (i : Int)), some (.int sd), some (tx [inv (farOf u i sd)]), some (tx (sld (u.take j) e (inv (farOf u i sd)) (decide (sd=1)))), v] ∧ aD H H') ⟨none, rfl, s1.trans s2⟩ ?_ ?_⟩
      · rintro j c σ H3 hc ⟨v, rfl, s3⟩
        obtain ⟨x, hx, ex⟩ := d3 hc
        rw [ex]
        have hj : j < u.length := (ya.mp hx).1
        have hz := oh e (inv (farOf u i sd)) (decide (sd=1)) (u.take j)
        have hz2 : (u.take j).length≤12 := by rw [yy];omega
        have eS := pX (u.take j) e (inv (farOf u i sd)) x (decide (sd=1))
        rw [← cb hx] at eS
        rw [eS]
        generalize sld (u.take j) e (inv (farOf u i sd)) (decide (sd=1))=Z at hz ⊢
        generalize inv (farOf u i sd)=g
        refine ⟨_, rfl, _, rfl, rfl, _, rfl, ?_⟩
        show if decide (tx [x]=tx [g])=true then _ else _
        rw [dH]
        refine jk (fun h => ?_) (fun h => ?_)
        · have h : x=g := by simpa using h
          refine ⟨_, rfl, _, rfl, _, rfl, _, _, _, rfl, rfl, hw, ae, _, rfl, _, _, rfl, rfl, (by rw [ab];show 1+1≤_;omega), ?_⟩
          refine ⟨_, rfl, _, rfl, _, rfl, _, _, _, rfl, rfl, hw, ae, _, _, rfl, rfl, (by rw [ab];show 1+1≤_;omega), (dq (n := 2) (by decide)), fun p hp => ?_⟩
          refine ⟨_, rfl, rfl, .inr ⟨_, rfl, p, _, _, _, rfl, rfl, SqL.of ah, sy _ _ sd, ?_⟩⟩
          rw [if_pos h]
          cases decide (sd=1) with
          | true =>
            refine ⟨_, _, rfl, rfl, (by rw [f_, aC, ab, ab, x_];show _+(1+1)≤_;omega), ?_⟩
            rw [f_, aC, aC]
            exact ⟨_, rfl, s3.then hp⟩
          | false =>
            refine ⟨_, _, rfl, rfl, (by rw [f_, aC, ab, ab, x_];show _+(1+1)≤_;omega), ?_⟩
            rw [f_, aC, aC]
            exact ⟨_, rfl, s3.then hp⟩
        · have h : ¬ x=g := by simpa using h
          rw [if_neg h]
          refine ⟨_, rfl, _, rfl, _, rfl, _, _, _, rfl, rfl, hw, ae, rfl, _, rfl, ?_⟩
          show if (!decide (tx [x]=tx [e]))=true then _ else _
          rw [dH]
          refine jk (fun h2 => ?_) (fun h2 => ?_)
          · have h2 : ¬ x=e := by simpa using h2
            rw [if_neg h2]
            refine ⟨_, rfl, _, rfl, _, _, rfl, rfl, (by rw [ab, ab];show _+1≤_;omega), ?_⟩
            rw [aC]
            exact ⟨_, rfl, s3⟩
          · have h2 : x=e := by simpa using h2
            rw [if_pos h2, yP]
            exact ⟨_, rfl, s3⟩
      · rintro σ H3 ⟨v, rfl, s3⟩
        rw [bJ, yT]
        exact ⟨_, rfl, k2 _ s3 h⟩
end
end Kx
namespace Kx
open PySem PySem.Spec PyProof.Rows L2 Wd
section
variable {P : Program} {w : World} {K : PySem.W.Frag} {mg : Str → Option Value} {base : Heap} {aB : Addr}
abbrev je : Stmt := top 29
theorem sN : aG ["surface", "start", "seen", "word", "gap", "letter"] ["surface", "start", "seen"] (ai je) := ⟨rfl, rfl, rfl, by decide +kernel, rfl, by decide +kernel, by decide +kernel⟩
theorem vh (D : Df K mg "hole_from" je)(T : Bt K w mg aB)(F_back : Fnc P w K mg base "back" ["word"] 1 kf) : Fnc P w K mg base "hole_from" ["surface", "start", "seen"] 2 mW := by
  have sc := sN
  refine D.ok sc (fun _ _ _ _ _ _ us hl => by obtain ⟨_, _, _, rfl⟩ := vA hl;rfl) (fun vs H Q E h => ?_) (fun f cdv A outer s H vs Q E hr h => ?_)
  · obtain ⟨u, g, a, S, rfl, _⟩ := h
    rfl
  · obtain ⟨u, g0, a, S0, rfl, U, hg0, hs0, ha0, k⟩ := h
    have hu := kQ hr
    have l16 := aT
    have h12 := U.le
    have hpos := U.pos
    refine ⟨_, (@ag _ _ _ _ _ (@au _ _ (3) _ _ _ _ sc.nd rfl (Or.inl rfl) aN (by rfl) (by first | exact .inl rfl | exact .inr rfl | assumption)) (@ag _ _ _ _ _ (@au _ _ (4) _ _ _ _ sc.nd rfl (Or.inl rfl) (pv 1) (by rfl) (by first | exact .inl rfl | exact .inr rfl | assumption)) (@ag _ _ _ _ _ (@du _ _ _ _ _ _ yQ (@jF _ _ _ _ _ _ hu (pv 4) (pv 2) rfl) (@ag _ _ _ _ _ (@cD _ _ _ _ _ _ _ _ _ hu (pv 2) (pv 4) js rfl) (@ag _ _ _ _ _ (@au _ _ (5) _ _ _ _ sc.nd rfl (Or.inl rfl) (@bc _ _ _ _ _ _ _ br (pv 0) (@aH _ _ _ _ _ _ _ _ cA (@aH _ _ _ _ _ _ _ _ bw (pv 4) aq) (@ar _ _ _ _ _ _ _ _ _ ao (by rfl) T.len yq (@aa _ _ _ _ _ (pv 0) af (by rfl)) (by decide) (by decide) (by rfl) (by rfl))) (fun _ _ => rfl)) (by rfl) (by first | exact .inl rfl | exact .inr rfl | assumption)) (@ag _ _ _ _ _ (@au _ _ (3) _ _ _ _ sc.nd rfl (Or.inl rfl) (@aH _ _ _ _ _ _ _ _ aJ (pv 3) (pv 5)) (by rfl) (by first | exact .inl rfl | exact .inr rfl | assumption)) (@aj _ _ _ (@au _ _ (4) _ _ _ _ sc.nd rfl (Or.inl rfl) (@dY _ _ _ _ _ _ _ _ _ _ _ _ yL Ao Ap gJ (pv 0) (@aa _ _ _ _ _ (@aI _ _ _ _ _ _ _ _ _ _ _ F_back hr (by decide) rfl (@aa _ _ _ _ _ (pv 5) af (by rfl)) (by decide) (by rfl) (by rfl)) af (by rfl)) (by rfl) (by rfl) (by rfl) (by rfl) (by rfl)) (by rfl) (by first | exact .inl rfl | exact .inr rfl | assumption))))))) (@aj _ _ _ (@aK _ _ _ _ (pv 3)))))), ?_⟩
    refine ⟨_, rfl, ?_⟩
    refine ⟨fun m σ H' => ∃ (S : List Nat) (w : List L) (g : Nat) (v : Option V), σ = [some (tx u), some (.int g0), some (.ref a), some (tx w), some (.int g), v] ∧ Sn u S ∧ g < u.length ∧ H' a=some (.dK (sk S)) ∧ bG a H H' ∧ wk u g S w=wk u g0 S0 [] ∧ w.length≤S.length ∧ m=u.length+1 - S.length, ⟨_, S0, [], g0, none, rfl, hs0, hg0, ha0, bG.refl _ _, rfl, zb _, rfl⟩, ?_⟩
    rintro m σ H1 ⟨S, w, g, v, rfl, hs, hg, ha, sb, e, hw, rfl⟩
    have hle := hs.le
    refine ⟨_, rfl, _, rfl, a, _, rfl, lE.k (k := Sum.inl (g : Int)) ha, ?_⟩
    rw [ki]
    refine ⟨_, rfl, ?_⟩
    refine jk (fun h => ?_) (fun h => ?_)
    · have h : g∉S := by simpa using h
      have hs' := hs.snoc hg h
      have hle' := hs'.le
      rw [x_, yi] at hle'
      refine ⟨_, fun σ' H' q => q, ?_⟩
      refine ⟨_, rfl, _, rfl, a, _, rfl, qp.k (k := Sum.inl (g : Int)) ha (by rw [qA];omega), ?_⟩
      rw [qz h]
      have hx := cm U g
      have em : ((g : Int)+1) % (u.length : Int)=(((g+1) % u.length : Nat) : Int) := by rw [BG];rfl
      refine ⟨_, rfl, _, rfl, _, _, rfl, rfl, _, rfl, _, rfl, (by rw [ab];omega), _, _, rfl, rfl, (by rw [ab];omega), _, _, cp (cX u g), rfl, rfl, (by rw [ab];omega), bp (k := (g+1) % u.length) (by rw [ab];exact em) hx, ?_⟩
      refine ⟨_, rfl, _, rfl, _, _, rfl, rfl, (by rw [ab];show w.length+1≤sizeLine;omega), ?_⟩
      obtain ⟨rest, ho⟩ := mV (U.iv _ (eK U g))
      refine ⟨_, rfl, rfl, _, rfl, [cX u g], rfl, (by show 1≤5000;decide), fun H2 s2 => ?_⟩
      rw [bR]
      refine ⟨_, _, _, rest, rfl, rfl, ho, ?_⟩
      have e2 := (kg (w := w) hs hg h).symm.trans e
      refine ⟨u.length+1 - (S++[g]).length, ?_, S++[g], w++[cX u g], bZ u g, some (tx [cX u g]), (by rw [← gf];rfl), hs', cU U g, s2 _ _ ah, (sb.trans bG.upd).trans s2.b, e2, ?_, rfl⟩
      · rw [x_, yi]
        omega
      · rw [x_, x_]
        simp only [yi]
        omega
    · have h : g∈S := by simpa using h
      rw [pf h] at e
      rw [← e] at k
      exact ⟨_, rfl, k _ ha hs sb⟩
abbrev fN : Stmt := top 28
theorem pY : aG ["surface", "told", "seen", "gap"] ["surface"] (ai fN) := ⟨rfl, rfl, rfl, by decide +kernel, rfl, by decide +kernel, by decide +kernel⟩
theorem sO (D : Df K mg "holes" fN)(T : Bt K w mg aB)(F_hole : Fnc P w K mg base "hole_from" ["surface", "start", "seen"] 2 mW) : Fnc P w K mg base "holes" ["surface"] 3 d7 := by
  have sc := pY
  refine D.ok sc (fun _ _ _ _ _ _ us hl => by obtain ⟨_, rfl⟩ := jo hl;rfl) (fun vs H Q E h => ?_) (fun f cdv A outer s H vs Q E hr h => ?_)
  · obtain ⟨u, rfl, _⟩ := h
    rfl
  · obtain ⟨u, rfl, U, k⟩ := h
    have hu := kQ hr
    have l16 := aT
    have h12 := U.le
    refine ⟨_, (@ag _ _ _ _ _ (@au _ _ (1) _ _ _ _ sc.nd rfl (Or.inl rfl) (@dC _ _ _ _ af) (by rfl) (by first | exact .inl rfl | exact .inr rfl | assumption)) (@ag _ _ _ _ _ (@au _ _ (2) _ _ _ _ sc.nd rfl (Or.inl rfl) gw (by rfl) (by first | exact .inl rfl | exact .inr rfl | assumption)) (@ag _ _ _ _ _ (@cx _ _ _ _ _ _ _ _ yQ rfl (@b7 _ _ _ _ _ _ rfl T.range (@aa _ _ _ _ _ (@ar _ _ _ _ _ _ _ _ _ ao (by rfl) T.len yq (@aa _ _ _ _ _ (pv 0) af (by rfl)) (by decide) (by decide) (by rfl) (by rfl)) af (by rfl)) (by rfl)) (@aM _ _ (3) _ sc.nd rfl (Or.inl rfl) (by first | exact .inl rfl | exact .inr rfl | assumption)) (@aj _ _ _ (@b0 _ _ _ _ _ _ _ _ (@jF _ _ _ _ _ _ hu (pv 3) (pv 2) rfl) (@aj _ _ _ (@dU _ _ _ _ (@dY _ _ _ _ _ _ _ _ _ _ _ _ za y0 zi cC (pv 1) (@aa _ _ _ _ _ (@aI _ _ _ _ _ _ _ _ _ _ _ F_hole hr (by decide) rfl (@aa _ _ _ _ _ (pv 0) (@aa _ _ _ _ _ (pv 3) (@aa _ _ _ _ _ (pv 2) af (by rfl)) (by rfl)) (by rfl)) (by decide) (by rfl) (by rfl)) af (by rfl)) (by rfl) (by rfl) (by rfl) (by rfl) (by rfl)) (by rfl))) bo)) (by intro _ ;rfl)) (@aj _ _ _ (@aK _ _ _ _ (pv 1)))))), ?_⟩
    refine ⟨(by show 0≤sizeLine;decide), fun l hl => ?_⟩
    have s1 : aD H (upd H l (.lst [])) := aD.new hl
    have f1 : (upd H l (.lst [])) l=some (.lst []) := ah
    generalize upd H l (.lst [])=H1 at s1 f1 ⊢
    intro a ha
    have la : a≠l := (ak f1 ha).symm
    have s2 : aD H1 (upd H1 a (.dK [])) := aD.new ha
    have f2 : (upd H1 a (.dK [])) a=some (.dK []) := ah
    have g1 := s2 _ _ f1
    have s2 := s1.trans s2
    generalize upd H1 a (.dK [])=H2 at s2 f2 g1 ⊢
    have na : H a=none := by
      cases e : H a with
      | none => rfl
      | some o => exact absurd (s1 _ _ e) (by rw [ha];intro z;cases z)
    refine ⟨_, rfl, _, rfl, (by rw [ab];omega), _, rfl, (by rw [ab];omega), (by rw [ab];omega), ?_⟩
    rw [ab]
    refine cz (lo := 0) (n := (u.length : Int).toNat) (fun i σ H' => ∃ v : Option V, σ = [some (tx u), some (.ref l), some (.ref a), v] ∧ H' l=some (.lst ((cw u i).2.map tx)) ∧ H' a=some (.dK (sk (cw u i).1)) ∧ Sn u (cw u i).1 ∧ aD H H') ⟨none, rfl, g1, f2, Sn.nil u, s2⟩ ?_ ?_
    · rintro i σ H3 hi ⟨v, rfl, h1, h2, hs, s3⟩
      have hi : i < u.length := by omega
      rw [Int.zero_add]
      refine ⟨_, rfl, _, rfl, a, _, rfl, lE.k (k := Sum.inl (i : Int)) h2, ?_⟩
      rw [ki]
      refine ⟨_, rfl, ?_⟩
      refine jk (fun h => ?_) (fun h => ?_)
      · have h : i∉(cw u i).1 := by simpa using h
        refine ⟨_, rfl, .inl ⟨rfl, _, SqL.of h1⟩, _, rfl, _, rfl, _, rfl, u, i, a, _, rfl, U, hi, hs, h2, fun H4 q1 q2 q3 => ?_⟩
        have h4 := q3 _ _ la.symm h1
        have hlen := mX u i
        refine ⟨l, _, _, rfl, rfl, h4, by omega, _, rfl, ?_, ?_, ?_, ?_⟩
        · rw [ah, fk h, yK]
          rfl
        · rw [av la, fk h]
          exact q1
        · rw [fk h]
          exact q2
        · intro b o e
          rw [av (ak e hl)]
          exact q3 _ _ (ak e na) (s3 _ _ e)
      · have h : i∈(cw u i).1 := by simpa using h
        exact ⟨_, rfl, by rw [eA h];exact h1, by rw [eA h];exact h2, by rw [eA h];exact hs, s3⟩
    · rintro σ H3 ⟨v, rfl, h1, h2, hs, s3⟩
      exact ⟨_, rfl, k l _ hl h1 s3⟩
abbrev cM : Stmt := top 30
theorem lD : aG ["surface"] ["surface"] (ai cM) := ⟨rfl, rfl, rfl, by decide +kernel, rfl, by decide +kernel, by decide +kernel⟩
theorem oj (D : Df K mg "handles" cM)(T : Bt K w mg aB)(F_holes : Fnc P w K mg base "holes" ["surface"] 3 d7) : Fnc P w K mg base "handles" ["surface"] 4 fm := by
  have sc := lD
  refine D.ok sc (fun _ _ _ _ _ _ us hl => by obtain ⟨_, rfl⟩ := jo hl;rfl) (fun vs H Q E h => ?_) (fun f cdv A outer s H vs Q E hr h => ?_)
  · obtain ⟨u, rfl, _⟩ := h
    rfl
  · obtain ⟨u, rfl, U, k⟩ := h
    have l16 := aT
    have h12 := U.le
    refine ⟨_, (@aj _ _ _ (@aK _ _ _ _ (@aH _ _ _ _ _ _ _ _ dh (@aH _ _ _ _ _ _ _ _ ee (@aH _ _ _ _ _ _ _ _ bw aq (@aH _ _ _ _ _ _ _ _ dh (@ar _ _ _ _ _ _ _ _ _ ao (by rfl) T.len yq (@aa _ _ _ _ _ (pv 0) af (by rfl)) (by decide) (by decide) (by rfl) (by rfl)) aq)) (@ar _ _ _ _ _ _ _ _ _ aX (by rfl) T.len yq (@aa _ _ _ _ _ (@aI _ _ _ _ _ _ _ _ _ _ _ F_holes hr (by decide) rfl (@aa _ _ _ _ _ (pv 0) af (by rfl)) (by decide) (by rfl) (by rfl)) af (by rfl)) (by decide) (by decide) (by rfl) (by rfl))) aq))), ?_⟩
    refine ⟨_, rfl, _, rfl, (by rw [ab];omega), _, _, rfl, rfl, ⟨by decide, by decide⟩, _, _, rfl, rfl, _, rfl, u, rfl, U, fun l H1 _ hl s1 => ?_⟩
    refine ⟨l, _, rfl, .inl (SqL.of hl), _, _, rfl, rfl, _, _, rfl, rfl, ⟨by decide, by decide⟩, ?_⟩
    rw [x9, ab]
    exact k _ s1
end
end Kx
namespace Kx
open PySem PySem.Spec PyProof.Rows L2 Wd
section
variable {P : Program} {w : World} {K : PySem.W.Frag} {mg : Str → Option Value} {base : Heap} {aB : Addr}
theorem sP {u : List L}{x : L}(h : x∈u) : Txt.find (toS u) (toS [x])=(u.idxOf x : Int) := by
  obtain ⟨rest, e⟩ := mV h
  unfold Txt.find
  rw [e]
abbrev dR : Stmt := top 41
theorem om : aG ["_law_row", "_law_met", "_law_found", "_law_gap", "_law_word", "_law_at", "_law_sign"] ["_law_row"] (ai dR) := ⟨rfl, rfl, rfl, by decide +kernel, rfl, by decide +kernel, by decide +kernel⟩
theorem pZ (D : Df K mg "_law_holes" dR)(T : Bt K w mg aB)(F_lback : Fnc P w K mg base "_law_back" ["_law_word"] 1 kf) : Fnc P w K mg base "_law_holes" ["_law_row"] 2 d7 := by
  have sc := om
  refine D.ok sc (fun _ _ _ _ _ _ us hl => by obtain ⟨_, rfl⟩ := jo hl;rfl) (fun vs H Q E h => ?_) (fun f cdv A outer s H vs Q E hr h => ?_)
  · obtain ⟨u, rfl, _⟩ := h
    rfl
  · obtain ⟨u, rfl, U, k⟩ := h
    have hu := kQ hr
    have l16 := aT
    have h12 := U.le
    have hpos := U.pos
    have hll : (toS u).length≤sizeLine := by rw [ab];omega
    refine ⟨_, (@ag _ _ _ _ _ (@au _ _ (1) _ _ _ _ sc.nd rfl (Or.inl rfl) gw (by rfl) (by first | exact .inl rfl | exact .inr rfl | assumption)) (@ag _ _ _ _ _ (@au _ _ (2) _ _ _ _ sc.nd rfl (Or.inl rfl) (@dC _ _ _ _ af) (by rfl) (by first | exact .inl rfl | exact .inr rfl | assumption)) (@ag _ _ _ _ _ (@cx _ _ _ _ _ _ _ _ yQ rfl (@b7 _ _ _ _ _ _ rfl T.range (@aa _ _ _ _ _ (@ar _ _ _ _ _ _ _ _ _ ao (by rfl) T.len yq (@aa _ _ _ _ _ (pv 0) af (by rfl)) (by decide) (by decide) (by rfl) (by rfl)) af (by rfl)) (by rfl)) (@aM _ _ (3) _ sc.nd rfl (Or.inl rfl) (by first | exact .inl rfl | exact .inr rfl | assumption)) (@ag _ _ _ _ _ (@au _ _ (4) _ _ _ _ sc.nd rfl (Or.inl rfl) aN (by rfl) (by first | exact .inl rfl | exact .inr rfl | assumption)) (@ag _ _ _ _ _ (@au _ _ (5) _ _ _ _ sc.nd rfl (Or.inl rfl) (pv 3) (by rfl) (by first | exact .inl rfl | exact .inr rfl | assumption)) (@ag _ _ _ _ _ (@du _ _ _ _ _ _ yQ (@jF _ _ _ _ _ _ hu (pv 5) (pv 1) rfl) (@ag _ _ _ _ _ (@cD _ _ _ _ _ _ _ _ _ hu (pv 1) (pv 5) js rfl) (@ag _ _ _ _ _ (@au _ _ (6) _ _ _ _ sc.nd rfl (Or.inl rfl) (@bc _ _ _ _ _ _ _ br (pv 0) (@aH _ _ _ _ _ _ _ _ cA (@aH _ _ _ _ _ _ _ _ bw (pv 5) aq) (@ar _ _ _ _ _ _ _ _ _ ao (by rfl) T.len yq (@aa _ _ _ _ _ (pv 0) af (by rfl)) (by decide) (by decide) (by rfl) (by rfl))) (fun _ _ => rfl)) (by rfl) (by first | exact .inl rfl | exact .inr rfl | assumption)) (@ag _ _ _ _ _ (@au _ _ (4) _ _ _ _ sc.nd rfl (Or.inl rfl) (@aH _ _ _ _ _ _ _ _ aJ (pv 4) (pv 6)) (by rfl) (by first | exact .inl rfl | exact .inr rfl | assumption)) (@aj _ _ _ (@au _ _ (5) _ _ _ _ sc.nd rfl (Or.inl rfl) (@dY _ _ _ _ _ _ _ _ _ _ _ _ yL PySem.F.slot_str_find PySem.F.type_str_find pI (pv 0) (@aa _ _ _ _ _ (@aI _ _ _ _ _ _ _ _ _ _ _ F_lback hr (by decide) rfl (@aa _ _ _ _ _ (pv 6) af (by rfl)) (by decide) (by rfl) (by rfl)) af (by rfl)) (by rfl) (by rfl) (by rfl) (by rfl) (by rfl)) (by rfl) (by first | exact .inl rfl | exact .inr rfl | assumption))))))) (@aj _ _ _ (@b0 _ _ _ _ _ _ _ _ (@aL _ _ _ _ _ _ _ _ hJ (pv 4) aN (aP _)) (@aj _ _ _ (@dU _ _ _ _ (@dY _ _ _ _ _ _ _ _ _ _ _ _ za y0 zi cC (pv 2) (@aa _ _ _ _ _ (pv 4) af (by rfl)) (by rfl) (by rfl) (by rfl) (by rfl) (by rfl)) (by rfl))) bo))))) (by intro _ ;rfl)) (@aj _ _ _ (@aK _ _ _ _ (pv 2)))))), ?_⟩
    intro a ha
    have s1 : aD H (upd H a (.dK [])) := aD.new ha
    have f1 : (upd H a (.dK [])) a=some (.dK []) := ah
    generalize upd H a (.dK [])=H1 at s1 f1 ⊢
    refine ⟨(by show 0≤sizeLine;decide), fun l hl => ?_⟩
    have la : a≠l := ak f1 hl
    have hl0 := none_of s1 hl
    have s2 := s1.trans (aD.new (o := .lst []) hl)
    have g2 := (aD.new (o := .lst []) hl) _ _ f1
    have f2 : (upd H1 l (.lst [])) l=some (.lst []) := ah
    generalize upd H1 l (.lst [])=H2 at s2 f2 g2 ⊢
    refine ⟨_, rfl, _, rfl, hll, _, rfl, (by rw [ab];omega), (by rw [ab];omega), ?_⟩
    rw [ab]
    refine cz (lo := 0) (n := (u.length : Int).toNat) (fun i σ H' => ∃ v1 v2 v3 v4 : Option V, σ = [some (tx u), some (.ref a), some (.ref l), v1, v2, v3, v4] ∧ H' l=some (.lst ((cw u i).2.map tx)) ∧ H' a=some (.dK (sk (cw u i).1)) ∧ Sn u (cw u i).1 ∧ aD H H') ⟨none, none, none, none, rfl, f2, g2, Sn.nil u, s2⟩ ?_ ?_
    · rintro i σ H3 hi ⟨v1, v2, v3, v4, rfl, h1, h2, hs0, s3⟩
      have hi : i < u.length := by omega
      rw [Int.zero_add]
      refine ⟨_, rfl, ?_⟩
      refine ⟨fun m σ H' => ∃ (S : List Nat) (w : List L) (g : Nat) (v : Option V), σ = [some (tx u), some (.ref a), some (.ref l), some (.int (i : Int)), some (tx w), some (.int (g : Int)), v] ∧ Sn u S ∧ g < u.length ∧ H' a=some (.dK (sk S)) ∧ H' l=some (.lst ((cw u i).2.map tx)) ∧ aD H H' ∧ wk u g S w=wk u i (cw u i).1 [] ∧ w.length≤S.length ∧ m=u.length+1 - S.length, ⟨_, (cw u i).1, [], i, _, rfl, hs0, hi, h2, h1, s3, rfl, zb _, rfl⟩, ?_⟩
      rintro m σ H4 ⟨S, w, g, v, rfl, hs, hg, h2, h1, s4, e, hw, rfl⟩
      have hle := hs.le
      refine ⟨_, rfl, _, rfl, a, _, rfl, lE.k (k := Sum.inl (g : Int)) h2, ?_⟩
      rw [ki]
      refine ⟨_, rfl, ?_⟩
      refine jk (fun h => ?_) (fun h => ?_)
      · have h : g∉S := by simpa using h
        have hs' := hs.snoc hg h
        have hle' := hs'.le
        rw [x_, yi] at hle'
        refine ⟨_, fun σ' H' q => q, ?_⟩
        refine ⟨_, rfl, _, rfl, a, _, rfl, qp.k (k := Sum.inl (g : Int)) h2 (by rw [qA];omega), ?_⟩
        rw [qz h]
        have hx := cm U g
        have em : ((g : Int)+1) % (u.length : Int)=(((g+1) % u.length : Nat) : Int) := by rw [BG];rfl
        refine ⟨_, rfl, _, rfl, _, _, rfl, rfl, _, rfl, _, rfl, (by rw [ab];omega), _, _, rfl, rfl, (by rw [ab];omega), _, _, cp (cX u g), rfl, rfl, (by rw [ab];omega), bp (k := (g+1) % u.length) (by rw [ab];exact em) hx, ?_⟩
        refine ⟨_, rfl, _, rfl, _, _, rfl, rfl, (by rw [ab];show w.length+1≤sizeLine;omega), ?_⟩
        refine ⟨_, rfl, rfl, _, rfl, [cX u g], rfl, (by show 1≤5000;decide), fun H5 s5 => ?_⟩
        rw [bR]
        refine ⟨_, _, rfl, rfl, ?_⟩
        rw [sP (U.iv _ (eK U g))]
        have e2 := (kg (w := w) hs hg h).symm.trans e
        have u1 : bG a H4 (upd H4 a (.dK (sk (S++[g])))) := bG.upd
        refine ⟨u.length+1 - (S++[g]).length, ?_, S++[g], w++[cX u g], bZ u g, some (tx [cX u g]), (by rw [← gf];rfl), hs', cU U g, s5 _ _ ah, s5 _ _ (u1 _ _ la.symm h1), fun b o q => s5 _ _ (u1 _ _ (ak q ha) (s4 _ _ q)), e2, ?_, rfl⟩
        · rw [x_, yi]
          omega
        · rw [x_, x_]
          simp only [yi]
          omega
      · have h : g∈S := by simpa using h
        rw [pf h] at e
        refine ⟨_, rfl, rfl, _, rfl, ?_⟩
        by_cases hi0 : i∈(cw u i).1
        · rw [pf hi0] at e
          obtain ⟨rfl, rfl⟩ := Prod.mk.inj e
          refine vZ (by rw [eh]) ⟨_, _, _, _, rfl, by rw [eA hi0];exact h1, by rw [eA hi0];exact h2, by rw [eA hi0];exact hs0, s4⟩
        · have hne := wu hs0 hi hi0
          rw [← e] at hne
          have hne : w≠[] := hne
          have ho := fk hi0
          rw [← e] at ho
          refine kU (by rw [Bool.not_eq_true', decide_eq_false_iff_not];intro z;rw [← eh] at z;exact hne (kc z)) ?_
          have hlen := mX u i
          refine ⟨_, rfl, .inl ⟨rfl, _, SqL.of h1⟩, _, rfl, l, _, _, rfl, rfl, h1, by omega, _, _, _, _, rfl, ?_, ?_, ?_, ?_⟩
          · rw [ah, ho, yK]
            rfl
          · rw [av la, ho]
            exact h2
          · rw [ho]
            exact hs
          · intro b o eb
            rw [av (ak eb hl0)]
            exact s4 _ _ eb
    · rintro σ H3 ⟨v1, v2, v3, v4, rfl, h1, h2, hs, s3⟩
      exact ⟨_, rfl, k l _ hl0 h1 s3⟩
end
end Kx
namespace Kx
open PySem PySem.Spec PyProof.Rows L2 Wd
section
variable {P : Program} {w : World} {K : PySem.W.Frag} {mg : Str → Option Value} {base : Heap} {aB : Addr}
theorem p_ {u : List L}{e g : L}(nd : u.Nodup)(he : e∈u)(hg : g∈u)(ne : g≠e) : g∈u.filter (fun x => decide (x≠e)) ∧
    ∀ b : Bool, ((u.filter (fun x => decide (x≠e))).take ((u.filter (fun x => decide (x≠e))).idxOf g+(if b then 1 else 0)))++[e]++((u.filter (fun x => decide (x≠e))).drop ((u.filter (fun x => decide (x≠e))).idxOf g+(if b then 1 else 0)))=sld u e g b := by
  refine ⟨BN.mpr ⟨hg, yG ne⟩, fun b => ?_⟩
  obtain ⟨A, B, C, D, rfl, e1, e2⟩ := fF nd he hg ne b
  have nd2 : (e::(A++B)).Nodup := (Ae.nodup_iff).mp nd
  have ni := (yt.mp nd2).1
  have nd3 := (yt.mp nd2).2
  have ef : (A++e::B).filter (fun x => decide (x≠e))=C++g::D := by
    rw [List.filter_append, List.filter_cons_of_neg (by simp), ← List.filter_append, e1]
    refine List.filter_eq_self.mpr fun x hx => yG fun z => ?_
    subst z
    exact ni (by rw [e1];exact hx)
  rw [e1] at nd3
  have nd4 : (g::(C++D)).Nodup := (Ae.nodup_iff).mp nd3
  have ng := (yt.mp nd4).1
  have ei : (C++g::D).idxOf g=C.length := by
    rw [List.idxOf_append, if_neg (fun h => ng (yz _ h)), List.idxOf_cons_self, Nat.zero_add]
  rw [ef, e2, ei]
  cases b with
  | true =>
    rw [if_pos rfl, if_pos rfl]
    have : C++g::D=(C++[g])++D := by simp
    have hl : C.length+1=(C++[g]).length := by simp
    rw [this, hl, List.take_left, List.drop_left]
    simp
  | false =>
    rw [if_neg (by decide), if_neg (by decide), BU, List.take_left, List.drop_left]
    simp
abbrev fO : Stmt := top 25
theorem qc : aG ["surface", "slide", "end", "left", "place"] ["surface", "slide"] (ai fO) := ⟨rfl, rfl, rfl, by decide +kernel, rfl, by decide +kernel, by decide +kernel⟩
theorem sQ (D : Df K mg "moved" fO)(T : Bt K w mg aB)(F_back : Fnc P w K mg base "back" ["word"] 1 kf)(F_nb : Fnc P w K mg base "neighbour" ["surface", "slide"] 1 uI) : Fnc P w K mg base "moved" ["surface", "slide"] 2 jW := by
  have sc := qc
  refine D.ok sc (fun _ _ _ _ _ _ us hl => by obtain ⟨_, _, rfl⟩ := nY hl;rfl) (fun vs H Q E h => ?_) (fun f cdv A outer s H vs Q E hr h => ?_)
  · obtain ⟨u, t, i, sd, e, rfl, _⟩ := h
    rfl
  · obtain ⟨u, t, i, sd, e, rfl, ht, nd, hul, hg, he, hc, k⟩ := h
    have l16 := aT
    have hi : i < u.length := (ya.mp he).1
    have hne : u≠[] := yw.mp (by omega)
    refine ⟨_, (@nG _ (0) (1) (2) (3) _ _ _ _ _ _ _ _ _ _ _ _ _ _ _ _ _ _ _ _ _ _ sc.nd rfl rfl rfl rfl rfl rfl rfl rfl (by decide) (fun _ _ => rfl) (fun _ _ => rfl) (@ag _ _ _ _ _ (@au _ _ (4) _ _ _ _ sc.nd rfl (Or.inl rfl) (@dY _ _ _ _ _ _ _ _ _ _ _ _ yL Ao Ap gJ (pv 3) (@aa _ _ _ _ _ (@aI _ _ _ _ _ _ _ _ _ _ _ F_back hr (by decide) rfl (@aa _ _ _ _ _ (@aI _ _ _ _ _ _ _ _ _ _ _ F_nb hr (by decide) rfl (@aa _ _ _ _ _ (pv 0) (@aa _ _ _ _ _ (pv 1) af (by rfl)) (by rfl)) (by decide) (by rfl) (by rfl)) af (by rfl)) (by decide) (by rfl) (by rfl)) af (by rfl)) (by rfl) (by rfl) (by rfl) (by rfl) (by rfl)) (by rfl) (by first | exact .inl rfl | exact .inr rfl | assumption)) (@ag _ _ _ _ _ (@b0 _ _ _ _ _ _ _ _ (@aL _ _ _ _ _ _ _ _ dW (@bc _ _ _ _ _ _ _ cY (pv 1) aq (fun _ _ => rfl)) aq (aP _)) (@aj _ _ _ (@fT _ _ (4) _ _ _ _ _ _ sc.nd rfl (Or.inl rfl) aq fU (by first | exact .inl rfl | exact .inr rfl | assumption))) bo) (@aj _ _ _ (@aK _ _ _ _ (@aH _ _ _ _ _ _ _ _ aJ (@aH _ _ _ _ _ _ _ _ aJ (@aZ _ _ _ _ _ _ _ _ _ _ bX (pv 3) bB (@bb _ _ _ (pv 4))) (pv 2)) (@aZ _ _ _ _ _ _ _ _ _ _ bX (pv 3) (@bb _ _ _ (pv 4)) bB)))))) (by rfl) (by rfl) (by decide) (by decide) (by decide) (by decide) (by decide) (by rfl) (by rfl) (by rfl) (by rfl)), ?_⟩
    refine ⟨toS u, t, (i : Int), [.int sd], cp e, rfl, rfl, ht, by rw [ab];omega, bp rfl he, ?_⟩
    rw [lz]
    have ne' : inv (farOf u i sd)≠e := fun z => hc (by rw [← z, aE])
    obtain ⟨hm, hb⟩ := p_ nd (yu he) hg ne'
    have hfl : (u.filter (fun x => decide (x≠e))).length≤u.length := List.length_filter_le _ _
    generalize u.filter (fun x => decide (x≠e))=l at hm hb hfl ⊢
    obtain ⟨rest, ho⟩ := mV hm
    refine ⟨_, rfl, rfl, _, rfl, _, rfl, u, t, i, sd, rfl, ht, hne, by omega, [farOf u i sd], rfl, (by show 1≤5000;decide), fun H2 s2 => ?_⟩
    rw [bR]
    refine ⟨_, _, _, rest, rfl, rfl, ho, ?_⟩
    have ht2 := s2 _ _ ht
    have hwl : (toS l).length≤sizeLine := by rw [ab];omega
    have hil : l.idxOf (inv (farOf u i sd)) < l.length := List.idxOf_lt_length_iff.mpr hm
    generalize inv (farOf u i sd)=g at hb hil k ⊢
    refine ⟨_, rfl, t, _, _, _, rfl, rfl, SqT.of ht2, rfl, rfl, _, rfl, ?_⟩
    by_cases hs : sd=1
    · refine kU (yG (yW V.int hs)) ?_
      have hb := hb true
      rw [if_pos rfl] at hb
      rw [yG hs] at k
      have e1 : (l.idxOf g : Int)+1=((l.idxOf g+1 : Nat) : Int) := by omega
      refine ⟨_, rfl, _, _, rfl, rfl, ?_⟩
      refine ⟨_, rfl, _, rfl, _, rfl, _, rfl, hwl, _, rfl, _, _, rfl, rfl, ?_, _, rfl, _, rfl, _, rfl, _, rfl, hwl, _, _, rfl, rfl, ?_, ?_⟩
      all_goals rw [show ((fun i j : Int => i+j) (l.idxOf g : Int) 1)=((l.idxOf g+1 : Nat) : Int) from e1, aF, df _ (by omega), yD, f_]
      · rw [ab, ab, yy];show _+1≤_;omega
      · rw [aF, cR _ (by omega), yD, aC, ab, ab, x_, yy, zj];show _+1+_≤_;omega
      · rw [aF, cR _ (by omega), yD, aC, aC, hb]
        exact k _ s2
    · refine kW (yr (fun z => hs (V.int.inj z))) ?_
      have hb := hb false
      rw [if_neg (by decide), BU] at hb
      rw [yr hs] at k
      refine ⟨_, rfl, _, rfl, _, rfl, _, rfl, hwl, _, rfl, _, _, rfl, rfl, ?_, _, rfl, _, rfl, _, rfl, _, rfl, hwl, _, _, rfl, rfl, ?_, ?_⟩
      all_goals rw [aF, df _ (by omega), yD, f_]
      · rw [ab, ab, yy];show _+1≤_;omega
      · rw [aF, cR _ (by omega), yD, aC, ab, ab, x_, yy, zj];show _+1+_≤_;omega
      · rw [aF, cR _ (by omega), yD, aC, aC, hb]
        exact k _ s2
abbrev jf : Stmt := top 22
theorem sR : aG ["surface", "slides", "over", "home", "k", "slide", "maps"] ["surface", "slides"] (ai jf) := ⟨rfl, rfl, rfl, by decide +kernel, rfl, by decide +kernel, by decide +kernel⟩
theorem vm (D : Df K mg "told_by" jf)(T : Bt K w mg aB)(Te : mg "enumerate" = none)(F_then : Fnc P w K mg base "then" ["one", "other"] 3 nu)(F_plain : Fnc P w K mg base "plain" ["many"] 1 jJ)(F_maps : Fnc P w K mg base "maps_of" ["surface", "slide"] 3 nA)(F_can : Fnc P w K mg base "can_slide" ["surface", "slide"] 2 pM)(F_moved : Fnc P w K mg base "moved" ["surface", "slide"] 2 jW) : Fnc P w K mg base "told_by" ["surface", "slides"] 4 nW := by
  have sc := sR
  refine D.ok sc (fun _ _ _ _ _ _ us hl => by obtain ⟨_, _, rfl⟩ := nY hl;rfl) (fun vs H Q E h => ?_) (fun f cdv A outer s H vs Q E hr h => ?_)
  · obtain ⟨u, t, n, ss, ps, rfl, _⟩ := h
    rfl
  · obtain ⟨u, t, n, ss, ps, rfl, ht, hsl, R, U, h2, h6, hv, h8, k⟩ := h
    have l16 := aT
    have hlu := R.len
    have hw : (toS u).length≤sizeLine := by rw [ab];omega
    refine ⟨_, (@ag _ _ _ _ _ (@au _ _ (2) _ _ _ _ sc.nd rfl (Or.inl rfl) (@aI _ _ _ _ _ _ _ _ _ _ _ F_plain hr (by decide) rfl (@aa _ _ _ _ _ (@aH _ _ _ _ _ _ _ _ dh (@ar _ _ _ _ _ _ _ _ _ ao (by rfl) T.len yq (@aa _ _ _ _ _ (pv 0) af (by rfl)) (by decide) (by decide) (by rfl) (by rfl)) aq) af (by rfl)) (by decide) (by rfl) (by rfl)) (by rfl) (by first | exact .inl rfl | exact .inr rfl | assumption)) (@ag _ _ _ _ _ (@au _ _ (3) _ _ _ _ sc.nd rfl (Or.inl rfl) (pv 2) (by rfl) (by first | exact .inl rfl | exact .inr rfl | assumption)) (@ag _ _ _ _ _ (@cx _ _ _ _ _ _ _ _ yQ rfl (@uC _ _ rfl _ _ _ _ _ _ _ rfl Te jR (@aa _ _ _ _ _ (pv 1) af (by rfl)) (by rfl)) (@lQ _ _ _ _ _ _ rfl (@cg _ _ _ _ _ (@aM _ _ (4) _ sc.nd rfl (Or.inl rfl) (by first | exact .inl rfl | exact .inr rfl | assumption)) (@cg _ _ _ _ _ (@aM _ _ (5) _ sc.nd rfl (Or.inl rfl) (by first | exact .inl rfl | exact .inr rfl | assumption)) jw (by rfl)) (by rfl)) (by rfl) (by rfl)) (@ag _ _ _ _ _ (@b0 _ _ _ _ _ _ _ _ (@jX _ _ _ _ (@dz _ _ _ (@aI _ _ _ _ _ _ _ _ _ _ _ F_can hr (by decide) rfl (@aa _ _ _ _ _ (pv 0) (@aa _ _ _ _ _ (pv 5) af (by rfl)) (by rfl)) (by decide) (by rfl) (by rfl)) (fun _ => rfl))) (@aj _ _ _ jZ) bo) (@ag _ _ _ _ _ (@au _ _ (6) _ _ _ _ sc.nd rfl (Or.inl rfl) (@aI _ _ _ _ _ _ _ _ _ _ _ F_maps hr (by decide) rfl (@aa _ _ _ _ _ (pv 0) (@aa _ _ _ _ _ (pv 5) af (by rfl)) (by rfl)) (by decide) (by rfl) (by rfl)) (by rfl) (by first | exact .inl rfl | exact .inr rfl | assumption)) (@ag _ _ _ _ _ (@au _ _ (2) _ _ _ _ sc.nd rfl (Or.inl rfl) (@aI _ _ _ _ _ _ _ _ _ _ _ F_then hr (by decide) rfl (@aa _ _ _ _ _ (pv 2) (@aa _ _ _ _ _ (@bc _ _ _ _ _ _ _ cY (pv 6) aq (fun _ _ => rfl)) af (by rfl)) (by rfl)) (by decide) (by rfl) (by rfl)) (by rfl) (by first | exact .inl rfl | exact .inr rfl | assumption)) (@ag _ _ _ _ _ (@au _ _ (3) _ _ _ _ sc.nd rfl (Or.inl rfl) (@aI _ _ _ _ _ _ _ _ _ _ _ F_then hr (by decide) rfl (@aa _ _ _ _ _ (@bc _ _ _ _ _ _ _ cY (pv 6) aq (fun _ _ => rfl)) (@aa _ _ _ _ _ (pv 3) af (by rfl)) (by rfl)) (by decide) (by rfl) (by rfl)) (by rfl) (by first | exact .inl rfl | exact .inr rfl | assumption)) (@aj _ _ _ (@au _ _ (0) _ _ _ _ sc.nd rfl (Or.inl rfl) (@aI _ _ _ _ _ _ _ _ _ _ _ F_moved hr (by decide) rfl (@aa _ _ _ _ _ (pv 0) (@aa _ _ _ _ _ (pv 5) af (by rfl)) (by rfl)) (by decide) (by rfl) (by rfl)) (by rfl) (by first | exact .inl rfl | exact .inr rfl | assumption))))))) (by intro _ ;rfl)) (@aj _ _ _ (@aK _ _ _ _ (@hU _ _ _ _ _ (@aa _ _ _ _ _ (pv 0) (@aa _ _ _ _ _ (pv 2) (@aa _ _ _ _ _ (pv 3) af (by rfl)) (by rfl)) (by rfl)))))))), ?_⟩
    have en : ((toS u).length : Int) / 2=(n : Int) := by rw [ab];omega
    refine ⟨_, rfl, _, rfl, hw, _, _, rfl, rfl, ⟨by decide, by decide⟩, ?_⟩
    rw [en]
    refine ⟨n, rfl, by omega, h6, fun a H1 ha s1 M1 => ?_⟩
    refine ⟨_, rfl, ?_⟩
    refine ⟨_, rfl, t, rfl, ⟨_, SqT.of (s1 _ _ ht)⟩, ?_⟩
    refine rQ (xs := ps.map V.ref) (fun i σ H' => ∃ (v1 v2 v3 : Option V) (M N : List (List L)) (a b : Addr), σ = [some (tx ((ss.take i).foldl stp u)), some (.ref t), some (.ref a), some (.ref b), v1, v2, v3] ∧ Sl n u ((ss.take i).foldl stp u) i M N ∧ H' a=some (.tup (M.map tx)) ∧ H' b=some (.tup (N.map tx)) ∧ aD H H')
      ⟨none, none, none, _, _, a, a, rfl, Sl.start h6 R U, M1.at_, M1.at_, s1⟩ (fun i σ H' _ ⟨_, _, _, _, _, _, _, _, _, _, _, q⟩ => SqT.of (q _ _ ht)) ?_ ?_
    · rintro i x σ H2 t2 hx ⟨v1, v2, v3, M, N, a, b, rfl, S, ga, gb, s2⟩ ht2
      have hil : i < ss.length := by
        have := (ya.mp hx).1
        rwa [x9, hsl.len] at this
      have hss : ss[i]? = some ss[i] := yc hil
      generalize ss[i]=sl at hss
      obtain ⟨p, hp, hpt⟩ := hsl.at_ i sl hss
      rw [yp, hp] at hx
      cases hx
      obtain ⟨e, he, hsd, hc⟩ := hv i sl hss
      have Sn := S.on h2 h6 he hsd hc
      have ev : (ss.take (i+1)).foldl stp u=sld ((ss.take i).foldl stp u) e (inv (farOf ((ss.take i).foldl stp u) sl.1 sl.2)) (decide (sl.2=1)) := by
        rw [ze, hss, Option.toList_some, Au]
        exact nU he
      rw [ev]
      have row := S.row
      have srf := S.srf
      have mM := S.m
      have mN := S.h
      generalize (ss.take i).foldl stp u=v at he hc Sn row srf ⊢
      have hlv := row.len
      have hi2 : sl.1 < v.length := (ya.mp he).1
      have hne : v≠[] := yw.mp (by omega)
      have pw : 2 ^ i≤256 := Nat.pow_le_pow_right (n := 2) (by decide) (show i≤8 by omega)
      have s3 : aD H (upd H2 t2 (.tup [.int i, .ref p])) := s2.then ht2
      have ga := (aD.new (o := .tup [.int i, .ref p]) ht2) _ _ ga
      have gb := (aD.new (o := .tup [.int i, .ref p]) ht2) _ _ gb
      refine ⟨t2, _, rfl, SqT.of ah, rfl, _, _, rfl, _, _, rfl, rfl, ?_⟩
      generalize upd H2 t2 (.tup [.int i, .ref p])=H3 at s3 ga gb ⊢
      refine ⟨_, rfl, _, rfl, v, p, sl.1, sl.2, e, rfl, s3 _ _ hpt, by omega, he, fun H4 s4 => ?_⟩
      refine ⟨_, rfl, kW (by rw [yr hc];rfl) ?_⟩
      have s5 := s3.trans s4
      refine ⟨_, rfl, _, rfl, v, p, n, sl.1, sl.2, e, rfl, s5 _ _ hpt, row, by omega, h6, he, hc, fun r ma mb H5 _ s6 hr5 hma hmb => ?_⟩
      have ga := s6 _ _ (s4 _ _ ga)
      have gb := s6 _ _ (s4 _ _ gb)
      have s7 := s5.trans s6
      have hf := row.ins _ (jM hne sl.1 sl.2)
      have hen := row.ins _ (yu he)
      have hfe := qI row h2 hi2 hsd he hc
      have hif : (inv (farOf v sl.1 sl.2)).val % 6=(farOf v sl.1 sl.2).val % 6 := by have := (farOf v sl.1 sl.2).isLt;rw [bT];split <;> omega
      have P1 := gR h6 hen hf hfe
      have P2 := gR (o := inv (farOf v sl.1 sl.2)) h6 hen (by omega) (by omega)
      have hiv := srf.iv _ (jM hne sl.1 sl.2)
      refine ⟨_, rfl, _, rfl, r, _, _, _, rfl, rfl, SqT.of hr5, rfl, a, ma, n, 2 ^ i, 2, M, cn n e (farOf v sl.1 sl.2), rfl, ⟨ga, mM⟩, ⟨hma, P1⟩, h6, by omega, by omega, by decide, fun a2 H6 _ s8 A2 => ?_⟩
      refine ⟨_, rfl, r, _, _, _, rfl, rfl, SqT.of (s8 _ _ hr5), rfl, _, rfl, mb, b, n, 2, 2 ^ i, cn n e (inv (farOf v sl.1 sl.2)), N, rfl, ⟨s8 _ _ hmb, P2⟩, ⟨s8 _ _ gb, mN⟩, h6, by decide, by omega, by omega, fun b2 H7 _ s9 B2 => ?_⟩
      have s10 := s7.trans (s8.trans s9)
      refine ⟨_, rfl, _, rfl, v, p, sl.1, sl.2, e, rfl, s10 _ _ hpt, row.nd, by omega, hiv, he, hc, fun H8 s11 => ?_⟩
      exact ⟨_, _, _, _, _, a2, b2, rfl, Sn, s11 _ _ (s9 _ _ A2.at_), s11 _ _ B2.at_, s10.trans s11⟩
    · rintro σ H2 ⟨v1, v2, v3, M, N, a, b, rfl, S, ga, gb, s2⟩
      rw [x9, hsl.len] at S
      rw [x9, hsl.len]
      refine ⟨_, rfl, _, rfl, _, rfl, (dq (n := 3) (by decide)), fun r hr' => ?_⟩
      exact k r a b _ M N _ (none_of s2 hr') (s2.then hr') ah ((aD.new hr') _ _ ga) ((aD.new hr') _ _ gb) S
end
end Kx
namespace Kx
open PySem PySem.Spec PyProof.Rows L2 Wd
section
variable {P : Program} {w : World} {K : PySem.W.Frag} {mg : Str → Option Value} {base : Heap} {aB : Addr}
theorem sS {H : Hp}{d l : Addr}{o : HO}{ps : List Addr}(F : Fd H d)(h : H l=some (.lst (ps.map V.ref)))(n : l≠d) : Fd (L2.upd H l o) d := by
  obtain ⟨c, i, ll, t, ns, h1, h2, h3, h4⟩ := F.ex
  have hc : c≠l := fun e => by
    subst e
    rw [h2] at h
    have h := HO.lst.inj (yh h)
    cases ns with
    | nil => exact h3 rfl
    | cons x r =>
      cases ps with
      | nil => cases h
      | cons y q => exact absurd (y_ h).1 (by intro z;cases z)
  exact ⟨c, i, ll, t, ns, by rw [av (fun e => n e.symm)];exact h1, by rw [av hc];exact h2, h3, h4⟩
theorem qd (Rs : List (List L))(v : List L) : atI ((Rs++[v]).map tx) ((((Rs++[v]).map tx).length : Int) - 1)=some (tx v) := by
  have hl : ((Rs++[v]).map tx).length=Rs.length+1 := by simp
  have := q9 (xs := (Rs++[v]).map tx) (j := Rs.length) (v := tx v) (by simp)
  rw [hl, show ((Rs.length+1 : Nat) : Int) - 1=(Rs.length : Int) by omega]
  exact this
theorem sT {r : Int}(h0 : 0≤r)(h1 : r < 2) : ∃ sd : Int, atI [V.int 1, V.int (-1)] r=some (.int sd) ∧ (sd=1 ∨ sd = -1) := by
  have : r=0 ∨ r=1 := by omega
  rcases this with rfl | rfl
  · exact ⟨1, rfl, .inl rfl⟩
  · exact ⟨-1, rfl, .inr rfl⟩
abbrev dS : Stmt := top 40
theorem oo : aG ["_law_feed_here", "_law_row", "_law_most", "_law_slides_here", "_law_rows", "_law_k", "_law_place", "_law_side", "_law_after"] ["_law_feed_here", "_law_row", "_law_most"] (ai dS) := ⟨rfl, rfl, rfl, by decide +kernel, rfl, by decide +kernel, by decide +kernel⟩
theorem qe (D : Df K mg "_law_slides" dS)(T : Bt K w mg aB)(F_draw : Fnc P w K mg base "_law_draw" ["_law_feed_here", "_law_many"] 1 iG)(F_slid : Fnc P w K mg base "_law_slid" ["_law_row", "_law_place", "_law_side"] 2 nV) : Fnc P w K mg base "_law_slides" ["_law_feed_here", "_law_row", "_law_most"] 3 gY := by
  have sc := oo
  refine D.ok sc (fun _ _ _ _ _ _ us hl => by obtain ⟨_, _, _, rfl⟩ := vA hl;rfl) (fun vs H Q E h => ?_) (fun f cdv A outer s H vs Q E hr h => ?_)
  · obtain ⟨d, u, n, rfl, _⟩ := h
    rfl
  · obtain ⟨d, u, n, rfl, F, R, U, h2, h6, k⟩ := h
    have l16 := aT
    have hlu := R.len
    have hw : (toS u).length≤sizeLine := by rw [ab];omega
    refine ⟨_, (@ag _ _ _ _ _ (@au _ _ (3) _ _ _ _ sc.nd rfl (Or.inl rfl) (@dC _ _ _ _ af) (by rfl) (by first | exact .inl rfl | exact .inr rfl | assumption)) (@ag _ _ _ _ _ (@au _ _ (4) _ _ _ _ sc.nd rfl (Or.inl rfl) (@dC _ _ _ _ (@aa _ _ _ _ _ (pv 1) af (by rfl))) (by rfl) (by first | exact .inl rfl | exact .inr rfl | assumption)) (@ag _ _ _ _ _ (@cx _ _ _ _ _ _ _ _ yQ rfl (@b7 _ _ _ _ _ _ rfl T.range (@aa _ _ _ _ _ (@aH _ _ _ _ _ _ _ _ eU (@aI _ _ _ _ _ _ _ _ _ _ _ F_draw hr (by decide) rfl (@aa _ _ _ _ _ (pv 0) (@aa _ _ _ _ _ (@aH _ _ _ _ _ _ _ _ bw (pv 2) aq) af (by rfl)) (by rfl)) (by decide) (by rfl) (by rfl)) (@aU _ _ _ _ _ _ _ _ _ dA (by rfl) T.int o_ (@aa _ _ _ _ _ (@dX _ _ _ _ _ _ _ _ tL (@ar _ _ _ _ _ _ _ _ _ ao (by rfl) T.len yq (@aa _ _ _ _ _ (pv 1) af (by rfl)) (by decide) (by decide) (by rfl) (by rfl)) aq (aP _)) af (by rfl)) (by decide) (by decide) (by rfl) (by rfl))) af (by rfl)) (by rfl)) (@aM _ _ (5) _ sc.nd rfl (Or.inl rfl) (by first | exact .inl rfl | exact .inr rfl | assumption)) (@ag _ _ _ _ _ (@au _ _ (6) _ _ _ _ sc.nd rfl (Or.inl rfl) (@aI _ _ _ _ _ _ _ _ _ _ _ F_draw hr (by decide) rfl (@aa _ _ _ _ _ (pv 0) (@aa _ _ _ _ _ (@ar _ _ _ _ _ _ _ _ _ ao (by rfl) T.len yq (@aa _ _ _ _ _ (pv 1) af (by rfl)) (by decide) (by decide) (by rfl) (by rfl)) af (by rfl)) (by rfl)) (by decide) (by rfl) (by rfl)) (by rfl) (by first | exact .inl rfl | exact .inr rfl | assumption)) (@ag _ _ _ _ _ (@au _ _ (7) _ _ _ _ sc.nd rfl (Or.inl rfl) (@bc _ _ _ _ _ _ _ eZ (@dC _ _ _ _ (@aa _ _ _ _ _ aq (@aa _ _ _ _ _ (@qR _ _ _ _ _ _ lT aq) af (by rfl)) (by rfl))) (@aI _ _ _ _ _ _ _ _ _ _ _ F_draw hr (by decide) rfl (@aa _ _ _ _ _ (pv 0) (@aa _ _ _ _ _ aq af (by rfl)) (by rfl)) (by decide) (by rfl) (by rfl)) (fun _ _ => rfl)) (by rfl) (by first | exact .inl rfl | exact .inr rfl | assumption)) (@ag _ _ _ _ _ (@au _ _ (8) _ _ _ _ sc.nd rfl (Or.inl rfl) (@aI _ _ _ _ _ _ _ _ _ _ _ F_slid hr (by decide) rfl (@aa _ _ _ _ _ (@bc _ _ _ _ _ _ _ eZ (pv 4) (@aH _ _ _ _ _ _ _ _ ee (@ar _ _ _ _ _ _ _ _ _ aX (by rfl) T.len yq (@aa _ _ _ _ _ (pv 4) af (by rfl)) (by decide) (by decide) (by rfl) (by rfl)) aq) (fun _ _ => rfl)) (@aa _ _ _ _ _ (pv 6) (@aa _ _ _ _ _ (pv 7) af (by rfl)) (by rfl)) (by rfl)) (by decide) (by rfl) (by rfl)) (by rfl) (by first | exact .inl rfl | exact .inr rfl | assumption)) (@aj _ _ _ (@b0 _ _ _ _ _ _ _ _ (@aL _ _ _ _ _ _ _ _ qS (pv 8) qh (aP _)) (@ag _ _ _ _ _ (@dU _ _ _ _ (@dY _ _ _ _ _ _ _ _ _ _ _ _ za y0 zi cC (pv 3) (@aa _ _ _ _ _ (@hU _ _ _ _ _ (@aa _ _ _ _ _ (pv 6) (@aa _ _ _ _ _ (pv 7) af (by rfl)) (by rfl))) af (by rfl)) (by rfl) (by rfl) (by rfl) (by rfl) (by rfl)) (by rfl)) (@aj _ _ _ (@dU _ _ _ _ (@dY _ _ _ _ _ _ _ _ _ _ _ _ za y0 zi cC (pv 4) (@aa _ _ _ _ _ (pv 8) af (by rfl)) (by rfl) (by rfl) (by rfl) (by rfl) (by rfl)) (by rfl)))) bo))))) (by intro _ ;rfl)) (@aj _ _ _ (@aK _ _ _ _ (@hU _ _ _ _ _ (@aa _ _ _ _ _ (pv 3) (@aa _ _ _ _ _ (pv 4) af (by rfl)) (by rfl)))))))), ?_⟩
    refine ⟨(by show 0≤sizeLine;decide), fun l1 hl1 => ?_⟩
    have n1 := F.ne hl1
    have s1 : aD H (upd H l1 (.lst [])) := aD.new hl1
    have f1 : (upd H l1 (.lst [])) l1=some (.lst (([] : List Addr).map V.ref)) := ah
    generalize upd H l1 (.lst [])=H1 at s1 f1 ⊢
    refine ⟨_, rfl, (dq (n := 1) (by decide)), fun l2 hl2 => ?_⟩
    have hl20 := none_of s1 hl2
    have n2 := F.ne hl20
    have n12 : l1≠l2 := ak f1 hl2
    have s2 := s1.trans (aD.new (o := .lst [tx u]) hl2)
    have g1 := (aD.new (o := .lst [tx u]) hl2) _ _ f1
    have f2 : (upd H1 l2 (.lst [tx u])) l2=some (.lst (([]++[u] : List (List L)).map tx)) := ah
    generalize upd H1 l2 (.lst [tx u])=H2 at s2 f2 g1 ⊢
    have F2 := F.same s2
    refine ⟨_, rfl, _, rfl, _, _, rfl, rfl, d, _, rfl, F2, by decide, by decide, fun r H3 r0 r1 F3 sb3 => ?_⟩
    have hd : decide ((2 : Int) < ((toS u).length : Int))=true := by rw [ab];exact yG (by omega)
    have sb3 := sb3
    have sb3 : bG d H H3 := s2.b.trans sb3
    have g1 := ‹bG d H2 H3› _ _ n1 g1
    have f2 := ‹bG d H2 H3› _ _ n2 f2
    refine ⟨_, rfl, _, rfl, hw, _, _, rfl, rfl, .inr ⟨_, rfl, _, _, rfl, rfl, ?_, ?_⟩⟩
    · rw [hd]
      exact Or.inr ⟨by decide, by decide⟩
    rw [hd, if_pos rfl, Int.mul_one]
    refine ⟨_, rfl, by omega, by omega, ?_⟩
    refine cz (lo := 0) (n := r.toNat) (fun i σ H' => ∃ (vk v6 v7 v8 : Option V) (ss : List (Nat × Int)) (ps : List Addr) (Rs : List (List L)), σ = [some (.ref d), some (tx u), some (.int 8), some (.ref l1), some (.ref l2), vk, v6, v7, v8] ∧
      H' l1=some (.lst (ps.map V.ref)) ∧ H' l2=some (.lst ((Rs++[ss.foldl stp u]).map tx)) ∧ Rs.length≤i ∧ jm H' ps ss ∧ lG u ss ∧ ss.length≤i ∧ Fd H' d ∧ bG d H H') ⟨none, none, none, none, [], [], [], rfl, g1, f2, yb _, jm.nil _, lG.nil u, yb _, F3, sb3⟩ ?_ ?_
    · rintro i σ H4 hi ⟨vk, v6, v7, v8, ss, ps, Rs, rfl, q1, q2, hR, hS, hV, hss, F4, sb4⟩
      obtain ⟨row, srf⟩ := uW h2 h6 R U hV
      generalize ev : ss.foldl stp u=v at row srf q2 ⊢
      have hlv := row.len
      refine ⟨_, rfl, _, rfl, _, rfl, hw, d, _, rfl, F4, by rw [ab];omega, by rw [ab];omega, fun pl H5 p0 p1 F5 sb5 => ?_⟩
      rw [ab] at p1
      obtain ⟨pn, rfl⟩ := zp p0
      have q1 := sb5 _ _ (F4.nl q1) q1
      have q2 := sb5 _ _ (F4.nl q2) q2
      have hS := hS.to (H' := H5) fun b xs e => sb5 _ _ (F4.neT e) e
      have sb5 := sb4.trans sb5
      refine ⟨_, rfl, (dq (n := 2) (by decide)), fun p hp => ?_⟩
      have np := F5.ne hp
      have sp : aD H5 (upd H5 p (.lst [.int 1, .int (-1)])) := aD.new hp
      have fp : (upd H5 p (.lst [.int 1, .int (-1)])) p=some (.lst [.int 1, .int (-1)]) := ah
      have F6 := F5.same sp
      have sb6 := sb5.trans sp.b (d := d)
      have q1 := sp _ _ q1
      have q2 := sp _ _ q2
      have hS := hS.same sp
      refine ⟨_, rfl, d, _, rfl, F6, by decide, by decide, fun sr H7 t0 t1 F7 sb7 => ?_⟩
      obtain ⟨sd, hsd, hs1⟩ := sT t0 t1
      refine ⟨p, _, _, _, rfl, rfl, SqL.of (sb7 _ _ np fp), hsd, ?_⟩
      have q1 := sb7 _ _ (F6.nl q1) q1
      have q2 := sb7 _ _ (F6.nl q2) q2
      have hS := hS.to (H' := H7) fun b xs e => sb7 _ _ (F6.neT e) e
      have sb7 := sb6.trans sb7
      have he : v[pn]? = some v[pn] := yc (by omega)
      generalize v[pn]=e at he
      refine ⟨_, rfl, _, rfl, l2, _, rfl, .inl (SqL.of q2), _, _, rfl, rfl, l2, _, _, _, rfl, rfl, SqL.of q2, qd Rs v, _, rfl, _, rfl, v, pn, sd, e, rfl, by omega, he, fun H8 s8 hc => ?_, fun H8 s8 hc => ?_⟩
      · refine ⟨_, rfl, rfl, _, rfl, kW rfl ?_⟩
        exact ⟨_, _, _, _, ss, ps, Rs, rfl, s8 _ _ q1, by rw [ev];exact s8 _ _ q2, by omega, hS.same s8, hV, by omega, F7.same s8, sb7.trans s8.b⟩
      · refine ⟨_, rfl, rfl, _, rfl, kU rfl ?_⟩
        have q1 := s8 _ _ q1
        have q2 := s8 _ _ q2
        have hS := hS.same s8
        have F8 := F7.same s8
        have sb8 := sb7.trans s8.b (d := d)
        refine ⟨_, rfl, .inl ⟨rfl, _, SqL.of q1⟩, _, rfl, _, rfl, (dq (n := 2) (by decide)), fun t ht => ?_⟩
        have st : aD H8 (upd H8 t (.tup [.int (pn : Int), .int sd])) := aD.new ht
        have ft : (upd H8 t (.tup [.int (pn : Int), .int sd])) t=some (.tup [.int (pn : Int), .int sd]) := ah
        have q1 := st _ _ q1
        have q2 := st _ _ q2
        have hS := hS.same st
        have F9 := F8.same st
        have sb9 := sb8.trans st.b (d := d)
        generalize upd H8 t (.tup [.int (pn : Int), .int sd])=H9 at ft q1 q2 hS F9 sb9 ⊢
        have hps := hS.len
        refine ⟨l1, _, _, rfl, rfl, q1, (by rw [x9];omega), ?_⟩
        have tupk : ∀ {G : Hp} {l : Addr} {xs ys : List V} {o : HO}, G l=some (.lst xs) → ∀ b zs, G b=some (.tup zs) → (upd G l o) b=some (.tup zs) := fun {G l xs ys o} hl b zs e => by
          rw [av (kH e hl (by intro z;cases z))];exact e
        have ft := tupk (ys := []) (o := .lst (ps.map V.ref++[.ref t])) q1 _ _ ft
        have hS := hS.to (H' := upd H9 l1 (.lst (ps.map V.ref++[.ref t]))) (tupk (ys := []) q1)
        have F10 := sS (o := .lst (ps.map V.ref++[.ref t])) F9 q1 n1
        have q2 : (upd H9 l1 (.lst (ps.map V.ref++[.ref t]))) l2=_ := (av n12.symm).trans q2
        have q1 : (upd H9 l1 (.lst (ps.map V.ref++[.ref t]))) l1=some (.lst ((ps++[t]).map V.ref)) := by rw [yK];exact ah
        have sb10 : bG d H (upd H9 l1 (.lst (ps.map V.ref++[.ref t]))) := fun b o nb e => by rw [av (ak e hl1)];exact sb9 _ _ nb e
        generalize upd H9 l1 (.lst (ps.map V.ref++[.ref t]))=H10 at ft q1 q2 hS F10 sb10 ⊢
        refine ⟨_, rfl, .inl ⟨rfl, _, SqL.of q2⟩, _, rfl, l2, _, _, rfl, rfl, q2, (by rw [x9, x_, yi];omega), ?_⟩
        have e1 : (ss++[(pn, sd)]).foldl stp u=sld v e (inv (farOf v pn sd)) (decide (sd=1)) := by
          rw [Au, ev]
          exact nU he
        generalize sld v e (inv (farOf v pn sd)) (decide (sd=1))=v2 at e1 ⊢
        refine ⟨_, _, _, _, ss++[(pn, sd)], ps++[t], Rs++[v], rfl, ?_, ?_, ?_, ?_, ?_, ?_, ?_, ?_⟩
        · rw [av n12];exact q1
        · rw [e1, ah, yK, yK, yK]
          rfl
        · rw [x_, yi];omega
        · exact (hS.snoc (s := (pn, sd)) ft).to (tupk (ys := []) q2)
        · exact hV.snoc ⟨e, by rw [ev];exact he, hs1, by rw [ev];exact hc⟩
        · rw [x_, yi];omega
        · exact rY F10 q2 n2
        · exact fun b o nb e => by rw [av (ak e hl20)];exact sb10 _ _ nb e
    · rintro σ H4 ⟨vk, v6, v7, v8, ss, ps, Rs, rfl, q1, q2, hR, hS, hV, hss, F4, sb4⟩
      refine ⟨_, rfl, _, rfl, (dq (n := 2) (by decide)), fun rr hrr => ?_⟩
      have sn : aD H4 (upd H4 rr (.tup [.ref l1, .ref l2])) := aD.new hrr
      exact k rr l1 l2 ss ps _ (F4.same sn) (sb4.trans sn.b) ah (sn _ _ q1) (hS.same sn) hV (by omega)
end
end Kx
namespace Kx
open PySem PySem.Spec PyProof.Rows L2 Wd
section
variable {P : Program} {w : World} {K : PySem.W.Frag} {mg : Str → Option Value} {base : Heap} {aB : Addr}
theorem g6 (ws : List (List L)) : (PyData.list (dws ws)).canLay0=true := by
  unfold PyData.canLay0
  exact iR ws
theorem jg : ∀ ws : List (List L), PyData.depthAll (dws ws)≤0
  | [] => yb _
  | w::ws => by
    have := jg ws
    show max (PyData.depth (.str (toS w))) (PyData.depthAll (dws ws))≤0
    have : PyData.depth (.str (toS w))=0 := rfl
    omega
theorem oq {u : List L}(U : Srf u) : (hol u).length < 64 := by
  have : (hol u).length≤u.length := jG u u.length
  have := U.le
  omega
theorem g9 {H : Hp}{p q : Addr}{Q : VK}(Vs : List (List L))(h1 : H p=some (.lst (Vs.map tx)))(h2 : H q=some (.lst (Vs.map tx)))(h : Q (.bl false) H) : wy (.ref p) (.ref q) H Q := by
  refine ⟨_, _, .lst h1 (jE Vs), .lst h2 (jE Vs), g6 Vs, g6 Vs, ?_, ?_⟩
  · show PyData.depthAll (dws Vs)+1≤10
    have := jg Vs
    omega
  rw [SeqAt.eqv_refl _ (g6 Vs)]
  exact h
theorem gk {A B W V : List (List L)}(a : A.Perm W)(b : B.Perm V)(p : W.Perm V)(sa : sortedS (A.map toS)=true)(sb : sortedS (B.map toS)=true) : A=B := by
  have := lq sa sb ((a.trans (p.trans b.symm)).map toS)
  exact (List.map_inj_right (fun _ _ e => cF e)).mp this
theorem jh {W : List (List L)}{i : Nat}{x : V}(h : (W.map tx)[i]? = some x) : ∃ w, W[i]? = some w ∧ x=tx w := by
  rw [yp] at h
  cases e : W[i]? with
  | none => rw [e] at h;cases h
  | some v => rw [e] at h;exact ⟨v, rfl, (yh h).symm⟩
abbrev fP : Stmt := top 42
theorem qf : aG ["_law_row", "_law_slides_here", "_law_goal", "_law_over", "_law_home", "_law_here", "_law_there", "_law_gone", "_law_back_again"] ["_law_row", "_law_slides_here"] (ai fP) := ⟨rfl, rfl, rfl, by decide +kernel, rfl, by decide +kernel, by decide +kernel⟩
theorem sU (D : Df K mg "_law_right" fP)(T : Bt K w mg aB)(Tset : mg "set" = none)(F_mapped : Fnc P w K mg base "mapped" ["change", "word"] 2 dN)(F_wb : Fnc P w K mg base "way_by" ["change", "way"] 4 jS)(F_told : Fnc P w K mg base "told_by" ["surface", "slides"] 4 nW)(F_holes : Fnc P w K mg base "holes" ["surface"] 3 d7)(F_handles : Fnc P w K mg base "handles" ["surface"] 4 fm)(F_mid : Fnc P w K mg base "_law_middle" ["_law_word"] 3 r6)(F_lleast : Fnc P w K mg base "_law_least" ["_law_word"] 1 fJ)(F_lholes : Fnc P w K mg base "_law_holes" ["_law_row"] 2 d7) : Fnc P w K mg base "_law_right" ["_law_row", "_law_slides_here"] 5 gZ := by
  have sc := qf
  refine D.ok sc (fun _ _ _ _ _ _ us hl => by obtain ⟨_, _, rfl⟩ := nY hl;rfl) (fun vs H Q E h => ?_) (fun f cdv A outer s H vs Q E hr h => ?_)
  · obtain ⟨u, a, n, ss, ps, rfl, _⟩ := h
    rfl
  · obtain ⟨u, a, n, ss, ps, rfl, ha, hsl, R, U, h2, h6, hv, h8, k⟩ := h
    have l16 := aT
    have hlu := R.len
    refine ⟨_, (@ag _ _ _ _ _ (@qi _ _ _ _ _ _ (@aI _ _ _ _ _ _ _ _ _ _ _ F_told hr (by decide) rfl (@aa _ _ _ _ _ (pv 0) (@aa _ _ _ _ _ (@aU _ _ _ _ _ _ _ _ _ bI (by rfl) T.tuple gI (@aa _ _ _ _ _ (pv 1) af (by rfl)) (by decide) (by decide) (by rfl) (by rfl)) af (by rfl)) (by rfl)) (by decide) (by rfl) (by rfl)) (@lQ _ _ _ _ _ _ rfl (@cg _ _ _ _ _ (@aM _ _ (2) _ sc.nd rfl (Or.inl rfl) (by first | exact .inl rfl | exact .inr rfl | assumption)) (@cg _ _ _ _ _ (@aM _ _ (3) _ sc.nd rfl (Or.inr rfl) (by first | exact .inl rfl | exact .inr rfl | assumption)) (@cg _ _ _ _ _ (@aM _ _ (4) _ sc.nd rfl (Or.inr rfl) (by first | exact .inl rfl | exact .inr rfl | assumption)) jw (by rfl)) (by rfl)) (by rfl)) (by rfl) (by rfl)) (by rfl) (by rfl) (by rfl)) (@ag _ _ _ _ _ (@au _ _ (5) _ _ _ _ sc.nd rfl (Or.inl rfl) (@aI _ _ _ _ _ _ _ _ _ _ _ F_holes hr (by decide) rfl (@aa _ _ _ _ _ (pv 0) af (by rfl)) (by decide) (by rfl) (by rfl)) (by rfl) (by first | exact .inl rfl | exact .inr rfl | assumption)) (@ag _ _ _ _ _ (@mR _ (6) _ _ _ _ _ _ _ _ _ (["_law_word"]) (["_law_word"]) ([]) _ _ _ _ sc.nd rfl (Or.inl rfl) (@dG _ _ _ _ _ _ rfl (by kernel_rfl)) rfl (@eQ _ _ _ _ (@aI _ _ _ _ _ _ _ _ _ _ _ F_holes hr (by decide) rfl (@aa _ _ _ _ _ (pv 2) af (by rfl)) (by decide) (by rfl) (by rfl))) (fun _ _ _ _ => @aM _ _ (0) _ (show (["_law_word"] : List Str).Nodup from by decide +kernel) rfl (Or.inl rfl) (by first | exact .inl rfl | exact .inr rfl | assumption)) (fun _ _ _ _ => bW) (fun _ _ _ _ => by (exact (@aI _ _ _ _ _ _ _ _ _ _ _ F_lleast hr (by decide) rfl (@aa _ _ _ _ _ (pv 0) af (by rfl)) (by decide) (by rfl) (by rfl)))) (by intro _ ;rfl) (by rfl) (by first | exact .inl rfl | exact .inr rfl | assumption)) (@ag _ _ _ _ _ (@b0 _ _ _ _ _ _ _ _ (@PW.pt _ _ _ (@oA _ _ _ _ _ _ _ (@aL _ _ _ _ _ _ _ _ (@fC _ (by exact hr.units)) (pv 5) (@aI _ _ _ _ _ _ _ _ _ _ _ F_lholes hr (by decide) rfl (@aa _ _ _ _ _ (pv 0) af (by rfl)) (by decide) (by rfl) (by rfl)) (aP _)) (@oA _ _ _ _ _ _ _ (@aL _ _ _ _ _ _ _ _ hJ (@ar _ _ _ _ _ _ _ _ _ aX (by rfl) T.len yq (@aa _ _ _ _ _ (pv 6) af (by rfl)) (by decide) (by decide) (by rfl) (by rfl)) (@ar _ _ _ _ _ _ _ _ _ aX (by rfl) T.len yq (@aa _ _ _ _ _ (pv 5) af (by rfl)) (by decide) (by decide) (by rfl) (by rfl)) (aP _)) (@lO _ _ _ _ (@aL _ _ _ _ _ _ _ _ hJ (@aI _ _ _ _ _ _ _ _ _ _ _ F_handles hr (by decide) rfl (@aa _ _ _ _ _ (pv 2) af (by rfl)) (by decide) (by rfl) (by rfl)) (@aI _ _ _ _ _ _ _ _ _ _ _ F_handles hr (by decide) rfl (@aa _ _ _ _ _ (pv 0) af (by rfl)) (by decide) (by rfl) (by rfl)) (aP _)))))) (@aj _ _ _ (@aK _ _ _ _ js)) bo) (@ag _ _ _ _ _ (@mR _ (7) _ _ _ _ _ _ _ _ _ (["_law_word", "_law_over"]) (["_law_word"]) ([3]) _ _ _ _ sc.nd rfl (Or.inl rfl) (@dG _ _ _ _ _ _ rfl (by kernel_rfl)) rfl (@eQ _ _ _ _ (pv 5)) (fun _ _ _ _ => @aM _ _ (0) _ (show (["_law_word", "_law_over"] : List Str).Nodup from by decide +kernel) rfl (Or.inl rfl) (by first | exact .inl rfl | exact .inr rfl | assumption)) (fun _ _ _ _ => bW) (fun _ _ _ _ => by (exact (@aI _ _ _ _ _ _ _ _ _ _ _ F_lleast hr (by decide) rfl (@aa _ _ _ _ _ (@aI _ _ _ _ _ _ _ _ _ _ _ F_mid hr (by decide) rfl (@aa _ _ _ _ _ (@aI _ _ _ _ _ _ _ _ _ _ _ F_mapped hr (by decide) rfl (@aa _ _ _ _ _ (pv 1) (@aa _ _ _ _ _ (pv 0) af (by rfl)) (by rfl)) (by decide) (by rfl) (by rfl)) af (by rfl)) (by decide) (by rfl) (by rfl)) af (by rfl)) (by decide) (by rfl) (by rfl)))) (by intro _ ;rfl) (by rfl) (by first | exact .inl rfl | exact .inr rfl | assumption)) (@ag _ _ _ _ _ (@b0 _ _ _ _ _ _ _ _ (@PW.pt _ _ _ (@oA _ _ _ _ _ _ _ (@aL _ _ _ _ _ _ _ _ (@fC _ (by exact hr.units)) (@ar _ _ _ _ _ _ _ _ _ bf (by rfl) T.sorted eJ (@aa _ _ _ _ _ (pv 7) af (by rfl)) (by decide) (by decide) (by rfl) (by rfl)) (@ar _ _ _ _ _ _ _ _ _ bf (by rfl) T.sorted eJ (@aa _ _ _ _ _ (pv 6) af (by rfl)) (by decide) (by decide) (by rfl) (by rfl)) (aP _)) (@lO _ _ _ _ (@aL _ _ _ _ _ _ _ _ hJ (@ar _ _ _ _ _ _ _ _ _ jU (by rfl) T.len yq (@aa _ _ _ _ _ (@aU _ _ _ _ _ _ _ _ _ (@fQ _ rfl) (by rfl) Tset wC (@aa _ _ _ _ _ (pv 7) af (by rfl)) (by decide) (by decide) (by rfl) (by rfl)) af (by rfl)) (by decide) (by decide) (by rfl) (by rfl)) (@ar _ _ _ _ _ _ _ _ _ aX (by rfl) T.len yq (@aa _ _ _ _ _ (pv 7) af (by rfl)) (by decide) (by decide) (by rfl) (by rfl)) (aP _))))) (@aj _ _ _ (@aK _ _ _ _ js)) bo) (@ag _ _ _ _ _ (@au _ _ (8) _ _ _ _ sc.nd rfl (Or.inl rfl) (@ar _ _ _ _ _ _ _ _ _ bf (by rfl) T.sorted eJ (@aa _ _ _ _ _ (@dk _ _ _ _ _ _ _ (["_law_word", "_law_home"]) (["_law_word"]) ([4]) _ _ _ _ (@dG _ _ _ _ _ _ rfl (by kernel_rfl)) rfl (@eQ _ _ _ _ (@aI _ _ _ _ _ _ _ _ _ _ _ F_holes hr (by decide) rfl (@aa _ _ _ _ _ (pv 2) af (by rfl)) (by decide) (by rfl) (by rfl))) (fun _ _ _ _ => @aM _ _ (0) _ (show (["_law_word", "_law_home"] : List Str).Nodup from by decide +kernel) rfl (Or.inl rfl) (by first | exact .inl rfl | exact .inr rfl | assumption)) (fun _ _ _ _ => bW) (fun _ _ _ _ => by (exact (@aI _ _ _ _ _ _ _ _ _ _ _ F_wb hr (by decide) rfl (@aa _ _ _ _ _ (pv 1) (@aa _ _ _ _ _ (pv 0) af (by rfl)) (by rfl)) (by decide) (by rfl) (by rfl)))) (by intro _ ;rfl)) af (by rfl)) (by decide) (by decide) (by rfl) (by rfl)) (by rfl) (by first | exact .inl rfl | exact .inr rfl | assumption)) (@ag _ _ _ _ _ (@b0 _ _ _ _ _ _ _ _ (@aL _ _ _ _ _ _ _ _ (@fC _ (by exact hr.units)) (pv 8) (@ar _ _ _ _ _ _ _ _ _ bf (by rfl) T.sorted eJ (@aa _ _ _ _ _ (@dk _ _ _ _ _ _ _ (["_law_word"]) (["_law_word"]) ([]) _ _ _ _ (@dG _ _ _ _ _ _ rfl (by kernel_rfl)) rfl (@eQ _ _ _ _ (pv 5)) (fun _ _ _ _ => @aM _ _ (0) _ (show (["_law_word"] : List Str).Nodup from by decide +kernel) rfl (Or.inl rfl) (by first | exact .inl rfl | exact .inr rfl | assumption)) (fun _ _ _ _ => bW) (fun _ _ _ _ => by (exact (@aI _ _ _ _ _ _ _ _ _ _ _ F_lleast hr (by decide) rfl (@aa _ _ _ _ _ (pv 0) af (by rfl)) (by decide) (by rfl) (by rfl)))) (by intro _ ;rfl)) af (by rfl)) (by decide) (by decide) (by rfl) (by rfl)) (aP _)) (@aj _ _ _ (@aK _ _ _ _ js)) bo) (@aj _ _ _ (@aK _ _ _ _ (@dX _ _ _ _ _ _ _ _ (@mQ _ (by exact hr.units)) (@dk _ _ _ _ _ _ _ (["_law_word", "_law_home", "_law_over"]) (["_law_word"]) ([4, 3]) _ _ _ _ (@dG _ _ _ _ _ _ rfl (by kernel_rfl)) rfl (@eQ _ _ _ _ (pv 5)) (fun _ _ _ _ => @aM _ _ (0) _ (show (["_law_word", "_law_home", "_law_over"] : List Str).Nodup from by decide +kernel) rfl (Or.inl rfl) (by first | exact .inl rfl | exact .inr rfl | assumption)) (fun _ _ _ _ => (@oX _ _ _ (by exact (@aL _ _ _ _ _ _ _ _ hJ (@aI _ _ _ _ _ _ _ _ _ _ _ F_mapped hr (by decide) rfl (@aa _ _ _ _ _ (pv 1) (@aa _ _ _ _ _ (@aI _ _ _ _ _ _ _ _ _ _ _ F_mapped hr (by decide) rfl (@aa _ _ _ _ _ (pv 2) (@aa _ _ _ _ _ (pv 0) af (by rfl)) (by rfl)) (by decide) (by rfl) (by rfl)) af (by rfl)) (by rfl)) (by decide) (by rfl) (by rfl)) (pv 0) (aP _))))) (fun _ _ _ _ => by (exact (pv 0))) (by intro _ ;rfl)) (@dC _ _ _ _ af) (aP _)))))))))))), ?_⟩
    refine ⟨_, rfl, _, rfl, a, _, rfl, .inl ⟨SqL.of ha, fun t ht => ?_⟩⟩
    have st : aD H (upd H t (.tup (ps.map V.ref))) := aD.new ht
    refine ⟨u, t, n, ss, ps, rfl, ah, hsl.same st, R, U, h2, h6, hv, h8, fun r ma mb v M N H1 _ s1 hr1 hma hmb S => ?_⟩
    have s1 := st.trans s1
    obtain ⟨e1, ⟨G, pG, ndG, hG⟩, ⟨G2, pG2, hG2⟩, e4⟩ := Sl.all S U R.ins
    have SV := S.srf
    have pw : 2 ^ ss.length≤256 := Nat.pow_le_pow_right (n := 2) (by decide) h8
    have ulen : ∀ w∈hol u, w.length≤12 ∧ w.length*2 ^ ss.length≤3072 := fun w hw => ⟨(i4 U hw).2, yV (BX (i4 U hw).2 pw) (by decide)⟩
    have vlen : ∀ w∈hol v, w.length≤12 ∧ w.length*2 ^ ss.length≤3072 := fun w hw => ⟨(i4 SV hw).2, yV (BX (i4 SV hw).2 pw) (by decide)⟩
    have h64u := oq U
    have h64v := oq SV
    refine ⟨r, _, rfl, SqT.of hr1, rfl, _, _, rfl, _, _, rfl, _, _, rfl, rfl, ?_⟩
    refine ⟨_, rfl, u, rfl, U, fun l1 H2 _ hl1 s2 => ?_⟩
    have hma := s2 _ _ hma
    have hmb := s2 _ _ hmb
    have s2 := s1.trans s2
    refine ⟨_, rfl, v, rfl, SV, fun l2 H3 hl20 hl2 s3 => ⟨l2, rfl, ⟨_, SqL.of hl2⟩, ?_⟩⟩
    have hma := s3 _ _ hma
    have hmb := s3 _ _ hmb
    have hl1 := s3 _ _ hl1
    have s3 := s2.trans s3
    refine cJ (xs := (hol v).map tx) (own := ["_law_word"]) (cap := []) (fun i ys σ H' => ∃ b, σ = [b] ∧ ys=(((hol v).map lw).take i).map tx ∧ aD H3 H') ⟨none, rfl, rfl, aD.refl _⟩ (fun i ys σ H' hi ⟨_, _, e, _⟩ => ?_) (by rw [x9];omega) (fun i ys σ H' ⟨_, _, _, q⟩ => SqL.of (q _ _ hl2)) ?_ ?_
    · rw [e, x9, yy];omega
    · rintro i ys σ H4 x Nx hx ⟨b, rfl, rfl, s4⟩ hN
      obtain ⟨w1, hw1, rfl⟩ := jh hx
      refine ⟨_, rfl, w1, rfl, by have := (vlen w1 (yu hw1)).1;omega, fun m H5 hm s5 => hN _ _ _ ⟨_, rfl, ?_, s4.trans s5⟩⟩
      rw [eO hm, ze, yp, hw1, yK]
      rfl
    rintro ys σ H4 l3 ⟨b, rfl, rfl, s4⟩ hl30
    rw [x9, ← x9 (f := lw) (as := hol v), yT]
    have s5 : aD H4 (upd H4 l3 (.lst (((hol v).map lw).map tx))) := aD.new hl30
    have hl3 : (upd H4 l3 (.lst (((hol v).map lw).map tx))) l3=some (.lst (((hol v).map lw).map tx)) := ah
    generalize upd H4 l3 (.lst (((hol v).map lw).map tx))=H5 at s5 hl3 ⊢
    have s5 := s4.trans s5
    have hma := s5 _ _ hma
    have hmb := s5 _ _ hmb
    have hl1 := s5 _ _ hl1
    have s5 := s3.trans s5
    refine ⟨_, rfl, _, rfl, u, rfl, U, fun l4 H6 _ hl4 s6 => g9 (hol u) (s6 _ _ hl1) hl4 ⟨_, rfl, ?_⟩⟩
    refine wD ?_
    have hma := s6 _ _ hma
    have hmb := s6 _ _ hmb
    have hl1 := s6 _ _ hl1
    have hl3 := s6 _ _ hl3
    have s6 := s5.trans s6
    have eL : (!decide (V.int ((((hol v).map lw).map tx).length : Int)=V.int (((hol u).map tx).length : Int)))=false := by
      rw [x9, x9, x9, e1]
      simp
    refine ⟨_, rfl, l3, _, rfl, .inl (SqL.of hl3), _, rfl, l1, _, rfl, .inl (SqL.of hl1), rfl, _, rfl, ?_⟩
    rw [eL]
    refine wD ?_
    refine ⟨_, rfl, v, rfl, SV, fun H7 s7 => ⟨_, rfl, u, rfl, U, fun H8 s8 => ⟨rfl, _, rfl, ?_⟩⟩⟩
    have eH : (!decide (V.int ((1+(v.length : Int) / 2 - ((hol v).length : Int)) / 2)=V.int ((1+(u.length : Int) / 2 - ((hol u).length : Int)) / 2)))=false := by
      rw [e1, S.row.len, R.len]
      simp
    rw [eH]
    refine vx ?_
    have s8 := s7.trans s8
    have hma := s8 _ _ hma
    have hmb := s8 _ _ hmb
    have hl1 := s8 _ _ hl1
    have hl3 := s8 _ _ hl3
    have s8 := s6.trans s8
    -- gone
    refine ⟨_, rfl, l1, rfl, ⟨_, SqL.of hl1⟩, ?_⟩
    refine cJ (xs := (hol u).map tx) (own := ["_law_word"]) (cap := [3]) (fun i ys σ H' => ∃ b, σ = [b, some (.ref ma)] ∧ ys=(((hol u).map G).take i).map tx ∧ aD H8 H') ⟨none, rfl, rfl, aD.refl _⟩ (fun i ys σ H' hi ⟨_, _, e, _⟩ => ?_) (by rw [x9];omega) (fun i ys σ H' ⟨_, _, _, q⟩ => SqL.of (q _ _ hl1)) ?_ ?_
    · rw [e, x9, yy];omega
    · rintro i ys σ H9 x Nx hx ⟨b, rfl, rfl, s9⟩ hN
      obtain ⟨w1, hw1, rfl⟩ := jh hx
      have hw := yu hw1
      have hl := ulen w1 hw
      have hiw : InM n w1 := fun x hx => R.ins x (gX U hw x hx)
      have l1' := (S.m.sub w1).2
      have l2' := bu (sub M w1)
      refine ⟨_, rfl, _, rfl, ma, w1, n, 2 ^ ss.length, M, rfl, ⟨s9 _ _ hma, S.m⟩, h6, hiw, by omega, by omega, by omega, fun HA sA => ?_⟩
      refine ⟨_, rfl, by omega, fun fr md HB hC hmd _ sB => ?_⟩
      refine ⟨md, rfl, by omega, fun m HC hm sC => hN _ _ _ ⟨_, rfl, ?_, ((s9.trans sA).trans sB).trans sC⟩⟩
      rw [dJ] at hC
      rw [eO hm, hG w1 hw fr md hC, ze, yp, hw1, yK]
      rfl
    rintro ys σ H9 l5 ⟨b, rfl, rfl, s9⟩ hl50
    rw [x9, ← x9 (f := G) (as := hol u), yT]
    have sA : aD H9 (upd H9 l5 (.lst (((hol u).map G).map tx))) := aD.new hl50
    have hl5 : (upd H9 l5 (.lst (((hol u).map G).map tx))) l5=some (.lst (((hol u).map G).map tx)) := ah
    generalize upd H9 l5 (.lst (((hol u).map G).map tx))=HA at sA hl5 ⊢
    have sA := s9.trans sA
    have hma := sA _ _ hma
    have hmb := sA _ _ hmb
    have hl1 := sA _ _ hl1
    have hl3 := sA _ _ hl3
    have sA := s8.trans sA
    have uG : ((hol u).map G).length < 64 := by rw [x9];exact h64u
    have vG : ((hol v).map lw).length < 64 := by rw [x9];exact h64v
    refine ⟨_, rfl, l5, (hol u).map G, rfl, SqL.of hl5, uG, fun p1 V1 hp1 pm1 so1 => ?_⟩
    have q1 : aD HA (upd HA p1 (.lst (V1.map tx))) := aD.new hp1
    have g1 : (upd HA p1 (.lst (V1.map tx))) p1=some (.lst (V1.map tx)) := ah
    generalize upd HA p1 (.lst (V1.map tx))=HB at q1 g1 ⊢
    refine ⟨_, rfl, l3, (hol v).map lw, rfl, SqL.of (q1 _ _ hl3), vG, fun p2 V2 hp2 pm2 so2 => ?_⟩
    have q2 : aD HB (upd HB p2 (.lst (V2.map tx))) := aD.new hp2
    have g2 : (upd HB p2 (.lst (V2.map tx))) p2=some (.lst (V2.map tx)) := ah
    have g1 := q2 _ _ g1
    generalize upd HB p2 (.lst (V2.map tx))=HC at q2 g1 g2 ⊢
    have eV : V1=V2 := gk pm1 pm2 pG so1 so2
    subst eV
    refine g9 V1 g1 g2 ⟨_, rfl, wD ?_⟩
    have q3 := q1.trans q2
    have hma := q3 _ _ hma
    have hmb := q3 _ _ hmb
    have hl1 := q3 _ _ hl1
    have hl5 := q3 _ _ hl5
    have sC := sA.trans q3
    have eT : ((hol u).map G).map tx=(((hol u).map G).map toS).map L2.V.str := by rw [y8 (l := (hol u).map G)];rfl
    refine ⟨_, rfl, l5, ((hol u).map G).map toS, rfl, SqL.of (by rw [← eT];exact hl5), by rw [x9];omega, fun p dl hp nd hm => ?_⟩
    have edl : dl.length=((hol u).map G).length := by
      have := (pA nd (fy toS ndG fun x _ y _ e => cF e) hm).length_eq
      rw [x9] at this
      exact this
    have q4 : aD HC (upd HC p (StO P w p dl)) := aD.new hp
    refine ⟨p, dl, rfl, ah, _, rfl, l5, _, rfl, .inl (SqL.of (q4 _ _ hl5)), rfl, _, rfl, ?_⟩
    have eS : (!decide (L2.V.int (dl.length : Int)=L2.V.int ((((hol u).map G).map tx).length : Int)))=false := by
      rw [x9 (f := tx), edl]
      simp
    rw [eS]
    refine vx ?_
    have hma := q4 _ _ hma
    have hmb := q4 _ _ hmb
    have hl1 := q4 _ _ hl1
    have sD := sC.trans q4
    -- back again
    refine ⟨_, rfl, v, rfl, SV, fun l6 HE _ hl6 s6' => ⟨l6, rfl, ⟨_, SqL.of hl6⟩, ?_⟩⟩
    have s6' : aD (upd HC p (StO P w p dl)) HE := s6'
    generalize upd HC p (StO P w p dl)=HD at *
    have hma := s6' _ _ hma
    have hmb := s6' _ _ hmb
    have hl1 := s6' _ _ hl1
    have sE := sD.trans s6'
    refine cJ (xs := (hol v).map tx) (own := ["_law_word"]) (cap := [4]) (fun i ys σ H' => ∃ b, σ = [b, some (.ref mb)] ∧ ys=(((hol v).map G2).take i).map tx ∧ aD HE H') ⟨none, rfl, rfl, aD.refl _⟩ (fun i ys σ H' hi ⟨_, _, e, _⟩ => ?_) (by rw [x9];omega) (fun i ys σ H' ⟨_, _, _, q⟩ => SqL.of (q _ _ hl6)) ?_ ?_
    · rw [e, x9, yy];omega
    · rintro i ys σ H9 x Nx hx ⟨b, rfl, rfl, s9⟩ hN
      obtain ⟨w1, hw1, rfl⟩ := jh hx
      have hw := yu hw1
      have hl := vlen w1 hw
      have hiw : InM n w1 := fun x hx => S.row.ins x (gX SV hw x hx)
      refine ⟨_, rfl, _, rfl, mb, w1, n, 2 ^ ss.length, N, rfl, ⟨s9 _ _ hmb, S.h⟩, h6, hiw, by omega, by omega, by omega, fun m fr md HB hC hm sB => hN _ _ _ ⟨_, rfl, ?_, s9.trans sB⟩⟩
      rw [eO hm, hG2 w1 hw fr md hC, ze, yp, hw1, yK]
      rfl
    rintro ys σ H9 l7 ⟨b, rfl, rfl, s9⟩ hl70
    rw [x9, ← x9 (f := G2) (as := hol v), yT]
    have sA : aD H9 (upd H9 l7 (.lst (((hol v).map G2).map tx))) := aD.new hl70
    have hl7 : (upd H9 l7 (.lst (((hol v).map G2).map tx))) l7=some (.lst (((hol v).map G2).map tx)) := ah
    generalize upd H9 l7 (.lst (((hol v).map G2).map tx))=HF at sA hl7 ⊢
    refine ⟨l7, (hol v).map G2, rfl, SqL.of hl7, by rw [x9];exact h64v, fun p3 V3 hp3 pm3 so3 => ?_⟩
    have q5 : aD HF (upd HF p3 (.lst (V3.map tx))) := aD.new hp3
    have g3 : (upd HF p3 (.lst (V3.map tx))) p3=some (.lst (V3.map tx)) := ah
    generalize upd HF p3 (.lst (V3.map tx))=HG at q5 g3 ⊢
    have q6 := (s9.trans sA).trans q5
    have hma := q6 _ _ hma
    have hmb := q6 _ _ hmb
    have hl1 := q6 _ _ hl1
    have sG := sE.trans q6
    refine ⟨_, rfl, _, rfl, l1, rfl, ⟨_, SqL.of hl1⟩, ?_⟩
    refine cJ (xs := (hol u).map tx) (own := ["_law_word"]) (cap := []) (fun i ys σ H' => ∃ b, σ = [b] ∧ ys=(((hol u).map lw).take i).map tx ∧ aD HG H') ⟨none, rfl, rfl, aD.refl _⟩ (fun i ys σ H' hi ⟨_, _, e, _⟩ => ?_) (by rw [x9];omega) (fun i ys σ H' ⟨_, _, _, q⟩ => SqL.of (q _ _ hl1)) ?_ ?_
    · rw [e, x9, yy];omega
    · rintro i ys σ H4 x Nx hx ⟨b, rfl, rfl, s4⟩ hN
      obtain ⟨w1, hw1, rfl⟩ := jh hx
      refine ⟨_, rfl, w1, rfl, by have := (ulen w1 (yu hw1)).1;omega, fun m H5 hm s5 => hN _ _ _ ⟨_, rfl, ?_, s4.trans s5⟩⟩
      rw [eO hm, ze, yp, hw1, yK]
      rfl
    rintro ys σ HH l8 ⟨b, rfl, rfl, sH⟩ hl80
    rw [x9, ← x9 (f := lw) (as := hol u), yT]
    have sI : aD HH (upd HH l8 (.lst (((hol u).map lw).map tx))) := aD.new hl80
    have hl8 : (upd HH l8 (.lst (((hol u).map lw).map tx))) l8=some (.lst (((hol u).map lw).map tx)) := ah
    generalize upd HH l8 (.lst (((hol u).map lw).map tx))=HI at sI hl8 ⊢
    refine ⟨l8, (hol u).map lw, rfl, SqL.of hl8, by rw [x9];exact h64u, fun p4 V4 hp4 pm4 so4 => ?_⟩
    have q7 : aD HI (upd HI p4 (.lst (V4.map tx))) := aD.new hp4
    have g4 : (upd HI p4 (.lst (V4.map tx))) p4=some (.lst (V4.map tx)) := ah
    generalize upd HI p4 (.lst (V4.map tx))=HJ at q7 g4 ⊢
    have q8 := (sH.trans sI).trans q7
    have hma := q8 _ _ hma
    have hmb := q8 _ _ hmb
    have hl1 := q8 _ _ hl1
    have g3 := q8 _ _ g3
    have sJ := sG.trans q8
    have eV2 : V3=V4 := gk pm3 pm4 pG2 so3 so4
    subst eV2
    refine g9 V3 g3 g4 ⟨_, rfl, vx ?_⟩
    -- home again
    refine ⟨_, rfl, l1, rfl, ⟨_, SqL.of hl1⟩, ?_⟩
    refine cJ (xs := (hol u).map tx) (own := ["_law_word"]) (cap := [4, 3]) (fun i ys σ H' => ∃ b, σ = [b, some (.ref mb), some (.ref ma)] ∧ ys=[] ∧ aD HJ H') ⟨none, rfl, rfl, aD.refl _⟩ (fun i ys σ H' hi ⟨_, _, e, _⟩ => ?_) (by rw [x9];omega) (fun i ys σ H' ⟨_, _, _, q⟩ => SqL.of (q _ _ hl1)) ?_ ?_
    · rw [e];exact zb _
    · rintro i ys σ H9 x Nx hx ⟨b, rfl, rfl, s9⟩ hN
      obtain ⟨w1, hw1, rfl⟩ := jh hx
      have hw := yu hw1
      have hl := ulen w1 hw
      have hiw : InM n w1 := fun x hx => R.ins x (gX U hw x hx)
      have l2' := bu (sub M w1)
      have l1' := (S.m.sub w1).2
      have hir : InM n (red (sub M w1)) := (S.m.sub w1).1.red
      have hbig : (red (sub M w1)).length*2 ^ ss.length≤3072*256 := BX (by omega) pw
      refine ⟨_, rfl, _, rfl, _, rfl, ma, w1, n, 2 ^ ss.length, M, rfl, ⟨s9 _ _ hma, S.m⟩, h6, hiw, by omega, by omega, by omega, fun HL sL => ?_⟩
      refine ⟨mb, red (sub M w1), n, 2 ^ ss.length, N, rfl, ⟨sL _ _ (s9 _ _ hmb), S.h⟩, h6, hir, by omega, by omega, by omega, fun HM sM => ?_⟩
      rw [e4 w1 hw]
      refine ⟨_, rfl, rfl, _, rfl, kW (by simp) ?_⟩
      exact hN _ _ _ ⟨_, rfl, rfl, (s9.trans sL).trans sM⟩
    rintro ys σ HK l9 ⟨b, rfl, rfl, sK⟩ hl90
    refine ⟨(by show 0≤sizeLine;decide), fun pz hpz => ⟨l9, pz, _, rfl, rfl, by rw [av (ak ah hpz)];exact ah, ah, ?_⟩⟩
    exact k _ (((sJ.trans sK).then hl90).then hpz)
end
end Kx
namespace Kx
open PySem PySem.Spec PyProof.Rows L2 Wd
inductive ou (K : PySem.W.Frag)(vs : List V)(H : Hp)(Q : VK)(u3_ : XK) : Prop
  | mk : ∀ (a : Addr) (ns : List Int), (vs=[.ref a]) → (SqL K H a (ns.map V.int)) → (ns.length≤63) → (∀ H', Q (.bl true) H') → ou K vs H Q u3_
section
variable {P : Program} {w : World} {K : PySem.W.Frag} {mg : Str → Option Value} {base : Heap} {aB : Addr}
abbrev ji : Stmt := top 43
theorem vn : aG ["_law_script", "_law_feed_here", "_law_k", "_law_row"] ["_law_script"] (ai ji) := ⟨rfl, rfl, rfl, by decide +kernel, rfl, by decide +kernel, by decide +kernel⟩
theorem wO {f : Addr}{fd : FuncData}(D : Fun K "law" "law" ji f fd)(T : Bt K w mg aB)(F_feed : Fnc P w K mg base "_law_feed" ["_law_script"] 1 (mL K))(F_draw : Fnc P w K mg base "_law_draw" ["_law_feed_here", "_law_many"] 1 iG)(F_surf : Fnc P w K mg base "_law_surface" ["_law_feed_here", "_law_many"] 2 jV)
    (F_slides : Fnc P w K mg base "_law_slides" ["_law_feed_here", "_law_row", "_law_most"] 3 gY) (F_right : Fnc P w K mg base "_law_right" ["_law_row", "_law_slides_here"] 5 gZ) : kM P w K mg base CX0 8 f fd ["_law_script"] (ou K) := by
  have sc := vn
  refine D.ok sc (fun vs H Q E h => ?_) (fun cdv A outer s H vs Q E hr h => ?_)
  · obtain ⟨a, ns, rfl, _⟩ := h
    rfl
  · obtain ⟨a, ns, rfl, hS, hlen, k⟩ := h
    have l16 := aT
    refine ⟨_, (@ag _ _ _ _ _ (@au _ _ (1) _ _ _ _ sc.nd rfl (Or.inl rfl) (@aI _ _ _ _ _ _ _ _ _ _ _ F_feed hr (by decide) rfl (@aa _ _ _ _ _ (pv 0) af (by rfl)) (by decide) (by rfl) (by rfl)) (by rfl) (by first | exact .inl rfl | exact .inr rfl | assumption)) (@ag _ _ _ _ _ (@cx _ _ _ _ _ _ _ _ yQ rfl (@b7 _ _ _ _ _ _ rfl T.range (@aa _ _ _ _ _ aq af (by rfl)) (by rfl)) (@aM _ _ (2) _ sc.nd rfl (Or.inl rfl) (by first | exact .inl rfl | exact .inr rfl | assumption)) (@ag _ _ _ _ _ (@au _ _ (3) _ _ _ _ sc.nd rfl (Or.inl rfl) (@aI _ _ _ _ _ _ _ _ _ _ _ F_surf hr (by decide) rfl (@aa _ _ _ _ _ (pv 1) (@aa _ _ _ _ _ (@aH _ _ _ _ _ _ _ _ bw aq (@aI _ _ _ _ _ _ _ _ _ _ _ F_draw hr (by decide) rfl (@aa _ _ _ _ _ (pv 1) (@aa _ _ _ _ _ aq af (by rfl)) (by rfl)) (by decide) (by rfl) (by rfl))) af (by rfl)) (by rfl)) (by decide) (by rfl) (by rfl)) (by rfl) (by first | exact .inl rfl | exact .inr rfl | assumption)) (@aj _ _ _ (@b0 _ _ _ _ _ _ _ _ (@jX _ _ _ _ (@dz _ _ _ (@aI _ _ _ _ _ _ _ _ _ _ _ F_right hr (by decide) rfl (@aa _ _ _ _ _ (pv 3) (@aa _ _ _ _ _ (@bc _ _ _ _ _ _ _ cY (@aI _ _ _ _ _ _ _ _ _ _ _ F_slides hr (by decide) rfl (@aa _ _ _ _ _ (pv 1) (@aa _ _ _ _ _ (pv 3) (@aa _ _ _ _ _ aq af (by rfl)) (by rfl)) (by rfl)) (by decide) (by rfl) (by rfl)) aq (fun _ _ => rfl)) af (by rfl)) (by rfl)) (by decide) (by rfl) (by rfl)) (fun _ => rfl))) (@aj _ _ _ (@aK _ _ _ _ js)) bo))) (by intro _ ;rfl)) (@aj _ _ _ (@aK _ _ _ _ js)))), ?_⟩
    refine ⟨_, rfl, a, ns, rfl, hS, hlen, fun d H1 _ F1 _ => ?_⟩
    refine ⟨_, rfl, by decide, by decide, cz (lo := 0) (n := 4) (fun i σ H' => ∃ (b1 b2 : Option V), σ = [some (.ref a), some (.ref d), b1, b2] ∧ Fd H' d) ⟨none, none, rfl, F1⟩ ?_ ?_⟩
    · rintro i σ H1 hi ⟨b1, b2, rfl, F1⟩
      refine ⟨_, rfl, _, rfl, d, _, rfl, F1, by decide, by decide, fun r H2 r0 r1 F2 _ => ⟨_, _, rfl, rfl, ?_⟩⟩
      obtain ⟨m, rfl⟩ := zp r0
      refine ⟨d, m+2, ?_, F2, by omega, by omega, fun u H3 R hall F3 _ => ?_⟩
      · show [V.ref d, V.int (2+(m : Int))]=_
        rw [show 2+(m : Int)=((m+2 : Nat) : Int) by omega]
      have hlu := R.len
      have U : Srf u := ⟨yw.mp (by omega), R.nd, fun x hx => hall _ (by
        have := R.ins x hx
        have q := x.isLt
        rw [bT]
        split <;> omega), by omega⟩
      refine ⟨_, rfl, _, rfl, _, rfl, d, u, m+2, rfl, F3, R, U, by omega, by omega, fun r a2 b ss ps H4 F4 _ hr4 ha4 hs4 hv h8 => ?_⟩
      refine ⟨r, _, _, _, rfl, rfl, SqT.of hr4, rfl, u, a2, m+2, ss, ps, rfl, ha4, hs4, R, U, by omega, by omega, hv, h8, fun H5 s5 => ?_⟩
      refine ⟨true, rfl, nkT (vx ?_)⟩
      exact ⟨_, _, rfl, F4.same s5⟩
    · rintro σ H1 ⟨b1, b2, rfl, F1⟩
      exact k _
end
end Kx
namespace Kx
open PySem PySem.Spec PyProof.Rows L2 Wd
theorem bq {K : PySem.W.Frag}{h : Heap}{mg : Str → Option Value}{x : Str}{st : Stmt}{f : Addr}{oc : Value}{od an : Option Addr}{osl : Array (Option Value)}{kV doc pm cdv ct : Value}(X : K.In h)(G : h.Ns mainGlobals mg)(a : PySem.W.nsIn K mainGlobals x=some (some (.ref f)))
    (l : K.lookup f=some ⟨oc, od, .func (PySem.W.fnOf x x (aA st) (aw st) (ai st) .none kV doc pm an cdv ct), osl⟩) (c : PySem.W.codeIn K cdv x=true) (k : PySem.W.keepIn K (.ref f)=true) : Df K mg x st := ⟨f, _, AU X G a, qr l c k⟩
theorem vo {l : PySem.W.OpenLaw}{w : World}{K : PySem.W.Frag}{h : Heap}{mg : Str → Option Value}{fa : Addr}(X : K.In h)(G : h.Ns mainGlobals mg)(hfa : mg "law" = some (.ref fa))
    {f0 : Addr} {od0 an0 : Option Addr} {sl0 : Array (Option Value)} {oc0 kV0 dc0 pm0 cd0 ct0 : Value} {f1 : Addr} {od1 an1 : Option Addr} {sl1 : Array (Option Value)} {oc1 kV1 dc1 pm1 cd1 ct1 : Value} {f2 : Addr} {od2 an2 : Option Addr} {sl2 : Array (Option Value)} {oc2 kV2 dc2 pm2 cd2 ct2 : Value} {f3 : Addr} {od3 an3 : Option Addr} {sl3 : Array (Option Value)} {oc3 kV3 dc3 pm3 cd3 ct3 : Value} {f4 : Addr} {od4 an4 : Option Addr} {sl4 : Array (Option Value)} {oc4 kV4 dc4 pm4 cd4 ct4 : Value} {f5 : Addr} {od5 an5 : Option Addr} {sl5 : Array (Option Value)} {oc5 kV5 dc5 pm5 cd5 ct5 : Value} {f6 : Addr} {od6 an6 : Option Addr} {sl6 : Array (Option Value)} {oc6 kV6 dc6 pm6 cd6 ct6 : Value} {f7 : Addr} {od7 an7 : Option Addr} {sl7 : Array (Option Value)} {oc7 kV7 dc7 pm7 cd7 ct7 : Value} {f8 : Addr} {od8 an8 : Option Addr} {sl8 : Array (Option Value)} {oc8 kV8 dc8 pm8 cd8 ct8 : Value} {f9 : Addr} {od9 an9 : Option Addr} {sl9 : Array (Option Value)} {oc9 kV9 dc9 pm9 cd9 ct9 : Value} {f10 : Addr} {od10 an10 : Option Addr} {sl10 : Array (Option Value)} {oc10 kV10 dc10 pm10 cd10 ct10 : Value} {f11 : Addr} {od11 an11 : Option Addr} {sl11 : Array (Option Value)} {oc11 kV11 dc11 pm11 cd11 ct11 : Value} {f12 : Addr} {od12 an12 : Option Addr} {sl12 : Array (Option Value)} {oc12 kV12 dc12 pm12 cd12 ct12 : Value} {f13 : Addr} {od13 an13 : Option Addr} {sl13 : Array (Option Value)} {oc13 kV13 dc13 pm13 cd13 ct13 : Value} {f14 : Addr} {od14 an14 : Option Addr} {sl14 : Array (Option Value)} {oc14 kV14 dc14 pm14 cd14 ct14 : Value} {f15 : Addr} {od15 an15 : Option Addr} {sl15 : Array (Option Value)} {oc15 kV15 dc15 pm15 cd15 ct15 : Value} {f16 : Addr} {od16 an16 : Option Addr} {sl16 : Array (Option Value)} {oc16 kV16 dc16 pm16 cd16 ct16 : Value} {f17 : Addr} {od17 an17 : Option Addr} {sl17 : Array (Option Value)} {oc17 kV17 dc17 pm17 cd17 ct17 : Value} {f18 : Addr} {od18 an18 : Option Addr} {sl18 : Array (Option Value)} {oc18 kV18 dc18 pm18 cd18 ct18 : Value} {f19 : Addr} {od19 an19 : Option Addr} {sl19 : Array (Option Value)} {oc19 kV19 dc19 pm19 cd19 ct19 : Value} {f20 : Addr} {od20 an20 : Option Addr} {sl20 : Array (Option Value)} {oc20 kV20 dc20 pm20 cd20 ct20 : Value} {f21 : Addr} {od21 an21 : Option Addr} {sl21 : Array (Option Value)} {oc21 kV21 dc21 pm21 cd21 ct21 : Value} {f22 : Addr} {od22 an22 : Option Addr} {sl22 : Array (Option Value)} {oc22 kV22 dc22 pm22 cd22 ct22 : Value} {f23 : Addr} {od23 an23 : Option Addr} {sl23 : Array (Option Value)} {oc23 kV23 dc23 pm23 cd23 ct23 : Value} {f24 : Addr} {od24 an24 : Option Addr} {sl24 : Array (Option Value)} {oc24 kV24 dc24 pm24 cd24 ct24 : Value} {f25 : Addr} {od25 an25 : Option Addr} {sl25 : Array (Option Value)} {oc25 kV25 dc25 pm25 cd25 ct25 : Value} {f26 : Addr} {od26 an26 : Option Addr} {sl26 : Array (Option Value)} {oc26 kV26 dc26 pm26 cd26 ct26 : Value} {f27 : Addr} {od27 an27 : Option Addr} {sl27 : Array (Option Value)} {oc27 kV27 dc27 pm27 cd27 ct27 : Value} {f28 : Addr} {od28 an28 : Option Addr} {sl28 : Array (Option Value)} {oc28 kV28 dc28 pm28 cd28 ct28 : Value} {f29 : Addr} {od29 an29 : Option Addr} {sl29 : Array (Option Value)} {oc29 kV29 dc29 pm29 cd29 ct29 : Value} {f30 : Addr} {od30 an30 : Option Addr} {sl30 : Array (Option Value)} {oc30 kV30 dc30 pm30 cd30 ct30 : Value} {f31 : Addr} {od31 an31 : Option Addr} {sl31 : Array (Option Value)} {oc31 kV31 dc31 pm31 cd31 ct31 : Value} {aB : Addr} {es : Array DictEntry} {en : Nat} {tS : Tok}   {t0 t1 t2 t3 t4 t5 t6 t7 t8 t9 t10 t11 : Tok}
    (a0 : PySem.W.nsIn K mainGlobals "number_of" = some (some (.ref f0)))
    (l0 : K.lookup f0=some ⟨oc0, od0, .func (PySem.W.fnOf "number_of" "number_of" (aA n_) (aw n_) (ai n_) .none kV0 dc0 pm0 an0 cd0 ct0), sl0⟩)
    (c0 : PySem.W.codeIn K cd0 "number_of" = true)
    (k0 : PySem.W.keepIn K (.ref f0)=true)
    (a1 : PySem.W.nsIn K mainGlobals "back" = some (some (.ref f1)))
    (l1 : K.lookup f1=some ⟨oc1, od1, .func (PySem.W.fnOf "back" "back" (aA i7) (aw i7) (ai i7) .none kV1 dc1 pm1 an1 cd1 ct1), sl1⟩)
    (c1 : PySem.W.codeIn K cd1 "back" = true)
    (k1 : PySem.W.keepIn K (.ref f1)=true)
    (a2 : PySem.W.nsIn K mainGlobals "reduced" = some (some (.ref f2)))
    (l2 : K.lookup f2=some ⟨oc2, od2, .func (PySem.W.fnOf "reduced" "reduced" (aA nZ) (aw nZ) (ai nZ) .none kV2 dc2 pm2 an2 cd2 ct2), sl2⟩)
    (c2 : PySem.W.codeIn K cd2 "reduced" = true)
    (k2 : PySem.W.keepIn K (.ref f2)=true)
    (a3 : PySem.W.nsIn K mainGlobals "core" = some (some (.ref f3)))
    (l3 : K.lookup f3=some ⟨oc3, od3, .func (PySem.W.fnOf "core" "core" (aA i_) (aw i_) (ai i_) .none kV3 dc3 pm3 an3 cd3 ct3), sl3⟩)
    (c3 : PySem.W.codeIn K cd3 "core" = true)
    (k3 : PySem.W.keepIn K (.ref f3)=true)
    (a4 : PySem.W.nsIn K mainGlobals "least_turn" = some (some (.ref f4)))
    (l4 : K.lookup f4=some ⟨oc4, od4, .func (PySem.W.fnOf "least_turn" "least_turn" (aA fM) (aw fM) (ai fM) .none kV4 dc4 pm4 an4 cd4 ct4), sl4⟩)
    (c4 : PySem.W.codeIn K cd4 "least_turn" = true)
    (k4 : PySem.W.keepIn K (.ref f4)=true)
    (a5 : PySem.W.nsIn K mainGlobals "least_place" = some (some (.ref f5)))
    (l5 : K.lookup f5=some ⟨oc5, od5, .func (PySem.W.fnOf "least_place" "least_place" (aA dP) (aw dP) (ai dP) .none kV5 dc5 pm5 an5 cd5 ct5), sl5⟩)
    (c5 : PySem.W.codeIn K cd5 "least_place" = true)
    (k5 : PySem.W.keepIn K (.ref f5)=true)
    (a6 : PySem.W.nsIn K mainGlobals "least_middle" = some (some (.ref f6)))
    (l6 : K.lookup f6=some ⟨oc6, od6, .func (PySem.W.fnOf "least_middle" "least_middle" (aA u7) (aw u7) (ai u7) .none kV6 dc6 pm6 an6 cd6 ct6), sl6⟩)
    (c6 : PySem.W.codeIn K cd6 "least_middle" = true)
    (k6 : PySem.W.keepIn K (.ref f6)=true)
    (a7 : PySem.W.nsIn K mainGlobals "mapped" = some (some (.ref f7)))
    (l7 : K.lookup f7=some ⟨oc7, od7, .func (PySem.W.fnOf "mapped" "mapped" (aA dO) (aw dO) (ai dO) .none kV7 dc7 pm7 an7 cd7 ct7), sl7⟩)
    (c7 : PySem.W.codeIn K cd7 "mapped" = true)
    (k7 : PySem.W.keepIn K (.ref f7)=true)
    (a8 : PySem.W.nsIn K mainGlobals "then" = some (some (.ref f8)))
    (l8 : K.lookup f8=some ⟨oc8, od8, .func (PySem.W.fnOf "then" "then" (aA i9) (aw i9) (ai i9) .none kV8 dc8 pm8 an8 cd8 ct8), sl8⟩)
    (c8 : PySem.W.codeIn K cd8 "then" = true)
    (k8 : PySem.W.keepIn K (.ref f8)=true)
    (a9 : PySem.W.nsIn K mainGlobals "plain" = some (some (.ref f9)))
    (l9 : K.lookup f9=some ⟨oc9, od9, .func (PySem.W.fnOf "plain" "plain" (aA fL) (aw fL) (ai fL) .none kV9 dc9 pm9 an9 cd9 ct9), sl9⟩)
    (c9 : PySem.W.codeIn K cd9 "plain" = true)
    (k9 : PySem.W.keepIn K (.ref f9)=true)
    (a10 : PySem.W.nsIn K mainGlobals "way_by" = some (some (.ref f10)))
    (l10 : K.lookup f10=some ⟨oc10, od10, .func (PySem.W.fnOf "way_by" "way_by" (aA u9) (aw u9) (ai u9) .none kV10 dc10 pm10 an10 cd10 ct10), sl10⟩)
    (c10 : PySem.W.codeIn K cd10 "way_by" = true)
    (k10 : PySem.W.keepIn K (.ref f10)=true)
    (a11 : PySem.W.nsIn K mainGlobals "maps_of" = some (some (.ref f11)))
    (l11 : K.lookup f11=some ⟨oc11, od11, .func (PySem.W.fnOf "maps_of" "maps_of" (aA ja) (aw ja) (ai ja) .none kV11 dc11 pm11 an11 cd11 ct11), sl11⟩)
    (c11 : PySem.W.codeIn K cd11 "maps_of" = true)
    (k11 : PySem.W.keepIn K (.ref f11)=true)
    (a12 : PySem.W.nsIn K mainGlobals "told_by" = some (some (.ref f12)))
    (l12 : K.lookup f12=some ⟨oc12, od12, .func (PySem.W.fnOf "told_by" "told_by" (aA jf) (aw jf) (ai jf) .none kV12 dc12 pm12 an12 cd12 ct12), sl12⟩)
    (c12 : PySem.W.codeIn K cd12 "told_by" = true)
    (k12 : PySem.W.keepIn K (.ref f12)=true)
    (a13 : PySem.W.nsIn K mainGlobals "can_slide" = some (some (.ref f13)))
    (l13 : K.lookup f13=some ⟨oc13, od13, .func (PySem.W.fnOf "can_slide" "can_slide" (aA oa) (aw oa) (ai oa) .none kV13 dc13 pm13 an13 cd13 ct13), sl13⟩)
    (c13 : PySem.W.codeIn K cd13 "can_slide" = true)
    (k13 : PySem.W.keepIn K (.ref f13)=true)
    (a14 : PySem.W.nsIn K mainGlobals "neighbour" = some (some (.ref f14)))
    (l14 : K.lookup f14=some ⟨oc14, od14, .func (PySem.W.fnOf "neighbour" "neighbour" (aA vb) (aw vb) (ai vb) .none kV14 dc14 pm14 an14 cd14 ct14), sl14⟩)
    (c14 : PySem.W.codeIn K cd14 "neighbour" = true)
    (k14 : PySem.W.keepIn K (.ref f14)=true)
    (a15 : PySem.W.nsIn K mainGlobals "moved" = some (some (.ref f15)))
    (l15 : K.lookup f15=some ⟨oc15, od15, .func (PySem.W.fnOf "moved" "moved" (aA fO) (aw fO) (ai fO) .none kV15 dc15 pm15 an15 cd15 ct15), sl15⟩)
    (c15 : PySem.W.codeIn K cd15 "moved" = true)
    (k15 : PySem.W.keepIn K (.ref f15)=true)
    (a16 : PySem.W.nsIn K mainGlobals "putting_ahead" = some (some (.ref f16)))
    (l16 : K.lookup f16=some ⟨oc16, od16, .func (PySem.W.fnOf "putting_ahead" "putting_ahead" (aA og) (aw og) (ai og) .none kV16 dc16 pm16 an16 cd16 ct16), sl16⟩)
    (c16 : PySem.W.codeIn K cd16 "putting_ahead" = true)
    (k16 : PySem.W.keepIn K (.ref f16)=true)
    (a17 : PySem.W.nsIn K mainGlobals "holes" = some (some (.ref f17)))
    (l17 : K.lookup f17=some ⟨oc17, od17, .func (PySem.W.fnOf "holes" "holes" (aA fN) (aw fN) (ai fN) .none kV17 dc17 pm17 an17 cd17 ct17), sl17⟩)
    (c17 : PySem.W.codeIn K cd17 "holes" = true)
    (k17 : PySem.W.keepIn K (.ref f17)=true)
    (a18 : PySem.W.nsIn K mainGlobals "hole_from" = some (some (.ref f18)))
    (l18 : K.lookup f18=some ⟨oc18, od18, .func (PySem.W.fnOf "hole_from" "hole_from" (aA je) (aw je) (ai je) .none kV18 dc18 pm18 an18 cd18 ct18), sl18⟩)
    (c18 : PySem.W.codeIn K cd18 "hole_from" = true)
    (k18 : PySem.W.keepIn K (.ref f18)=true)
    (a19 : PySem.W.nsIn K mainGlobals "handles" = some (some (.ref f19)))
    (l19 : K.lookup f19=some ⟨oc19, od19, .func (PySem.W.fnOf "handles" "handles" (aA cM) (aw cM) (ai cM) .none kV19 dc19 pm19 an19 cd19 ct19), sl19⟩)
    (c19 : PySem.W.codeIn K cd19 "handles" = true)
    (k19 : PySem.W.keepIn K (.ref f19)=true)
    (a20 : PySem.W.nsIn K mainGlobals "_law_feed" = some (some (.ref f20)))
    (l20 : K.lookup f20=some ⟨oc20, od20, .func (PySem.W.fnOf "_law_feed" "_law_feed" (aA i6) (aw i6) (ai i6) .none kV20 dc20 pm20 an20 cd20 ct20), sl20⟩)
    (c20 : PySem.W.codeIn K cd20 "_law_feed" = true)
    (k20 : PySem.W.keepIn K (.ref f20)=true)
    (a21 : PySem.W.nsIn K mainGlobals "_law_draw" = some (some (.ref f21)))
    (l21 : K.lookup f21=some ⟨oc21, od21, .func (PySem.W.fnOf "_law_draw" "_law_draw" (aA i5) (aw i5) (ai i5) .none kV21 dc21 pm21 an21 cd21 ct21), sl21⟩)
    (c21 : PySem.W.codeIn K cd21 "_law_draw" = true)
    (k21 : PySem.W.keepIn K (.ref f21)=true)
    (a22 : PySem.W.nsIn K mainGlobals "_law_back" = some (some (.ref f22)))
    (l22 : K.lookup f22=some ⟨oc22, od22, .func (PySem.W.fnOf "_law_back" "_law_back" (aA fK) (aw fK) (ai fK) .none kV22 dc22 pm22 an22 cd22 ct22), sl22⟩)
    (c22 : PySem.W.codeIn K cd22 "_law_back" = true)
    (k22 : PySem.W.keepIn K (.ref f22)=true)
    (a23 : PySem.W.nsIn K mainGlobals "_law_reduced" = some (some (.ref f23)))
    (l23 : K.lookup f23=some ⟨oc23, od23, .func (PySem.W.fnOf "_law_reduced" "_law_reduced" (aA i8) (aw i8) (ai i8) .none kV23 dc23 pm23 an23 cd23 ct23), sl23⟩)
    (c23 : PySem.W.codeIn K cd23 "_law_reduced" = true)
    (k23 : PySem.W.keepIn K (.ref f23)=true)
    (a24 : PySem.W.nsIn K mainGlobals "_law_middle" = some (some (.ref f24)))
    (l24 : K.lookup f24=some ⟨oc24, od24, .func (PySem.W.fnOf "_law_middle" "_law_middle" (aA n8) (aw n8) (ai n8) .none kV24 dc24 pm24 an24 cd24 ct24), sl24⟩)
    (c24 : PySem.W.codeIn K cd24 "_law_middle" = true)
    (k24 : PySem.W.keepIn K (.ref f24)=true)
    (a25 : PySem.W.nsIn K mainGlobals "_law_least" = some (some (.ref f25)))
    (l25 : K.lookup f25=some ⟨oc25, od25, .func (PySem.W.fnOf "_law_least" "_law_least" (aA dQ) (aw dQ) (ai dQ) .none kV25 dc25 pm25 an25 cd25 ct25), sl25⟩)
    (c25 : PySem.W.codeIn K cd25 "_law_least" = true)
    (k25 : PySem.W.keepIn K (.ref f25)=true)
    (a26 : PySem.W.nsIn K mainGlobals "_law_surface" = some (some (.ref f26)))
    (l26 : K.lookup f26=some ⟨oc26, od26, .func (PySem.W.fnOf "_law_surface" "_law_surface" (aA jc) (aw jc) (ai jc) .none kV26 dc26 pm26 an26 cd26 ct26), sl26⟩)
    (c26 : PySem.W.codeIn K cd26 "_law_surface" = true)
    (k26 : PySem.W.keepIn K (.ref f26)=true)
    (a27 : PySem.W.nsIn K mainGlobals "_law_slid" = some (some (.ref f27)))
    (l27 : K.lookup f27=some ⟨oc27, od27, .func (PySem.W.fnOf "_law_slid" "_law_slid" (aA jd) (aw jd) (ai jd) .none kV27 dc27 pm27 an27 cd27 ct27), sl27⟩)
    (c27 : PySem.W.codeIn K cd27 "_law_slid" = true)
    (k27 : PySem.W.keepIn K (.ref f27)=true)
    (a28 : PySem.W.nsIn K mainGlobals "_law_slides" = some (some (.ref f28)))
    (l28 : K.lookup f28=some ⟨oc28, od28, .func (PySem.W.fnOf "_law_slides" "_law_slides" (aA dS) (aw dS) (ai dS) .none kV28 dc28 pm28 an28 cd28 ct28), sl28⟩)
    (c28 : PySem.W.codeIn K cd28 "_law_slides" = true)
    (k28 : PySem.W.keepIn K (.ref f28)=true)
    (a29 : PySem.W.nsIn K mainGlobals "_law_holes" = some (some (.ref f29)))
    (l29 : K.lookup f29=some ⟨oc29, od29, .func (PySem.W.fnOf "_law_holes" "_law_holes" (aA dR) (aw dR) (ai dR) .none kV29 dc29 pm29 an29 cd29 ct29), sl29⟩)
    (c29 : PySem.W.codeIn K cd29 "_law_holes" = true)
    (k29 : PySem.W.keepIn K (.ref f29)=true)
    (a30 : PySem.W.nsIn K mainGlobals "_law_right" = some (some (.ref f30)))
    (l30 : K.lookup f30=some ⟨oc30, od30, .func (PySem.W.fnOf "_law_right" "_law_right" (aA fP) (aw fP) (ai fP) .none kV30 dc30 pm30 an30 cd30 ct30), sl30⟩)
    (c30 : PySem.W.codeIn K cd30 "_law_right" = true)
    (k30 : PySem.W.keepIn K (.ref f30)=true)
    (a31 : PySem.W.nsIn K mainGlobals "law" = some (some (.ref f31)))
    (l31 : K.lookup f31=some ⟨oc31, od31, .func (PySem.W.fnOf "law" "law" (aA ji) (aw ji) (ai ji) .none kV31 dc31 pm31 an31 cd31 ct31), sl31⟩)
    (c31 : PySem.W.codeIn K cd31 "law" = true)
    (k31 : PySem.W.keepIn K (.ref f31)=true)
    (z_len : PySem.W.nsIn K mainGlobals "len" = some none)
    (z_repr : PySem.W.nsIn K mainGlobals "repr" = some none)
    (z_abs : PySem.W.nsIn K mainGlobals "abs" = some none)
    (z_max : PySem.W.nsIn K mainGlobals "max" = some none)
    (z_int : PySem.W.nsIn K mainGlobals "int" = some none)
    (z_list : PySem.W.nsIn K mainGlobals "list" = some none)
    (z_range : PySem.W.nsIn K mainGlobals "range" = some none)
    (z_reversed : PySem.W.nsIn K mainGlobals "reversed" = some none)
    (z_min : PySem.W.nsIn K mainGlobals "min" = some none)
    (z_sorted : PySem.W.nsIn K mainGlobals "sorted" = some none)
    (z_tuple : PySem.W.nsIn K mainGlobals "tuple" = some none)
    (z_isinstance : PySem.W.nsIn K mainGlobals "isinstance" = some none)
    (z_all : PySem.W.nsIn K mainGlobals "all" = some none)
    (z_str : PySem.W.nsIn K mainGlobals "str" = some none)
    (z_zip : PySem.W.nsIn K mainGlobals "zip" = some none)
    (aBk : PySem.W.nsIn K mainGlobals "BACKS" = some (some (.ref aB)))
    (lB : K.lookup aB=some ⟨.type "dict", none, .dict es en, #[]⟩)
    (kB : PySem.W.KeysLit w.params es.toList)
    (aS : PySem.W.nsIn K mainGlobals "SMALL" = some (some (.str "abcdef" tS)))
    (zS : PySem.W.nsIn K mainGlobals "set" = some none)
    (zE : PySem.W.nsIn K mainGlobals "enumerate" = some none)
    (gl0 : PySem.W.nsIn K aB "a" = some (some (.str "A" t0)))
    (gl1 : PySem.W.nsIn K aB "b" = some (some (.str "B" t1)))
    (gl2 : PySem.W.nsIn K aB "c" = some (some (.str "C" t2)))
    (gl3 : PySem.W.nsIn K aB "d" = some (some (.str "D" t3)))
    (gl4 : PySem.W.nsIn K aB "e" = some (some (.str "E" t4)))
    (gl5 : PySem.W.nsIn K aB "f" = some (some (.str "F" t5)))
    (gl6 : PySem.W.nsIn K aB "A" = some (some (.str "a" t6)))
    (gl7 : PySem.W.nsIn K aB "B" = some (some (.str "b" t7)))
    (gl8 : PySem.W.nsIn K aB "C" = some (some (.str "c" t8)))
    (gl9 : PySem.W.nsIn K aB "D" = some (some (.str "d" t9)))
    (gl10 : PySem.W.nsIn K aB "E" = some (some (.str "e" t10)))
    (gl11 : PySem.W.nsIn K aB "F" = some (some (.str "f" t11))) :
    ∃ fd : FuncData, (∀ (s : Shared) (v : Value), BindsTo s fd ⟨[v], []⟩ [("_law_script", v)]) ∧ ∀ base : Heap, K.In base → base.Ns mainGlobals mg → kM l.prog w K mg base CX0 8 fa fd ["_law_script"] (ou K) := by
  have e := hfa.symm.trans (AU X G a31)
  cases e
  have gB : ∀ x : L, ∃ t, PySem.W.nsIn K aB (toS [x])=some (some (.str (toS [inv x]) t)) := by
    have q : ∀ (x : L) (u v : Str) (t : Tok), PySem.W.nsIn K aB u=some (some (.str v t)) → toS [x]=u → toS [inv x]=v → ∃ t, PySem.W.nsIn K aB (toS [x])=some (some (.str (toS [inv x]) t)) := fun x u v t g e1 e2 => ⟨t, by rw [e1, e2];exact g⟩
    intro x
    match x with
    | ⟨0, _⟩ => exact q 0 "a" "A" _ gl0 (by decide +kernel) (by decide +kernel)
    | ⟨1, _⟩ => exact q 1 "b" "B" _ gl1 (by decide +kernel) (by decide +kernel)
    | ⟨2, _⟩ => exact q 2 "c" "C" _ gl2 (by decide +kernel) (by decide +kernel)
    | ⟨3, _⟩ => exact q 3 "d" "D" _ gl3 (by decide +kernel) (by decide +kernel)
    | ⟨4, _⟩ => exact q 4 "e" "E" _ gl4 (by decide +kernel) (by decide +kernel)
    | ⟨5, _⟩ => exact q 5 "f" "F" _ gl5 (by decide +kernel) (by decide +kernel)
    | ⟨6, _⟩ => exact q 6 "A" "a" _ gl6 (by decide +kernel) (by decide +kernel)
    | ⟨7, _⟩ => exact q 7 "B" "b" _ gl7 (by decide +kernel) (by decide +kernel)
    | ⟨8, _⟩ => exact q 8 "C" "c" _ gl8 (by decide +kernel) (by decide +kernel)
    | ⟨9, _⟩ => exact q 9 "D" "d" _ gl9 (by decide +kernel) (by decide +kernel)
    | ⟨10, _⟩ => exact q 10 "E" "e" _ gl10 (by decide +kernel) (by decide +kernel)
    | ⟨11, _⟩ => exact q 11 "F" "f" _ gl11 (by decide +kernel) (by decide +kernel)
  have T : Bt K w mg aB := ⟨yI X G z_len, yI X G z_repr, yI X G z_abs, yI X G z_max, yI X G z_int, yI X G z_list, yI X G z_range, yI X G z_reversed, yI X G z_min, yI X G z_sorted, yI X G z_tuple, yI X G z_isinstance, yI X G z_all, yI X G z_str, yI X G z_zip, AU X G aBk, ⟨es, en, lB, kB⟩, gB⟩
  have S : ∃ t, mg "SMALL" = some (.str "abcdef" t) := ⟨_, AU X G aS⟩
  have Tset : mg "set" = none := yI X G zS
  have Te : mg "enumerate" = none := yI X G zE
  refine ⟨PySem.W.fnOf "law" "law" (aA ji) (aw ji) (ai ji) .none kV31 dc31 pm31 an31 cd31 ct31, fun s v => .of_eq rfl, fun base _ _ => ?_⟩
  have F_num := wK (P := l.prog) (w := w) (base := base) (bq X G a0 l0 c0 k0) T S
  have F_back := uZ (P := l.prog) (w := w) (base := base) (bq X G a1 l1 c1 k1) T
  have F_red := wG (P := l.prog) (w := w) (base := base) (bq X G a2 l2 c2 k2) T
  have F_core := u6 (P := l.prog) (w := w) (base := base) (bq X G a3 l3 c3 k3) T F_back (r9 F_red)
  have F_leastp := pT (P := l.prog) (w := w) (base := base) (bq X G a5 l5 c5 k5) T
  have F_least := sq (P := l.prog) (w := w) (base := base) (bq X G a4 l4 c4 k4) T F_leastp
  have F_lm := xR (P := l.prog) (w := w) (base := base) (bq X G a6 l6 c6 k6) T F_core F_least
  have F_mapped := pR (P := l.prog) (w := w) (base := base) (bq X G a7 l7 c7 k7) T S F_back F_red
  have F_then := u5 (P := l.prog) (w := w) (base := base) (bq X G a8 l8 c8 k8) T (nX F_mapped)
  have F_plain := sm (P := l.prog) (w := w) (base := base) (bq X G a9 l9 c9 k9) T S
  have F_wb := xS (P := l.prog) (w := w) (base := base) (bq X G a10 l10 c10 k10) (nX F_mapped) F_lm
  have F_nb := xT (P := l.prog) (w := w) (base := base) (bq X G a14 l14 c14 k14) T
  have F_can := wM (P := l.prog) (w := w) (base := base) (bq X G a13 l13 c13 k13) T F_back F_nb
  have F_put := wN (P := l.prog) (w := w) (base := base) (bq X G a16 l16 c16 k16) T S F_num F_back
  have F_maps := ve (P := l.prog) (w := w) (base := base) (bq X G a11 l11 c11 k11) T F_back F_can F_nb F_put
  have F_moved := sQ (P := l.prog) (w := w) (base := base) (bq X G a15 l15 c15 k15) T F_back F_nb
  have F_told := vm (P := l.prog) (w := w) (base := base) (bq X G a12 l12 c12 k12) T Te F_then F_plain F_maps F_can F_moved
  have F_hole := vh (P := l.prog) (w := w) (base := base) (bq X G a18 l18 c18 k18) T F_back
  have F_holes := sO (P := l.prog) (w := w) (base := base) (bq X G a17 l17 c17 k17) T F_hole
  have F_handles := oj (P := l.prog) (w := w) (base := base) (bq X G a19 l19 c19 k19) T F_holes
  have F_feed := uY (P := l.prog) (w := w) (base := base) (bq X G a20 l20 c20 k20) T
  have F_draw := uX (P := l.prog) (w := w) (base := base) (bq X G a21 l21 c21 k21) T
  have F_lback := sh (P := l.prog) (w := w) (base := base) (bq X G a22 l22 c22 k22) 
  have F_lred := u4 (P := l.prog) (w := w) (base := base) (bq X G a23 l23 c23 k23) T F_lback
  have F_mid := wJ (P := l.prog) (w := w) (base := base) (bq X G a24 l24 c24 k24) T F_lback F_lred
  have F_lleast := pV (P := l.prog) (w := w) (base := base) (bq X G a25 l25 c25 k25) T
  have F_surf := vf (P := l.prog) (w := w) (base := base) (bq X G a26 l26 c26 k26) T F_draw
  have F_slid := vg (P := l.prog) (w := w) (base := base) (bq X G a27 l27 c27 k27) T F_lback
  have F_slides := qe (P := l.prog) (w := w) (base := base) (bq X G a28 l28 c28 k28) T F_draw F_slid
  have F_lholes := pZ (P := l.prog) (w := w) (base := base) (bq X G a29 l29 c29 k29) T F_lback
  have F_right := sU (P := l.prog) (w := w) (base := base) (bq X G a30 l30 c30 k30) T Tset F_mapped F_wb F_told F_holes F_handles F_mid F_lleast F_lholes
  exact wO (qr l31 c31 k31) T F_feed F_draw F_surf F_slides F_right
theorem xU {l : PySem.W.OpenLaw}{q : Program}{loose : List Str}{XP : (Str → Option Value) → Heap → Prop}{YP : World → Heap → Prop}{d : DefRec}{K : Params → PySem.W.Frag}(hn : l.most=some 63)(hdf : d.params.defaults=[])
    (hY : ∀ (w : World) (h : Heap), YP w h → (K w.params).In h)
    (F : ∀ (w : World) (mg : Str → Option Value) (fa : Addr) (h : Heap), (K w.params).In h → h.Ns mainGlobals mg → mg d.name=some (.ref fa) →
      ∃ fd : FuncData, (∀ (s : Shared) (u : Value), BindsTo s fd ⟨[u], []⟩ [("_law_script", u)]) ∧ ∀ base : Heap, (K w.params).In base → base.Ns mainGlobals mg → kM l.prog w (K w.params) mg base CX0 8 fa fd ["_law_script"] (ou (K w.params))) :
    PySem.W.WalkO q loose XP YP l.row.toRowW d [] (fun f vs => PySem.call f vs) :=
  L2.mw (n := 63) (k := 8) (x := "_law_script") (CX := fun _ => CX0) (sp := fun w => ou (K w.params)) hn (by decide) hdf ⟨rfl, by decide, by decide, rfl⟩ hY F (fun _ _ a ns hl _ hS => ⟨a, ns, rfl, hS, hl, fun _ => rfl⟩) fun _ _ _ _ _ z => z
end Kx
namespace Kx
open PySem
def vp (s : String) : Str := ⟨⟨PySem.W.R.mapR Char.toNat (PySem.W.S.toListS s)⟩⟩
theorem qg : Str.ofString=vp := by
  funext s
  rw [Str.ofString_eq_toList, PySem.W.S.toListS_eq]
  show _=(⟨⟨PySem.W.R.mapR Char.toNat (PySem.W.S.toListS s)⟩⟩ : Str)
  rw [← PySem.W.R.mapR_eq]
def apG (G : (String → Str) → Program)(x : String → Str) : Program := G x
def Gs : { G : (String → Str) → Program // apG G Str.ofString=PySem.Challenge.pw_ringwords_k65_whole_holes_go_over } := by
  refine ⟨?G, ?h⟩
  case h =>
    delta PySem.Challenge.pw_ringwords_k65_whole_holes_go_over
    generalize Str.ofString=x
    exact rfl
end Kx
def PySem.W.Fast.tw18055547293140794347 : PySem.Program := Kx.Gs.1 Kx.vp
theorem PySem.W.Fast.te18055547293140794347 : PySem.Challenge.pw_ringwords_k65_whole_holes_go_over=PySem.W.Fast.tw18055547293140794347 := Kx.Gs.2.symm.trans (yW (Kx.apG Kx.Gs.1) Kx.qg)
theorem PySem.W.Fast.te6234764847951884967 : True := trivial
theorem PySem.W.Fast.tw3859065541447332883 : True := trivial
theorem PySem.W.Fast.tw15913729739977175602 : True := trivial
theorem PySem.W.Fast.tw17279123992968374059 : True := trivial
theorem PySem.W.Fast.tw17397981224014749408 : True := trivial
theorem PySem.W.Fast.tw16891780034317970413 : True := trivial
theorem PySem.W.Fast.tw14463827929892451653 : True := trivial
theorem PySem.W.Fast.tw12507940216437843198 : True := trivial
theorem PySem.W.Fast.tw11933630789214003016 : True := trivial
theorem PySem.W.Fast.tw4921329384288587511 : True := trivial
theorem PySem.W.Fast.tw15407497718562414594 : True := trivial
theorem PySem.W.Fast.tw5322169942855912241 : True := trivial
theorem PySem.W.Fast.tw6743603171082195096 : True := trivial
theorem PySem.W.Fast.tw13646718295906924037 : True := trivial
theorem PySem.W.Fast.tw17195517927010101798 : True := trivial
open PySem PySem.W PyProof.Rows
set_option maxRecDepth 100000 in
set_option maxHeartbeats 0 in
theorem PySem.Challenge.cw_ringwords_k65_whole_holes_go_over_holds : PySem.Challenge.rw_ringwords_k65_whole_holes_go_over.Holds := by
  w_on; o_law; k_head; (case hw => w_witness2)
  k_fill
  refine Kx.xU (l := PySem.Challenge.rw_ringwords_k65_whole_holes_go_over) rfl rfl (fun w h Y => PySem.W.kIn_of Y) ?F
  case F =>
    intro w mg fa h KX G hmg
    refine' Kx.vo KX G hmg ?a0 ?l0 ?c0 ?k0 ?a1 ?l1 ?c1 ?k1 ?a2 ?l2 ?c2 ?k2 ?a3 ?l3 ?c3 ?k3 ?a4 ?l4 ?c4 ?k4 ?a5 ?l5 ?c5 ?k5 ?a6 ?l6 ?c6 ?k6 ?a7 ?l7 ?c7 ?k7 ?a8 ?l8 ?c8 ?k8 ?a9 ?l9 ?c9 ?k9 ?a10 ?l10 ?c10 ?k10 ?a11 ?l11 ?c11 ?k11 ?a12 ?l12 ?c12 ?k12 ?a13 ?l13 ?c13 ?k13 ?a14 ?l14 ?c14 ?k14 ?a15 ?l15 ?c15 ?k15 ?a16 ?l16 ?c16 ?k16 ?a17 ?l17 ?c17 ?k17 ?a18 ?l18 ?c18 ?k18 ?a19 ?l19 ?c19 ?k19 ?a20 ?l20 ?c20 ?k20 ?a21 ?l21 ?c21 ?k21 ?a22 ?l22 ?c22 ?k22 ?a23 ?l23 ?c23 ?k23 ?a24 ?l24 ?c24 ?k24 ?a25 ?l25 ?c25 ?k25 ?a26 ?l26 ?c26 ?k26 ?a27 ?l27 ?c27 ?k27 ?a28 ?l28 ?c28 ?k28 ?a29 ?l29 ?c29 ?k29 ?a30 ?l30 ?c30 ?k30 ?a31 ?l31 ?c31 ?k31 ?z_len ?z_repr ?z_abs ?z_max ?z_int ?z_list ?z_range ?z_reversed ?z_min ?z_sorted ?z_tuple ?z_isinstance ?z_all ?z_str ?z_zip ?aBk ?lB ?kB ?aS ?zS ?zE ?gl0 ?gl1 ?gl2 ?gl3 ?gl4 ?gl5 ?gl6 ?gl7 ?gl8 ?gl9 ?gl10 ?gl11
    (case a0 => k_is)
    (case l0 => k_is)
    (case c0 => k_is)
    (case k0 => k_is)
    (case a1 => k_is)
    (case l1 => k_is)
    (case c1 => k_is)
    (case k1 => k_is)
    (case a2 => k_is)
    (case l2 => k_is)
    (case c2 => k_is)
    (case k2 => k_is)
    (case a3 => k_is)
    (case l3 => k_is)
    (case c3 => k_is)
    (case k3 => k_is)
    (case a4 => k_is)
    (case l4 => k_is)
    (case c4 => k_is)
    (case k4 => k_is)
    (case a5 => k_is)
    (case l5 => k_is)
    (case c5 => k_is)
    (case k5 => k_is)
    (case a6 => k_is)
    (case l6 => k_is)
    (case c6 => k_is)
    (case k6 => k_is)
    (case a7 => k_is)
    (case l7 => k_is)
    (case c7 => k_is)
    (case k7 => k_is)
    (case a8 => k_is)
    (case l8 => k_is)
    (case c8 => k_is)
    (case k8 => k_is)
    (case a9 => k_is)
    (case l9 => k_is)
    (case c9 => k_is)
    (case k9 => k_is)
    (case a10 => k_is)
    (case l10 => k_is)
    (case c10 => k_is)
    (case k10 => k_is)
    (case a11 => k_is)
    (case l11 => k_is)
    (case c11 => k_is)
    (case k11 => k_is)
    (case a12 => k_is)
    (case l12 => k_is)
    (case c12 => k_is)
    (case k12 => k_is)
    (case a13 => k_is)
    (case l13 => k_is)
    (case c13 => k_is)
    (case k13 => k_is)
    (case a14 => k_is)
    (case l14 => k_is)
    (case c14 => k_is)
    (case k14 => k_is)
    (case a15 => k_is)
    (case l15 => k_is)
    (case c15 => k_is)
    (case k15 => k_is)
    (case a16 => k_is)
    (case l16 => k_is)
    (case c16 => k_is)
    (case k16 => k_is)
    (case a17 => k_is)
    (case l17 => k_is)
    (case c17 => k_is)
    (case k17 => k_is)
    (case a18 => k_is)
    (case l18 => k_is)
    (case c18 => k_is)
    (case k18 => k_is)
    (case a19 => k_is)
    (case l19 => k_is)
    (case c19 => k_is)
    (case k19 => k_is)
    (case a20 => k_is)
    (case l20 => k_is)
    (case c20 => k_is)
    (case k20 => k_is)
    (case a21 => k_is)
    (case l21 => k_is)
    (case c21 => k_is)
    (case k21 => k_is)
    (case a22 => k_is)
    (case l22 => k_is)
    (case c22 => k_is)
    (case k22 => k_is)
    (case a23 => k_is)
    (case l23 => k_is)
    (case c23 => k_is)
    (case k23 => k_is)
    (case a24 => k_is)
    (case l24 => k_is)
    (case c24 => k_is)
    (case k24 => k_is)
    (case a25 => k_is)
    (case l25 => k_is)
    (case c25 => k_is)
    (case k25 => k_is)
    (case a26 => k_is)
    (case l26 => k_is)
    (case c26 => k_is)
    (case k26 => k_is)
    (case a27 => k_is)
    (case l27 => k_is)
    (case c27 => k_is)
    (case k27 => k_is)
    (case a28 => k_is)
    (case l28 => k_is)
    (case c28 => k_is)
    (case k28 => k_is)
    (case a29 => k_is)
    (case l29 => k_is)
    (case c29 => k_is)
    (case k29 => k_is)
    (case a30 => k_is)
    (case l30 => k_is)
    (case c30 => k_is)
    (case k30 => k_is)
    (case a31 => k_is)
    (case l31 => k_is)
    (case c31 => k_is)
    (case k31 => k_is)
    (case z_len => k_is)
    (case z_repr => k_is)
    (case z_abs => k_is)
    (case z_max => k_is)
    (case z_int => k_is)
    (case z_list => k_is)
    (case z_range => k_is)
    (case z_reversed => k_is)
    (case z_min => k_is)
    (case z_sorted => k_is)
    (case z_tuple => k_is)
    (case z_isinstance => k_is)
    (case z_all => k_is)
    (case z_str => k_is)
    (case z_zip => k_is)
    (case aBk => k_is)
    (case lB => k_is)
    (case kB => exact ⟨⟨_, _, rfl, rfl⟩, ⟨_, _, rfl, rfl⟩, ⟨_, _, rfl, rfl⟩, ⟨_, _, rfl, rfl⟩, ⟨_, _, rfl, rfl⟩, ⟨_, _, rfl, rfl⟩, ⟨_, _, rfl, rfl⟩, ⟨_, _, rfl, rfl⟩, ⟨_, _, rfl, rfl⟩, ⟨_, _, rfl, rfl⟩, ⟨_, _, rfl, rfl⟩, ⟨_, _, rfl, rfl⟩, trivial⟩)
    (case aS => k_is)
    (case zS => k_is)
    (case zE => k_is)
    (case gl0 => k_is)
    (case gl1 => k_is)
    (case gl2 => k_is)
    (case gl3 => k_is)
    (case gl4 => k_is)
    (case gl5 => k_is)
    (case gl6 => k_is)
    (case gl7 => k_is)
    (case gl8 => k_is)
    (case gl9 => k_is)
    (case gl10 => k_is)
    (case gl11 => k_is)
end
