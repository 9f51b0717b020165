import PyProof.Rows.All
import Wide.All
import OpenK.AllK
import Wide.FinOn
import Lean
import PyProof.EqAt
import PyProof.EqKinds
import PyProof.TupleCall
import KE.KRevIter
import PyProof.Rows.SortShellK
import PyProof.Rows.SortRunsK
import PyProof.FString5
import PyProof.NeData
import PyProof.TupleOfStr
import PyProof.IsRules
import PySem.Challenge.RW_ringwords_k97_whole_ways_turned_and_rena
set_option Elab.async false
set_option linter.all false
set_option maxRecDepth 100000
set_option maxHeartbeats 0
noncomputable section
def fu:=@List.getElem?_eq_getElem
def zk:=@Array.length_toList
def zl:=@PySem.wpAny_bind
def zm:=@List.getElem?_eq_some_iff
def zo:=@List.length_append
def zp:=@decide_eq_false
def zq:=@PySem.Heap.get?_push_of_some
def zr:=@List.mem_singleton
def zu:=@List.length_map
def zw:=@List.append_assoc
def zx:=@List.getD_eq_getElem?_getD
def zy:=@List.length_take
def zA:=@Nat.le_refl
def zB:=@List.mem_cons_of_mem
def zC:=@PyProof.Rows.wpS_bind
def zD:=@Option.some.inj
def zE:=@decide_eq_true_iff
def zF:=@PyProof.Rows.wpS_pure
def zG:=@List.mem_append_right
def zH:=@decide_eq_true
def zI:=@PySem.Heap.get?_push_size
def zJ:=@PySem.wpAny_pure
def zK:=@List.mem_cons_self
def zL:=@List.getElem?_append_right
def zM:=@PySem.Heap.lt_size
def zN:=@List.mem_cons
def zO:=@List.size_toArray
def zP:=@Bool.false_eq_true
def zQ:=@List.take_append_drop
def zR:=@congrArg
def zT:=@Bool.false_ne_true
def zU:=@List.getElem?_append_left
def zV:=@Nat.lt_of_lt_of_le
def zW:=@List.getElem?_map
def zX:=@PySem.boot_len
def zY:=@List.length_cons
def zZ:=@List.not_mem_nil
def z6:=@List.mem_append_left
def z7:=@List.nodup_cons
def z8:=@Array.getElem?_toList
def z9:=@List.map_cons
def z_:=@PySem.W.mg_none_of
def Ab:=@Bool.false_and
def Ac:=@List.mem_append
def Ad:=@Bool.eq_iff_iff
def Ae:=@PySem.F.plainAttrs_str
def Af:=@Int.emod_lt_of_pos
def Ag:=@List.getElem?_take_of_lt
def Ah:=@Int.toNat_natCast
def Ai:=@List.length_pos_iff
def Aj:=@List.getElem_mem
def Ak:=@List.mem_map
def Al:=@List.getElem?_drop
def Am:=@List.take_of_length_le
def An:=@List.mem_of_getElem?
def Ao:=@Nat.zero_le
def Ap:=@Int.emod_nonneg
def Aq:=@List.drop_eq_getElem_cons
def Ar:=@Nat.ne_of_lt
def As:=@List.length_drop
def Au:=@PyProof.Rows.wpS_forRange
def Av:=@List.length_nil
def Aw:=@List.eq_nil_of_length_eq_zero
def Ax:=@Int.emod_eq_of_lt
def Ay:=@Nat.le_trans
def Az:=@PySem.Heap.get?_update_other
def AA:=@List.getElem?_eq_none
def AB:=@List.perm_append_comm
def AC:=@List.flatten_cons
def AD:=@Int.eq_ofNat_of_zero_le
def AE:=@Array.toList_extract
def AF:=@List.getElem?_of_mem
def AG:=@PyProof.Rows.KeyOrd.kle_refl
def AH:=@PySem.PassesOwn.never
def AI:=@if_false
def AJ:=@Bool.true_and
def AK:=@List.Perm.append_left
def AL:=@Nat.lt_irrefl
def AM:=@PySem.F.plainAttrs_list
def AN:=@PySem.wpAny_truthy_bool
def AO:=@PySem.mem_of_lookup
def AQ:=@List.pairwise_iff_getElem
def AR:=@List.map_append
def AS:=@List.cons_lt_cons_iff
def AU:=@List.zip_cons_cons
def AV:=@Bool.and_eq_true
def AW:=@PySem.wpAny_getItem_str_slice
def AX:=@PyProof.Rows.wpS_mono
def AY:=@List.map_map
def AZ:=@PyProof.Rows.F.plain_set_update_loop
def A0:=@List.nodup_nil
def A2:=@PySem.wpAny_mono
def A3:=@List.reverse_cons
def A4:=@PyProof.Rows.callWith_type1
def A5:=@List.replicate_succ
def A6:=@or_false
def A7:=@Array.getElem?_eq_some_iff
def A8:=@Array.perm_iff_toList_perm
def A9:=@Nat.mod_eq_of_lt
def A_:=@List.length_singleton
def Ba:=@List.mem_range
def Bb:=@PySem.wpAny_passesOwn
def Bc:=@Array.toList_push
def Bd:=@if_true
def Be:=@List.cons.inj
def Bf:=@Nat.add_sub_cancel_left
def Bg:=@List.flatten_append
def Bh:=@List.take_length
def Bi:=@PyProof.Rows.KeyOrd.kle_trans
def Bj:=@List.countP_cons
def Bk:=@PySem.wpAny_rule
def Bl:=@List.Perm.refl
def Bm:=@List.drop_of_length_le
def Bn:=@PySem.F.slot_str_upper
def Bo:=@PySem.F.type_str_upper
def Bp:=@List.pairwise_cons
def Bq:=@List.append_nil
def Br:=@List.find?_cons
def Bs:=@PySem.builtinLookup_eq_fast
def Bu:=@List.idxOf_lt_length_of_mem
def Bv:=@PySem.codeAny_builtin
def Bw:=@PySem.F.slot_str_join
def Bx:=@PySem.F.type_str_join
def By:=@PyProof.Rows.KeyOrd.kle_of_klt
def Bz:=@List.reverse_reverse
def BA:=@List.mem_of_mem_drop
def BB:=@List.mem_of_mem_take
def BC:=@PyProof.Rows.F.entry_set_update_loop
def BD:=@List.getLast?_eq_getElem?
def BE:=@List.all_eq_true
def BF:=@Nat.lt_succ_self
def BG:=@PySem.wpAny_call_entry
def BH:=@decide_eq_decide
def BI:=@Bool.not_eq_true
def BJ:=@List.map_nil
def BK:=@PyProof.Rows.wpS_modify
def BL:=@List.length_erase_of_mem
def BM:=@PySem.F.slot_list_extend
def BN:=@PySem.F.type_list_extend
def BO:=@List.eraseIdx_cons_succ
def BP:=@PySem.W.mg_of
def BQ:=@PySem.post_val_or_str
def BR:=@PySem.Obj.data_mapFields
def BS:=@List.getElem_idxOf
def BU:=@List.getElem?_take
def BV:=@PyProof.Rows.KK_mirror_equal
def BW:=@List.length_eq_zero_iff
def BX:=@List.getElem?_cons_succ
def BY:=@PySem.wpAny_holding
def BZ:=@List.Perm.append_right
def B0:=@List.flatten_singleton
def B2:=@List.head?_eq_getElem?
def B3:=@PySem.F.slot_str_index
def B4:=@PySem.F.type_str_index
def B5:=@List.eraseIdxIfInBounds_toArray
def B6:=@Nat.lt_succ_of_lt
def B7:=@List.flatMap_cons
def B8:=@PySem.Txt.slice_le
def B9:=@PySem.Heap.get?_update_self
def B_:=@List.getElem?_reverse
def Ca:=@Nat.sub_self
def Cb:=@PyProof.Rows.listItems_at
def Cc:=@Int.add_emod
def Cd:=@List.lookup_cons
def Ce:=@PySem.Around.under_plainId
def Cf:=@List.mem_erase_of_ne
def Cg:=@PySem.wpAny_newList
def Ci:=@Bool.not_true
def Cj:=@List.countP_eq_length_filter
def Ck:=@PySem.typeIs_str
def Cm:=@PySem.call_meets
def Cn:=@List.mem_filter
def Co:=@List.filterMap_cons
def Cp:=@PySem.wpAny_execs_nil
def Cq:=@PySem.sizeLine_eq
def Cr:=@Nat.le_succ
def Ct:=@Option.map_some
def Cu:=@PySem.typeLookup_type
def Cv:=@PySem.wpAny_of_eq
def Cw:=@PySem.Heap.SameBut.update
def Cy:=@List.flatMap_append
def Cz:=@PyProof.Rows.wpS_get
def CA:=@Array.toList_append
def CB:=@PySem.Calls.Name_function_global
def CC:=@Int.add_mul_emod_self_left
def CD:=@Array.toList_setIfInBounds
def CF:=@List.mem_filterMap
def CG:=@PySem.codeAny_mono
def CH:=@PySem.wpAny_Call_Name_kw
def CI:=@Prod.ext
def CJ:=@Bool.and_false
def CK:=@PySem.Heap.size_push
def CL:=@PySem.isSubtype_type
def CM:=@List.drop_zero
def CN:=@Bool.bne_false
def CO:=@PySem.wpAny_pyIter_list
def CP:=@Option.isSome_iff_exists
def CQ:=@PySem.AutoSeq1.sub_tuple_tuple
def CS:=@PyProof.Rows.Subscript_
def CT:=@PySem.wpAny_getItem_list_slice
def CU:=@List.take_add_one
def CV:=@PySem.EqBoolInt.of_rcne
def CW:=@decide_eq_true_eq
def CY:=@Bool.eq_false_iff
def CZ:=@not_false_eq_true
def C0:=@Int.emod_add_emod
def C1:=@PySem.Paired.length
def C2:=@PySem.evalPart_none
def C3:=@PySem.wpAny_attempt
def C4:=@PySem.wpAny_field
def C5:=@List.pairwise_singleton
def C6:=@PyProof.Rows.listUpdate_at
def C7:=@List.getLast?_cons_cons
def C8:=@Int.ofNat.inj
def C9:=@decide_eq_false_iff_not
def C_:=@Option.getD_none
def Da:=@List.cons_append
def Dc:=@beq_self_eq_true
def Dd:=@List.drop_length
def De:=@List.perm_middle
def Dg:=@List.zipIdx_cons
def Dh:=@List.mem_reverse
def Di:=@List.nodup_range
def Dj:=@List.getElem?_set_self
def Dk:=@PySem.W.cellsFrom_some
def Dl:=@Nat.le_of_lt
def Dm:=@List.of_mem_zip
def Dn:=@List.foldl_cons
def Do:=@Nat.add_comm
def Dp:=@PySem.wpAny_specialOf
def Dq:=@List.cons.injEq
def Dr:=@List.range_succ
def Ds:=@Array.Perm.refl
def Du:=@PyProof.Rows.wpS_lift
def Dv:=@PySem.wpAny_setField
def Dw:=@List.lt_irrefl
def Dx:=@List.take_zero
def Dy:=@Bool.or_false
def Dz:=@List.any_cons
def DA:=@Nat.add_assoc
def DB:=@beq_iff_eq
def DC:=@Nat.ne_of_gt
def DE:=@Nat.lt_trans
def DF:=@Nat.zero_add
def DG:=@getElem?_pos
namespace L2
open PySem PySem.Spec PyProof.Rows
abbrev Key := Sum Int Str
def jU : Key → Value → Bool
  | .inl k, v => Value.isInt k v
  | .inr x, v => Value.isStrOf x v
def yA (w : World) : Key → Int
  | .inl k => hashInt k
  | .inr x => hashStr w x
theorem aV : ∀ {k : Key} {v : Value}, jU k v=true → (∃ i t, k=Sum.inl i ∧ v=Value.int i t) ∨ (∃ x t, k=Sum.inr x ∧ v=Value.str x t)
  | .inl i, v, h => by
    obtain ⟨t, e⟩ := Value.isInt_shape (k := i) (v := v) h
    exact .inl ⟨i, t, rfl, e⟩
  | .inr x, v, h => by
    obtain ⟨t, e⟩ := Value.isStrOf_shape (x := x) (v := v) h
    exact .inr ⟨x, t, rfl, e⟩
theorem kx (i : Int)(t : Tok) : jU (.inl i) (.int i t)=true := by simp [jU, Value.isInt]
theorem ky (x : Str)(t : Tok) : jU (.inr x) (.str x t)=true := by simp [jU, Value.isStrOf]
theorem ud (a b : Int) : decide ((Sum.inl a : Key)=Sum.inl b)=(a == b) := by
  by_cases e : a=b
  · subst e;simp
  · have h : ¬ (Sum.inl a : Key)=Sum.inl b := fun q => e (Sum.inl.inj q)
    rw [zp h]
    exact (beq_eq_false_iff_ne.mpr e).symm
theorem ue (a b : Str) : decide ((Sum.inr a : Key)=Sum.inr b)=decide (a=b) := by
  by_cases e : a=b
  · subst e;simp
  · have h : ¬ (Sum.inr a : Key)=Sum.inr b := fun q => e (Sum.inr.inj q)
    rw [zp h, zp e]
theorem uf (a : Int)(b : Str) : decide ((Sum.inl a : Key)=Sum.inr b)=false := zp (fun q => nomatch q)
theorem ug (a : Str)(b : Int) : decide ((Sum.inr a : Key)=Sum.inl b)=false := zp (fun q => nomatch q)
def a9 (prog : Program)(w : World) : PySem.KeyKind prog w Key where
  is := jU
  hash := yA w
  inj := fun v a b ha hb => by
    rcases aV ha with ⟨i, t, rfl, rfl⟩ | ⟨x, t, rfl, rfl⟩
    · rcases aV hb with ⟨j, u, rfl, e⟩ | ⟨y, u, rfl, e⟩
      · injection e with e1 _;rw [e1]
      · exact nomatch e
    · rcases aV hb with ⟨j, u, rfl, e⟩ | ⟨y, u, rfl, e⟩
      · exact nomatch e
      · injection e with e1 _;rw [e1]
  byValue := fun k v h => by
    rcases aV h with ⟨i, t, rfl, rfl⟩ | ⟨x, t, rfl, rfl⟩ <;> rfl
  pyHash := fun hv h => by
    rcases aV hv with ⟨i, t, rfl, rfl⟩ | ⟨x, t, rfl, rfl⟩
    · exact wpAny_pyHash_int h
    · exact wpAny_pyHash_str h
  eqBool := fun hu hv h => by
    rcases aV hu with ⟨i, t, rfl, rfl⟩ | ⟨x, t, rfl, rfl⟩
    · rcases aV hv with ⟨j, u, rfl, rfl⟩ | ⟨y, u, rfl, rfl⟩
      · rw [ud] at h;exact wpAny_eqBool_int h
      · rw [uf] at h;exact SeqAt.EqAt.int_str i t y u _ _ _ _ h
    · rcases aV hv with ⟨j, u, rfl, rfl⟩ | ⟨y, u, rfl, rfl⟩
      · rw [ug] at h;exact SeqAt.EqAt.str_int x t j u _ _ _ _ h
      · rw [ue] at h;exact wpAny_eqBool_str h
  «strs» := fun k x t v h => by
    rcases aV h with ⟨i, u, rfl, e⟩ | ⟨y, u, rfl, e⟩
    · exact nomatch e
    · injection e with e1 _
      subst e1
      cases v <;> rfl
theorem il (prog : Program)(w : World)(i : Int)(t : Tok) : (a9 prog w).is (.inl i) (.int i t)=true := kx i t
theorem ip (prog : Program)(w : World)(x : Str)(t : Tok) : (a9 prog w).is (.inr x) (.str x t)=true := ky x t
inductive V where
  | non | bl (b : Bool) | int (i : Int) | str (x : Str) | byt (b : Array UInt8) | flt (b : UInt64) | ref (a : Addr) | ty (n : String)
  deriving DecidableEq
def bu : V → Value → Prop
  | .non, u => u=Value.none
  | .bl b, u => u=Value.bool b
  | .int i, u => ∃ t, u=Value.int i t
  | .str x, u => ∃ t, u=Value.str x t
  | .byt b, u => ∃ t, u=Value.bytes b t
  | .flt b, u => ∃ t, u=Value.float b t
  | .ref a, u => u=Value.ref a
  | .ty n, u => u=Value.type n
abbrev aU : List V → List Value → Prop := Paired bu
theorem aU.length {xs : List V}{us : List Value}(r : aU xs us) : xs.length=us.length := C1 r
theorem aU.get : ∀ {xs : List V} {us : List Value} {i : Nat} {x : V}, aU xs us → xs[i]? = some x → ∃ u, us[i]? = some u ∧ bu x u
  | _, _, _, _, .nil, e => by simp at e
  | _, _, 0, _, .cons r _, e => by simp at e;subst e;exact ⟨_, rfl, r⟩
  | _, _, i+1, x, .cons _ t, e => by
    obtain ⟨u, h1, h2⟩ := aU.get (i := i) (x := x) t (by simpa using e)
    exact ⟨u, by simpa using h1, h2⟩
theorem aU.append : ∀ {xs ys : List V} {us ws : List Value}, aU xs us → aU ys ws → aU (xs++ys) (us++ws)
  | _, _, _, _, .nil, s => s
  | _, _, _, _, .cons r t, s => .cons r (aU.append t s)
theorem aU.take : ∀ {xs : List V} {us : List Value} (n : Nat), aU xs us → aU (xs.take n) (us.take n)
  | _, _, 0, _ => .nil
  | _, _, _+1, .nil => .nil
  | _, _, n+1, .cons r t => .cons r (aU.take n t)
theorem aU.drop : ∀ {xs : List V} {us : List Value} (n : Nat), aU xs us → aU (xs.drop n) (us.drop n)
  | _, _, 0, r => r
  | _, _, _+1, .nil => .nil
  | _, _, n+1, .cons _ t => aU.drop n t
def oe : Option V → Option Value → Prop
  | some v, some u => bu v u
  | none, none => True
  | _, _ => False
def KV {κ : Type} : List (κ × V) → List (κ × Value) → Prop := Paired fun (p : κ × V) (q : κ × Value) => p.1=q.1 ∧ bu p.2 q.2
def kV : Key → V
  | .inl i => .int i
  | .inr x => .str x
inductive HO where
  | lst (xs : List V)
  | tup (xs : List V)
  | dK (kvs : List (Key × V)) | dT (kvs : List (List Key × V))
  | set (S : Int → Bool) (n : Nat)
  | ins (C dx : Addr) (fs : List (Str × V))
  | own (x : Addr)
  | xd (fs : List (Str × V))
  | met (f x : Addr)
  | rng (lo hi : Int)
  | frz (o : Obj) (u : HO)
  | tbl (ps : Array Value)
  | ext (φ : Heap → Prop)
abbrev Hp := Addr → Option HO
def upd (H : Hp)(a : Addr)(o : HO) : Hp := fun b => if b=a then some o else H b
theorem ah {H : Hp}{a : Addr}{o : HO} : upd H a o a=some o := by unfold upd; rw [if_pos rfl]
theorem aG {H : Hp}{a b : Addr}{o : HO}(h : b≠a) : upd H a o b=H b := by unfold upd; rw [if_neg h]
theorem fo {H : Hp}{a : Addr}{o u : HO} : upd (upd H a o) a u=upd H a u := by
  funext b;unfold upd;split <;> rfl
theorem qO {H : Hp}{a b : Addr}{o u : HO}(h : H a=some o)(h' : H b=some u)(d : o≠u) : a≠b := by
  intro e;subst e;rw [h] at h';exact d (zD h')
theorem aw {H : Hp}{a b : Addr}{o : HO}(h : H a=some o)(h' : H b=none) : a≠b := by
  intro e;subst e;rw [h] at h';cases h'
section
variable (P : Program) (w : World)
def NoD (h : Heap)(a : Addr) : Prop := ∃ o, h.get? a=some o ∧ o.dict=none
theorem NoD.new (h : Heap)(o : Obj)(e : o.dict=none)(hf : o.isFreed=false := by rfl) : NoD (h.push o) h.objs.size := ⟨o, zI _ hf, e⟩
def bG (H : Hp)(h : Heap)(a : Addr) : HO → Prop
  | .lst xs => xs.length≤sizeLine ∧ ∃ (its : List Value) (n : Nat), aU xs its ∧ h.get? a=some { cls := .type "list", data := .seq its.toArray n }
  | .tup xs => xs.length≤sizeLine ∧ ∃ its : List Value, aU xs its ∧ IsTup h a its.toArray ∧ NoD h a
  | .dK kvs => kvs.length≤sizeLine ∧ (a == sysModules)=false ∧ ∃ vs, KV kvs vs ∧ h.DictOf (a9 P w) a vs
  | .dT kvs => kvs.length≤sizeLine ∧ (a == sysModules)=false ∧ ∃ xs : List (List Key × Addr × Value),
      Paired (fun (p : List Key × V) (q : List Key × Addr × Value) => p.1=q.1 ∧ H q.2.1=some (.tup (p.1.map kV)) ∧ bu p.2 q.2.2) kvs xs ∧
      ∃ o es ep, h.get? a=some o ∧ o.ExactDict ∧ o.data = .dict es ep ∧ es.toList=xs.map (entryOfKey (tupleKind (a9 P w))) ∧ (xs.map (·.1)).Nodup
  | .set S n => h.SetOf (intKind P w) a S n
  | .ins C dx fs => H dx=some (.own a) ∧ fs.length≤1000 ∧ dx≠a ∧ h.get? a=some (PySem.W.instObj C dx) ∧
      ∃ mA, h.Ns1 dx mA ∧ (∀ f, oe (fs.lookup f) (mA f)) ∧ PySem.Within mA (fs.map (·.1))
  | .own _ => ∃ o, h.get? a=some o
  | .xd fs => ∃ mA, h.Ns1 a mA ∧ ∀ f, oe (fs.lookup f) (mA f)
  | .rng lo hi => ∃ t u v, h.get? a=some { cls := .type "range", data := .fields #[.int lo t, .int hi u, .int 1 v] }
  | .frz o u => h.get? a=some o ∧ bG H h a u
  | .tbl ps => h.get? a=some { cls := .none, data := .fields ps }
  | .met f x => h.get? a=some (PySem.W.methodObj (.ref f) (.ref x))
  | .ext φ => φ h ∧ (∃ o, h.get? a=some o) ∧ ∀ h1 h2 : Heap, φ h1 → (∀ o, h1.get? a=some o → h2.get? a=some o) → φ h2
def HOk (H : Hp)(h : Heap) : Prop := ∀ a o, H a=some o → bG P w H h a o
end
section
variable {P : Program} {w : World} {H H' : Hp} {h h' : Heap} {a : Addr} {o : HO}
theorem bG.lt (x : bG P w H h a o) : a < h.objs.size := by
  cases o with
  | lst xs => obtain ⟨_, _, _, _, e⟩ := x;exact zM e
  | tup xs => obtain ⟨_, _, _, p, _⟩ := x;exact p.lt
  | dK kvs => obtain ⟨_, _, _, _, o, _, _, e, _⟩ := x;exact zM e
  | dT kvs => obtain ⟨_, _, _, _, o, _, _, e, _⟩ := x;exact zM e
  | set S n => obtain ⟨o, _, _, _, e, _⟩ := x;exact zM e
  | ins C dx fs => obtain ⟨_, _, _, e, _⟩ := x;exact zM e
  | own y => obtain ⟨_, e⟩ := x;exact zM e
  | xd fs => obtain ⟨_, ⟨_, _, _, e, _⟩, _⟩ := x;exact zM e
  | rng lo hi => obtain ⟨_, _, _, e⟩ := x;exact zM e
  | frz ob u => obtain ⟨e, _⟩ := x;exact zM e
  | tbl ps => exact zM (show h.get? a=some _ from x)
  | met f y => exact zM (show h.get? a=some _ from x)
  | ext φ => obtain ⟨_, ⟨_, e⟩, _⟩ := x;exact zM e
theorem Paired.mapP {α β : Type}{F G : α → β → Prop} : ∀ {l₁ : List α} {l₂ : List β}, Paired F l₁ l₂ → (∀ a b, F a b → G a b) → Paired G l₁ l₂
  | _, _, .nil, _ => .nil
  | _, _, .cons r t, f => .cons (f _ _ r) (Paired.mapP t f)
theorem bG.stay (x : bG P w H h a o)(k : ∀ b u, (b=a ∨ H b=some (.own a)) → h.get? b=some u → h'.get? b=some u)
    (ho : ∀ b, H b=some (.own a) → H' b=some (.own a)) (ht : ∀ b xs, H b=some (.tup xs) → H' b=some (.tup xs)) : bG P w H' h' a o := by
  induction o with
  | lst xs => obtain ⟨z, its, n, r, e⟩ := x;exact ⟨z, its, n, r, k _ _ (.inl rfl) e⟩
  | tup xs => obtain ⟨z, its, r, ⟨ob, e, c⟩, o2, e2, c2⟩ := x;exact ⟨z, its, r, ⟨ob, k _ _ (.inl rfl) e, c⟩, o2, k _ _ (.inl rfl) e2, c2⟩
  | dK kvs => obtain ⟨z, y, vs, r, ob, es, ep, e, c⟩ := x;exact ⟨z, y, vs, r, ob, es, ep, k _ _ (.inl rfl) e, c⟩
  | dT kvs =>
    obtain ⟨z, y, xs, r, ob, es, ep, e, c⟩ := x
    exact ⟨z, y, xs, Paired.mapP r fun p q z => ⟨z.1, ht _ _ z.2.1, z.2.2⟩, ob, es, ep, k _ _ (.inl rfl) e, c⟩
  | set S n => obtain ⟨ob, es, ep, t, e, c⟩ := x;exact ⟨ob, es, ep, t, k _ _ (.inl rfl) e, c⟩
  | ins C dx fs =>
    obtain ⟨d, z, ne, e, mA, ⟨od, es, ep, e2, c⟩, r⟩ := x
    exact ⟨ho _ d, z, ne, k _ _ (.inl rfl) e, mA, ⟨od, es, ep, k _ _ (.inr d) e2, c⟩, r⟩
  | own y => obtain ⟨ob, e⟩ := x;exact ⟨ob, k _ _ (.inl rfl) e⟩
  | xd fs => obtain ⟨mA, ⟨od, es, ep, e, c⟩, r⟩ := x;exact ⟨mA, ⟨od, es, ep, k _ _ (.inl rfl) e, c⟩, r⟩
  | rng lo hi => obtain ⟨t, u, v, e⟩ := x;exact ⟨t, u, v, k _ _ (.inl rfl) e⟩
  | frz ob u ih => obtain ⟨e, q⟩ := x;exact ⟨k _ _ (.inl rfl) e, ih q⟩
  | tbl ps =>
    have e : h.get? a=some { cls := .none, data := .fields ps } := x
    show h'.get? a=some { cls := .none, data := .fields ps }
    exact k a _ (.inl rfl) e
  | met f y =>
    have e : h.get? a=some (PySem.W.methodObj (.ref f) (.ref y)) := x
    show h'.get? a=some (PySem.W.methodObj (.ref f) (.ref y))
    exact k a _ (.inl rfl) e
  | ext φ => obtain ⟨p, ⟨o, e⟩, st⟩ := x;exact ⟨st _ _ p fun o q => k _ _ (.inl rfl) q, ⟨o, k _ _ (.inl rfl) e⟩, st⟩
theorem HOk.lt (x : HOk P w H h)(e : H a=some o) : a < h.objs.size := (x a o e).lt
theorem HOk.fresh (x : HOk P w H h)(e : h.objs.size≤a) : H a=none := by
  cases q : H a with
  | none => rfl
  | some u => exact absurd (zV (x.lt q) e) (AL _)
theorem HOk.kept (x : HOk P w H h)(k : ∀ b u, h.get? b=some u → h'.get? b=some u) : HOk P w H h' := fun a o e =>
  (x a o e).stay (fun b u _ q => k b u q) (fun _ q => q) fun _ _ q => q
theorem HOk.laid (x : HOk P w H h)(k : ∀ b u, h.get? b=some u → h'.get? b=some u)(hp : h.objs.size≤a)(new : bG P w (upd H a o) h' a o) : HOk P w (upd H a o) h' := fun b u e => by
  have hn := x.fresh hp
  by_cases hb : b=a
  · subst hb;rw [ah] at e;cases e;exact new
  · rw [aG hb] at e
    exact (x b u e).stay (fun c v _ q => k c v q) (fun c q => by rw [aG (aw q hn)];exact q) fun c xs q => by rw [aG (aw q hn)];exact q
end
def Rd (H : Hp)(a : Addr)(u : HO) : Prop := H a=some u ∨ ∃ o, H a=some (.frz o u)
theorem Rd.ok {P : Program}{w : World}{H : Hp}{h : Heap}{a : Addr}{u : HO}(r : Rd H a u)(x : HOk P w H h) : bG P w H h a u := by
  rcases r with r | ⟨o, r⟩
  · exact x a u r
  · obtain ⟨_, q⟩ := x a _ r
    exact q
def Mut : Option HO → Prop
  | some (.lst _) => True
  | some (.dK _) => True
  | some (.dT _) => True
  | some (.set _ _) => True
  | some (.ins _ _ _) => True
  | some (.ext _) => True
  | _ => False
section
variable {P : Program} {w : World} {H : Hp} {h h' : Heap} {x e : Addr} {o' : HO}
theorem HOk.write (ok : HOk P w H h)(mu : Mut (H x))(he : e=x ∨ H e=some (.own x))(k : ∀ b u, b≠e → h.get? b=some u → h'.get? b=some u)(heo : ∃ u, h'.get? e=some u)
    (new : bG P w (upd H x o') h' x o') : HOk P w (upd H x o') h' := fun b u q => by
  have nown : ∀ c y, H c=some (.own y) → c≠x := fun c y r z => by subst z;rw [r] at mu;exact mu
  have ntup : ∀ c xs, H c=some (.tup xs) → c≠x := fun c xs r z => by subst z;rw [r] at mu;exact mu
  by_cases hb : b=x
  · subst hb;rw [ah] at q;cases q;exact new
  · rw [aG hb] at q
    by_cases hbe : b=e
    · have q' : H b=some (.own x) := by
        rcases he with z | z
        · exact absurd (hbe.trans z) hb
        · rw [hbe];exact z
      rw [q] at q';cases q'
      obtain ⟨v, hv⟩ := heo
      exact ⟨v, by rw [hbe];exact hv⟩
    · refine (ok b u q).stay (fun c v hc r => k c v ?_ r) (fun c r => by rw [aG (nown c b r)];exact r) fun c xs r => by rw [aG (ntup c xs r)];exact r
      rcases hc with rfl | hc
      · exact hbe
      · rintro rfl
        rcases he with z | z
        · exact nown c b hc z
        · rw [hc] at z;cases z;exact hb rfl
end
structure Un (fs ex : List Addr) (H H' : Hp) (h h' : Heap) : Prop where
  keep : ∀ b o, h.get? b=some o → H b=none → b∉fs → b∉ex → h'.get? b=some o
  slot : ∀ b o, h.get? b=some o → H b=none → b∈fs → b∉ex → ∃ sl, h'.get? b=some { o with slots := sl }
  free : ∀ b o, h.get? b=some o → H b=none → b∉ex → H' b=none
  there : ∀ b o, h.get? b=some o → b∉ex → ∃ o', h'.get? b=some o'
  tups : ∀ b xs, H b=some (.tup xs) → H' b=some (.tup xs)
  frzs : ∀ b o u, H b=some (.frz o u) → H' b=some (.frz o u)
  tbls : ∀ b ps, H b=some (.tbl ps) → ∃ more, H' b=some (.tbl (ps++more))
section
variable {fs fs' ex ex' : List Addr} {H H1 H2 : Hp} {h h1 h2 h' : Heap} {a x e : Addr} {o : HO}
theorem Un.any (u : Un fs ex H H1 h h1){b : Addr}{ob : Obj}(q : h.get? b=some ob)(n : H b=none)(hx : b∉ex) : ∃ sl, h1.get? b=some { ob with slots := sl } := by
  by_cases hb : b∈fs
  · exact u.slot b ob q n hb hx
  · exact ⟨ob.slots, u.keep b ob q n hb hx⟩
theorem Un.kept (k : ∀ b u, h.get? b=some u → h'.get? b=some u) : Un fs ex H H h h' :=
  ⟨fun b ob q _ _ _ => k b ob q, fun b ob q _ _ _ => ⟨ob.slots, k b ob q⟩, fun _ _ _ n _ => n, fun b ob q _ => ⟨ob, k b ob q⟩, fun _ _ q => q, fun _ _ _ q => q, fun _ ps q => ⟨#[], by rw [q];simp⟩⟩
theorem Un.refl : Un fs ex H H h h := Un.kept fun _ _ q => q
theorem Un.laid (k : ∀ b u, h.get? b=some u → h'.get? b=some u)(hp : h.objs.size≤a)(hn : H a=none) : Un fs ex H (upd H a o) h h' where
  keep := fun b u q _ _ _ => k b u q
  slot := fun b u q _ _ _ => ⟨u.slots, k b u q⟩
  free := fun b u q n _ => by rw [aG (Ar (zV (zM q) hp))];exact n
  there := fun b u q _ => ⟨u, k b u q⟩
  tups := fun b xs q => by rw [aG (aw q hn)];exact q
  frzs := fun b u xs q => by rw [aG (aw q hn)];exact q
  tbls := fun b ps q => ⟨#[], by rw [aG (aw q hn), q];simp⟩
theorem Un.write (mu : Mut (H x))(he : e=x ∨ H e=some (.own x))(k : ∀ b u, b≠e → h.get? b=some u → h'.get? b=some u)(heo : ∃ u, h'.get? e=some u) : Un fs ex H (upd H x o) h h' := by
  have hx : ∀ b, H b=none → b≠x := fun b n z => by subst z;rw [n] at mu;exact mu
  have hb : ∀ b, H b=none → b≠e := fun b n z => by
    subst z
    rcases he with r | r
    · exact hx b n r
    · rw [n] at r;cases r
  have hm : ∀ b u, H b=some u → ¬ Mut (some u) → b≠x := fun b u q nm z => by subst z;rw [q] at mu;exact nm mu
  refine ⟨fun b u q n _ _ => k b u (hb b n) q, fun b u q n _ _ => ⟨u.slots, k b u (hb b n) q⟩, fun b u q n _ => by rw [aG (hx b n)];exact n, fun b u q _ => ?_,
    fun b xs q => by rw [aG (hm b _ q fun z => z)];exact q, fun b u xs q => by rw [aG (hm b _ q fun z => z)];exact q, fun b ps q => ⟨#[], by rw [aG (hm b _ q fun z => z), q];simp⟩⟩
  by_cases hbe : b=e
  · subst hbe;exact heo
  · exact ⟨u, k b u hbe q⟩
end
def trk (h : Heap)(H : Hp) : List Addr := (List.range h.objs.size).filter fun a => (H a).isSome
def oj (h : Heap)(H : Hp) : Heap := PySem.W.hideAll h (trk h H)
theorem kz (h : Heap)(H : Hp) : (oj h H).objs.size=h.objs.size := PySem.W.hideAll_size _ _
theorem om {h : Heap}{H : Hp}{b : Addr}{o : Obj}(e : h.get? b=some o)(n : H b=none) : (oj h H).get? b=some o :=
  PySem.W.hideAll_get _ e fun hm => by
    have q : (H b).isSome=true := (Cn.mp hm).2
    rw [n] at q;simp at q
theorem qP {h : Heap}{H : Hp}{b : Addr}{o : Obj}(e : (oj h H).get? b=some o) : h.get? b=some o ∧ H b=none := by
  have e' : h.get? b=some o := PySem.W.of_hideAll (trk h H) e
  refine ⟨e', ?_⟩
  cases q : H b with
  | none => rfl
  | some x =>
    have hm : b∈trk h H := Cn.mpr ⟨Ba.mpr (zM e'), by simp [q]⟩
    have z : (oj h H).get? b=none := PySem.W.hideAll_none (trk h H) hm
    rw [z] at e;cases e
structure Mod (K : PySem.W.Frag) (mg : Str → Option Value) (base : Heap) : Prop where
  kin : K.In base
  glob : base.Ns mainGlobals mg
  blt : ∃ mb, base.Ns builtinsNs mb ∧ ∀ x : Str, x ≠ "__name__" → mb x=bootBuiltins x
  nolimit : base.NoLimit
/-- the context: a def's body (or a comprehension's block) running. base: fixed through the whole law;s₀, H₀: the entry;outer: the frames whose slots others may change (a def's callers);stack: all frames that run;
   ex: iterators that were made ahead of the entry and are walked here (a comprehension's);fn: the names whose cells were made at the entry (a def: all;a comprehension's block: its own);calm: not within an except suite;pn: pins that every state bears;xe: what is wanted of an exception that leaves the code -/
structure Cx where
  prog : Program
  w : World
  K : PySem.W.Frag
  mg : Str → Option Value
  base : Heap
  A : Around
  N : List Str
  s₀ : Shared
  H₀ : Hp
  env : Env
  outer : List Env
  stack : List Env
  ex : List Addr
  fn : Str → Bool
  calm : Bool
  pn : List (Addr × Obj)
  xe : Value → Shared → Prop
def frs (l : List Env) : List Addr := l.filterMap (·.frame)
abbrev Cx.fs (X : Cx) : List Addr := frs X.outer
def Vis (sc : Scope)(x : Str) : Prop := sc.names.lookup x=some .local ∨ sc.names.lookup x=some .cell ∨ sc.names.lookup x=some .free
def Loc (sc : Scope)(x : Str) : Prop := sc.names.lookup x=some .local ∨ sc.names.lookup x=some .cell
def yB (env : Env)(h : Heap)(m : Str → Option Value)(x : Str)(u : Value) : Prop :=
  (env.kindOf x=some .local ∧ m x=some u) ∨ ((env.kindOf x=some .cell ∨ env.kindOf x=some .free) ∧ ∃ c, env.cells.lookup x=some c ∧ h.IsCell c (some u))
structure Cx.Ok (X : Cx) : Prop where
  mod : Mod X.K X.mg X.base
  kind : X.env.scope.kind = .function
  glob : X.env.globals=mainGlobals
  blt : X.env.builtins=builtinsNs
  above : X.s₀.heap.objs.size≤X.env.locals
  inj : ∀ x y c, X.env.cells.lookup x=some c → X.env.cells.lookup y=some c → x=y
  has : ∀ x, (X.env.kindOf x=some .cell ∨ X.env.kindOf x=some .free) → ∃ c, X.env.cells.lookup x=some c
  cab : ∀ x c, X.fn x=true → X.env.cells.lookup x=some c → X.s₀.heap.objs.size≤c
  hd : X.calm=true → X.A.handled=none
  frames : X.A.frames=some X.stack
  stk : X.stack=X.outer ∨ (X.stack=X.env::X.outer ∧ X.env.frame=some X.env.locals)
  exf : ∀ b∈X.ex, b≠X.env.locals ∧ ∀ x c, X.env.cells.lookup x=some c → c≠b
  bs : ∀ b o, X.base.get? b=some o → X.s₀.heap.get? b=some o ∧ X.H₀ b=none
  bsz : X.base.objs.size≤X.s₀.heap.objs.size
  noex : ∀ b o, X.base.get? b=some o → b∉X.ex
  exfs : ∀ b∈X.ex, b∉X.fs
  funs : X.s₀.heap.FunFrames X.base X.outer
  frf : ∀ b∈X.fs, X.H₀ b=none
structure Inv (X : Cx) (pins : List (Addr × Obj)) (σ : List (Option V)) (H : Hp) (s : Shared) : Prop where
  ok : X.Ok
  os : s.os=X.s₀.os
  bare : AllBare s.gens
  base : Un X.fs X.ex X.H₀ H X.s₀.heap s.heap
  loc : ∃ m, s.heap.Ns X.env.locals m ∧ ∀ (i : Nat) (x : Str) (v : V), X.N[i]? = some x → σ[i]? = some (some v) → Vis X.env.scope x → ∃ u, bu v u ∧ yB X.env s.heap m x u
  cell : ∀ x c, X.env.cells.lookup x=some c → ∃ v, s.heap.IsCell c v
  free : H X.env.locals=none
  freeC : ∀ x c, X.env.cells.lookup x=some c → H c=none
  pin : ∀ p∈X.pn++pins, s.heap.get? p.1=some p.2 ∧ H p.1=none ∧ p.1≠X.env.locals ∧ p.1∉X.fs ∧ ∀ v, p.2.data ≠ .cell v
  hok : HOk X.prog X.w H s.heap
  len : σ.length=X.N.length
section
variable {X : Cx} {pins : List (Addr × Obj)} {σ : List (Option V)} {H H' : Hp} {s : Shared} {h' : Heap}
theorem Cx.Ok.nofr (ok : X.Ok){b : Addr}{o : Obj}(e : X.base.get? b=some o) : b∉X.fs := fun hb => by
  have := (ok.funs.mem hb).1
  rw [e] at this;cases this
theorem Inv.bs (I : Inv X pins σ H s) : ∀ b o, X.base.get? b=some o → s.heap.get? b=some o ∧ H b=none := fun b o e =>
  ⟨I.base.keep b o (I.ok.bs b o e).1 (I.ok.bs b o e).2 (I.ok.nofr e) (I.ok.noex b o e), I.base.free b o (I.ok.bs b o e).1 (I.ok.bs b o e).2 (I.ok.noex b o e)⟩
theorem Inv.bk (I : Inv X pins σ H s) : ∀ b o, X.base.get? b=some o → s.heap.get? b=some o := fun b o e => (I.bs b o e).1
theorem Inv.mod (I : Inv X pins σ H s) : Mod X.K X.mg X.base := I.ok.mod
theorem Inv.kIn (I : Inv X pins σ H s) : X.K.In s.heap := I.ok.mod.kin.keeps I.bk
theorem Inv.fr (I : Inv X pins σ H s) : ∃ m, Fr X.base X.env.locals s.heap m :=
  let ⟨m, hn, _⟩ := I.loc
  ⟨m, hn, I.bk, Ay I.ok.bsz I.ok.above⟩
theorem Inv.lt (I : Inv X pins σ H s) : X.env.locals < s.heap.objs.size := let ⟨_, hn, _⟩ := I.loc; hn.lt
theorem Inv.sz (I : Inv X pins σ H s) : X.s₀.heap.objs.size≤s.heap.objs.size := Ay I.ok.above (Dl I.lt)
theorem Inv.nofs (I : Inv X pins σ H s){a : Addr}(h : s.heap.objs.size≤a) : a∉X.fs := fun hb => by
  obtain ⟨_, o, ho, _⟩ := I.ok.funs.mem hb
  exact absurd (zV (zM ho) (Ay I.sz h)) (AL _)
theorem Inv.cne (I : Inv X pins σ H s) : ∀ x c, X.env.cells.lookup x=some c → c≠X.env.locals := fun x c e z => by
  obtain ⟨v, o, ho, hd⟩ := I.cell x c e
  obtain ⟨m, ⟨o', es, ep, ho', hd', _⟩, _⟩ := I.loc
  rw [z, ho'] at ho;cases ho;rw [hd'] at hd;cases hd
theorem Inv.funs (I : Inv X pins σ H s) : s.heap.FunFrames X.base X.outer := by
  have all : ∀ (l : List Env), (∀ b∈frs l, b∈X.fs) → X.s₀.heap.FunFrames X.base l → s.heap.FunFrames X.base l := by
    intro l
    induction l with
    | nil => intro _ _;trivial
    | cons env r ih =>
      intro hs hl
      obtain ⟨hk, ⟨L, o, hf, hn, ho, hd⟩, hr⟩ := hl
      have hL : L∈X.fs := hs L (by unfold frs;rw [Co, hf];exact zK)
      obtain ⟨sl, e⟩ := I.base.slot L o ho (I.ok.frf L hL) hL fun z => I.ok.exfs L z hL
      exact ⟨hk, ⟨L, _, hf, hn, e, hd⟩, ih (fun b hb => hs b (by unfold frs;rw [Co, hf];exact zB _ hb)) hr⟩
  exact all X.outer (fun _ hb => hb) I.ok.funs
theorem Inv.stack (I : Inv X pins σ H s) : s.heap.FunFrames X.base X.stack := by
  rcases I.ok.stk with e | ⟨e, hf⟩
  · rw [e];exact I.funs
  · rw [e]
    obtain ⟨m, hn, _⟩ := I.loc
    refine .cons (by rw [I.ok.kind];decide) hf hn ?_ I.funs
    exact Heap.get?_none_of_le (Ay I.ok.bsz I.ok.above)
theorem Inv.stkSub (I : Inv X pins σ H s) : ∀ b∈frs X.stack, b∈X.env.locals::X.fs := fun b hb => by
  rcases I.ok.stk with e | ⟨e, hf⟩
  · rw [e] at hb;exact zB _ hb
  · rw [e] at hb
    unfold frs at hb
    rw [Co, hf] at hb
    exact hb
theorem Inv.stkFree (I : Inv X pins σ H s) : ∀ b∈frs X.stack, H b=none := fun b hb => by
  rcases zN.mp (I.stkSub b hb) with e | hb
  · rw [e];exact I.free
  · obtain ⟨_, o, ho, _⟩ := I.ok.funs.mem hb
    exact I.base.free b o ho (I.ok.frf b hb) fun z => I.ok.exfs b z hb
theorem Inv.step {g' : Array GenState}{t' : Nat}{d' : Drawn}{ch : List Addr}(I : Inv X pins σ H s)
    (hch : ∀ b∈ch, (b∈X.ex ∨ X.s₀.heap.objs.size≤b) ∧ b≠X.env.locals ∧ (∀ x c, X.env.cells.lookup x=some c → c≠b) ∧ ∀ p∈X.pn++pins, p.1≠b)
    (keep : ∀ b o, b≠X.env.locals → b∉X.fs → b∉ch → s.heap.get? b=some o → H b=none → h'.get? b=some o)
    (slot : ∀ b o, b≠X.env.locals → b∈X.fs → b∉ch → s.heap.get? b=some o → H b=none → ∃ sl, h'.get? b=some { o with slots := sl }) (free : ∀ b o, b∉ch → s.heap.get? b=some o → H b=none → H' b=none)
    (there : ∀ b o, b∉ch → s.heap.get? b=some o → ∃ o', h'.get? b=some o')
    (tups : ∀ b xs, H b=some (.tup xs) → H' b=some (.tup xs)) (frzs : ∀ b o u, H b=some (.frz o u) → H' b=some (.frz o u)) (tbls : ∀ b ps, H b=some (.tbl ps) → ∃ more, H' b=some (.tbl (ps++more)))
    (ns : ∀ m, s.heap.Ns X.env.locals m → h'.Ns X.env.locals m) (hok : HOk X.prog X.w H' h') (hg : AllBare g') :
    Inv X pins σ H' { s with heap := h', gens := g', drawn := d', toks := t' } := by
  have neL : ∀ b o, X.s₀.heap.get? b=some o → b≠X.env.locals := fun b o e => Ar (zV (zM e) I.ok.above)
  have neC : ∀ b o, X.s₀.heap.get? b=some o → b∉X.ex → b∉ch := fun b o e hx hb => by
    rcases (hch b hb).1 with z | z
    · exact hx z
    · exact absurd (zV (zM e) z) (AL _)
  have cellK : ∀ x c, X.env.cells.lookup x=some c → ∀ v, s.heap.IsCell c v → h'.IsCell c v := fun x c e v ⟨o, ho, hd⟩ => by
    have nch : c∉ch := fun z => (hch c z).2.2.1 x c e rfl
    by_cases hc : c∈X.fs
    · obtain ⟨sl, q⟩ := slot c o (I.cne x c e) hc nch ho (I.freeC x c e)
      exact ⟨_, q, hd⟩
    · exact ⟨o, keep c o (I.cne x c e) hc nch ho (I.freeC x c e), hd⟩
  refine ⟨I.ok, I.os, hg, ⟨fun b o e n hb hx => ?_, fun b o e n hb hx => ?_, fun b o e n hx => ?_, fun b o e hx => ?_, fun b xs e => tups b xs (I.base.tups b xs e), fun b o xs e => frzs b o xs (I.base.frzs b o xs e), fun b ps e => ?_⟩, ?_, fun x c e => ?_, ?_, fun x c e => ?_, fun p hp => ?_, hok, I.len⟩
  · exact keep b o (neL b o e) hb (neC b o e hx) (I.base.keep b o e n hb hx) (I.base.free b o e n hx)
  · obtain ⟨sl, e1⟩ := I.base.slot b o e n hb hx
    obtain ⟨sl', e2⟩ := slot b _ (neL b o e) hb (neC b o e hx) e1 (I.base.free b o e n hx)
    exact ⟨sl', e2⟩
  · obtain ⟨o', e1⟩ := I.base.there b o e hx
    exact free b o' (neC b o e hx) e1 (I.base.free b o e n hx)
  · obtain ⟨o', e1⟩ := I.base.there b o e hx
    exact there b o' (neC b o e hx) e1
  · obtain ⟨m1, e1⟩ := I.base.tbls b ps e
    obtain ⟨m2, e2⟩ := tbls b _ e1
    exact ⟨m1++m2, by rw [e2, Array.append_assoc]⟩
  · obtain ⟨m, hn, hl⟩ := I.loc
    refine ⟨m, ns m hn, fun i x v e1 e2 e3 => ?_⟩
    obtain ⟨u, r, l⟩ := hl i x v e1 e2 e3
    refine ⟨u, r, ?_⟩
    rcases l with l | ⟨k, c, e, z⟩
    · exact .inl l
    · exact .inr ⟨k, c, e, cellK x c e _ z⟩
  · obtain ⟨v, z⟩ := I.cell x c e
    exact ⟨v, cellK x c e v z⟩
  · obtain ⟨m, ⟨o, _, _, ho, _⟩, _⟩ := I.loc
    exact free _ o (fun z => (hch _ z).2.1 rfl) ho I.free
  · obtain ⟨v, o, ho, hd⟩ := I.cell x c e
    exact free c o (fun z => (hch c z).2.2.1 x c e rfl) ho (I.freeC x c e)
  · obtain ⟨e, n, ne, nf, d⟩ := I.pin p hp
    have nch : p.1∉ch := fun z => (hch p.1 z).2.2.2 p hp rfl
    exact ⟨keep p.1 p.2 ne nf nch e n, free p.1 p.2 nch e n, ne, nf, d⟩
theorem Inv.un {t' : Nat}(I : Inv X pins σ H s)(u : Un X.fs [] H H' s.heap h')(hok : HOk X.prog X.w H' h') : Inv X pins σ H' { s with heap := h', toks := t' } := by
  obtain ⟨m, ⟨o, es, ep, ho, r⟩, _⟩ := id I.loc
  obtain ⟨sl, hL⟩ := u.any ho I.free (by simp)
  exact I.step (g' := s.gens) (d' := s.drawn) (ch := []) (fun _ z => nomatch z) (fun b o _ hb _ e n => u.keep b o e n hb (by simp)) (fun b o _ hb _ e n => u.slot b o e n hb (by simp)) (fun b o _ e n => u.free b o e n (by simp)) (fun b o _ e => u.there b o e (by simp)) u.tups u.frzs u.tbls (fun m' hm => by
    obtain ⟨o', es', ep', ho', r'⟩ := hm
    rw [ho] at ho';cases ho'
    exact ⟨_, es', ep', hL, r'⟩) hok I.bare
theorem Inv.call {g' : Array GenState}{t' : Nat}{d' : Drawn}{ch : List Addr}(I : Inv X pins σ H s)(u : Un (frs X.stack) ch H H' s.heap h')(hok : HOk X.prog X.w H' h')(hg : AllBare g')
    (hch : ∀ b∈ch, (b∈X.ex ∨ X.s₀.heap.objs.size≤b) ∧ b≠X.env.locals ∧ (∀ x c, X.env.cells.lookup x=some c → c≠b) ∧ ∀ p∈X.pn++pins, p.1≠b) :
    Inv X pins σ H' { s with heap := h', gens := g', drawn := d', toks := t' } := by
  obtain ⟨m, ⟨o, es, ep, ho, r⟩, _⟩ := id I.loc
  obtain ⟨sl, hL⟩ := u.any ho I.free fun z => (hch _ z).2.1 rfl
  exact I.step (ch := ch) hch (fun b o hL hb hc e n => u.keep b o e n (fun z => (zN.mp (I.stkSub b z)).elim hL hb) hc) (fun b o _ _ hc e n => u.any e n hc) (fun b o hc e n => u.free b o e n hc) (fun b o hc e => u.there b o e hc) u.tups u.frzs u.tbls (fun m' hm => by
    obtain ⟨o', es', ep', ho', r'⟩ := hm
    rw [ho] at ho';cases ho'
    exact ⟨_, es', ep', hL, r'⟩) hok hg
theorem Inv.turned {t' : Nat}{it : Addr}(I : Inv X pins σ H s)(k : ∀ b o, b≠it → s.heap.get? b=some o → h'.get? b=some o)(hn : H it=none)(hL : it≠X.env.locals)
    (h1 : it∈X.ex ∨ X.s₀.heap.objs.size≤it) (h2 : ∀ x c, X.env.cells.lookup x=some c → c≠it) (h3 : ∀ p∈X.pn++pins, p.1≠it) : Inv X pins σ H { s with heap := h', toks := t' } := by
  have nit : ∀ b u, H b=some u → b≠it := fun b u e z => by rw [z, hn] at e;cases e
  refine I.step (g' := s.gens) (d' := s.drawn) (ch := [it]) (fun b hb => ?_) (fun b o _ _ hc e _ => k b o (fun z => hc (by simp [z])) e) (fun b o _ _ hc e _ => ⟨o.slots, k b o (fun z => hc (by simp [z])) e⟩) (fun _ _ _ _ n => n)
    (fun b o hc e => ⟨o, k b o (fun z => hc (by simp [z])) e⟩) (fun _ _ e => e) (fun _ _ _ e => e) (fun b ps e => ⟨#[], by rw [e];simp⟩) (fun m hm => ?_) (fun b u e => ?_) I.bare
  · have e : b=it := by simpa using hb
    subst e
    exact ⟨h1, hL, h2, h3⟩
  · obtain ⟨o, es, ep, ho, r⟩ := hm
    exact ⟨o, es, ep, k _ o (Ne.symm hL) ho, r⟩
  · refine (I.hok b u e).stay (fun c v hc q => k c v ?_ q) (fun _ q => q) fun _ _ q => q
    rcases hc with z | z
    · rw [z];exact nit b u e
    · exact nit c _ z
theorem Inv.tok (I : Inv X pins σ H s)(t : Nat) : Inv X pins σ H { s with toks := t } := I.un (h' := s.heap) (t' := t) Un.refl I.hok
theorem Inv.kept {t' : Nat}(I : Inv X pins σ H s)(k : ∀ b u, s.heap.get? b=some u → h'.get? b=some u) : Inv X pins σ H { s with heap := h', toks := t' } := I.un (Un.kept k) (I.hok.kept k)
theorem Inv.laid {a : Addr}{o : HO}{t' : Nat}(I : Inv X pins σ H s)(k : ∀ b u, s.heap.get? b=some u → h'.get? b=some u)(hp : s.heap.objs.size≤a)(new : bG X.prog X.w (upd H a o) h' a o) :
    Inv X pins σ (upd H a o) { s with heap := h', toks := t' } := I.un (Un.laid k hp (I.hok.fresh hp)) (I.hok.laid k hp new)
theorem Inv.write {x e : Addr}{o : HO}{t' : Nat}(I : Inv X pins σ H s)(mu : Mut (H x))(he : e=x ∨ H e=some (.own x))(k : ∀ b u, b≠e → s.heap.get? b=some u → h'.get? b=some u)(heo : ∃ u, h'.get? e=some u)
    (new : bG X.prog X.w (upd H x o) h' x o) : Inv X pins σ (upd H x o) { s with heap := h', toks := t' } := I.un (Un.write mu he k heo) (I.hok.write mu he k heo new)
theorem Inv.pins_of {pins' : List (Addr × Obj)}(I : Inv X pins σ H s)(h : ∀ p∈pins', s.heap.get? p.1=some p.2 ∧ H p.1=none ∧ p.1≠X.env.locals ∧ p.1∉X.fs ∧ ∀ v, p.2.data ≠ .cell v) : Inv X pins' σ H s :=
  ⟨I.ok, I.os, I.bare, I.base, I.loc, I.cell, I.free, I.freeC, fun p hp => (Ac.mp hp).elim (fun z => I.pin p (z6 _ z)) (h p), I.hok, I.len⟩
theorem jc {N : List Str}(hN : N.Nodup){i j : Nat}{x : Str}(a : N[i]? = some x)(b : N[j]? = some x) : i=j := by
  obtain ⟨h1, e1⟩ := zm.mp a
  obtain ⟨h2, e2⟩ := zm.mp b
  exact (List.getElem_inj hN).mp (e1.trans e2.symm)
theorem kA {M : Model}{A : Around}{E : Value → Shared → Prop}{i : Nat}{x : Str}{v : V}{u : Value}{Q : Unit → Shared → Prop}(I : Inv X pins σ H s)(hN : X.N.Nodup)(hi : X.N[i]? = some x)(hx : Loc X.env.scope x)(r : bu v u)
    (h : ∀ s', Inv X pins (σ.set i (some v)) H s' → (∃ a, Heap.SameBut a s.heap s'.heap ∧ (a=X.env.locals ∨ X.env.cells.lookup x=some a)) → Q () s') (hf : X.fn x=true ∨ X.env.scope.names.lookup x=some .local := by first | exact .inl rfl | exact .inr rfl | assumption) : wpAny M A (storeName X.env x u) Q E s := by
  obtain ⟨m, hn, hl⟩ := id I.loc
  have hcls : (X.env.scope.kind == .class || (X.env.scope.kind == .module && X.env.locals != X.env.globals))=false := by rw [I.ok.kind];rfl
  have hiσ : i < σ.length := by rw [I.len];exact (zm.mp hi).1
  have cne := I.cne
  have tracked : ∀ {a : Addr} {h' : Heap}, (∃ o, s.heap.get? a=some o ∧ H a=none) → Heap.SameBut a s.heap h' → HOk X.prog X.w H h' := fun {a h'} ha hs b ob e => by
    obtain ⟨_, _, hfree⟩ := ha
    refine (I.hok b ob e).stay (fun c w' hc q => (hs.2 c ?_).trans q) (fun _ q => q) fun _ _ q => q
    rintro rfl
    rcases hc with rfl | hc
    · rw [hfree] at e;cases e
    · rw [hfree] at hc;cases hc
  rcases hx with hk | hk
  · refine wpAny_storeName_local hk hn (fun h' hn' hs => ?_) hcls
    obtain ⟨oL, _, _, hoL, _⟩ := id hn
    refine h _ ⟨I.ok, I.os, I.bare, ⟨fun b o e n hb hx => ?_, fun b o e n hb hx => ?_, I.base.free, fun b o e hx => ?_, I.base.tups, I.base.frzs, I.base.tbls⟩, ⟨_, hn', fun j y v' e1 e2 e3 => ?_⟩, fun y c e => ?_, I.free, I.freeC, fun p hp => ?_, tracked ⟨oL, hoL, I.free⟩ hs, by simpa using I.len⟩ ⟨_, hs, .inl rfl⟩
    · exact (hs.2 b (Ar (zV (zM e) I.ok.above))).trans (I.base.keep b o e n hb hx)
    · obtain ⟨sl, e1⟩ := I.base.slot b o e n hb hx
      exact ⟨sl, (hs.2 b (Ar (zV (zM e) I.ok.above))).trans e1⟩
    · obtain ⟨o', e1⟩ := I.base.there b o e hx
      exact ⟨o', (hs.2 b (Ar (zV (zM e) I.ok.above))).trans e1⟩
    · by_cases hj : j=i
      · subst hj
        rw [hi] at e1;cases e1
        rw [Dj hiσ] at e2
        cases e2
        exact ⟨u, r, .inl ⟨hk, by simp⟩⟩
      · rw [List.getElem?_set_ne (Ne.symm hj)] at e2
        obtain ⟨u', r', q⟩ := hl j y v' e1 e2 e3
        refine ⟨u', r', ?_⟩
        rcases q with ⟨k, e⟩ | ⟨k, c, e, z⟩
        · refine .inl ⟨k, ?_⟩
          have : y≠x := fun e => hj (jc hN e1 (e ▸ hi))
          simp [this, e]
        · exact .inr ⟨k, c, e, z.sameBut hs (cne y c e)⟩
    · obtain ⟨w', z⟩ := I.cell y c e
      exact ⟨w', z.sameBut hs (cne y c e)⟩
    · obtain ⟨e, n, ne, nf, d⟩ := I.pin p hp
      exact ⟨(hs.2 p.1 ne).trans e, n, ne, nf, d⟩
  · have hfn : X.fn x=true := by
      rcases hf with z | z
      · exact z
      · rw [z] at hk;cases hk
    obtain ⟨c, hc⟩ := I.ok.has x (.inl hk)
    obtain ⟨w', z⟩ := I.cell x c hc
    refine wpAny_storeName_cell I.ok.kind hk hc z (fun h' hc' hs => ?_)
    obtain ⟨oc, hoc, hocd⟩ := id z
    refine h { s with heap := h' } ⟨I.ok, I.os, I.bare, ⟨fun b o e n hb hx => ?_, fun b o e n hb hx => ?_, I.base.free, fun b o e hx => ?_, I.base.tups, I.base.frzs, I.base.tbls⟩, ⟨m, hn.sameBut hs (Ne.symm (cne x c hc)), fun j y v' e1 e2 e3 => ?_⟩, fun y c' e => ?_, I.free, I.freeC, fun p hp => ?_, tracked ⟨oc, hoc, I.freeC x c hc⟩ hs, by simpa using I.len⟩ ⟨c, hs, .inr hc⟩
    · exact (hs.2 b (Ar (zV (zM e) (I.ok.cab x c hfn hc)))).trans (I.base.keep b o e n hb hx)
    · obtain ⟨sl, e1⟩ := I.base.slot b o e n hb hx
      exact ⟨sl, (hs.2 b (Ar (zV (zM e) (I.ok.cab x c hfn hc)))).trans e1⟩
    · obtain ⟨o', e1⟩ := I.base.there b o e hx
      exact ⟨o', (hs.2 b (Ar (zV (zM e) (I.ok.cab x c hfn hc)))).trans e1⟩
    · by_cases hj : j=i
      · subst hj
        rw [hi] at e1;cases e1
        rw [Dj hiσ] at e2
        cases e2
        exact ⟨u, r, .inr ⟨.inl hk, c, hc, hc'⟩⟩
      · rw [List.getElem?_set_ne (Ne.symm hj)] at e2
        obtain ⟨u', r', q⟩ := hl j y v' e1 e2 e3
        refine ⟨u', r', ?_⟩
        rcases q with q | ⟨k, c', e, z'⟩
        · exact .inl q
        · refine .inr ⟨k, c', e, z'.sameBut hs ?_⟩
          rintro rfl
          exact hj (jc hN e1 (I.ok.inj _ _ _ e hc ▸ hi))
    · by_cases hcc : c'=c
      · subst hcc;exact ⟨_, hc'⟩
      · obtain ⟨w2, z2⟩ := I.cell y c' e
        exact ⟨w2, z2.sameBut hs hcc⟩
    · obtain ⟨e, n, ne, nf, d⟩ := I.pin p hp
      refine ⟨(hs.2 p.1 ?_).trans e, n, ne, nf, d⟩
      intro q
      rw [q, hoc] at e
      have q' : oc=p.2 := zD e
      exact d w' (by rw [← q'];exact hocd)
theorem fq {M : Model}{A : Around}{E : Value → Shared → Prop}{i : Nat}{x : Str}{v : V}{u : Value}{Q : Unit → Shared → Prop}(I : Inv X pins σ H s)(hN : X.N.Nodup)(hi : X.N[i]? = some x)(hx : Loc X.env.scope x)(r : bu v u)
    (h : ∀ s', Inv X pins (σ.set i (some v)) H s' → Q () s') (hf : X.fn x=true ∨ X.env.scope.names.lookup x=some .local := by first | exact .inl rfl | exact .inr rfl | assumption) : wpAny M A (storeName X.env x u) Q E s :=
  kA I hN hi hx r (fun s' I' _ => h s' I') hf
theorem Inv.call' {s' : Shared}{ch : List Addr}(I : Inv X pins σ H s)(ho : s'.os=s.os)(u : Un (frs X.stack) ch H H' s.heap s'.heap)(hok : HOk X.prog X.w H' s'.heap)(hg : AllBare s'.gens)
    (hch : ∀ b∈ch, (b∈X.ex ∨ X.s₀.heap.objs.size≤b) ∧ b≠X.env.locals ∧ (∀ x c, X.env.cells.lookup x=some c → c≠b) ∧ ∀ p∈X.pn++pins, p.1≠b) : Inv X pins σ H' s' := by
  obtain ⟨h', g', d', t', o'⟩ := s'
  have e : o'=s.os := ho
  subst e
  exact I.call (g' := g') (t' := t') (d' := d') u hok hg hch
end
abbrev XK := Value → Option Addr → Hp → Prop
abbrev St := List (Option V)
abbrev VK := V → Hp → Prop
abbrev TE := St → Hp → VK → Prop
abbrev TT := St → Hp → (Bool → Hp → Prop) → Prop
abbrev TA := St → Hp → (List V → Hp → Prop) → Prop
structure iq where
  nx : St → Hp → Prop
  rt : VK
  bk : St → Hp → Prop := fun _ _ => False
  ct : St → Hp → Prop := fun _ _ => False
abbrev TS := iq → St → Hp → Prop
def EP (X : Cx)(pins : List (Addr × Obj))(σ : St)(Q : VK)(u : Value)(s' : Shared) : Prop := ∃ v H', Inv X pins σ H' s' ∧ bu v u ∧ Q v H'
def TP (X : Cx)(pins : List (Addr × Obj))(σ : St)(Q : Bool → Hp → Prop)(b : Bool)(s' : Shared) : Prop := ∃ H', Inv X pins σ H' s' ∧ Q b H'
def AP (X : Cx)(pins : List (Addr × Obj))(σ : St)(Q : List V → Hp → Prop)(us : List Value)(s' : Shared) : Prop := ∃ vs H', Inv X pins σ H' s' ∧ aU vs us ∧ Q vs H'
def SP (X : Cx)(pins : List (Addr × Obj))(D : iq)(f : Flow)(s' : Shared) : Prop :=
  match f with
  | .next => ∃ σ' H', Inv X pins σ' H' s' ∧ D.nx σ' H'
  | .brk => ∃ σ' H', Inv X pins σ' H' s' ∧ D.bk σ' H'
  | .cont => ∃ σ' H', Inv X pins σ' H' s' ∧ D.ct σ' H'
  | .ret u => ∃ v σ' H', Inv X pins σ' H' s' ∧ bu v u ∧ D.rt v H'
def PE (X : Cx)(e : Expr)(t : TE) : Prop :=
  ∀ (pins : List (Addr × Obj)) (s : Shared) (σ : St) (H : Hp) (Q : VK), Inv X pins σ H s → t σ H Q → wpAny (model X.prog X.w) X.A (eval e X.env) (EP X pins σ Q) X.xe s
def PT (X : Cx)(e : Expr)(t : TT) : Prop :=
  ∀ (pins : List (Addr × Obj)) (s : Shared) (σ : St) (H : Hp) (Q : Bool → Hp → Prop), Inv X pins σ H s → t σ H Q → wpAny (model X.prog X.w) X.A (isTrue e X.env (eval e X.env)) (TP X pins σ Q) X.xe s
def PW (X : Cx)(e : Expr)(t : TT) : Prop :=
  ∀ (whole : Sem Value) (pins : List (Addr × Obj)) (s : Shared) (σ : St) (H : Hp) (Q : Bool → Hp → Prop), Inv X pins σ H s → t σ H Q → wpAny (model X.prog X.w) X.A (isTrue e X.env whole) (TP X pins σ Q) X.xe s
theorem PW.pt {X : Cx}{e : Expr}{t : TT}(h : PW X e t) : PT X e t := h _
def PA (X : Cx)(es : List Expr)(t : TA) : Prop :=
  ∀ (pos : Pos) (pins : List (Addr × Obj)) (s : Shared) (σ : St) (H : Hp) (Q : List V → Hp → Prop), Inv X pins σ H s → t σ H Q → wpAny (model X.prog X.w) X.A (spliced (backTo pos (starEach es X.env))) (AP X pins σ Q) X.xe s
def PS (X : Cx)(st : Stmt)(t : TS) : Prop :=
  ∀ (pins : List (Addr × Obj)) (s : Shared) (σ : St) (H : Hp) (D : iq), Inv X pins σ H s → t D σ H → wpAny (model X.prog X.w) X.A (exec st X.env) (SP X pins D) X.xe s
def PSs (X : Cx)(st : List Stmt)(t : TS) : Prop :=
  ∀ (pins : List (Addr × Obj)) (s : Shared) (σ : St) (H : Hp) (D : iq), Inv X pins σ H s → t D σ H → wpAny (model X.prog X.w) X.A (execs st X.env) (SP X pins D) X.xe s
theorem thn {α : Type}{t : Sem α}{Q Q' : α → Shared → Prop}{M : Model}{A : Around}{E : Value → Shared → Prop}{s : Shared}(h : wpAny M A t Q E s)(hQ : ∀ a s, Q a s → Q' a s) : wpAny M A t Q' E s := A2 h hQ fun _ _ x => x
section
variable {X : Cx}
inductive wA (i : Nat)(σ : St)(H : Hp)(Q : VK) : Prop
  | mk : ∀ v, (σ[i]? = some (some v)) → (Q v H) → wA i σ H Q
def tC (v : V) : TE := fun _ H Q => Q v H
theorem uh {i : Nat}{x : Str}{pos : Pos}(hN : X.N[i]? = some x)(hv : Vis X.env.scope x)(hd : (x == ("__debug__" : Str))=false := by decide)(hcd : (x == ("__classdict__" : Str))=false := by decide) : PE X (.Name x pos) (wA i) := by
  intro pins s σ H Q I h
  obtain ⟨v, e, h⟩ := h
  obtain ⟨m, hn, hl⟩ := I.loc
  obtain ⟨u, r, l⟩ := hl i x v hN e hv
  have fin : EP X pins σ Q u s := ⟨v, H, I, r, h⟩
  rcases l with ⟨hk, hm⟩ | ⟨hk, c, hc, hcell⟩
  · exact wpAny_Name (wpAny_loadName_local I.ok.kind hk hn hm fin) hd
  · rcases hk with hk | hk
    · exact wpAny_Name (wpAny_loadName_cell I.ok.kind hk hc hcell fin) hd
    · exact wpAny_Name (wpAny_loadName_free I.ok.kind hk hc hcell fin hcd) hd
theorem ai {i j pos} : PE X (.Constant (.int i) j pos) (tC (.int i)) := fun _ _ _ H _ I h => wpAny_Constant_int ⟨.int i, H, I.tok _, ⟨_, rfl⟩, h⟩
theorem jV {b j pos} : PE X (.Constant (.bool b) j pos) (tC (.bl b)) := fun _ _ _ H _ I h => Constant_bool ⟨.bl b, H, I, rfl, h⟩
theorem aJ {x j pos} : PE X (.Constant (.str x) j pos) (tC (.str x)) := fun _ _ _ H _ I h => Calls.Constant_str ⟨.str x, H, I.tok _, ⟨_, rfl⟩, h⟩
def Gl (X : Cx)(x : Str) : Prop := X.env.kindOf x=some .globalImplicit
theorem ir {E : Value → Shared → Prop}{pins : List (Addr × Obj)}{s : Shared}{σ : St}{H : Hp}{x : Str}{u : Value}{pos : Pos}{Q : Value → Shared → Prop}(I : Inv X pins σ H s)(hg : Gl X x)(hm : X.mg x=some u)(h : Q u s)
    (hd : (x == ("__debug__" : Str))=false := by decide) : wpAny (model X.prog X.w) X.A (eval (.Name x pos) X.env) Q E s :=
  CB I.ok.kind hg (Calls.loadGlobal_global (by rw [I.ok.glob];exact I.mod.glob.keeps I.bk) hm h) hd
theorem gK {E : Value → Shared → Prop}{pins : List (Addr × Obj)}{s : Shared}{σ : St}{H : Hp}{x : Str}{u : Value}{pos : Pos}{Q : Value → Shared → Prop}(I : Inv X pins σ H s)(hg : Gl X x)(hm : X.mg x=none)(hv : bootBuiltins x=some u)(h : Q u s)
    (hn : x ≠ "__name__" := by decide) (hd : (x == ("__debug__" : Str))=false := by decide) : wpAny (model X.prog X.w) X.A (eval (.Name x pos) X.env) Q E s := by
  obtain ⟨mb, h1, h2⟩ := I.mod.blt
  exact CB I.ok.kind hg (Calls.loadGlobal_builtin (by rw [I.ok.glob];exact I.mod.glob.keeps I.bk) hm (by rw [I.ok.blt];exact h1.keeps I.bk) ((h2 x hn).trans hv) h) hd
theorem kC {x : Str}{v : V}{u : Value}{pos : Pos}(hg : Gl X x)(hm : X.mg x=some u)(r : bu v u)(hd : (x == ("__debug__" : Str))=false := by decide) : PE X (.Name x pos) (tC v) :=
  fun _ _ _ H _ I h => ir I hg hm ⟨v, H, I, r, h⟩ hd
variable {a b : Expr} {ta tb : TE} {pos : Pos}
inductive IsB (x : V)(H : Hp)(Q : Bool → Hp → Prop) : Prop
  | mk : ∀ c, (x = .bl c) → (Q c H) → IsB x H Q
variable {tA tB' : TT} {rest : List Expr}
def qQ (u : TT)(σ : St)(Q : (Bool → Hp → Prop)) : Bool → Hp → Prop := fun c H1 => if c=true then u σ H1 Q else Q false H1
def yC (t u : TT) : TT := fun σ H Q => t σ H (qQ u σ Q)
def p5 (u : TT)(σ : St)(Q : (Bool → Hp → Prop)) : Bool → Hp → Prop := fun c H1 => if c=true then Q true H1 else u σ H1 Q
def tOr (t u : TT) : TT := fun σ H Q => t σ H (p5 u σ Q)
def ft (Q : (Bool → Hp → Prop)) : Bool → Hp → Prop := fun c H1 => Q (!c) H1
def yD (t : TT) : TT := fun σ H Q => t σ H (ft Q)
theorem kD (ha : PT X a tA) : PW X (.BoolOp .And [a] pos) tA := by
  intro wh pins s σ H Q I h
  refine isTrue_and (thn (ha pins s σ H Q I h) fun c s1 e => ?_)
  cases c with
  | true => exact isTrue_and_nil e
  | false => exact e
theorem uk (ha : PT X a tA) : PW X (.BoolOp .Or [a] pos) tA := by
  intro wh pins s σ H Q I h
  refine isTrue_or (thn (ha pins s σ H Q I h) fun c s1 e => ?_)
  cases c with
  | false => exact isTrue_or_nil e
  | true => exact e
theorem p7 (ha : PT X a tA)(hb : PW X (.BoolOp .And (b::rest) pos) tB') : PW X (.BoolOp .And (a::b::rest) pos) (yC tA tB') := by
  intro wh pins s σ H Q I h
  refine isTrue_and (thn (ha pins s σ H _ I h) fun c s1 zq7 => ?_)
  obtain ⟨H1, I1, q1⟩ := zq7
  cases c with
  | true => exact hb wh pins s1 σ H1 Q I1 q1
  | false => exact ⟨H1, I1, q1⟩
theorem wB (ha : PT X a tA)(hb : PW X (.BoolOp .Or (b::rest) pos) tB') : PW X (.BoolOp .Or (a::b::rest) pos) (tOr tA tB') := by
  intro wh pins s σ H Q I h
  refine isTrue_or (thn (ha pins s σ H _ I h) fun c s1 zq8 => ?_)
  obtain ⟨H1, I1, q1⟩ := zq8
  cases c with
  | true => exact ⟨H1, I1, q1⟩
  | false => exact hb wh pins s1 σ H1 Q I1 q1
theorem p8 (ha : PT X a tA) : PT X (.UnaryOp .Not a pos) (yD tA) := by
  intro pins s σ H Q I h
  exact isTrue_not (ha pins s σ H (fun c H1 => Q (!c) H1) I h)
def kE (ta : TE)(tb : TE)(σ : St)(Q : VK) : Bool → Hp → Prop := fun c H1 => if c=true then ta σ H1 Q else tb σ H1 Q
def tIf (t : TT)(ta tb : TE) : TE := fun σ H Q => t σ H (kE ta tb σ Q)
theorem cT {c : Expr}(hc : PT X c tA)(ha : PE X a ta)(hb : PE X b tb) : PE X (.IfExp c a b pos) (tIf tA ta tb) := by
  intro pins s σ H Q I h
  refine wpAny_IfExp (thn (hc pins s σ H _ I h) fun d s1 zq12 => ?_)
  obtain ⟨H1, I1, q1⟩ := zq12
  cases d with
  | true => exact ha pins s1 σ H1 Q I1 q1
  | false => exact hb pins s1 σ H1 Q I1 q1
end
def SqL (K : PySem.W.Frag)(H : Hp)(a : Addr)(xs : List V) : Prop :=
  Rd H a (.lst xs) ∨
    ∃ (o : Obj) (its : Array Value) (n : Nat), K.lookup a=some o ∧ o.cls = .type "list" ∧ o.dict=none ∧ o.data = .seq its n ∧ its.size≤sizeLine ∧ aU xs its.toList
def SqT (K : PySem.W.Frag)(H : Hp)(a : Addr)(xs : List V) : Prop :=
  Rd H a (.tup xs) ∨
    ∃ (o : Obj) (its : Array Value) (n : Nat), K.lookup a=some o ∧ o.cls = .type "tuple" ∧ o.data = .seq its n ∧ its.size≤sizeLine ∧ aU xs its.toList
def yE : Value → Option V
  | .none => some .non
  | .bool b => some (.bl b)
  | .int i _ => some (.int i)
  | .str x _ => some (.str x)
  | .bytes b _ => some (.byt b)
  | .float b _ => some (.flt b)
  | .ref a => some (.ref a)
  | .type n => some (.ty n)
  | _ => none
theorem bu.abs {x : V}{u : Value}(r : bu x u) : yE u=some x := by
  cases x with
  | non => cases r;rfl
  | bl _ => cases r;rfl
  | int _ => obtain ⟨t, rfl⟩ := r;rfl
  | str _ => obtain ⟨t, rfl⟩ := r;rfl
  | byt _ => obtain ⟨t, rfl⟩ := r;rfl
  | flt _ => obtain ⟨t, rfl⟩ := r;rfl
  | ref _ => cases r;rfl
  | ty _ => cases r;rfl
theorem bu.inj {x y : V}{u : Value}(r : bu x u)(q : bu y u) : x=y := zD (r.abs.symm.trans q.abs)
theorem aU.inj : ∀ {xs ys : List V} {us : List Value}, aU xs us → aU ys us → xs=ys
  | _, _, _, .nil, .nil => rfl
  | _, _, _, .cons r t, .cons r' t' => by rw [r.inj r', aU.inj t t']
section
variable {X : Cx} {pins : List (Addr × Obj)} {σ : St} {H : Hp} {s : Shared} {a : Addr} {xs ys : List V}
theorem SqL.of {K : PySem.W.Frag}(h : H a=some (.lst xs)) : SqL K H a xs := .inl (.inl h)
theorem SqT.of {K : PySem.W.Frag}(h : H a=some (.tup xs)) : SqT K H a xs := .inl (.inl h)
theorem Inv.list (I : Inv X pins σ H s)(h : SqL X.K H a xs) : ∃ its : List Value, aU xs its ∧ PlainL s.heap a its.toArray ∧ xs.length≤sizeLine := by
  rcases h with h | ⟨o, its, n, hk, hc, hd, hs, hz, r⟩
  · obtain ⟨z, its, n, r, e⟩ := h.ok I.hok
    exact ⟨its, r, ⟨_, n, e, rfl, rfl, rfl⟩, z⟩
  · refine ⟨its.toList, r, ⟨o, n, I.kIn a o hk, hc, hd, by simpa using hs⟩, ?_⟩
    have e := r.length
    simp only [zk] at e
    omega
theorem Inv.tuple (I : Inv X pins σ H s)(h : SqT X.K H a xs) : ∃ its : List Value, aU xs its ∧ IsTup s.heap a its.toArray ∧ xs.length≤sizeLine := by
  rcases h with h | ⟨o, its, n, hk, hc, hs, hz, r⟩
  · obtain ⟨z, its, r, p, _⟩ := h.ok I.hok
    exact ⟨its, r, p, z⟩
  · refine ⟨its.toList, r, ⟨o, I.kIn a o hk, hc, n, by simpa using hs⟩, ?_⟩
    have e := r.length
    simp only [zk] at e
    omega
theorem Inv.list_inj (I : Inv X pins σ H s)(h : SqL X.K H a xs)(h' : SqL X.K H a ys) : xs=ys := by
  obtain ⟨its, r, ⟨o, n, e, _, _, d⟩, _⟩ := I.list h
  obtain ⟨its', r', ⟨o', n', e', _, _, d'⟩, _⟩ := I.list h'
  rw [e] at e';cases e'
  rw [d] at d'
  injection d' with d1 _
  have : its=its' := by simpa using zR Array.toList d1
  subst this
  exact r.inj r'
theorem Inv.tuple_inj (I : Inv X pins σ H s)(h : SqT X.K H a xs)(h' : SqT X.K H a ys) : xs=ys := by
  obtain ⟨its, r, ⟨o, e, _, n, d⟩, _⟩ := I.tuple h
  obtain ⟨its', r', ⟨o', e', _, n', d'⟩, _⟩ := I.tuple h'
  rw [e] at e';cases e'
  rw [d] at d'
  injection d' with d1 _
  have : its=its' := by simpa using zR Array.toList d1
  subst this
  exact r.inj r'
end
abbrev Cx.wish (X : Cx)(E : Value → Shared → Prop) : Cx := { X with xe := E }
abbrev Cx.nox (X : Cx) : Cx := X.wish fun _ _ => False
theorem Cx.Ok.wish {X : Cx}(ok : X.Ok)(E : Value → Shared → Prop) : (X.wish E).Ok :=
  ⟨ok.mod, ok.kind, ok.glob, ok.blt, ok.above, ok.inj, ok.has, ok.cab, ok.hd, ok.frames, ok.stk, ok.exf, ok.bs, ok.bsz, ok.noex, ok.exfs, ok.funs, ok.frf⟩
theorem Cx.Ok.unwish {X : Cx}{E : Value → Shared → Prop}(ok : (X.wish E).Ok) : X.Ok :=
  ⟨ok.mod, ok.kind, ok.glob, ok.blt, ok.above, ok.inj, ok.has, ok.cab, ok.hd, ok.frames, ok.stk, ok.exf, ok.bs, ok.bsz, ok.noex, ok.exfs, ok.funs, ok.frf⟩
section
variable {X : Cx} {pins : List (Addr × Obj)} {σ : St} {H : Hp} {s : Shared} {E : Value → Shared → Prop}
theorem Inv.wish (I : Inv X pins σ H s)(E : Value → Shared → Prop) : Inv (X.wish E) pins σ H s := ⟨I.ok.wish E, I.os, I.bare, I.base, I.loc, I.cell, I.free, I.freeC, I.pin, I.hok, I.len⟩
theorem Inv.unwish (I : Inv (X.wish E) pins σ H s) : Inv X pins σ H s := ⟨I.ok.unwish, I.os, I.bare, I.base, I.loc, I.cell, I.free, I.freeC, I.pin, I.hok, I.len⟩
theorem SP.unwish {D : iq}{f : Flow}{s' : Shared}(h : SP (X.wish E) pins D f s') : SP X pins D f s' := by
  cases f with
  | next => obtain ⟨σ', H', I, q⟩ := h;exact ⟨σ', H', I.unwish, q⟩
  | brk => obtain ⟨σ', H', I, q⟩ := h;exact ⟨σ', H', I.unwish, q⟩
  | cont => obtain ⟨σ', H', I, q⟩ := h;exact ⟨σ', H', I.unwish, q⟩
  | ret u => obtain ⟨v, σ', H', I, r, q⟩ := h;exact ⟨v, σ', H', I.unwish, r, q⟩
theorem PSs.nox {st : List Stmt}{t : TS}(h : PSs X.nox st t) : PSs X st t := fun pins s σ H D I hw =>
  A2 (h pins s σ H D (I.wish _) hw) (fun _ _ q => q.unwish) fun _ _ z => False.elim z
end
section
variable {X : Cx} {st : Stmt} {rest : List Stmt} {t u : TS} {e : Expr} {te : TE} {pos : Pos}
def wC : TS := fun D σ H => D.nx σ H
def yf (t u : TS) : TS := fun D σ H => t { D with nx := u D } σ H
theorem bb : PSs X [] wC := fun _ _ σ H _ I h => Cp ⟨σ, H, I, h⟩
theorem ag (h1 : PS X st t)(h2 : PSs X rest u) : PSs X (st::rest) (yf t u) := by
  intro pins s σ H D I h
  refine wpAny_execs_cons (thn (h1 pins s σ H { D with nx := u D } I h) fun f s1 q => ?_)
  cases f with
  | next =>
    obtain ⟨σ', H', I', q⟩ := q
    exact h2 pins s1 σ' H' D I' q
  | ret v => exact q
  | brk => exact q
  | cont => exact q
theorem aj (h1 : PS X st t) : PSs X [st] t := by
  intro pins s σ H D I h
  refine wpAny_execs_cons (thn (h1 pins s σ H D I h) fun f s1 q => ?_)
  cases f with
  | next => exact Cp q
  | ret v => exact q
  | brk => exact q
  | cont => exact q
theorem Inv.quiet {pins : List (Addr × Obj)}{σ : St}{H : Hp}{s : Shared}(I : Inv X pins σ H s) : interactive X.env=false := by simp [interactive, I.ok.kind]
def oo (D : iq)(σ : St) : V → Hp → Prop := fun _ H1 => D.nx σ H1
def wD (te : TE) : TS := fun D σ H => te σ H (oo D σ)
theorem d5 (he : PE X e te)(hs : swapsWith e none pos.line X.env=pure false := by rfl) : PS X (.Expr e pos) (wD te) := by
  intro pins s σ H D I h
  exact wpAny_Expr_any (thn (he pins s σ H _ I h) fun v s1 zq15 => (by obtain ⟨x, H1, I1, r1, q1⟩ := zq15;exact ⟨σ, H1, I1, q1⟩)) I.quiet hs
def yF (te : TE) : TS := fun D σ H => te σ H D.rt
theorem aH (he : PE X e te) : PS X (.Return (some e) pos) (yF te) := by
  intro pins s σ H D I h
  exact wpAny_Return_some (thn (he pins s σ H _ I h) fun v s1 zq16 => (by obtain ⟨x, H1, I1, r1, q1⟩ := zq16;exact ⟨x, σ, H1, I1, r1, q1⟩))
def cK (t : TS)(u : TS)(D : iq)(σ : St) : Bool → Hp → Prop := fun b H1 => if b=true then t D σ H1 else u D σ H1
def yG (c : TT)(t u : TS) : TS := fun D σ H => c σ H (cK t u D σ)
theorem bX {c : Expr}{a b : List Stmt}{tc : TT}(hc : PT X c tc)(ha : PSs X a t)(hb : PSs X b u) : PS X (.If c a b pos) (yG tc t u) := by
  intro pins s σ H D I h
  refine wpAny_If (thn (hc pins s σ H _ I h) fun d s1 zq17 => ?_)
  obtain ⟨H1, I1, q1⟩ := zq17
  cases d with
  | true => exact ha pins s1 σ H1 D I1 q1
  | false => exact hb pins s1 σ H1 D I1 q1
def um : TS := fun _ _ _ => False
theorem fv : PS X st um := fun _ _ _ _ _ _ h => h.elim
end
abbrev TG := V → St → Hp → (St → Hp → Prop) → Prop
def PG (X : Cx)(target : Expr)(t : TG) : Prop :=
  ∀ (pins : List (Addr × Obj)) (s : Shared) (σ : St) (H : Hp) (v : V) (u : Value) (Q : St → Hp → Prop), Inv X pins σ H s → bu v u → t v σ H Q →
    wpAny (model X.prog X.w) X.A (assign target X.env u) (fun _ s' => ∃ σ' H', Inv X pins σ' H' s' ∧ Q σ' H') X.xe s
abbrev TIp := V → V → Hp → VK → Prop
def PIp (X : Cx)(op : Operator)(t : TIp) : Prop :=
  ∀ (pins : List (Addr × Obj)) (s : Shared) (σ : St) (H : Hp) (x y : V) (v u : Value) (Q : VK), Inv X pins σ H s → bu x v → bu y u → t x y H Q →
    wpAny (model X.prog X.w) X.A (inplaceOp op v u) (EP X pins σ Q) X.xe s
section
variable {X : Cx} {pos : Pos}
def kF (i : Nat) : TG := fun v σ H Q => Q (σ.set i (some v)) H
theorem bf {i : Nat}{x : Str}(hN : X.N.Nodup)(hi : X.N[i]? = some x)(hx : Loc X.env.scope x)(hf : X.fn x=true ∨ X.env.scope.names.lookup x=some .local := by first | exact .inl rfl | exact .inr rfl | assumption) : PG X (.Name x pos) (kF i) := by
  intro pins s σ H v u Q I r h
  exact wpAny_assign_Name (fq I hN hi hx r (fun s' I' => ⟨_, H, I', h⟩) hf)
def fw (g : TG)(D : iq)(σ : St) : V → Hp → Prop := fun x H1 => g x σ H1 D.nx
def yg (te : TE)(g : TG) : TS := fun D σ H => te σ H (fw g D σ)
theorem au {i : Nat}{x : Str}{e : Expr}{te : TE}{pos' : Pos}(hN : X.N.Nodup)(hi : X.N[i]? = some x)(hx : Loc X.env.scope x)(he : PE X e te)(hs : swapsWith e (some (.Name x pos')) pos.line X.env=pure false := by rfl)(hf : X.fn x=true ∨ X.env.scope.names.lookup x=some .local := by first | exact .inl rfl | exact .inr rfl | assumption) :
    PS X (.Assign [.Name x pos'] e pos) (yg te (kF i)) := by
  intro pins s σ H D I h
  refine wpAny_Assign_Name (thn (he pins s σ H _ I h) fun v s1 zq23 => ?_) hs
  obtain ⟨y, H1, I1, r1, q1⟩ := zq23
  exact fq I1 hN hi hx r1 (fun s2 I2 => ⟨_, H1, I2, q1⟩) hf
inductive yh (i : Nat)(te : TE)(ti : TIp)(D : iq)(σ : St)(H : Hp) : Prop
  | mk : ∀ x, (σ[i]? = some (some x)) → (te σ H fun y H1 => ti x y H1 fun z H2 => D.nx (σ.set i (some z)) H2) → yh i te ti D σ H
theorem uo {i : Nat}{x : Str}{e : Expr}{te : TE}{op : Operator}{ti : TIp}{pos' : Pos}(hN : X.N.Nodup)(hi : X.N[i]? = some x)(hx : Loc X.env.scope x)(he : PE X e te)(ho : PIp X op ti)(hf : X.fn x=true ∨ X.env.scope.names.lookup x=some .local := by first | exact .inl rfl | exact .inr rfl | assumption) :
    PS X (.AugAssign (.Name x pos') op e pos) (yh i te ti) := by
  intro pins s σ H D I h
  obtain ⟨v, e1, h⟩ := h
  obtain ⟨m, hn, hl⟩ := I.loc
  have vis : Vis X.env.scope x := by rcases hx with k | k;exact .inl k;exact .inr (.inl k)
  obtain ⟨u, r, l⟩ := hl i x v hi e1 vis
  refine wpAny_AugAssign_Name ?_
  have go : wpAny (model X.prog X.w) X.A (eval e X.env) (fun w s₂ => wpAny (model X.prog X.w) X.A (inplaceOp op u w) (fun r s₃ => wpAny (model X.prog X.w) X.A (storeName X.env x r) (fun _ => SP X pins D .next) X.xe s₃) X.xe s₂) X.xe s := by
    refine thn (he pins s σ H _ I h) fun w s1 zq25 => ?_
    obtain ⟨y, H1, I1, r1, q1⟩ := zq25
    refine thn (ho pins s1 σ H1 v y u w _ I1 r r1 q1) fun z s2 zq26 => ?_
    obtain ⟨zv, H2, I2, r2, q2⟩ := zq26
    exact fq I2 hN hi hx r2 (fun s3 I3 => ⟨_, H2, I3, q2⟩) hf
  rcases l with ⟨hk, hm⟩ | ⟨hk, c, hc, hcell⟩
  · exact wpAny_loadName_local I.ok.kind hk hn hm go
  · rcases hk with hk | hk
    · exact wpAny_loadName_cell I.ok.kind hk hc hcell go
    · rcases hx with k | k
      · have : X.env.scope.names.lookup x=some .free := hk
        rw [k] at this;cases this
      · have : X.env.scope.names.lookup x=some .free := hk
        rw [k] at this;cases this
def ipI (f : Int → Int → Int) : TIp := fun x y H Q => ∃ i j, x = .int i ∧ y = .int j ∧ Q (.int (f i j)) H
theorem uq : PIp X .Add (ipI fun i j => i+j) := by
  intro pins s σ H x y v u Q I r1 r2 h
  obtain ⟨i, j, e1, e2, q⟩ := h
  subst e1;subst e2
  obtain ⟨t, rfl⟩ := r1
  obtain ⟨t', rfl⟩ := r2
  exact iadd_int ⟨.int _, H, I.tok _, ⟨_, rfl⟩, q⟩
def ur (c : TT)(tb : TS) : TS := fun D σ H => ∃ W : Nat → St → Hp → Prop, (∃ m, W m σ H) ∧ ∀ m σ H, W m σ H →
  c σ H fun b H1 => if b=true then ∃ N : St → Hp → Prop, (∀ σ' H', N σ' H' → ∃ m', m' < m ∧ W m' σ' H') ∧ tb { D with nx := N, ct := N, bk := D.nx } σ H1 else D.nx σ H1
theorem fx {c : Expr}{body : List Stmt}{tc : TT}{tb : TS}(hp : PassesOwn (model X.prog X.w) X.A X.env X.xe)(hc : PT X c tc)(hb : PSs X body tb) : PS X (.While c body [] pos) (ur tc tb) := by
  intro pins s σ H D I h
  obtain ⟨W, ⟨m0, w0⟩, turn⟩ := h
  refine wpAny_While (codeAny_whileLoop (fun n s' => ∃ σ' H', Inv X pins σ' H' s' ∧ W n σ' H') ?_ m0 ⟨σ, H, I, w0⟩)
  rintro n s1 ⟨σ1, H1, I1, w1⟩
  refine Bb hp (thn (hc pins s1 σ1 H1 _ I1 (turn n σ1 H1 w1)) fun b s2 zq33 => ?_)
  obtain ⟨H2, I2, q2⟩ := zq33
  cases b with
  | true =>
    obtain ⟨N, hN, q2⟩ := q2
    rw [if_pos rfl]
    refine Bb hp (thn (hb pins s2 σ1 H2 _ I2 q2) fun f s3 q3 => ?_)
    cases f with
    | next =>
      obtain ⟨σ3, H3, I3, n3⟩ := q3
      obtain ⟨m', hm, w3⟩ := hN σ3 H3 n3
      exact ⟨m', hm, σ3, H3, I3, w3⟩
    | cont =>
      obtain ⟨σ3, H3, I3, n3⟩ := q3
      obtain ⟨m', hm, w3⟩ := hN σ3 H3 n3
      exact ⟨m', hm, σ3, H3, I3, w3⟩
    | brk => exact q3
    | ret v => exact q3
  | false =>
    rw [if_neg zT]
    exact Cp ⟨σ1, H2, I2, q2⟩
end
structure It where
  go : Nat → Hp → Prop
  yld : Nat → Hp → V → Hp → Prop
  stop : Nat → Hp → Prop
def kG (X : Cx)(pins : List (Addr × Obj))(H : Hp)(b : Addr) : Prop :=
  H b=none ∧ b≠X.env.locals ∧ b∉X.fs ∧ (b∈X.ex ∨ X.s₀.heap.objs.size≤b) ∧ (∀ x c, X.env.cells.lookup x=some c → c≠b) ∧ ∀ p∈X.pn++pins, p.1≠b
theorem Inv.fpOk {X : Cx}{pins : List (Addr × Obj)}{σ : St}{H H' : Hp}{s : Shared}{b : Addr}(I : Inv X pins σ H s)(hb : s.heap.objs.size≤b)(hn : H' b=none) : kG X pins H' b := by
  refine ⟨hn, DC (zV I.lt hb), I.nofs hb, .inr (Ay I.sz hb), fun x c e z => ?_, fun p hp z => ?_⟩
  · obtain ⟨v, q⟩ := I.cell x c e
    exact absurd (zV q.lt (by rw [z];exact hb)) (AL _)
  · exact absurd (zV (zM (I.pin p hp).1) (by rw [z];exact hb)) (AL _)
structure uu (P : Program) (w : World) (K : PySem.W.Frag) (tg : Expr) (J : It) (fp : List Addr) (it : Addr) (tn : Nat → Heap → Prop) : Prop where
  mem : it∈fp
  obj : ∀ i h, tn i h → ∀ b∈fp, ∃ o, h.get? b=some o ∧ ∀ v, o.data ≠ .cell v
  keep : ∀ i h h', tn i h → (∀ b∈fp, ∀ o, h.get? b=some o → h'.get? b=some o) → tn i h'
  item : ∀ (X : Cx), X.prog=P → X.w=w → X.K=K → X.calm=true → ∀ (i : Nat) (pins : List (Addr × Obj)) (s : Shared) (σ : St) (H : Hp) (E : Value → Shared → Prop), Inv X pins σ H s → (∀ b∈fp, kG X pins H b) → tn i s.heap → J.go i H →
    wpAny (model P w) X.A (pyNext (.ref it)) (fun r s1 => ∃ u, r=some u ∧
      wpAny (model P w) X.A (letOwnedTupleGo tg (.ref it) u) (fun _ s2 => ∃ x H', Inv X pins σ H' s2 ∧ bu x u ∧ J.yld i H x H' ∧ tn (i+1) s2.heap ∧ ∀ b∈fp, H' b=none) E s1) E s
  done : ∀ (X : Cx), X.prog=P → X.w=w → X.K=K → X.calm=true → ∀ (i : Nat) (pins : List (Addr × Obj)) (s : Shared) (σ : St) (H : Hp) (E : Value → Shared → Prop), Inv X pins σ H s → (∀ b∈fp, kG X pins H b) → tn i s.heap → J.stop i H →
    wpAny (model P w) X.A (pyNext (.ref it)) (fun r s1 => r=none ∧ Inv X pins σ H s1) E s
  self : ∀ (A : Around) (i : Nat) (s : Shared) (Q : Value → Shared → Prop) (E : Value → Shared → Prop), tn i s.heap → Q (.ref it) s → wpAny (model P w) A (pyIter (.ref it)) Q E s
abbrev TI := St → Hp → (It → Hp → Prop) → Prop
def PIE (X : Cx)(pins : List (Addr × Obj))(σ : St)(tg : Expr)(R : It → Hp → Prop)(itv : Value)(s2 : Shared) : Prop :=
  ∃ (it : Addr) (fp : List Addr) (tn : Nat → Heap → Prop) (J : It) (H' : Hp), itv = .ref it ∧ Inv X pins σ H' s2 ∧ uu X.prog X.w X.K tg J fp it tn ∧ tn 0 s2.heap ∧ (∀ b∈fp, kG X pins H' b) ∧ R J H'
def PI (X : Cx)(tg iter : Expr)(wi : TI) : Prop :=
  ∀ (pins : List (Addr × Obj)) (s : Shared) (σ : St) (H : Hp) (R : It → Hp → Prop), Inv X pins σ H s → wi σ H R →
    wpAny (model X.prog X.w) X.A (eval iter X.env) (fun v s1 => wpAny (model X.prog X.w) X.A (pyIter v) (PIE X pins σ tg R) X.xe s1) X.xe s
theorem oq {M : Model}{A : Around}{E : Value → Shared → Prop}{s : Shared}{tg : Expr}{it : Addr}{u : Value}{o : Obj}{n : String}{vs : Array Value}{Q : Unit → Shared → Prop}(ho : s.heap.get? it=some o)(hc : o.cls = .type n)(hd : o.data = .fields vs)
    (hn : ["enumerate", "zip", "dict_itemiterator", "dict_reverseitemiterator", "odict_iterator", "itertools.zip_longest", "itertools.pairwise"].contains n=false) (hQ : Q () s) : wpAny M A (letOwnedTupleGo tg (.ref it) u) Q E s := by
  unfold letOwnedTupleGo
  cases tg <;> first
    | exact zJ hQ
    | (cases u <;> first
        | exact zJ hQ
        | (refine zl (wpAny_load ho ?_)
           rw [hc, hd]
           show wpAny M A (if (["enumerate", "zip", "dict_itemiterator", "dict_reverseitemiterator", "odict_iterator", "itertools.zip_longest", "itertools.pairwise"].contains n && vs[0]? == some (rawInt _))=true then _ else _) Q E s
           rw [if_neg (by intro h;rw [hn, Ab] at h;cases h)]
           exact zJ hQ))
def Itl (K : PySem.W.Frag)(a : Addr) : It :=
  ⟨fun i H => ∃ xs x, SqL K H a xs ∧ xs[i]? = some x, fun i H x H' => H'=H ∧ ∀ xs, SqL K H a xs → xs[i]? = some x, fun i H => ∃ xs, SqL K H a xs ∧ xs.length≤i⟩
def Itt (K : PySem.W.Frag)(a : Addr) : It :=
  ⟨fun i H => ∃ xs x, SqT K H a xs ∧ xs[i]? = some x, fun i H x H' => H'=H ∧ ∀ xs, SqT K H a xs → xs[i]? = some x, fun i H => ∃ xs, SqT K H a xs ∧ xs.length≤i⟩
def Itr (lo : Int)(n : Nat) : It := ⟨fun i _ => i < n, fun i H x H' => H'=H ∧ x = .int (lo+i), fun i _ => n≤i⟩
theorem kH {P : Program}{w : World}{K : PySem.W.Frag}{tg : Expr}(a it : Addr) : uu P w K tg (Itl K a) [it] it (fun i h => h.IsListIter it a i) where
  mem := by simp
  obj := fun i h st b hb => by
    have e : b=it := by simpa using hb
    subst e
    obtain ⟨o, e, c, d⟩ := st
    exact ⟨o, e, fun v z => by rw [d] at z;cases z⟩
  keep := fun i h h' st k => st.at fun o e => k it (by simp) o e
  item := by
    intro X hP hw hK hc i pins s σ H E I hf st hg
    subst hP hw hK
    obtain ⟨xs, x, hq, hx⟩ := hg
    obtain ⟨its, rv, p, hz⟩ := I.list hq
    obtain ⟨u, hu, ru⟩ := rv.get hx
    obtain ⟨f0, f1, f2, f3, f4, f5⟩ := hf it (by simp)
    refine wpAny_pyNext_list_item st p.isList (x := u) (by simpa using hu) fun h' st' sb => ?_
    have I1 : Inv X pins σ H { s with heap := h' } := I.turned (t' := s.toks) (fun b o hb e => (sb.2 b hb).trans e) f0 f1 f3 f4 f5
    obtain ⟨o, e, c, d⟩ := id st'
    exact ⟨u, rfl, oq (s := { s with heap := h' }) e c d (by decide) ⟨x, H, I1, ru, ⟨rfl, fun ys hy => by rw [I.list_inj hy hq];exact hx⟩, st', fun b hb => (hf b hb).1⟩⟩
  done := by
    intro X hP hw hK hc i pins s σ H E I hf st hg
    subst hP hw hK
    obtain ⟨xs, hq, hx⟩ := hg
    obtain ⟨its, rv, p, hz⟩ := I.list hq
    obtain ⟨f0, f1, f2, f3, f4, f5⟩ := hf it (by simp)
    have hl := rv.length
    exact wpAny_pyNext_list_end (I.ok.hd hc) st p.isList (by simp;omega) fun h' eb => ⟨rfl, I.turned (t' := s.toks) (fun b o hb e => eb b o hb e) f0 f1 f3 f4 f5⟩
  self := fun _ _ _ _ _ st h => wpAny_pyIter_listiter st h
theorem jW {P : Program}{w : World}{K : PySem.W.Frag}{tg : Expr}(a it : Addr) : uu P w K tg (Itt K a) [it] it (fun i h => h.IsTupleIter it a i) where
  mem := by simp
  obj := fun i h st b hb => by
    have e : b=it := by simpa using hb
    subst e
    obtain ⟨o, e, c, d⟩ := st
    exact ⟨o, e, fun v z => by rw [d] at z;cases z⟩
  keep := fun i h h' st k => st.at fun o e => k it (by simp) o e
  item := by
    intro X hP hw hK hc i pins s σ H E I hf st hg
    subst hP hw hK
    obtain ⟨xs, x, hq, hx⟩ := hg
    obtain ⟨its, rv, p, hz⟩ := I.tuple hq
    obtain ⟨u, hu, ru⟩ := rv.get hx
    obtain ⟨f0, f1, f2, f3, f4, f5⟩ := hf it (by simp)
    refine wpAny_pyNext_tuple_item st (show s.heap.IsTuple a its.toArray from p) (x := u) (by simpa using hu) fun h' st' sb => ?_
    have I1 : Inv X pins σ H { s with heap := h' } := I.turned (t' := s.toks) (fun b o hb e => (sb.2 b hb).trans e) f0 f1 f3 f4 f5
    obtain ⟨o, e, c, d⟩ := id st'
    exact ⟨u, rfl, oq (s := { s with heap := h' }) e c d (by decide) ⟨x, H, I1, ru, ⟨rfl, fun ys hy => by rw [I.tuple_inj hy hq];exact hx⟩, st', fun b hb => (hf b hb).1⟩⟩
  done := by
    intro X hP hw hK hc i pins s σ H E I hf st hg
    subst hP hw hK
    obtain ⟨xs, hq, hx⟩ := hg
    obtain ⟨its, rv, p, hz⟩ := I.tuple hq
    obtain ⟨f0, f1, f2, f3, f4, f5⟩ := hf it (by simp)
    have hl := rv.length
    exact wpAny_pyNext_tuple_end (I.ok.hd hc) st (show s.heap.IsTuple a its.toArray from p) (by simp;omega) fun h' eb => ⟨rfl, I.turned (t' := s.toks) (fun b o hb e => eb b o hb e) f0 f1 f3 f4 f5⟩
  self := fun _ _ _ _ _ st h => wpAny_pyIter_tupleiter st h
theorem jX {P : Program}{w : World}{K : PySem.W.Frag}{tg : Expr}(it : Addr)(lo : Int)(n : Nat) : uu P w K tg (Itr lo n) [it] it (fun i h => IsRangeIter h it (lo+(i : Nat)*1) ((n : Int) - (i : Nat)) 1) where
  mem := by simp
  obj := fun i h st b hb => by
    have e : b=it := by simpa using hb
    subst e
    exact ⟨_, st, fun v z => by
      have z' : Data.fields _=Data.cell v := z
      cases z'⟩
  keep := fun i h h' st k => k it (by simp) _ st
  item := by
    intro X hP hw hK hc i pins s σ H E I hf st hg
    subst hP hw hK
    obtain ⟨f0, f1, f2, f3, f4, f5⟩ := hf it (by simp)
    have W := Walks.range (prog := X.prog) (w := X.w) (I.ok.hd hc) it lo 1 n
    refine W.item i s _ _ hg st fun v h' tk hv st' kk => ?_
    obtain ⟨t, rfl⟩ := hv
    have I1 : Inv X pins σ H { s with heap := h', toks := tk } := I.turned (fun b o hb e => kk b o (by simpa using hb) e) f0 f1 f3 f4 f5
    refine ⟨_, rfl, oq (s := { s with heap := h', toks := tk }) (n := "range_iterator") st' rfl rfl (by decide) ⟨.int (lo+i), H, I1, ⟨t, ?_⟩, ⟨rfl, rfl⟩, st', fun b hb => (hf b hb).1⟩⟩
    rw [Int.mul_one]
  done := by
    intro X hP hw hK hc i pins s σ H E I hf st hg
    subst hP hw hK
    obtain ⟨f0, f1, f2, f3, f4, f5⟩ := hf it (by simp)
    exact wpAny_pyNext_range_end (I.ok.hd hc) st (by have : n≤i := hg;omega) fun h' eb => ⟨rfl, I.turned (t' := s.toks) (fun b o hb e => eb b o hb e) f0 f1 f3 f4 f5⟩
  self := fun _ _ _ _ _ st h => wpAny_pyIter_rangeiter st h
section
variable {X : Cx} {tg : Expr}
def wF (K : PySem.W.Frag)(tl : TE) : TI := fun σ H R => tl σ H fun x H1 => ∃ a, x = .ref a ∧ (∃ xs, SqL K H1 a xs) ∧ R (Itl K a) H1
def yH (K : PySem.W.Frag)(tl : TE) : TI := fun σ H R => tl σ H fun x H1 => ∃ a, x = .ref a ∧ (∃ xs, SqT K H1 a xs) ∧ R (Itt K a) H1
theorem qR {l : Expr}{tl : TE}(hl : PE X l tl) : PI X tg l (wF X.K tl) := by
  intro pins s σ H R I h
  refine thn (hl pins s σ H _ I h) fun v s1 zq34 => ?_
  obtain ⟨x, H1, I1, r1, q1⟩ := zq34
  obtain ⟨a, e, ⟨xs, hq⟩, q⟩ := q1
  subst e
  cases r1
  obtain ⟨its, rv, p, hz⟩ := I1.list hq
  refine CO p.isList ?_
  refine ⟨s1.heap.objs.size, [s1.heap.objs.size], _, _, H1, rfl, I1.kept (t' := s1.toks) fun b o e => zq _ e, kH a _, ⟨_, zI _ rfl, rfl, rfl⟩, fun b hb => ?_, q⟩
  have e : b=s1.heap.objs.size := by simpa using hb
  subst e
  exact I1.fpOk (zA _) (I1.hok.fresh (zA _))
theorem uv {l : Expr}{tl : TE}(hl : PE X l tl) : PI X tg l (yH X.K tl) := by
  intro pins s σ H R I h
  refine thn (hl pins s σ H _ I h) fun v s1 zq35 => ?_
  obtain ⟨x, H1, I1, r1, q1⟩ := zq35
  obtain ⟨a, e, ⟨xs, hq⟩, q⟩ := q1
  subst e
  cases r1
  obtain ⟨its, rv, p, hz⟩ := I1.tuple hq
  refine wpAny_pyIter_tuple (show s1.heap.IsTuple a its.toArray from p) ?_
  refine ⟨s1.heap.objs.size, [s1.heap.objs.size], _, _, H1, rfl, I1.kept (t' := s1.toks) fun b o e => zq _ e, jW a _, ⟨_, zI _ rfl, rfl, rfl⟩, fun b hb => ?_, q⟩
  have e : b=s1.heap.objs.size := by simpa using hb
  subst e
  exact I1.fpOk (zA _) (I1.hok.fresh (zA _))
theorem jd {pins : List (Addr × Obj)}{σ : St}{H : Hp}{s : Shared}{R : It → Hp → Prop}{E : Value → Shared → Prop}{lo hi : Int}{t u v : Tok}{tk : Nat}(I : Inv X pins σ H s)(h1 : -(2 ^ 62)≤lo)(h2 : lo < 2 ^ 62)(h3 : -(2 ^ 62)≤hi)(h4 : hi < 2 ^ 62)
    (q : R (Itr lo (hi - lo).toNat) H) : wpAny (model X.prog X.w) X.A (pyIter (.ref s.heap.objs.size)) (PIE X pins σ tg R) E { s with heap := s.heap.push { cls := .type "range", data := .fields #[.int lo t, .int hi u, .int 1 v] }, toks := tk } := by
  refine wpAny_pyIter_range (IsRange.new ..) (small_one h1 h2 h3 h4) ?_
  have I1 : Inv X pins σ H { s with heap := s.heap.push { cls := .type "range", data := .fields #[.int lo t, .int hi u, .int 1 v] }, toks := tk } := I.kept fun b o e => zq _ e
  refine ⟨(s.heap.push { cls := .type "range", data := .fields #[.int lo t, .int hi u, .int 1 v] }).objs.size, [(s.heap.push { cls := .type "range", data := .fields #[.int lo t, .int hi u, .int 1 v] }).objs.size], _, _, H, rfl,
    I1.kept (t' := tk) fun b o e => zq _ e, jX _ lo (hi - lo).toNat, ?_, fun b hb => ?_, q⟩
  · have e1 : lo+((0 : Nat) : Int)*1=lo := by simp
    have e2 : (((hi - lo).toNat : Nat) : Int) - ((0 : Nat) : Int)=Builtin.Range.rangeSize lo hi 1 := by rw [rangeSize_one];split <;> omega
    show IsRangeIter _ _ (lo+((0 : Nat) : Int)*1) ((((hi - lo).toNat : Nat) : Int) - ((0 : Nat) : Int)) 1
    rw [e1, e2]
    exact zI _ rfl
  · have e : b=(s.heap.push { cls := .type "range", data := .fields #[.int lo t, .int hi u, .int 1 v] }).objs.size := by simpa using hb
    subst e
    exact I1.fpOk (zA _) (I1.hok.fresh (zA _))
def wG (ta : TA) : TI := fun σ H R => ta σ H fun vs H1 => ∃ j : Int, vs=[.int j] ∧ -(2 ^ 62)≤j ∧ j < 2 ^ 62 ∧ R (Itr 0 j.toNat) H1
def wH (ta : TA) : TI := fun σ H R => ta σ H fun vs H1 => ∃ i j : Int, vs=[.int i, .int j] ∧ (-(2 ^ 62)≤i ∧ i < 2 ^ 62 ∧ -(2 ^ 62)≤j ∧ j < 2 ^ 62) ∧ R (Itr i (j - i).toNat) H1
theorem cU {a : Expr}{ta : TA}{p pos : Pos}(hg : Gl X "range")(hm : X.mg "range" = none)(ha : PA X [a] ta)(hs : starEach [a] X.env=[(false, eval a X.env)] := by rfl) : PI X tg (.Call (.Name "range" p) [a] [] pos) (wG ta) := by
  intro pins s σ H R I h
  refine Call_ (gK I hg hm boot_range (A4 (thn (ha pos pins s σ H _ I h) fun us s1 zq36 => ?_) hs rfl))
  obtain ⟨vs, H1, I1, r1, q1⟩ := zq36
  obtain ⟨j, e, q1, q2, q⟩ := q1
  subst e
  cases r1 with
  | cons r rr =>
    cases rr
    obtain ⟨t, rfl⟩ := r
    exact call_range_1 (jd I1 (by omega) (by omega) q1 q2 (by simpa using q))
theorem kI {a b : Expr}{ta : TA}{p pos : Pos}(hg : Gl X "range")(hm : X.mg "range" = none)(ha : PA X [a, b] ta)(hs : starEach [a, b] X.env=[(false, eval a X.env), (false, eval b X.env)] := by rfl)(hs2 : starEach [b] X.env=[(false, eval b X.env)] := by rfl) :
    PI X tg (.Call (.Name "range" p) [a, b] [] pos) (wH ta) := by
  intro pins s σ H R I h
  refine Call_ (gK I hg hm boot_range (A4 (thn (ha pos pins s σ H _ I h) fun us s1 zq37 => ?_) (by rw [hs, hs2]) (by rw [hs2];rfl)))
  obtain ⟨vs, H1, I1, r1, q1⟩ := zq37
  obtain ⟨i, j, e, ⟨q1, q2, q3, q4⟩, q⟩ := q1
  subst e
  cases r1 with
  | cons r rr =>
    cases rr with
    | cons r' rr =>
      cases rr
      obtain ⟨t, rfl⟩ := r
      obtain ⟨t', rfl⟩ := r'
      exact call_range_2 (jd I1 q1 q2 q3 q4 q)
def yI (wi : TI)(g : TG)(tb : TS) : TS := fun D σ H => wi σ H fun J H1 => ∃ W : Nat → Nat → St → Hp → Prop, (∃ m, W 0 m σ H1) ∧ ∀ i m σ H, W i m σ H →
  (J.stop i H ∧ D.nx σ H) ∨ (J.go i H ∧ ∃ N : St → Hp → Prop, (∀ σ' H', N σ' H' → ∃ m', m' < m ∧ W (i+1) m' σ' H') ∧ ∀ x H', J.yld i H x H' → g x σ H' fun σ2 H2 => tb { D with nx := N, ct := N, bk := D.nx } σ2 H2)
def gL (fp : List Addr)(h : Heap) : List (Addr × Obj) := fp.filterMap fun b => (h.get? b).map fun o => (b, o)
theorem cu {fp : List Addr}{h : Heap}{b : Addr}{o : Obj}(hb : b∈fp)(e : h.get? b=some o) : (b, o)∈gL fp h := CF.mpr ⟨b, hb, by rw [e]; rfl⟩
theorem kJ {fp : List Addr}{h : Heap}{p : Addr × Obj}(hp : p∈gL fp h) : p.1∈fp ∧ h.get? p.1=some p.2 := by
  obtain ⟨b, hb, e⟩ := CF.mp hp
  cases q : h.get? b with
  | none => rw [q] at e;cases e
  | some o =>
    rw [q] at e
    have e' : (b, o)=p := zD e
    subst e'
    exact ⟨hb, q⟩
theorem Inv.pinned {pins : List (Addr × Obj)}{σ : St}{H : Hp}{s : Shared}{fp : List Addr}(I : Inv X pins σ H s)(hf : ∀ b∈fp, kG X pins H b)(ho : ∀ b∈fp, ∃ o, s.heap.get? b=some o ∧ ∀ v, o.data ≠ .cell v) : Inv X (pins++gL fp s.heap) σ H s :=
  I.pins_of fun p hp => (Ac.mp hp).elim (fun z => I.pin p (zG _ z)) fun z => by
    obtain ⟨hb, e⟩ := kJ z
    obtain ⟨f0, f1, f2, _⟩ := hf p.1 hb
    obtain ⟨o, e', d⟩ := ho p.1 hb
    rw [e] at e';cases e'
    exact ⟨e, f0, f1, f2, d⟩
theorem Inv.unpinned {pins pl : List (Addr × Obj)}{σ : St}{H : Hp}{s : Shared}(I : Inv X (pins++pl) σ H s) : Inv X pins σ H s := I.pins_of fun p hp => I.pin p (zG _ (z6 _ hp))
theorem dC {iter : Expr}{body : List Stmt}{wi : TI}{g : TG}{tb : TS}{pos : Pos}(hp : PassesOwn (model X.prog X.w) X.A X.env X.xe)(hc : X.calm=true)(hi : PI X tg iter wi)(hg : PG X tg g)(hb : PSs X body tb)
    (hs : ∀ x, foldedSetIterable iter X.env x=pure x := by intro _;rfl) : PS X (.For tg iter body [] pos) (yI wi g tb) := by
  intro pins s σ H D I h
  refine wpAny_For (thn (hi pins s σ H _ I h) fun v s1 h1 => thn h1 fun itv s2 h2 => ?_) hs
  obtain ⟨it, fp, tn, J, H2, e, I2, T, st2, f2, W, ⟨m0, w0⟩, turn⟩ := h2
  subst e
  -- what stays true of the iterator's objects through the loop
  have stat : ∀ {H' : Hp}, (∀ b∈fp, H' b=none) → ∀ b∈fp, kG X pins H' b := fun hn b hb => ⟨hn b hb, (f2 b hb).2⟩
  refine codeAny_forLoop_any (fun n s' => ∃ i σ' H', Inv X pins σ' H' s' ∧ tn i s'.heap ∧ (∀ b∈fp, H' b=none) ∧ W i n σ' H') ?_ m0 ⟨0, σ, H2, I2, st2, fun b hb => (f2 b hb).1, w0⟩
  rintro n s3 ⟨i, σ3, H3, I3, st3, fr3, w3⟩
  rcases turn i n σ3 H3 w3 with ⟨stop, qn⟩ | ⟨go, N, hN, step⟩
  · refine Bb hp (thn (T.done X rfl rfl rfl hc i pins s3 σ3 H3 X.xe I3 (stat fr3) st3 stop) fun r s4 zq38 => ?_)
    obtain ⟨hr, I4⟩ := zq38
    subst hr
    exact Cp ⟨σ3, H3, I4, qn⟩
  · refine Bb hp (thn (T.item X rfl rfl rfl hc i pins s3 σ3 H3 X.xe I3 (stat fr3) st3 go) fun r s4 zq39 => ?_)
    obtain ⟨u, hr, h4⟩ := zq39
    subst hr
    refine Bb hp (thn h4 fun _ s5 zq40 => ?_)
    obtain ⟨x, H5, I5, r5, y5, st5, fr5⟩ := zq40
    have I5' := I5.pinned (stat fr5) (T.obj _ _ st5)
    refine Bb hp (thn (hg _ s5 σ3 H5 x u _ I5' r5 (step x H5 y5)) fun _ s6 zq41 => ?_)
    obtain ⟨σ6, H6, I6, q6⟩ := zq41
    refine Bb hp (thn (hb _ s6 σ6 H6 _ I6 q6) fun f s7 q7 => ?_)
    have again : ∀ {σ7 : St} {H7 : Hp}, Inv X (pins++gL fp s5.heap) σ7 H7 s7 → N σ7 H7 → ∃ m, m < n ∧ ∃ i σ' H', Inv X pins σ' H' s7 ∧ tn i s7.heap ∧ (∀ b∈fp, H' b=none) ∧ W i m σ' H' := fun {σ7 H7} I7 n7 => by
      obtain ⟨m', hm, w7⟩ := hN σ7 H7 n7
      refine ⟨m', hm, i+1, σ7, H7, I7.unpinned, T.keep _ _ _ st5 fun b hb o e => (I7.pin (b, o) (zG _ (zG _ (cu hb e)))).1, fun b hb => ?_, w7⟩
      obtain ⟨o, e, d⟩ := T.obj _ _ st5 b hb
      exact (I7.pin (b, o) (zG _ (zG _ (cu hb e)))).2.1
    cases f with
    | next => obtain ⟨σ7, H7, I7, n7⟩ := q7;exact again I7 n7
    | cont => obtain ⟨σ7, H7, I7, n7⟩ := q7;exact again I7 n7
    | brk => obtain ⟨σ7, H7, I7, q7⟩ := q7;exact ⟨σ7, H7, I7.unpinned, q7⟩
    | ret v => obtain ⟨x7, σ7, H7, I7, r7, q7⟩ := q7;exact ⟨x7, σ7, H7, I7.unpinned, r7, q7⟩
end
theorem qS {K : PySem.W.Frag}{a : Addr}{xs : List V}{g : TG}{tb : TS}{D : iq}{σ : St}{H : Hp}(Pv : Nat → St → Hp → Prop)(h0 : Pv 0 σ H)(hl : ∀ i σ H, i≤xs.length → Pv i σ H → SqT K H a xs)
    (hs : ∀ i x σ H, xs[i]? = some x → Pv i σ H → g x σ H fun σ2 H2 => tb { D with nx := Pv (i+1), ct := Pv (i+1), bk := D.nx } σ2 H2) (hd : ∀ σ H, Pv xs.length σ H → D.nx σ H) :
    ∃ W : Nat → Nat → St → Hp → Prop, (∃ m, W 0 m σ H) ∧ ∀ i m σ H, W i m σ H →
      ((Itt K a).stop i H ∧ D.nx σ H) ∨ ((Itt K a).go i H ∧ ∃ N : St → Hp → Prop, (∀ σ' H', N σ' H' → ∃ m', m' < m ∧ W (i+1) m' σ' H') ∧ ∀ x H', (Itt K a).yld i H x H' → g x σ H' fun σ2 H2 => tb { D with nx := N, ct := N, bk := D.nx } σ2 H2) := by
  refine ⟨fun i m σ H => m=xs.length - i ∧ i≤xs.length ∧ Pv i σ H, ⟨xs.length, by simp, Ao _, h0⟩, ?_⟩
  rintro i m σ H ⟨rfl, hi, p⟩
  have q := hl i σ H hi p
  by_cases hlt : i < xs.length
  · refine .inr ⟨⟨xs, xs[i], q, by simp [hlt]⟩, Pv (i+1), fun σ' H' p' => ⟨xs.length - (i+1), by omega, rfl, hlt, p'⟩, fun x H' y => ?_⟩
    obtain ⟨e, y⟩ := y
    subst e
    exact hs i x σ _ (y xs q) p
  · have e : i=xs.length := by omega
    subst e
    exact .inl ⟨⟨xs, q, zA _⟩, hd σ H p⟩
theorem d6 {lo : Int}{n : Nat}{g : TG}{tb : TS}{D : iq}{σ : St}{H : Hp}(Pv : Nat → St → Hp → Prop)(h0 : Pv 0 σ H)
    (hs : ∀ i σ H, i < n → Pv i σ H → g (.int (lo+i)) σ H fun σ2 H2 => tb { D with nx := Pv (i+1), ct := Pv (i+1), bk := D.nx } σ2 H2) (hd : ∀ σ H, Pv n σ H → D.nx σ H) :
    ∃ W : Nat → Nat → St → Hp → Prop, (∃ m, W 0 m σ H) ∧ ∀ i m σ H, W i m σ H →
      ((Itr lo n).stop i H ∧ D.nx σ H) ∨ ((Itr lo n).go i H ∧ ∃ N : St → Hp → Prop, (∀ σ' H', N σ' H' → ∃ m', m' < m ∧ W (i+1) m' σ' H') ∧ ∀ x H', (Itr lo n).yld i H x H' → g x σ H' fun σ2 H2 => tb { D with nx := N, ct := N, bk := D.nx } σ2 H2) := by
  refine ⟨fun i m σ H => m=n - i ∧ i≤n ∧ Pv i σ H, ⟨n, by simp, Ao _, h0⟩, ?_⟩
  rintro i m σ H ⟨rfl, hi, p⟩
  by_cases hlt : i < n
  · refine .inr ⟨hlt, Pv (i+1), fun σ' H' p' => ⟨n - (i+1), by omega, rfl, hlt, p'⟩, fun x H' y => ?_⟩
    obtain ⟨e, y⟩ := y
    subst e y
    exact hs i σ _ hlt p
  · have e : i=n := by omega
    subst e
    exact .inl ⟨zA _, hd σ H p⟩
abbrev R2 := V → V → Hp → VK → Prop
def OpR (X : Cx)(f : Value → Value → Sem Value)(r : R2) : Prop :=
  ∀ (pins : List (Addr × Obj)) (s : Shared) (σ : St) (H : Hp) (x y : V) (v u : Value) (Q : VK), Inv X pins σ H s → bu x v → bu y u → r x y H Q →
    wpAny (model X.prog X.w) X.A (f v u) (EP X pins σ Q) X.xe s
def UnR (X : Cx)(f : Value → Sem Value)(r : V → Hp → VK → Prop) : Prop :=
  ∀ (pins : List (Addr × Obj)) (s : Shared) (σ : St) (H : Hp) (x : V) (v : Value) (Q : VK), Inv X pins σ H s → bu x v → r x H Q →
    wpAny (model X.prog X.w) X.A (f v) (EP X pins σ Q) X.xe s
def cV (X : Cx)(f : Value)(r : List V → Hp → VK → Prop) : Prop :=
  ∀ (pins : List (Addr × Obj)) (s : Shared) (σ : St) (H : Hp) (xs : List V) (us : List Value) (Q : VK), Inv X pins σ H s → aU xs us → r xs H Q →
    wpAny (model X.prog X.w) X.A (call f us) (EP X pins σ Q) X.xe s
def yJ (X : Cx)(r : V → Hp → (Bool → Hp → Prop) → Prop) : Prop :=
  ∀ (pins : List (Addr × Obj)) (s : Shared) (σ : St) (H : Hp) (x : V) (v : Value) (Q : Bool → Hp → Prop), Inv X pins σ H s → bu x v → r x H Q →
    wpAny (model X.prog X.w) X.A (truthy v) (TP X pins σ Q) X.xe s
def uw (r : R2)(Q : VK)(x : V) : V → Hp → Prop := fun y H2 => r x y H2 Q
def ux (r : R2)(tb : TE)(σ : St)(Q : VK) : V → Hp → Prop := fun x H1 => tb σ H1 (uw r Q x)
def tOp (r : R2)(ta tb : TE) : TE := fun σ H Q => ta σ H (ux r tb σ Q)
def uy (r : V → Hp → VK → Prop)(Q : VK) : V → Hp → Prop := fun x H1 => r x H1 Q
def tUn (r : V → Hp → VK → Prop)(ta : TE) : TE := fun σ H Q => ta σ H (uy r Q)
inductive rI (C : Int → Int → Prop)(g : Int → Int → V)(x : V)(y : V)(H : Hp)(Q : VK) : Prop
  | mk : ∀ i j, (x = .int i) → (y = .int j) → (C i j) → (Q (g i j) H) → rI C g x y H Q
inductive rI0 (g : Int → Int → V)(x : V)(y : V)(H : Hp)(Q : VK) : Prop
  | mk : ∀ i j, (x = .int i) → (y = .int j) → (Q (g i j) H) → rI0 g x y H Q
inductive rU (g : Int → V)(x : V)(H : Hp)(Q : VK) : Prop
  | mk : ∀ i, (x = .int i) → (Q (g i) H) → rU g x H Q
section
variable {X : Cx} {a b c : Expr} {ta tb tc : TE} {pos : Pos}
theorem wI (ha : PE X a ta)(hb : PE X b tb){pins : List (Addr × Obj)}{s : Shared}{σ : St}{H : Hp}{R : V → V → Hp → Prop}(I : Inv X pins σ H s)
    (h : ta σ H fun x H1 => tb σ H1 fun y H2 => R x y H2) {Q : Value → Shared → Prop} {f : Value → Value → Sem Value}
    (hf : ∀ v u s2 x y H2, Inv X pins σ H2 s2 → bu x v → bu y u → R x y H2 → wpAny (model X.prog X.w) X.A (f v u) Q X.xe s2) :
    wpAny (model X.prog X.w) X.A (eval a X.env) (fun v s₁ => wpAny (model X.prog X.w) X.A (eval b X.env) (fun u s₂ => wpAny (model X.prog X.w) X.A (f v u) Q X.xe s₂) X.xe s₁) X.xe s := by
  refine thn (ha pins s σ H _ I h) fun v s1 zq42 => ?_
  obtain ⟨x, H1, I1, r1, q1⟩ := zq42
  refine thn (hb pins s1 σ H1 _ I1 q1) fun u s2 zq43 => ?_
  obtain ⟨y, H2, I2, r2, q2⟩ := zq43
  exact hf v u s2 x y H2 I2 r1 r2 q2
theorem aD {op : Operator}{r : R2}(ho : OpR X (binaryOp op) r)(ha : PE X a ta)(hb : PE X b tb) : PE X (.BinOp a op b pos) (tOp r ta tb) := by
  intro pins s σ H Q I h
  exact wpAny_BinOp (wI ha hb I h fun v u s2 x y H2 I2 rx ry q => ho pins s2 σ H2 x y v u Q I2 rx ry q)
theorem gM {op : UnaryOp}{r : V → Hp → VK → Prop}(ho : UnR X (unaryOp op) r)(ha : PE X a ta) : PE X (.UnaryOp op a pos) (tUn r ta) := by
  intro pins s σ H Q I h
  exact UnaryOp_ (thn (ha pins s σ H _ I h) fun v s1 zq44 => (by obtain ⟨x, H1, I1, r1, q1⟩ := zq44;exact ho pins s1 σ H1 x v Q I1 r1 q1))
theorem opI {f : Value → Value → Sem Value}{C : Int → Int → Prop}{g : Int → Int → Int}
    (rule : ∀ (i j : Int) (t u : Tok) (s : Shared) (Q : Value → Shared → Prop) (E : Value → Shared → Prop), C i j → Q (.int (g i j) s.toks) { s with toks := s.toks+1 } → wpAny (model X.prog X.w) X.A (f (.int i t) (.int j u)) Q E s) :
    OpR X f (rI C fun i j => .int (g i j)) := by
  intro pins s σ H x y v u Q I rx ry h
  obtain ⟨i, j, rfl, rfl, hc, q⟩ := h
  obtain ⟨t, rfl⟩ := rx
  obtain ⟨t', rfl⟩ := ry
  exact rule i j t t' s _ _ hc ⟨.int (g i j), H, I.tok _, ⟨_, rfl⟩, q⟩
theorem yi {f : Value → Value → Sem Value}{g : Int → Int → Int}
    (rule : ∀ (i j : Int) (t u : Tok) (s : Shared) (Q : Value → Shared → Prop) (E : Value → Shared → Prop), Q (.int (g i j) s.toks) { s with toks := s.toks+1 } → wpAny (model X.prog X.w) X.A (f (.int i t) (.int j u)) Q E s) :
    OpR X f (rI0 fun i j => .int (g i j)) := by
  intro pins s σ H x y v u Q I rx ry h
  obtain ⟨i, j, rfl, rfl, q⟩ := h
  obtain ⟨t, rfl⟩ := rx
  obtain ⟨t', rfl⟩ := ry
  exact rule i j t t' s _ _ ⟨.int (g i j), H, I.tok _, ⟨_, rfl⟩, q⟩
theorem wJ {f : Value → Value → Sem Value}{g : Int → Int → Bool}
    (rule : ∀ (i j : Int) (t u : Tok) (s : Shared) (Q : Value → Shared → Prop) (E : Value → Shared → Prop), Q (.bool (g i j)) s → wpAny (model X.prog X.w) X.A (f (.int i t) (.int j u)) Q E s) :
    OpR X f (rI0 fun i j => .bl (g i j)) := by
  intro pins s σ H x y v u Q I rx ry h
  obtain ⟨i, j, rfl, rfl, q⟩ := h
  obtain ⟨t, rfl⟩ := rx
  obtain ⟨t', rfl⟩ := ry
  exact rule i j t t' s _ _ ⟨.bl (g i j), H, I, rfl, q⟩
def yK (i j : Int) : Prop := 0 < j ∧ j < 1073741824
def yL (i j : Int) : Prop := 0≤j ∧ j≤1000000 ∧ i.natAbs < 2 ^ 64
def uz (i j : Int) : Prop := (-(2 ^ 64) < i ∧ i < 2 ^ 64) ∨ (-(2 ^ 64) < j ∧ j < 2 ^ 64)
theorem uz.ok {i j : Int}(h : uz i j) : IntMulOk i j := by
  rcases h with ⟨h1, h2⟩ | ⟨h1, h2⟩
  · exact .of_left (intBits_le_64 h1 h2)
  · exact .of_right (intBits_le_64 h1 h2)
theorem bw : OpR X (binaryOp .Add) (rI0 fun i j => .int (i+j)) := yi fun _ _ _ _ _ _ _ q => add_int q
theorem eU : OpR X (binaryOp .Sub) (rI0 fun i j => .int (i - j)) := yi fun _ _ _ _ _ _ _ q => sub_int q
theorem cX : OpR X (binaryOp .Mult) (rI uz fun i j => .int (i*j)) := opI fun _ _ _ _ _ _ _ hc q => mul_int q hc.ok
theorem d7 : OpR X (binaryOp .FloorDiv) (rI yK fun i j => .int (i / j)) := opI fun i j _ _ _ _ _ hc q => by
  have h1 : (0 : Int) < j := hc.1
  have h2 : j < 1073741824 := hc.2
  exact floordiv_int (by omega) (by rw [Int.fdiv_eq_ediv_of_nonneg i (by omega)];exact q) (.inl (PyProof.noPylong_small (by omega)))
theorem cY : OpR X (binaryOp .Mod) (rI (fun _ j => 0 < j) fun i j => .int (i % j)) := opI fun i j _ _ _ _ _ hc q => by
  have h1 : (0 : Int) < j := hc
  exact mod_int' (by omega) (by rw [Int.fmod_eq_emod_of_nonneg i (by omega)];exact q)
theorem uA : OpR X (binaryOp .Pow) (rI yL fun i j => .int (i ^ j.toNat)) := opI fun _ _ _ _ _ _ _ hc q => pow_int_small hc.1 hc.2.1 hc.2.2 q
theorem unI {f : Value → Sem Value}{g : Int → Int}
    (rule : ∀ (i : Int) (t : Tok) (s : Shared) (Q : Value → Shared → Prop) (E : Value → Shared → Prop), Q (.int (g i) s.toks) { s with toks := s.toks+1 } → wpAny (model X.prog X.w) X.A (f (.int i t)) Q E s) :
    UnR X f (rU fun i => .int (g i)) := by
  intro pins s σ H x v Q I rx h
  obtain ⟨i, rfl, q⟩ := h
  obtain ⟨t, rfl⟩ := rx
  exact rule i t s _ _ ⟨.int (g i), H, I.tok _, ⟨_, rfl⟩, q⟩
theorem dD : UnR X (unaryOp .USub) (rU fun i => .int (-i)) := unI fun _ _ _ _ _ q => neg_int q
end
def yj : V → V → Bool
  | .non, .non => true | .non, .int _ => true | .int _, .non => true | .non, .bl _ => true | .bl _, .non => true | .non, .str _ => true | .str _, .non => true
  | .int _, .int _ => true | .bl _, .bl _ => true | .str _, .str _ => true | .byt _, .byt _ => true
  | .int _, .str _ => true | .str _, .int _ => true | .bl _, .str _ => true | .str _, .bl _ => true
  | _, _ => false
def rEq : R2 := fun x y H Q => yj x y=true ∧ Q (.bl (decide (x=y))) H
def rNe : R2 := fun x y H Q => yj x y=true ∧ Q (.bl (!decide (x=y))) H
theorem kK {i j : Int} : decide (V.int i=V.int j)=(i == j) := by
  rw [Ad]
  simp
theorem p9 {i j : Bool} : decide (V.bl i=V.bl j)=(i == j) := by
  rw [Ad]
  simp
theorem kL {i j : Str} : decide (V.str i=V.str j)=(i == j) := by
  rw [Ad]
  simp
theorem kM {i j : Array UInt8} : decide (V.byt i=V.byt j)=(i.toList == j.toList) := by
  rw [Ad]
  cases i
  cases j
  simp
section
variable {X : Cx} {a b c : Expr} {ta tb tc : TE} {pos : Pos}
theorem aM {pins : List (Addr × Obj)}{σ : St}{H : Hp}{s : Shared}{Q : VK}{k k' : Bool}(I : Inv X pins σ H s)(q : Q (.bl k) H)(e : k=k') : EP X pins σ Q (.bool k') s := by
  subst e
  exact ⟨.bl k, H, I, rfl, q⟩
theorem dj : OpR X (compareOp .Eq) rEq := by
  intro pins s σ H x y v u Q I rx ry h
  obtain ⟨hs, q⟩ := h
  cases x with
  | non =>
    cases rx
    cases y with
    | non => cases ry;exact PySem.EqNone.eq_none_none (aM I q (by simp))
    | bl j => cases ry;exact PySem.EqNone.eq_none_bool (aM I q (by simp))
    | int j => obtain ⟨t', rfl⟩ := ry;exact PySem.EqNone.eq_none_int (aM I q (by simp))
    | str j => obtain ⟨t', rfl⟩ := ry;exact PySem.EqNone.eq_none_str (aM I q (by simp))
    | _ => exact absurd (show false=true from hs) zT
  | bl i =>
    cases rx
    cases y with
    | non => cases ry;exact PySem.EqNone.eq_bool_none (aM I q (by simp))
    | bl j => cases ry;exact eq_bool (aM I q p9)
    | str j => obtain ⟨t', rfl⟩ := ry;exact PySem.EqMixed.eq_bool_str (aM I q (by simp))
    | _ => exact absurd (show false=true from hs) zT
  | int i =>
    obtain ⟨t, rfl⟩ := rx
    cases y with
    | non => cases ry;exact PySem.EqNone.eq_int_none (aM I q (by simp))
    | int j => obtain ⟨t', rfl⟩ := ry;exact eq_int (aM I q kK)
    | str j => obtain ⟨t', rfl⟩ := ry;exact PySem.EqMixed.eq_int_str (aM I q (by simp))
    | _ => exact absurd (show false=true from hs) zT
  | str i =>
    obtain ⟨t, rfl⟩ := rx
    cases y with
    | non => cases ry;exact PySem.EqNone.eq_str_none (aM I q (by simp))
    | bl j => cases ry;exact PySem.EqMixed.eq_str_bool (aM I q (by simp))
    | int j => obtain ⟨t', rfl⟩ := ry;exact PySem.EqMixed.eq_str_int (aM I q (by simp))
    | str j => obtain ⟨t', rfl⟩ := ry;exact eq_str (aM I q kL)
    | _ => exact absurd (show false=true from hs) zT
  | byt i =>
    obtain ⟨t, rfl⟩ := rx
    cases y with
    | byt j => obtain ⟨t', rfl⟩ := ry;exact PySem.W.eq_bytes (aM I q kM)
    | _ => exact absurd (show false=true from hs) zT
  | _ => cases y <;> exact absurd (show false=true from hs) zT
theorem uB : OpR X (compareOp .NotEq) rNe := by
  intro pins s σ H x y v u Q I rx ry h
  obtain ⟨hs, q⟩ := h
  cases x with
  | non =>
    cases rx
    cases y with
    | non => cases ry;exact PySem.EqNone.ne_none_none (aM I q (by simp))
    | bl j => cases ry;exact PySem.EqNone.ne_none_bool (aM I q (by simp))
    | int j => obtain ⟨t', rfl⟩ := ry;exact PySem.EqNone.ne_none_int (aM I q (by simp))
    | str j => obtain ⟨t', rfl⟩ := ry;exact PySem.EqNone.ne_none_str (aM I q (by simp))
    | _ => exact absurd (show false=true from hs) zT
  | bl i =>
    cases rx
    cases y with
    | non => cases ry;exact PySem.EqNone.ne_bool_none (aM I q (by simp))
    | bl j => cases ry;exact ne_bool (aM I q (zR not p9))
    | str j => obtain ⟨t', rfl⟩ := ry;exact PySem.EqMixed.ne_bool_str (aM I q (by simp))
    | _ => exact absurd (show false=true from hs) zT
  | int i =>
    obtain ⟨t, rfl⟩ := rx
    cases y with
    | non => cases ry;exact PySem.EqNone.ne_int_none (aM I q (by simp))
    | int j => obtain ⟨t', rfl⟩ := ry;exact ne_int (aM I q (zR not kK))
    | str j => obtain ⟨t', rfl⟩ := ry;exact PySem.EqMixed.ne_int_str (aM I q (by simp))
    | _ => exact absurd (show false=true from hs) zT
  | str i =>
    obtain ⟨t, rfl⟩ := rx
    cases y with
    | non => cases ry;exact PySem.EqNone.ne_str_none (aM I q (by simp))
    | bl j => cases ry;exact PySem.EqMixed.ne_str_bool (aM I q (by simp))
    | int j => obtain ⟨t', rfl⟩ := ry;exact PySem.EqMixed.ne_str_int (aM I q (by simp))
    | str j => obtain ⟨t', rfl⟩ := ry;exact ne_str (aM I q (zR not kL))
    | _ => exact absurd (show false=true from hs) zT
  | byt i =>
    obtain ⟨t, rfl⟩ := rx
    cases y with
    | byt j => obtain ⟨t', rfl⟩ := ry;exact PySem.W.ne_bytes (aM I q (zR not kM))
    | _ => exact absurd (show false=true from hs) zT
  | _ => cases y <;> exact absurd (show false=true from hs) zT
theorem gN : OpR X (compareOp .Lt) (rI0 fun i j => .bl (decide (i < j))) := wJ fun _ _ _ _ _ _ _ q => lt_int q
theorem ou : OpR X (compareOp .LtE) (rI0 fun i j => .bl (decide (i≤j))) := wJ fun _ _ _ _ _ _ _ q => le_int q
theorem wK : OpR X (compareOp .Gt) (rI0 fun i j => .bl (decide (j < i))) := wJ fun _ _ _ _ _ _ _ q => gt_int q
inductive d8  (x : V)(y : V)(H : Hp)(Q : VK) : Prop
  | mk : ∀ i j, (x = .str i) → (y = .str j) → (Q (.bl (!(Builtin.Str.occurrences j i 0 j.length 1).isEmpty)) H) → d8 x y H Q
theorem kN : OpR X (compareOp .In) d8 := by
  intro pins s σ H x y v u Q I rx ry h
  obtain ⟨i, j, rfl, rfl, q⟩ := h
  obtain ⟨t, rfl⟩ := rx
  obtain ⟨t', rfl⟩ := ry
  exact in_str (aM I q rfl)
theorem aR (b : Expr){op : CmpOp}(h : op ≠ .In := by decide)(h2 : op ≠ .NotIn := by decide) : behindInMarks op b=false := by
  have e1 : (op == CmpOp.In)=false := by cases op <;> first | rfl | exact absurd rfl h
  have e2 : (op == CmpOp.NotIn)=false := by cases op <;> first | rfl | exact absurd rfl h2
  cases b <;> simp [behindInMarks, e1, e2]
theorem fy {op : CmpOp}{r : R2}(ho : OpR X (compareOp op) r)(ha : PE X a ta)(hb : PE X b tb)(hm : behindInMarks op b=false) : PE X (.Compare a [op] [b] pos) (tOp r ta tb) := by
  intro pins s σ H Q I h
  exact wpAny_Compare1 (wI ha hb I h fun v u s2 x y H2 I2 rx ry q => ho pins s2 σ H2 x y v u Q I2 rx ry q) hm
def ow (Q : (Bool → Hp → Prop)) : V → Hp → Prop := fun x H' => IsB x H' Q
def uC (t : TE) : TT := fun σ H Q => t σ H (ow Q)
theorem aL {op : CmpOp}{r : R2}(ho : OpR X (compareOp op) r)(ha : PE X a ta)(hb : PE X b tb)(hm : behindInMarks op b=false) : PT X (.Compare a [op] [b] pos) (uC (tOp r ta tb)) := by
  intro pins s σ H Q I h
  refine wpAny_isTrue_Compare1 (thn (ha pins s σ H _ I h) fun v s1 ⟨x, H1, I1, r1, q1⟩ => thn (hb pins s1 σ H1 _ I1 q1) fun u s2 ⟨y, H2, I2, r2, q2⟩ =>
    thn (ho pins s2 σ H2 x y v u _ I2 r1 r2 q2) fun c s3 ⟨z, H3, I3, r3, k, e, q3⟩ => ?_) hm
  subst e
  cases r3
  exact AN ⟨H3, I3, q3⟩
def p_ (r r' : R2)(ta tb tc : TE) : TE := fun σ H Q => ta σ H fun x H1 => tb σ H1 fun y H2 => r x y H2 fun z H3 => ∃ k, z = .bl k ∧
  (if k=true then tc σ H3 fun w' H4 => r' y w' H4 Q else Q (.bl false) H3)
theorem je {op op' : CmpOp}{r r' : R2}(ho : OpR X (compareOp op) r)(ho' : OpR X (compareOp op') r')(ha : PE X a ta)(hb : PE X b tb)(hc : PE X c tc)
    (hm : lastMarks [op, op'] [b, c]=false := by with_unfolding_all rfl) : PE X (.Compare a [op, op'] [b, c] pos) (p_ r r' ta tb tc) := by
  intro pins s σ H Q I h
  refine Compare_chain (thn (ha pins s σ H _ I h) fun v s1 ⟨x, H1, I1, r1, q1⟩ => chain_link (thn (hb pins s1 σ H1 _ I1 q1) fun u s2 ⟨y, H2, I2, r2, q2⟩ =>
    thn (ho pins s2 σ H2 x y v u _ I2 r1 r2 q2) fun d s3 ⟨z, H3, I3, r3, k, e, q3⟩ => ?_)) hm
  subst e
  cases r3
  refine AN ?_
  cases k with
  | false => exact ite_ff ⟨.bl false, H3, I3, rfl, q3⟩
  | true => exact ite_tt (chain_last (thn (hc pins s3 σ H3 _ I3 q3) fun w' s4 zq45 => (by obtain ⟨z', H4, I4, r4, q4⟩ := zq45;exact ho' pins s4 σ H4 y z' u w' Q I4 r2 r4 q4)))
theorem jf {op op' : CmpOp}{r r' : R2}(ho : OpR X (compareOp op) r)(ho' : OpR X (compareOp op') r')(ha : PE X a ta)(hb : PE X b tb)(hc : PE X c tc)
    (hm : lastMarks [op, op'] [b, c]=false := by with_unfolding_all rfl) : PT X (.Compare a [op, op'] [b, c] pos) (uC (p_ r r' ta tb tc)) := by
  intro pins s σ H Q I h
  refine isTrue_chain (thn (ha pins s σ H _ I h) fun v s1 ⟨x, H1, I1, r1, q1⟩ => test_link (thn (hb pins s1 σ H1 _ I1 q1) fun u s2 ⟨y, H2, I2, r2, q2⟩ =>
    thn (ho pins s2 σ H2 x y v u _ I2 r1 r2 q2) fun d s3 ⟨z, H3, I3, r3, k, e, q3⟩ => ?_)) hm
  subst e
  cases r3
  refine AN ?_
  cases k with
  | false =>
    obtain ⟨k', e', q'⟩ := q3
    cases e'
    exact ite_ff ⟨H3, I3, q'⟩
  | true =>
    refine ite_tt (test_last (thn (hc pins s3 σ H3 _ I3 q3) fun w' s4 ⟨z', H4, I4, r4, q4⟩ => thn (ho' pins s4 σ H4 y z' u w' _ I4 r2 r4 q4) fun d' s5 zq46 => ?_))
    obtain ⟨z2, H5, I5, r5, k2, e2, q5⟩ := zq46
    subst e2
    cases r5
    exact AN ⟨H5, I5, q5⟩
def yM (K : PySem.W.Frag)(x : V)(H : Hp)(k : Bool) : Prop :=
  match x with
  | .non => k=false
  | .bl b => k=b
  | .int i => k=(i != 0)
  | .str y => y.length≤sizeLine ∧ k=((y.length : Int) != 0)
  | .byt y => y.size≤sizeLine ∧ k=((y.size : Int) != 0)
  | .ref p => (∃ xs, SqL K H p xs ∧ k=!xs.isEmpty) ∨ (∃ xs, SqT K H p xs ∧ k=!xs.isEmpty) ∨ ∃ kvs, H p=some (.dK kvs) ∧ k=!kvs.isEmpty
  | _ => False
theorem jY {κ : Type}{kvs : List (κ × V)}{vs : List (κ × Value)}(r : KV kvs vs) : (!vs.isEmpty)=!kvs.isEmpty := by
  cases r <;> rfl
theorem eV {xs : List V}{its : List Value}(r : aU xs its) : (!its.toArray.isEmpty)=!xs.isEmpty := by
  cases r <;> simp
theorem d9 : (sizeLine : Nat) < 2 ^ 63 := by rw [Cq]; decide
inductive qT (K : PySem.W.Frag)(x : V)(H : Hp)(Q : Bool → Hp → Prop) : Prop
  | mk : ∀ k, (yM K x H k) → (Q k H) → qT K x H Q
theorem uD : yJ X (qT X.K) := by
  intro pins s σ H x v Q I rx h
  obtain ⟨k, e, q⟩ := h
  have hl := d9
  have hs : sizeLine=16777216 := Cq
  cases x with
  | non =>
    cases rx
    have e' : k=false := e
    subst e'
    exact truthy_none ⟨H, I, q⟩
  | bl b =>
    cases rx
    have e' : k=b := e
    subst e'
    exact AN ⟨H, I, q⟩
  | int i =>
    obtain ⟨t, rfl⟩ := rx
    have e' : k=(i != 0) := e
    subst e'
    exact PySem.P.truthy_int ⟨H, I, q⟩
  | str y =>
    obtain ⟨t, rfl⟩ := rx
    obtain ⟨hy, e'⟩ : y.length≤sizeLine ∧ k=((y.length : Int) != 0) := e
    subst e'
    exact PySem.P.truthy_str (by omega) ⟨H, I.tok _, q⟩
  | byt y =>
    obtain ⟨t, rfl⟩ := rx
    obtain ⟨hy, e'⟩ : y.size≤sizeLine ∧ k=((y.size : Int) != 0) := e
    subst e'
    exact PySem.W.truthy_bytes (by omega) ⟨H, I.tok _, q⟩
  | ref p =>
    cases rx
    have e' : (∃ xs, SqL X.K H p xs ∧ k=!xs.isEmpty) ∨ (∃ xs, SqT X.K H p xs ∧ k=!xs.isEmpty) ∨ ∃ kvs, H p=some (.dK kvs) ∧ k=!kvs.isEmpty := e
    rcases e' with ⟨xs, hx, e'⟩ | ⟨xs, hx, e'⟩ | ⟨kvs, hx, e'⟩
    · subst e'
      obtain ⟨its, r, pl, hz⟩ := I.list hx
      have hlen := r.length
      exact wpAny_truthy_list pl.isList (by simp only [zO];omega) ⟨H, I.tok _, by rw [eV r];exact q⟩
    · subst e'
      obtain ⟨its, r, pl, hz⟩ := I.tuple hx
      have hlen := r.length
      exact truthy_tuple pl (by simp only [zO];omega) ⟨H, I.tok _, by rw [eV r];exact q⟩
    · subst e'
      obtain ⟨hz, hS, vs, r, m⟩ : kvs.length≤sizeLine ∧ (p == sysModules)=false ∧ ∃ vs, KV kvs vs ∧ s.heap.DictOf (a9 X.prog X.w) p vs := I.hok p _ hx
      have hlen : kvs.length=vs.length := C1 r
      exact wpAny_truthy_dict hS m (by omega) ⟨H, I.tok _, by rw [jY r];exact q⟩
  | _ => exact (show False from e).elim
def qU (K : PySem.W.Frag)(Q : (Bool → Hp → Prop)) : V → Hp → Prop := fun x H' => qT K x H' Q
def yN (K : PySem.W.Frag)(ta : TE) : TT := fun σ H Q => ta σ H (qU K Q)
theorem dO (ha : PE X a ta)(he : ∀ whole, isTrue a X.env whole=(do let v ← whole; standAt a.pos; holding [v] (truthy v))) :
    PT X a (yN X.K ta) := by
  intro pins s σ H Q I h
  exact isTrue_plain (thn (ha pins s σ H _ I h) fun v s1 zq47 => (by obtain ⟨x, H1, I1, r1, q1⟩ := zq47;exact uD pins s1 σ H1 x v Q I1 r1 q1)) (he _)
inductive dE  (x : V)(y : V)(H : Hp)(Q : VK) : Prop
  | mk : ∀ i j, (x = .str i) → (y = .str j) → (i.length+j.length≤sizeLine) → (Q (.str (i++j)) H) → dE x y H Q
theorem aP : OpR X (binaryOp .Add) dE := by
  intro pins s σ H x y v u Q I rx ry h
  obtain ⟨i, j, rfl, rfl, hz, q⟩ := h
  obtain ⟨t, rfl⟩ := rx
  obtain ⟨t', rfl⟩ := ry
  exact add_str (fun t' tk => ⟨.str (i++j), H, I.tok _, ⟨_, rfl⟩, q⟩) hz
theorem cZ {x : V}{us : List Value}(r : aU [x] us) : ∃ u, us=[u] ∧ bu x u := by
  cases r with
  | cons r1 r2 => cases r2;exact ⟨_, rfl, r1⟩
theorem qV {x y : V}{us : List Value}(r : aU [x, y] us) : ∃ u w', us=[u, w'] ∧ bu x u ∧ bu y w' := by
  cases r with
  | cons r1 r2 =>
    cases r2 with
    | cons r3 r4 => cases r4;exact ⟨_, _, rfl, r1, r3⟩
inductive d_  (xs : List V)(H : Hp)(Q : VK) : Prop
  | mk : ∀ i j, (xs=[.int i, .int j]) → (Q (.int (if j > i then j else i)) H) → d_ xs H Q
theorem kO (hc : X.calm=true) : cV X (.builtin "max") d_ := by
  intro pins s σ H xs us Q I r h
  obtain ⟨i, j, rfl, q⟩ := h
  obtain ⟨u, w', rfl, ⟨t, rfl⟩, ⟨t', rfl⟩⟩ := qV r
  refine max_two_ints (I.ok.hd hc) fun h' tk k => ⟨_, H, I.kept k, ?_, q⟩
  by_cases hj : j > i
  · rw [if_pos hj, if_pos hj];exact ⟨_, rfl⟩
  · rw [if_neg hj, if_neg hj];exact ⟨_, rfl⟩
theorem kP : cV X (.type "int") (fun xs H Q => (∃ i, xs=[.int i] ∧ Q (.int i) H) ∨ ∃ k, xs=[.bl k] ∧ Q (.int (if k then 1 else 0)) H) := by
  intro pins s σ H xs us Q I r h
  rcases h with ⟨i, rfl, q⟩ | ⟨k, rfl, q⟩
  · obtain ⟨u, rfl, t, rfl⟩ := cZ r
    exact call_int_int ⟨.int i, H, I, ⟨_, rfl⟩, q⟩
  · obtain ⟨u, rfl, r1⟩ := cZ r
    cases r1
    exact call_int_bool ⟨.int (if k then 1 else 0), H, I.tok _, ⟨_, rfl⟩, q⟩
end
section
variable {prog : Program} {w : World} {A : Around} {E : Value → Shared → Prop} {s : Shared} {K : PySem.W.Frag} {x dx C f : Addr} {mA : Str → Option Value} {name : Str} {v : Value}
end
theorem oe.some_of {v : V}{o : Option Value}(r : oe (some v) o) : ∃ u, o=some u ∧ bu v u := by
  cases o with
  | none => exact (show False from r).elim
  | some u => exact ⟨u, rfl, r⟩
section
variable {P : Program} {w : World} {H H' : Hp} {h h' : Heap} {a C dx : Addr} {fs fs' : List (Str × V)}
end
section
variable {X : Cx} {pins : List (Addr × Obj)} {σ : St} {H : Hp} {s : Shared} {a C dx : Addr} {fs : List (Str × V)} {f : Str} {v : V} {A : Around} {E : Value → Shared → Prop}
end
section
variable {X : Cx} {o e value : Expr} {f : Str} {pos pos' tpos : Pos} {ta tv : TE}
end
section
variable {X : Cx} {pins : List (Addr × Obj)} {σ : St} {H : Hp} {s : Shared} {A : Around} {E : Value → Shared → Prop} {Q : Value → Shared → Prop} {c : Value} {b : Bool}
end
structure eW (k : Nat) (A : Around) : Prop where
  hd : A.handled=none
  dp : A.depth+3*k+5 < recursionLimit
  un : A.units+16*k+200 < cLine
  gd : A.guards=some []
theorem eW.mono {j k : Nat}{A : Around}(r : eW k A)(h : j≤k) : eW j A := ⟨r.hd, by have := r.dp; omega, by have := r.un; omega, r.gd⟩
theorem eW.deeper {k : Nat}{A : Around}(r : eW (k+1) A)(env : Env) : eW k (A.deeper env) :=
  ⟨r.hd, by have := r.dp;show A.depth+1+3*k+5 < _;omega, by have := r.un;show A.units+3+16*k+200 < _;omega, r.gd⟩
theorem eW.depth {k : Nat}{A : Around}(r : eW k A) : A.depth < recursionLimit := by have := r.dp; omega
theorem eW.units {k : Nat}{A : Around}(r : eW k A) : A.units+64 < cLine := by have := r.un; omega
def yO : TA := fun _ H Q => Q [] H
def ox (Q : (List V → Hp → Prop))(x : V) : List V → Hp → Prop := fun xs H2 => Q (x::xs) H2
def oy (tr : TA)(σ : St)(Q : (List V → Hp → Prop)) : V → Hp → Prop := fun x H1 => tr σ H1 (ox Q x)
def uE (ta : TE)(tr : TA) : TA := fun σ H Q => ta σ H (oy tr σ Q)
section
variable {X : Cx} {e : Expr} {es : List Expr} {te : TE} {t : TA} {pos : Pos}
theorem af : PA X [] yO := fun _ _ _ _ H Q I h => Calls.spliced_nil ⟨[], H, I, .nil, h⟩
theorem aa (ha : PE X e te)(hr : PA X es t)(hs : starEach (e::es) X.env=(false, eval e X.env)::starEach es X.env := by rfl) : PA X (e::es) (uE te t) := by
  intro pos pins s σ H Q I h
  rw [hs]
  show wpAny _ _ (spliced ((false, eval e X.env)::backTo pos (starEach es X.env))) _ _ s
  refine Calls.spliced_cons (thn (ha pins s σ H _ I h) fun u s1 zq54 => ?_)
  obtain ⟨x, H1, I1, r1, q1⟩ := zq54
  exact thn (hr pos pins s1 σ H1 _ I1 q1) fun us s2 zq55 => (by obtain ⟨xs, H2, I2, r2, q2⟩ := zq55;exact ⟨x::xs, H2, I2, .cons r1 r2, q2⟩)
def qW (Q : VK) : List V → Hp → Prop := fun xs H1 => xs.length≤sizeLine ∧ ∀ p, H1 p=none → Q (.ref p) (upd H1 p (.tup xs))
def yP (t : TA) : TE := fun σ H Q => t σ H (qW Q)
def qX (Q : VK) : List V → Hp → Prop := fun xs H1 => xs.length≤sizeLine ∧ ∀ p, H1 p=none → Q (.ref p) (upd H1 p (.lst xs))
def yQ (t : TA) : TE := fun σ H Q => t σ H (qX Q)
theorem bK {x1}(h : PA X es t) : PE X (.Tuple es x1 pos) (yP t) := by
  intro pins s σ H Q I hq
  refine wpAny_Tuple_spliced (thn (h pos pins s σ H _ I hq) fun us s1 ⟨xs, H1, I1, r, z, q⟩ => ⟨by rw [← r.length];exact z, ?_⟩)
  have hf : H1 s1.heap.objs.size=none := I1.hok.fresh (zA _)
  refine ⟨.ref s1.heap.objs.size, upd H1 s1.heap.objs.size (.tup xs), I1.laid (t' := s1.toks) (fun b u e => zq _ e) (zA _) ?_, rfl, q _ hf⟩
  exact ⟨z, us, r, ⟨_, zI _ rfl, rfl, _, rfl⟩, .new _ _ rfl⟩
theorem bx (h : PA X es t) : PE X (.List es pos) (yQ t) := by
  intro pins s σ H Q I hq
  refine wpAny_List_spliced (thn (h pos pins s σ H _ I hq) fun us s1 ⟨xs, H1, I1, r, z, q⟩ => ⟨by rw [← r.length];exact z, ?_⟩)
  have hf : H1 s1.heap.objs.size=none := I1.hok.fresh (zA _)
  refine ⟨.ref s1.heap.objs.size, upd H1 s1.heap.objs.size (.lst xs), I1.laid (t' := s1.toks) (fun b u e => zq _ e) (zA _) ?_, rfl, q _ hf⟩
  exact ⟨z, us, 0, r, zI _ rfl⟩
end
abbrev Sp := List V → Hp → VK → XK → Prop
abbrev CXT := List Env → Hp → Shared → XK → Value → Shared → Prop
structure wq (P : Program) (w : World) (K : PySem.W.Frag) (mg : Str → Option Value) (base : Heap) (A : Around) (outer : List Env) (s : Shared) (H : Hp) : Prop where
  frames : A.frames=some outer
  mod : Mod K mg base
  bs : ∀ b o, base.get? b=some o → s.heap.get? b=some o ∧ H b=none
  bsz : base.objs.size≤s.heap.objs.size
  funs : s.heap.FunFrames base outer
  frf : ∀ b∈frs outer, H b=none
  hok : HOk P w H s.heap
  bare : AllBare s.gens
def CE (outer : List Env)(P : Program)(w : World)(H : Hp)(s : Shared)(Q : VK)(u : Value)(s' : Shared) : Prop :=
  ∃ v H', s'.os=s.os ∧ AllBare s'.gens ∧ Un (frs outer) [] H H' s.heap s'.heap ∧ HOk P w H' s'.heap ∧ bu v u ∧ Q v H'
def CR (CX : CXT)(outer : List Env)(P : Program)(w : World)(H : Hp)(s : Shared)(Q : VK)(E : XK)(r : Result)(s' : Shared) : Prop :=
  match r with
  | .ok (.ret u) => CE outer P w H s Q u s'
  | .ok _ => False
  | .error e => CX outer H s E e s'
structure og (P : Program) (w : World) (K : PySem.W.Frag) (mg : Str → Option Value) (base : Heap) (CX : CXT) (k : Nat) (f : Addr) (fd : FuncData) (ps : List Str) (sp : Sp) : Prop where
  len : ∀ vs H Q E, sp vs H Q E → vs.length=ps.length
  run : ∀ (A : Around) (outer : List Env) (s : Shared) (H : Hp) (args : Args) (us : List Value) (vs : List V) (Q : VK) (E : XK), eW k A → wq P w K mg base A outer s H → BindsTo s fd args (ps.zip us) → aU vs us → sp vs H Q E →
    codeAny (model P w) A (.call (.ref f) args) (CR CX outer P w H s Q E) s
section
variable {X : Cx} {pins : List (Addr × Obj)} {σ : St} {H : Hp} {s s' : Shared}
theorem Inv.env0 (I : Inv X pins σ H s) : wq X.prog X.w X.K X.mg X.base X.A X.stack s H :=
  ⟨I.ok.frames, I.ok.mod, I.bs, Ay I.ok.bsz I.sz, I.stack, I.stkFree, I.hok, I.bare⟩
theorem Inv.after {Q : VK}{u : Value}(I : Inv X pins σ H s)(h : CE X.stack X.prog X.w H s Q u s') : EP X pins σ Q u s' := by
  obtain ⟨v, H', os, bare, un, hok, r, q⟩ := h
  obtain ⟨hh, g, d, t, os'⟩ := s'
  obtain rfl : os'=s.os := os
  exact ⟨v, H', I.call (h' := hh) (g' := g) (d' := d) (t' := t) (ch := []) un hok bare (fun b z => absurd z (by simp)), r, q⟩
end
def oz (sp : Sp)(dvs : List V)(E : XK)(Q : VK) : List V → Hp → Prop := fun vs H1 => sp (vs++dvs) H1 Q E
def uF (sp : Sp)(dvs : List V)(E : XK)(t : TA) : TE := fun σ H Q => t σ H (oz sp dvs E Q)
def jZ (K : PySem.W.Frag)(fd : FuncData)(ps : List Str)(ds : List Value) : Prop :=
  ∀ (s : Shared) (us : List Value), K.In s.heap → (us++ds).length=ps.length → BindsTo s fd ⟨us, []⟩ (ps.zip (us++ds))
theorem jZ.all {K : PySem.W.Frag}{fd : FuncData}{ps : List Str}(h : ∀ us : List Value, us.length=ps.length → bindArgs fd ⟨us, []⟩=pure (ps.zip us)) : jZ K fd ps [] := fun s us _ hl => by
  rw [Bq] at hl ⊢
  exact .of_eq (h us hl)
def kQ (CX : CXT)(X : Cx)(E : XK) : Prop := ∀ (pins : List (Addr × Obj)) (σ : St) (H : Hp) (s : Shared) (e : Value) (s' : Shared), Inv X pins σ H s → CX X.stack H s E e s' → X.xe e s'
section
variable {X : Cx} {CX : CXT} {k : Nat} {f C : Addr} {fd : FuncData} {ps : List Str} {sp : Sp} {dvs : List V} {ds : List Value} {E : XK} {x m : Str} {p pos apos : Pos} {e o : Expr} {es : List Expr} {ta : TE} {t : TA}
theorem uG {pins : List (Addr × Obj)}{σ : St}{H : Hp}{s : Shared}{Q : VK}{us : List Value}{vs : List V}(F : og X.prog X.w X.K X.mg X.base CX k f fd ps sp)(hr : eW k X.A)(hb : jZ X.K fd ps ds)(hd : aU dvs ds)(hx : kQ CX X E)
    (I : Inv X pins σ H s) (r : aU vs us) (h : sp (vs++dvs) H Q E) : wpAny (model X.prog X.w) X.A (call (.ref f) us) (EP X pins σ Q) X.xe s := by
  have r2 : aU (vs++dvs) (us++ds) := r.append hd
  have hl : (us++ds).length=ps.length := by rw [← r2.length];exact F.len _ _ _ _ h
  refine wpAny_call (CG (F.run X.A X.stack s H ⟨us, []⟩ (us++ds) (vs++dvs) Q E hr I.env0 (hb s us I.kIn hl) r2 h) fun r s' hq => ?_)
  cases r with
  | error e => exact hx pins σ H s e s' I hq
  | ok fl =>
    cases fl with
    | ret u => exact I.after hq
    | next => exact False.elim hq
    | brk => exact False.elim hq
    | cont => exact False.elim hq
theorem qY (F : og X.prog X.w X.K X.mg X.base CX k f fd ps sp)(hr : eW k X.A)(hg : Gl X x)(hm : X.mg x=some (.ref f))(hk : PySem.W.keepIn X.K (.ref f)=true)(hb : jZ X.K fd ps ds)(hd : aU dvs ds)(hx : kQ CX X E)
    (ha : PA X (e::es) t) (hdb : (x == ("__debug__" : Str))=false := by decide) (he : starEach (e::es) X.env=(false, eval e X.env)::starEach es X.env := by rfl) (hpl : (backTo pos (starEach es X.env)).any (·.1)=false := by rfl) :
    PE X (.Call (.Name x p) (e::es) [] pos) (uF sp dvs E t) := by
  intro pins s σ H Q I h
  refine CH (ir I hg hm ?_ hdb)
  refine PySem.W.callWith_K (h₀ := X.base) I.ok.mod.kin hk (thn (ha pos pins s σ H _ I h) fun us s1 ⟨vs, H1, I1, r, q⟩ => ⟨I1.kIn, ?_⟩) he hpl
  exact uG F hr hb hd hx I1 r q
end
section
variable {X : Cx} {CX : CXT} {k : Nat} {f C : Addr} {fd : FuncData} {ps ks : List Str} {sp : Sp} {E : XK} {x m : Str} {p pos apos kpos : Pos} {e o : Expr} {es : List Expr} {kws : List Keyword} {te ta : TE} {t tk : TA} {nm : Option Str}
variable {g : List Value → List Value → List Value} {gV : List V → List V → List V}
end
structure aC (N P : List Str) (sc : Scope) : Prop where
  kind : sc.kind = .function
  co : sc.isCoroutine=false
  gen : sc.isGenerator=false
  nd : N.Nodup
  pre : N.take P.length=P
  par : ∀ x∈P, sc.names.lookup x=some .local ∨ sc.names.lookup x=some .cell
  nofree : ∀ y∈sc.names, y.2 ≠ .free
theorem gO {kindOf : Str → Option NameKind}{x : Str} : ∀ {binds : List (Str × Value)} {m : Str → Option Value}, (∀ v, (x, v)∉binds) → bindL kindOf binds m x=m x
  | [], _, _ => rfl
  | (n, v)::r, m, h => by
    unfold bindL
    rw [gO fun w hw => h w (zB _ hw)]
    split
    · have : x≠n := by rintro rfl;exact h v zK
      simp [this]
    · rfl
theorem gP {kindOf : Str → Option NameKind}{x : Str} : ∀ {binds : List (Str × Value)} {m : Str → Option Value}, (∀ v, (x, v)∉binds) → bindC kindOf binds m x=m x
  | [], _, _ => rfl
  | (n, v)::r, m, h => by
    unfold bindC
    rw [gP fun w hw => h w (zB _ hw)]
    split
    · rfl
    · have : x≠n := by rintro rfl;exact h v zK
      simp [this]
theorem gQ {kindOf : Str → Option NameKind}{x : Str}{v : Value} : ∀ {P : List Str} {vs : List Value} {i : Nat} {m : Str → Option Value}, P.Nodup → P[i]? = some x → vs[i]? = some v → kindOf x=some .local →
    bindL kindOf (P.zip vs) m x=some v
  | [], _, _, _, _, h, _, _ => by simp at h
  | _::_, [], _, _, _, _, h, _ => by simp at h
  | p::P, w::vs, 0, m, nd, h1, h2, hk => by
    simp at h1 h2;subst h1;subst h2
    show bindL kindOf ((p, w)::P.zip vs) m p=_
    unfold bindL
    rw [gO fun v hv => (z7.mp nd).1 (Dm hv).1, if_pos hk]
    simp
  | p::P, w::vs, i+1, m, nd, h1, h2, hk => by
    show bindL kindOf ((p, w)::P.zip vs) m x=_
    unfold bindL
    exact gQ (i := i) (z7.mp nd).2 (by simpa using h1) (by simpa using h2) hk
theorem gR {kindOf : Str → Option NameKind}{x : Str}{v : Value} : ∀ {P : List Str} {vs : List Value} {i : Nat} {m : Str → Option Value}, P.Nodup → P[i]? = some x → vs[i]? = some v → kindOf x≠some .local →
    bindC kindOf (P.zip vs) m x=some v
  | [], _, _, _, _, h, _, _ => by simp at h
  | _::_, [], _, _, _, _, h, _ => by simp at h
  | p::P, w::vs, 0, m, nd, h1, h2, hk => by
    simp at h1 h2;subst h1;subst h2
    show bindC kindOf ((p, w)::P.zip vs) m p=_
    unfold bindC
    rw [gP fun v hv => (z7.mp nd).1 (Dm hv).1, if_neg hk]
    simp
  | p::P, w::vs, i+1, m, nd, h1, h2, hk => by
    show bindC kindOf ((p, w)::P.zip vs) m x=_
    unfold bindC
    exact gR (i := i) (z7.mp nd).2 (by simpa using h1) (by simpa using h2) hk
def start (N : List Str)(vs : List V) : St := vs.map some++List.replicate (N.length - vs.length) none
def qZ (CX : CXT)(P : Program)(w : World)(K : PySem.W.Frag)(mg : Str → Option Value)(base : Heap)(N : List Str)(qual : Str)(scope : Scope)(f : Addr)(cd : Value)(A : Around)(outer : List Env)(s : Shared)(H : Hp)(E : XK) : Cx where
  prog := P
  w := w
  K := K
  mg := mg
  base := base
  A := A.deeper (envOfC qual scope s.heap.objs.size f cd)
  N := N
  s₀ := s
  H₀ := H
  env := envOfC qual scope s.heap.objs.size f cd
  outer := outer
  stack := envOfC qual scope s.heap.objs.size f cd::outer
  ex := []
  calm := true
  fn := fun _ => true
  pn := []
  xe := fun e s' => wpAny (model P w) (A.deeper (envOfC qual scope s.heap.objs.size f cd)) (leaving (envOfC qual scope s.heap.objs.size f cd) e) (fun _ s'' => CX outer H s E e s'') (fun e' s'' => CX outer H s E e' s'') s'
theorem jg {sc : Scope}{n : Nat}{x : Str}(h : sc.names.lookup x=some .cell) : ∃ c, (cellsFrom n sc.names []).lookup x=some c := by
  have q := Dk sc.names n [] (.inl h)
  exact CP.mp q
theorem kR {CX : CXT}{P : Program}{w : World}{K : PySem.W.Frag}{mg : Str → Option Value}{base : Heap}{N ps : List Str}{qual : Str}{scope : Scope}{f : Addr}{cd : Value}{A : Around}{outer : List Env}{s s1 : Shared}{H : Hp}{E : XK}{us : List Value}{vs : List V}
    (S : aC N ps scope) (hd : A.handled=none) (e0 : wq P w K mg base A outer s H) (hl : vs.length=ps.length) (r : aU vs us)
    (x : InCallC s s.heap.objs.size (bindL (envOfC qual scope s.heap.objs.size f cd).kindOf (ps.zip us) fun _ => none) (cellsFrom (s.heap.objs.size+1) scope.names []) (bindC (envOfC qual scope s.heap.objs.size f cd).kindOf (ps.zip us) fun _ => none) s1) :
    Inv (qZ CX P w K mg base N qual scope f cd A outer s H E) [] (start N vs) H s1 := by
  have hpl : ps.length≤N.length := by have := zR List.length S.pre;rw [zy] at this;omega
  obtain ⟨h1, tk, rfl, hk⟩ := x.done
  have noA : ∀ b : Addr, b∉(qZ CX P w K mg base N qual scope f cd A outer s H E).ex := fun b z => absurd (show b∈([] : List Addr) from z) (by simp)
  refine ⟨⟨e0.mod, S.kind, rfl, rfl, zA _, fun y z c h1 h2 => ?_, fun y hy => ?_, fun y c _ h => ?_, fun _ => hd, Around.frames_deeper e0.frames, .inr ⟨rfl, rfl⟩, fun b z => absurd z (noA b), e0.bs, e0.bsz, fun b _ _ => noA b, fun b z => absurd z (noA b), e0.funs, e0.frf⟩,
    rfl, e0.bare, Un.kept hk, ⟨_, x.toInCall.ns, fun i y v h1 h2 h3 => ?_⟩, fun y c h => ⟨_, x.cell y c h⟩, e0.hok.fresh (zA _), fun y c h => ?_, fun p hp => absurd (show p∈([] : List (Addr × Obj)) from hp) (by simp), e0.hok.kept hk, ?_⟩
  · exact name_of_addr x.apart (AO h1) (AO h2)
  · have hy : scope.names.lookup y=some .cell ∨ scope.names.lookup y=some .free := hy
    rcases hy with hy | hy
    · exact jg hy
    · exact absurd rfl (S.nofree _ (AO hy))
  · exact Dl (x.above y c (AO h))
  · have hi : i < vs.length := by
      unfold start at h2
      by_cases hi : i < vs.length
      · exact hi
      · rw [zL (by simpa using hi)] at h2
        rw [List.getElem?_replicate] at h2
        split at h2 <;> cases h2
    have ha : vs[i]? = some v := by
      unfold start at h2
      rw [zU (by simpa using hi), zW] at h2
      cases e : vs[i]? with
      | none => rw [e] at h2;cases h2
      | some a => rw [e] at h2;cases h2;rfl
    obtain ⟨u, hu, rv⟩ := r.get ha
    have hp : ps[i]? = some y := by
      rw [← S.pre, Ag (by omega)];exact h1
    have ndP : ps.Nodup := by rw [← S.pre];exact S.nd.sublist (List.take_sublist _ _)
    refine ⟨u, rv, ?_⟩
    rcases S.par y (An hp) with k | k
    · exact .inl ⟨k, gQ ndP hp hu k⟩
    · obtain ⟨c, e⟩ := jg (n := s.heap.objs.size+1) k
      refine .inr ⟨.inl k, c, e, ?_⟩
      have q := x.cell y c e
      rw [gR ndP hp hu (by show scope.names.lookup y≠_;rw [k];decide)] at q
      exact q
  · exact e0.hok.fresh (Dl (x.above y c (AO h)))
  · unfold start
    show _=N.length
    rw [zo, zu, List.length_replicate]
    omega
theorem wL {CX : CXT}{P : Program}{w : World}{K : PySem.W.Frag}{mg : Str → Option Value}{base : Heap}{k : Nat}{f : Addr}{name qual : Str}{params : Arguments}{body : List Stmt}{scope : Scope}{dV kV doc pm cdv ct oc : Value}{an od : Option Addr}
    {osl : Array (Option Value)} {N ps : List Str} {sp : Sp} (lk : K.lookup f=some ⟨oc, od, .func (PySem.W.fnOf name qual params body scope dV kV doc pm an cdv ct), osl⟩) (hcd : PySem.W.codeIn K cdv qual=true) (S : aC N ps scope)
    (len : ∀ vs H Q E, sp vs H Q E → vs.length=ps.length)
    (hbody : ∀ (A : Around) (outer : List Env) (s : Shared) (H : Hp) (vs : List V) (Q : VK) (E : XK), eW k (A.deeper (envOfC qual scope s.heap.objs.size f cdv)) → sp vs H Q E →
      ∃ t, PSs (qZ CX P w K mg base N qual scope f cdv A outer s H E) body t ∧ t { nx := fun _ H' => Q .non H', rt := Q } (start N vs) H) :
    og P w K mg base CX (k+1) f (PySem.W.fnOf name qual params body scope dV kV doc pm an cdv ct) ps sp := by
  refine ⟨len, fun A outer s H args us vs Q E hr e0 hb r hsp => ?_⟩
  have hl := len _ _ _ _ hsp
  have KX : K.In s.heap := e0.mod.kin.keeps fun b o e => (e0.bs b o e).1
  have lim : s.heap.NoLimit := e0.mod.nolimit.keeps fun b o e => (e0.bs b o e).1
  have hkind : ∀ y∈ps.zip us, scope.names.lookup y.1=some .local ∨ (scope.names.lookup y.1=some .cell ∧ ((cellsFrom (s.heap.objs.size+1) scope.names []).lookup y.1).isSome=true) := fun ⟨n, v⟩ hy => by
    rcases S.par n (Dm hy).1 with q | q
    · exact .inl q
    · exact .inr ⟨q, Dk _ _ _ (.inl q)⟩
  refine codeAny_call_function hr.depth (KX _ _ lk) rfl S.co S.gen rfl (PySem.W.codeRec_of KX hcd) (hb _ _ _ _ ?_)
  refine wpAny_newFunctionEnv_cells S.kind hkind fun env he s1 x => ?_
  subst he
  refine ⟨lim.keeps x.toInCall.keep, codeAny_func ?_⟩
  obtain ⟨t, ht, hq⟩ := hbody A outer s H vs Q E (hr.deeper _) hsp
  have I : Inv (qZ CX P w K mg base N qual scope f cdv A outer s H E) [] (start N vs) H s1 := kR S hr.hd e0 hl r x
  refine A2 (ht [] s1 (start N vs) H _ I hq) (fun fl s' hs => ?_) fun e s' hs => hs
  have fin : ∀ {σ' : St} {H' : Hp} {v : V} {u : Value}, Inv (qZ CX P w K mg base N qual scope f cdv A outer s H E) [] σ' H' s' → bu v u → Q v H' → CE outer P w H s Q u s' :=
    fun {σ' H' v u} J rv q => ⟨v, H', J.os, J.bare, J.base, J.hok, rv, q⟩
  cases fl with
  | ret u =>
    obtain ⟨v, σ', H', J, rv, q⟩ := hs
    exact fin J rv q
  | next =>
    obtain ⟨σ', H', J, q⟩ := hs
    exact fin (v := V.non) (u := Value.none) J rfl q
  | brk =>
    obtain ⟨_, _, _, q⟩ := hs
    exact False.elim q
  | cont =>
    obtain ⟨_, _, _, q⟩ := hs
    exact False.elim q
section
variable {X : Cx} {x : Str} {p pos : Pos} {e : Expr} {es : List Expr} {t : TA} {id T : String} {r : List V → Hp → VK → Prop}
def uH (r : List V → Hp → VK → Prop)(Q : VK) : List V → Hp → Prop := fun vs H1 => r vs H1 Q
def tCB (r : List V → Hp → VK → Prop)(t : TA) : TE := fun σ H Q => t σ H (uH r Q)
theorem ax (hc : cV X (.builtin id) r)(hg : Gl X x)(hm : X.mg x=none)(hv : bootBuiltins x=some (.builtin id))(ha : PA X (e::es) t)(hn : x ≠ "__name__" := by decide)(hdb : (x == ("__debug__" : Str))=false := by decide)
    (he : starEach (e::es) X.env=(false, eval e X.env)::starEach es X.env := by rfl) (hpl : (backTo pos (starEach es X.env)).any (·.1)=false := by rfl) : PE X (.Call (.Name x p) (e::es) [] pos) (tCB r t) := by
  intro pins s σ H Q I h
  refine CH (gK I hg hm hv ?_ hn hdb)
  exact PyProof.Rows.callWith_builtin1 (thn (ha pos pins s σ H _ I h) fun us s1 zq60 => (by obtain ⟨vs, H1, I1, r1, q1⟩ := zq60;exact hc pins s1 σ H1 vs us Q I1 r1 q1)) he hpl
theorem c0 (hc : cV X (.type T) r)(hg : Gl X x)(hm : X.mg x=none)(hv : bootBuiltins x=some (.type T))(ha : PA X (e::es) t)(hn : x ≠ "__name__" := by decide)(hdb : (x == ("__debug__" : Str))=false := by decide)
    (he : starEach (e::es) X.env=(false, eval e X.env)::starEach es X.env := by rfl) (hpl : (backTo pos (starEach es X.env)).any (·.1)=false := by rfl) : PE X (.Call (.Name x p) (e::es) [] pos) (tCB r t) := by
  intro pins s σ H Q I h
  refine CH (gK I hg hm hv ?_ hn hdb)
  exact A4 (thn (ha pos pins s σ H _ I h) fun us s1 zq61 => (by obtain ⟨vs, H1, I1, r1, q1⟩ := zq61;exact hc pins s1 σ H1 vs us Q I1 r1 q1)) he hpl
end
end L2
namespace HT
open PySem PyProof.Rows
def bB : List Int → List Int → Bool
  | [], [] => false
  | [], _::_ => true
  | _::_, [] => false
  | x::xs, y::ys => if x=y then bB xs ys else decide (x < y)
theorem bC (x y : Int)(xs ys : List Int) : bB (x::xs) (y::ys)=if x=y then bB xs ys else decide (x < y) := rfl
theorem bQ : bB [] []=false := rfl
theorem cD (y : Int)(ys : List Int) : bB [] (y::ys)=true := rfl
theorem cE (x : Int)(xs : List Int) : bB (x::xs) []=false := rfl
theorem jh (A : Around)(s : Shared)(a : Int)(t : Tok)(c : Int)(u : Tok) : ∃ e, SeqAt.EqAt A s (.int a t) (.int c u) e ∧ (e=true ↔ a=c) :=
  ⟨(a == c), SeqAt.EqAt.int_int a t c u, by simp⟩
theorem oA (A : Around)(s : Shared)(a : Int)(t : Tok)(c : Int)(u : Tok)(prog : Program)(w : World)(E : Value → Shared → Prop)(Q : Value → Shared → Prop)(h : Q (.bool (decide (a < c))) s) :
    wpAny (model prog w) A (richCompare .Lt (.int a t) (.int c u)) Q E s :=
  (PyProof.Rows.lt_int h : wpAny (model prog w) A (compareOp .Lt (.int a t) (.int c u)) Q E s)
section
open PySem.SeqAt
open PySem.AutoSeq1 (wpAny_loadPart')
open PySem.MeetsSeq PySem.MeetsSeq2 PySem.MeetsSeq3
theorem fz (l b : Addr)(items items2 : Array Value)(n n2 : Nat)(dd dd2 : Option Addr)(sl sl2 : Array (Option Value))(ns ms : List Int)(hi : IntsAre items.toList ns)(hj : IntsAre items2.toList ms) :
    Meets (Builtin.«tuple.__lt__» ⟨[.ref l, .ref b], []⟩)
      (fun _ R s => s.heap.get? l=some { cls := .type "tuple", dict := dd, data := .seq items n, slots := sl } ∧ s.heap.get? b=some { cls := .type "tuple", dict := dd2, data := .seq items2 n2, slots := sl2 } ∧
        R (.ok (.ret (.bool (bB ns ms)))) s) :=
  .of_wp fun prog w A R s h => by
    obtain ⟨hp, g, d, tk, os⟩ := s;obtain ⟨hl, hb, h⟩ := h
    have f2 := CQ
    have z1 : items.size=ns.length := by rw [← hi.length];simp
    have z2 : items2.size=ms.length := by rw [← hj.length];simp
    wp_walk using wpAny_loadPart' hl, wpAny_loadPart' hb, wpAny_forIn_list _ (fun rest b s' => b.1=none ∧ s'=⟨hp, g, d, tk, os⟩ ∧ ∃ (vs ws : List Value) (ns' ms' : List Int), rest=vs.zip ws ∧
      IntsAre vs ns' ∧ IntsAre ws ms' ∧ ns'.length+items2.size=ms'.length+items.size ∧ R (.ok (.ret (.bool (bB ns' ms')))) ⟨hp, g, d, tk, os⟩) _
    case turn =>
      rintro ⟨y, x⟩ rest b s' ⟨hb', rfl, vs, ws, ns', ms', hz, hvi, hwi, hlen, hR⟩
      cases hvi with
      | nil => rw [List.zip_nil_left] at hz;cases hz
      | cons a t hvi' =>
        cases hwi with
        | nil => rw [List.zip_nil_right] at hz;cases hz
        | cons c u hwi' =>
          rw [AU] at hz
          injection hz with hyx hrest
          injection hyx with hy hx
          subst hy hx
          rw [bC] at hR
          simp only [zY] at hlen
          obtain ⟨e, he, hiff⟩ := jh A.in1 ⟨hp, g, d, tk, os⟩ a t c u
          refine zl (he prog w _ _ ?_)
          cases e with
          | true =>
            rw [if_pos (hiff.mp rfl)] at hR
            wp_walk
            exact ⟨rfl, rfl, _, _, _, _, hrest, hvi', hwi', by omega, hR⟩
          | false =>
            rw [if_neg (fun q => absurd (hiff.mpr q) zT)] at hR
            have hri := oA A.in1 ⟨hp, g, d, tk, os⟩ a t c u prog w
            wp_walk using hri
            exact ⟨_, rfl, by simpa using hR⟩
    case fin =>
      rintro ⟨b1, b2⟩ s' ⟨hb', rfl, vs, ws, ns', ms', hz, hvi, hwi, hlen, hR⟩
      simp only at hb'
      subst hb'
      have hv : bB ns' ms'=decide (items.size < items2.size) := by
        cases hvi with
        | nil =>
          cases hwi with
          | nil =>
            simp only [Av] at hlen
            rw [bQ]
            exact (zp (by omega)).symm
          | cons c u hw =>
            simp only [Av, zY] at hlen
            rw [cD]
            exact (zH (by omega)).symm
        | cons a t hv =>
          cases hwi with
          | nil =>
            simp only [Av, zY] at hlen
            rw [cE]
            exact (zp (by omega)).symm
          | cons c u hw =>
            rw [AU] at hz
            cases hz
      rw [hv] at hR
      wp_walk
      exact ⟨_, rfl, by simpa [Builtin.Tuple.tupleCompareSizes] using hR⟩
    case h =>
      exact ⟨rfl, rfl, items.toList, items2.toList, ns, ms, rfl, hi, hj, by omega, h⟩
end
section
variable {prog : Program} {w : World} {A : Around} {E : Value → Shared → Prop} {s : Shared}
theorem eX {l b : Addr}{items items2 : Array Value}{ns ms : List Int}{Q : Value → Shared → Prop}(hl : IsTup s.heap l items)(hb : IsTup s.heap b items2)(hi : IntsAre items.toList ns)(hj : IntsAre items2.toList ms)
    (hu : A.units < cLine) (h : Q (.bool (bB ns ms)) s) : wpAny (model prog w) A (compareOp .Lt (.ref l) (.ref b)) Q E s := by
  obtain ⟨⟨cls, dd, data, sl⟩, ho, hc, n, hd⟩ := id hl
  obtain ⟨⟨cls2, dd2, data2, sl2⟩, ho2, hc2, n2, hd2⟩ := id hb
  simp only at hc hd hc2 hd2
  subst hc hd hc2 hd2
  exact richCompare_meets_room (op := .Lt) ⟨_, ho, rfl⟩ ⟨_, ho2, rfl⟩ PySem.F.slot_tuple_lt PySem.F.entry_tuple_lt (PySem.F.args_tuple_lt_2 _ _) (fz l b items items2 n n2 dd dd2 sl sl2 ns ms hi hj)
    ⟨ho, ho2, show Value.bool (bB ns ms)≠Value.notImplemented ∧ Q (.bool (bB ns ms)) s from ⟨(fun x => nomatch x), h⟩⟩ hu
def sIx (n d : Nat) : Option Int → Nat
  | none => d
  | some v => if v < 0 then (v+(n : Int)).toNat else min v.toNat n
theorem fB (n d : Nat) : sIx n d none=d := rfl
theorem ei (n d k : Nat) : sIx n d (some (k : Int))=min k n := by
  show (if (k : Int) < 0 then ((k : Int)+(n : Int)).toNat else min (k : Int).toNat n)=min k n
  rw [if_neg (by omega), Ah]
theorem qa (n d : Nat)(hd : d≤n)(o : Option Int) : sIx n d o≤n := by
  cases o with
  | none => exact hd
  | some v =>
    show (if v < 0 then (v+(n : Int)).toNat else min v.toNat n)≤n
    by_cases hv : v < 0
    · rw [if_pos hv];omega
    · rw [if_neg hv];exact Nat.min_le_right _ _
end
end HT
namespace L2
open PySem PySem.Spec PyProof.Rows
abbrev TO := St → Hp → (Option Int → Hp → Prop) → Prop
def PO (X : Cx)(e : Option Expr)(t : TO) : Prop :=
  ∀ (pins : List (Addr × Obj)) (s : Shared) (σ : St) (H : Hp) (Q : Option Int → Hp → Prop), Inv X pins σ H s → t σ H Q →
    wpAny (model X.prog X.w) X.A (evalPart e X.env) (fun u s' => ∃ o H', Inv X pins σ H' s' ∧ IsPart u o ∧ Q o H') X.xe s
def q9 : TO := fun _ H Q => Q none H
inductive IsI (x : V)(H : Hp)(Q : Option Int → Hp → Prop) : Prop
  | mk : ∀ i, (x = .int i) → (Q (some i) H) → IsI x H Q
def oB (Q : (Option Int → Hp → Prop)) : V → Hp → Prop := fun x H1 => IsI x H1 Q
def wM (t : TE) : TO := fun σ H Q => t σ H (oB Q)
theorem cv {ns : List Int} : ∀ {us : List Value}, aU (ns.map V.int) us → IntsAre us ns := by
  induction ns with
  | nil => intro us r;rw [BJ] at r;cases r;exact .nil
  | cons n ns ih =>
    intro us r
    rw [z9] at r
    cases r with
    | cons r1 r2 =>
      obtain ⟨t, e⟩ := r1
      subst e
      exact .cons n t (ih r2)
section
variable {X : Cx} {e : Expr} {te : TE} {lo hi : Option Expr} {tl th : TO} {pos p2 : Pos}
theorem aT : PO X none q9 := by
  intro pins s σ H Q I h
  rw [C2]
  exact zJ ⟨none, H, I, .none, h⟩
theorem aO (h : PE X e te) : PO X (some e) (wM te) := by
  intro pins s σ H Q I hw
  rw [evalPart_some]
  refine thn (h pins s σ H _ I hw) fun u s1 zq62 => ?_
  obtain ⟨x, H1, I1, r1, q1⟩ := zq62
  obtain ⟨i, rfl, q⟩ := q1
  obtain ⟨t, rfl⟩ := r1
  exact ⟨some i, H1, I1, .int i t, q⟩
def SlR (X : Cx)(r : V → Option Int → Option Int → Hp → VK → Prop) : Prop :=
  ∀ (pins : List (Addr × Obj)) (s : Shared) (σ : St) (H : Hp) (x : V) (v vl vu : Value) (lo hi : Option Int) (sl : Addr) (Q : VK), Inv X pins σ H s → bu x v → s.heap.IsSliceOf sl vl vu .none → IsPart vl lo → IsPart vu hi → r x lo hi H Q →
    ∃ T id, typeLookup (.type T) "__getitem__" = pure (some (.builtin id)) ∧ s.TypeIs v T ∧ wpAny (model X.prog X.w) X.A (getItem v (.ref sl)) (EP X pins σ Q) X.xe s
def uI (r : V → Option Int → Option Int → Hp → VK → Prop)(Q : VK)(x : V)(l : Option Int) : Option Int → Hp → Prop := fun u H3 => r x l u H3 Q
def uJ (r : V → Option Int → Option Int → Hp → VK → Prop)(th : TO)(σ : St)(Q : VK)(x : V) : Option Int → Hp → Prop := fun l H2 => th σ H2 (uI r Q x l)
def uK (r : V → Option Int → Option Int → Hp → VK → Prop)(tl : TO)(th : TO)(σ : St)(Q : VK) : V → Hp → Prop := fun x H1 => tl σ H1 (uJ r th σ Q x)
def tSl (r : V → Option Int → Option Int → Hp → VK → Prop)(te : TE)(tl th : TO) : TE := fun σ H Q => te σ H (uK r tl th σ Q)
theorem aI {r : V → Option Int → Option Int → Hp → VK → Prop}(hr : SlR X r)(he : PE X e te)(hl : PO X lo tl)(hu : PO X hi th) : PE X (.Subscript e (.Slice lo hi none p2) pos) (tSl r te tl th) := by
  intro pins s σ H Q I h
  refine CS (thn (he pins s σ H _ I h) fun v s1 zq63 => ?_)
  obtain ⟨x, H1, I1, r1, q1⟩ := zq63
  refine wpAny_Slice (thn (hl pins s1 σ H1 _ I1 q1) fun vl s2 ⟨l, H2, I2, pl, q2⟩ => thn (hu pins s2 σ H2 _ I2 q2) fun vu s3 zq64 => ?_)
  obtain ⟨u, H3, I3, pu, q3⟩ := zq64
  rw [C2]
  refine zJ ?_
  have I4 : Inv X pins σ H3 { s3 with heap := s3.heap.push { cls := .type "slice", data := .fields #[vl, vu, .none] } } := I3.kept (t' := s3.toks) fun b ob q => zq _ q
  obtain ⟨T, id, hT, ht, hg⟩ := hr pins { s3 with heap := s3.heap.push { cls := .type "slice", data := .fields #[vl, vu, .none] } } σ H3 x v vl vu l u s3.heap.objs.size Q I4 r1 (Heap.IsSliceOf.new ..) pl pu q3
  show wpAny (model X.prog X.w) X.A (subscriptTail e (.Slice lo hi none p2) v (.ref s3.heap.objs.size)) (EP X pins σ Q) X.xe { s3 with heap := s3.heap.push { cls := .type "slice", data := .fields #[vl, vu, .none] } }
  exact tail_any (ops := [.ref s3.heap.objs.size, v]) ht hT hg (by with_unfolding_all rfl)
def ko (xs : List V)(lo hi : Option Int) : List V := (xs.drop (HT.sIx xs.length 0 lo)).take (HT.sIx xs.length xs.length hi - HT.sIx xs.length 0 lo)
theorem iu (xs : List V)(lo hi : Option Int) : (ko xs lo hi).length≤xs.length := by
  unfold ko
  rw [zy, As]
  omega
inductive wN (K : PySem.W.Frag)(x : V)(y : V)(H : Hp)(Q : VK) : Prop
  | mk : ∀ a b ns ms, (x = .ref a) → (y = .ref b) → (SqT K H a (ns.map V.int)) → (SqT K H b (ms.map V.int)) → (Q (.bl (HT.bB ns ms)) H) → wN K x y H Q
theorem uL (hu : X.A.units < cLine) : OpR X (compareOp .Lt) (wN X.K) := by
  intro pins s σ H x y v u Q I rx ry h
  obtain ⟨a, b, ns, ms, rfl, rfl, ha, hb, q⟩ := h
  cases rx
  cases ry
  obtain ⟨its, r1, p1, _⟩ := I.tuple ha
  obtain ⟨its2, r2, p2, _⟩ := I.tuple hb
  have i1 : IntsAre its.toArray.toList ns := cv r1
  have i2 : IntsAre its2.toArray.toList ms := cv r2
  exact HT.eX p1 p2 i1 i2 hu ⟨.bl (HT.bB ns ms), H, I, rfl, q⟩
end
def ixN (n : Nat)(i : Int) : Option Nat := if 0≤i then (if i < n then some i.toNat else none) else if -(n : Int)≤i then some (i+n).toNat else none
def atI {α : Type}(xs : List α)(i : Int) : Option α := (ixN xs.length i).bind fun j => xs[j]?
theorem kT {n : Nat}{i : Int}{j : Nat}(h : ixN n i=some j) : seqIndex? i n=some j ∧ j < n ∧ -(n : Int)≤i ∧ i < n := by
  unfold ixN at h
  by_cases h0 : 0≤i
  · rw [if_pos h0] at h
    by_cases h1 : i < n
    · rw [if_pos h1] at h
      have e : i.toNat=j := zD h
      exact ⟨by rw [seqIndex_of h0 h1, e], by omega, by omega, h1⟩
    · rw [if_neg h1] at h;cases h
  · rw [if_neg h0] at h
    by_cases h1 : -(n : Int)≤i
    · rw [if_pos h1] at h
      have e : (i+n).toNat=j := zD h
      exact ⟨by rw [seqIndex_neg (by omega) h1, e], by omega, h1, by omega⟩
    · rw [if_neg h1] at h;cases h
theorem iw {α : Type}{xs : List α}{i : Int}{v : α}(h : atI xs i=some v) : ∃ j, seqIndex? i xs.length=some j ∧ xs[j]? = some v ∧ j < xs.length ∧ -(xs.length : Int)≤i ∧ i < xs.length := by
  unfold atI at h
  cases e : ixN xs.length i with
  | none => rw [e] at h;cases h
  | some j =>
    rw [e] at h
    obtain ⟨h1, h2, h3, h4⟩ := kT e
    exact ⟨j, h1, h, h2, h3, h4⟩
theorem cL {α : Type}{xs : List α}{j : Nat}{v : α}(h : xs[j]? = some v) : atI xs (j : Int)=some v := by
  have hj : j < xs.length := (zm.mp h).1
  have e : ixN xs.length (j : Int)=some j := by
    unfold ixN
    rw [if_pos (by omega), if_pos (by omega)];simp
  unfold atI;rw [e];exact h
theorem oD {α : Type}(xs : List α)(v : α) : atI (xs++[v]) (-1)=some v := by
  have hl : (xs++[v]).length=xs.length+1 := by simp
  have e : ixN (xs++[v]).length (-1)=some xs.length := by
    unfold ixN
    rw [hl, if_neg (by decide), if_pos (by omega)]
    congr 1
    omega
  unfold atI
  rw [e]
  show (xs++[v])[xs.length]? = some v
  simp
def kU (b : Expr) : Prop := ∀ o i, subscripted b false o i=operate [o, i] (getItem o i)
def IxR (X : Cx)(r : R2) : Prop :=
  ∀ (value slice : Expr) (pins : List (Addr × Obj)) (s : Shared) (σ : St) (H : Hp) (x y : V) (v u : Value) (Q : VK), Inv X pins σ H s → bu x v → bu y u → r x y H Q →
    subscripted slice false v u=operate [v, u] (getItem v u) → wpAny (model X.prog X.w) X.A (subscriptTail value slice v u) (EP X pins σ Q) X.xe s
def MtR (X : Cx)(id : String)(r : V → List V → Hp → VK → Prop) : Prop :=
  ∀ (pins : List (Addr × Obj)) (s : Shared) (σ : St) (H : Hp) (x : V) (xs : List V) (v : Value) (us : List Value) (Q : VK), Inv X pins σ H s → bu x v → aU xs us → r x xs H Q →
    wpAny (model X.prog X.w) X.A (call (.builtin id) (v::us)) (EP X pins σ Q) X.xe s
section
variable {X : Cx} {a b : Expr} {ta tb : TE} {pos : Pos}
theorem aW {r : R2}(hr : IxR X r)(ha : PE X a ta)(hb : PE X b tb)(hs : kU b) : PE X (.Subscript a b pos) (tOp r ta tb) := by
  intro pins s σ H Q I h
  exact CS (wI ha hb I h fun v u s2 x y H2 I2 rx ry q => hr a b pins s2 σ H2 x y v u Q I2 rx ry q (hs _ _))
inductive yk (K : PySem.W.Frag)(x : V)(y : V)(H : Hp)(Q : VK) : Prop
  | mk : ∀ p xs i v, (x = .ref p) → (y = .int i) → (SqL K H p xs) → (atI xs i=some v) → (Q v H) → yk K x y H Q
inductive ym (K : PySem.W.Frag)(x : V)(y : V)(H : Hp)(Q : VK) : Prop
  | mk : ∀ p xs i v, (x = .ref p) → (y = .int i) → (SqT K H p xs) → (atI xs i=some v) → (Q v H) → ym K x y H Q
inductive yn (x : V)(y : V)(H : Hp)(Q : VK) : Prop
  | mk : ∀ z i c, (x = .str z) → (y = .int i) → (z.length≤sizeLine) → (atI z.cps.toList i=some c) → (Q (.str ⟨#[c]⟩) H) → yn x y H Q
theorem bI : IxR X (yk X.K) := by
  intro value slice pins s σ H x y v u Q I rx ry h hs
  obtain ⟨p, xs, i, z, rfl, rfl, hq, he, q⟩ := h
  cases rx
  obtain ⟨t, rfl⟩ := ry
  obtain ⟨its, r, pl, hz⟩ := I.list hq
  obtain ⟨j, h1, h2, h3, h4, h5⟩ := iw he
  obtain ⟨w, ew, rw'⟩ := r.get h2
  have hl := r.length
  have hn := d9
  have fin : EP X pins σ Q w s := ⟨z, H, I, rw', q⟩
  by_cases h0 : 0≤i
  · have hj : i.toNat=j := by
      rw [seqIndex_of h0 h5] at h1
      exact zD h1
    exact item_listR pl.isList h0 (by omega) (by rw [hj];simpa using ew) fin hs
  · have hj : (i+(its.toArray.size : Int)).toNat=j := by
      rw [seqIndex_neg (by omega) h4] at h1
      rw [zO, ← hl]
      exact zD h1
    exact subscriptTail_builtinR (x := w) pl.isList.typeIs slot_list_getitem.lookup
      (wpAny_getItem_list_neg (Q := fun r s' => r=w ∧ EP X pins σ Q r s') pl.isList (by omega) (by rw [zO] <;> omega) (by omega) (by rw [hj];simpa using ew) ⟨rfl, fin⟩) hs
theorem a_ : IxR X (ym X.K) := by
  intro value slice pins s σ H x y v u Q I rx ry h hs
  obtain ⟨p, xs, i, z, rfl, rfl, hq, he, q⟩ := h
  cases rx
  obtain ⟨t, rfl⟩ := ry
  obtain ⟨its, r, pl, hz⟩ := I.tuple hq
  obtain ⟨j, h1, h2, h3, h4, h5⟩ := iw he
  obtain ⟨w, ew, rw'⟩ := r.get h2
  have hl := r.length
  have hn := d9
  have fin : EP X pins σ Q w s := ⟨z, H, I, rw', q⟩
  exact subscriptTail_builtinR (x := w) pl.typeIs slot_tuple_getitem.lookup
    (getItem_tuple (j := j) (Q := fun r s' => r=w ∧ EP X pins σ Q r s') pl (by omega) (by omega) (by rw [zO, ← hl];exact h1) (by simpa using ew) ⟨rfl, fin⟩) hs
theorem dF : IxR X yn := by
  intro value slice pins s σ H x y v u Q I rx ry h hs
  obtain ⟨z, i, c, rfl, rfl, hz, he, q⟩ := h
  obtain ⟨t, rfl⟩ := rx
  obtain ⟨t', rfl⟩ := ry
  obtain ⟨j, h1, h2, h3, h4, h5⟩ := iw he
  have hl : z.cps.toList.length=z.length := by simp [Str.length]
  rw [hl] at h1 h4 h5
  have hn := d9
  exact tail_any (Ck s z t) slot_str_getitem.lookup (getItem_str (c := c) (by
    have e1 : decide (i < -(2 ^ 63 : Int))=false := zp (by omega)
    have e2 : decide (i≥2 ^ 63)=false := zp (by omega)
    rw [e1, e2, Dy]) (by rw [h1];simpa using h2) ⟨.str ⟨#[c]⟩, H, I.tok _, ⟨_, rfl⟩, q⟩) hs
theorem Inv.lst {pins : List (Addr × Obj)}{σ : St}{H : Hp}{s : Shared}{p : Addr}{xs : List V}(I : Inv X pins σ H s)(h : H p=some (.lst xs)) :
    ∃ (its : List Value) (n : Nat), aU xs its ∧ s.heap.get? p=some { cls := .type "list", data := .seq its.toArray n } ∧ xs.length≤sizeLine := by
  obtain ⟨z, its, n, r, e⟩ := I.hok p _ h
  exact ⟨its, n, r, e, z⟩
theorem gT (lo hi : Option Int)(n : Nat) : (sliceBounds lo hi none n).1=((HT.sIx n 0 lo : Nat) : Int) ∧ (sliceBounds lo hi none n).2.1=((HT.sIx n n hi : Nat) : Int) ∧ (sliceBounds lo hi none n).2.2=1 := by
  refine ⟨?_, ?_, rfl⟩
  · cases lo with
    | none => simp [sliceBounds, HT.sIx]
    | some i =>
      simp only [sliceBounds, HT.sIx, C_, show (1 : Int) > 0 by decide, Bd]
      by_cases h : i < 0
      · simp only [h, Bd] <;> omega
      · simp only [h, AI] <;> omega
  · cases hi with
    | none => simp [sliceBounds, HT.sIx]
    | some i =>
      simp only [sliceBounds, HT.sIx, C_, show (1 : Int) > 0 by decide, Bd]
      by_cases h : i < 0
      · simp only [h, Bd] <;> omega
      · simp only [h, AI] <;> omega
theorem fC (its : List Value)(lo hi : Option Int) : slicePick its.toArray lo hi none=((its.drop (HT.sIx its.length 0 lo)).take (HT.sIx its.length its.length hi - HT.sIx its.length 0 lo)).toArray := by
  obtain ⟨h1, h2, h3⟩ := gT lo hi its.toArray.size
  unfold slicePick
  rw [h1, h2, h3]
  simp only [sliceRange_one, pick_run, zO] <;> rfl
inductive yo (K : PySem.W.Frag)(x : V)(lo : Option Int)(hi : Option Int)(H : Hp)(Q : VK) : Prop
  | mk : ∀ a xs, (x = .ref a) → (SqL K H a xs) → (∀ p, H p=none → Q (.ref p) (upd H p (.lst (ko xs lo hi)))) → yo K x lo hi H Q
theorem ix : SlR X (yo X.K) := by
  intro pins s σ H x v vl vu lo hi sl Q I rx hs pl pu h
  obtain ⟨a, xs, rfl, hx, q⟩ := h
  cases rx
  obtain ⟨its, r, ht, hz⟩ := I.list hx
  have hlen := r.length
  refine ⟨"list", _, slot_list_getitem.lookup, ht.isList.typeIs, ?_⟩
  refine CT ht.isList hs pl pu .none (by simp) ?_ (by rw [zO] <;> omega)
  rw [fC, ← hlen]
  refine ⟨.ref s.heap.objs.size, _, I.laid (t' := s.toks) (o := .lst (ko xs lo hi)) (fun b ob q => zq _ q) (zA _) ?_, rfl, q _ (I.hok.fresh (zA _))⟩
  exact ⟨Ay (iu xs lo hi) hz, _, 0, (r.drop (HT.sIx xs.length 0 lo)).take (HT.sIx xs.length xs.length hi - HT.sIx xs.length 0 lo), zI _ rfl⟩
inductive cF (K : PySem.W.Frag)(xs : List V)(H : Hp)(Q : VK) : Prop
  | mk : ∀ p ys, (xs=[.ref p]) → ((SqL K H p ys ∨ SqT K H p ys)) → (Q (.int ys.length) H) → cF K xs H Q
theorem bh : cV X (.builtin "len") (cF X.K) := by
  intro pins s σ H xs us Q I r h
  obtain ⟨p, ys, rfl, hq, q⟩ := h
  obtain ⟨u, rfl, rx⟩ := cZ r
  cases rx
  have hn := d9
  rcases hq with hq | hq
  · obtain ⟨its, r', pl, hz⟩ := I.list hq
    have hlen := r'.length
    exact Calls.call_len_list pl.isList (by simp only [zO] <;> omega) ⟨.int ys.length, H, I.tok _, ⟨s.toks+1, by rw [zO, hlen]⟩, q⟩
  · obtain ⟨its, r', pl, hz⟩ := I.tuple hq
    have hlen := r'.length
    exact len_tuple pl (by simp only [zO] <;> omega) ⟨.int ys.length, H, I.tok _, ⟨s.toks+1, by rw [zO, hlen]⟩, q⟩
inductive cH  (xs : List V)(H : Hp)(Q : VK) : Prop
  | mk : ∀ z, (xs=[.str z]) → (z.length≤sizeLine) → (Q (.int z.length) H) → cH xs H Q
theorem av : cV X (.builtin "len") cH := by
  intro pins s σ H xs us Q I r h
  obtain ⟨z, rfl, hz, q⟩ := h
  obtain ⟨u, rfl, t, rfl⟩ := cZ r
  have hn := d9
  exact len_str (by omega) ⟨.int z.length, H, I.tok _, ⟨_, rfl⟩, q⟩
inductive cI (K : PySem.W.Frag)(xs : List V)(H : Hp)(Q : VK) : Prop
  | mk : ∀ p ys, (xs=[.ref p]) → ((SqL K H p ys ∨ SqT K H p ys)) → (∀ l, H l=none → Q (.ref l) (upd H l (.lst ys))) → cI K xs H Q
theorem gU : cV X (.type "list") (cI X.K) := by
  intro pins s σ H xs us Q I r h
  obtain ⟨p, ys, rfl, hq, q⟩ := h
  obtain ⟨u, rfl, rx⟩ := cZ r
  cases rx
  have fin : ∀ (its : List Value), aU ys its → ys.length≤sizeLine → ∀ (h' : Heap) (c' : Nat), (∀ b o', s.heap.get? b=some o' → h'.get? b=some o') →
      h'.get? s.heap.objs.size=some { cls := .type "list", dict := none, data := .seq its.toArray c', slots := #[] } → EP X pins σ Q (.ref s.heap.objs.size) { s with heap := h' } := fun its r' hz h' c' kp e =>
    ⟨.ref s.heap.objs.size, _, I.laid (t' := s.toks) kp (zA _) (show bG X.prog X.w _ h' _ (.lst ys) from ⟨hz, its, c', r', e⟩), rfl, q _ (I.hok.fresh (zA _))⟩
  rcases hq with hq | hq
  · obtain ⟨its, r', pl, hz⟩ := I.list hq
    have hlen := r'.length
    obtain ⟨o, ho, hc, n, hd⟩ := pl.isList
    exact call_list_seq p (.inl rfl) ho hc hd (fun h' c' kp e => fin its r' hz h' c' kp e) (by simp only [zO] <;> omega)
  · obtain ⟨its, r', pl, hz⟩ := I.tuple hq
    have hlen := r'.length
    obtain ⟨o, ho, hc, n, hd⟩ := pl
    exact call_list_seq p (.inr rfl) ho hc hd (fun h' c' kp e => fin its r' hz h' c' kp e) (by simp only [zO] <;> omega)
def tyV (K : PySem.W.Frag)(T : String)(x : V)(H : Hp) : Prop := match x with
  | .str _ => T = "str"
  | .int _ => T = "int"
  | .ref p => (T = "list" ∧ ∃ xs, SqL K H p xs) ∨ (T = "tuple" ∧ ((∃ o, K.lookup p=some o ∧ o.cls = .type "tuple" ∧ o.dict=none) ∨ ∃ xs, H p=some (.tup xs))) ∨
      (T = "dict" ∧ ((∃ kvs, H p=some (.dK kvs)) ∨ ∃ kvs, H p=some (.dT kvs))) ∨ (T = "set" ∧ ∃ S n, H p=some (.set S n))
  | _ => False
theorem qb {pins : List (Addr × Obj)}{σ : St}{H : Hp}{s : Shared}{T : String}{x : V}{v : Value}(I : Inv X pins σ H s)(r : bu x v)(ty : tyV X.K T x H) :
    s.TypeIs v T ∧ ∀ a, v = .ref a → ∃ ob, s.heap.get? a=some ob ∧ ob.dict=none := by
  cases x with
  | str z =>
    obtain ⟨t, rfl⟩ := r
    cases (show T = "str" from ty)
    exact ⟨Ck s z t, fun _ e => nomatch e⟩
  | int i =>
    obtain ⟨t, rfl⟩ := r
    cases (show T = "int" from ty)
    exact ⟨typeIs_int s i t, fun _ e => nomatch e⟩
  | ref p =>
    cases r
    rcases ty with ⟨rfl, xs, hq⟩ | ⟨rfl, ⟨o, hk, hc, hd⟩ | ⟨xs, hk⟩⟩ | ⟨rfl, hk⟩ | ⟨rfl, S, n, hk⟩
    · obtain ⟨its, _, pl, _⟩ := I.list hq
      refine ⟨pl.isList.typeIs, fun a e => ?_⟩
      cases e
      obtain ⟨o, n, e, c, hd, _⟩ := pl
      exact ⟨o, e, hd⟩
    · refine ⟨⟨o, I.kIn p o hk, hc⟩, fun a e => ?_⟩
      cases e
      exact ⟨o, I.kIn _ o hk, hd⟩
    · obtain ⟨_, _, _, ⟨o, e, hc, _⟩, hn⟩ := I.hok p _ hk
      refine ⟨⟨o, e, hc⟩, fun a e => ?_⟩
      cases e
      exact hn
    · have z : ∃ o, s.heap.get? p=some o ∧ o.ExactDict := by
        rcases hk with ⟨kvs, hk⟩ | ⟨kvs, hk⟩
        · obtain ⟨_, _, _, _, o, _, _, e, ex, _⟩ := I.hok p _ hk
          exact ⟨o, e, ex⟩
        · obtain ⟨_, _, _, _, o, _, _, e, ex, _⟩ := I.hok p _ hk
          exact ⟨o, e, ex⟩
      obtain ⟨o, e, ex⟩ := z
      refine ⟨⟨o, e, ex.1⟩, fun a e2 => ?_⟩
      cases e2
      exact ⟨o, e, ex.2.1⟩
    · obtain ⟨o, _, _, _, e, ex, _⟩ := I.hok p _ hk
      refine ⟨⟨o, e, ex.1⟩, fun a e2 => ?_⟩
      cases e2
      exact ⟨o, e, ex.2.1⟩
  | _ => exact False.elim ty
def q_ (K : PySem.W.Frag)(T : String)(r : V → List V → Hp → VK → Prop)(Q : VK) : V → Hp → Prop := fun x H1 => tyV K T x H1 ∧ r x [] H1 Q
def yR (K : PySem.W.Frag)(T : String)(r : V → List V → Hp → VK → Prop)(to : TE) : TE := fun σ H Q => to σ H (q_ K T r Q)
def uM (r : V → List V → Hp → VK → Prop)(Q : VK)(x : V) : List V → Hp → Prop := fun xs H2 => r x xs H2 Q
def uN (K : PySem.W.Frag)(T : String)(r : V → List V → Hp → VK → Prop)(t : TA)(σ : St)(Q : VK) : V → Hp → Prop := fun x H1 => tyV K T x H1 ∧ t σ H1 (uM r Q x)
def tBM (K : PySem.W.Frag)(T : String)(r : V → List V → Hp → VK → Prop)(to : TE)(t : TA) : TE := fun σ H Q => to σ H (uN K T r t σ Q)
variable {o e : Expr} {es : List Expr} {to : TE} {t : TA} {name : Str} {apos cpos : Pos} {T id : String} {r : V → List V → Hp → VK → Prop}
theorem eY (pa : PlainAttrs T)(slot : Slot T name id)(hty : typeOf (.builtin id)=pure (.type "method_descriptor"))(hm : MtR X id r)(ho : PE X o to)
    (hbase : attributeBase o name X.env (eval o X.env)=eval o X.env := by rfl) (hline : (apos.endLine == cpos.line)=true := by rfl) : PE X (.Call (.Attribute o name apos) [] [] cpos) (yR X.K T r to) := by
  intro pins s σ H Q I h
  refine wpAny_Call_method0_late hbase hline (thn (ho pins s σ H _ I h) fun v s1 zq65 => ?_)
  obtain ⟨x, H1, I1, r1, ty, q1⟩ := zq65
  obtain ⟨h1, h2⟩ := qb I1 r1 ty
  exact ⟨T, id, pa, slot, hty, h1, h2, Calls.callWith_builtin rfl (PySem.evalArgs_none (hm pins s1 σ H1 x [] v [] Q I1 r1 .nil q1))⟩
theorem dN (pa : PlainAttrs T)(slot : Slot T name id)(hty : typeOf (.builtin id)=pure (.type "method_descriptor"))(hm : MtR X id r)(ho : PE X o to)(ha : PA X (e::es) t)
    (hbase : attributeBase o name X.env (eval o X.env)=eval o X.env := by rfl)
    (hfew : ((backTo cpos (starEach (e::es) X.env)).all (fun x => !x.1) && (backToKw cpos (keywordEach [] X.env)).all (fun x => x.1.isSome)
      && decide ((e::es).length+([] : List Keyword).length+(if ([] : List Keyword).isEmpty then 0 else 1) < 30))=true := by rfl)
    (hline : (apos.endLine == cpos.line)=true := by rfl) (hs : starEach (e::es) X.env=(false, eval e X.env)::starEach es X.env := by rfl) (hplain : (backTo cpos (starEach es X.env)).any (·.1)=false := by rfl) :
    PE X (.Call (.Attribute o name apos) (e::es) [] cpos) (tBM X.K T r to t) := by
  intro pins s σ H Q I h
  refine wpAny_Call_method_late hbase hfew hline rfl (thn (ho pins s σ H _ I h) fun v s1 zq66 => ?_)
  obtain ⟨x, H1, I1, r1, ty, q1⟩ := zq66
  obtain ⟨h1, h2⟩ := qb I1 r1 ty
  refine ⟨T, id, pa, slot, hty, h1, h2, ?_⟩
  have hA := ha cpos pins s1 σ H1 _ I1 q1
  rw [hs] at hA ⊢
  refine Calls.callWith_builtin (by show (false || (backTo cpos (starEach es X.env)).any (·.1))=false;rw [hplain] <;> rfl) (Calls.evalArgs_plain ?_)
  exact thn hA fun us s2 zq67 => (by obtain ⟨vs, H2, I2, r2, q2⟩ := zq67;exact hm pins s2 σ H2 x vs v us Q I2 r1 r2 q2)
/- xs.append(e), list.index on a module's tuple .. are MtR facts of 06m -/
end
def MtM (X : Cx)(id : String)(r : V → List V → Hp → VK → Prop) : Prop :=
  ∀ (pins : List (Addr × Obj)) (s : Shared) (σ : St) (H : Hp) (x : V) (xs : List V) (v : Value) (us : List Value) (Q : VK), Inv X pins σ H s → bu x v → aU xs us → r x xs H Q →
    wpAny (model X.prog X.w) X.A (call (.builtin id) (v::us)) (EP X pins σ Q) X.xe s
theorem aU.one : ∀ {x : V} {us : List Value}, aU [x] us → ∃ u, us=[u] ∧ bu x u
  | _, _, .cons r .nil => ⟨_, rfl, r⟩
theorem aU.zero : ∀ {us : List Value}, aU [] us → us=[]
  | _, .nil => rfl
theorem aU.dropLast {xs : List V}{us : List Value}(h : aU xs us) : aU xs.dropLast us.dropLast := by
  induction h with
  | nil => exact .nil
  | cons r t ih =>
    cases t with
    | nil => exact .nil
    | cons q t' => exact .cons r ih
theorem aU.eraseIdx : ∀ {xs : List V} {us : List Value} (i : Nat), aU xs us → aU (xs.eraseIdx i) (us.eraseIdx i)
  | _, _, _, .nil => .nil
  | _, _, 0, .cons _ t => t
  | _, _, i+1, .cons r t => .cons r (aU.eraseIdx i t)
theorem aU.reverse {xs : List V}{us : List Value}(h : aU xs us) : aU xs.reverse us.reverse := by
  induction h with
  | nil => exact .nil
  | cons r t ih => rw [A3, A3];exact aU.append ih (.cons r .nil)
theorem aU.rep {xs : List V}{us : List Value}(h : aU xs us) : ∀ k : Nat, aU (List.replicate k xs).flatten (List.replicate k us).flatten
  | 0 => .nil
  | k+1 => by
    rw [A5, A5, AC, AC]
    exact aU.append h (aU.rep h k)
theorem j2 {α : Type}(l : List α) : l.eraseIdx (l.length - 1)=l.dropLast := by
  induction l with
  | nil => rfl
  | cons a r ih =>
    cases r with
    | nil => rfl
    | cons b r =>
      have e : (a::b::r).length - 1=((b::r).length - 1)+1 := by
        have h1 : (a::b::r).length=r.length+2 := rfl
        have h2 : (b::r).length=r.length+1 := rfl
        omega
      rw [e, BO, ih]
      all_goals rfl
theorem gX {α : Type} : ∀ (l : List α) (i : Nat), (l.eraseIdx i).length≤l.length
  | [], _ => zA _
  | _::_, 0 => Cr _
  | _::r, i+1 => Nat.succ_le_succ (gX r i)
theorem gY (its : List Value) : ∀ (k : Nat) (acc : List Value),
    List.foldl (fun x1 x2 => x1++x2) acc.toArray (List.replicate k its.toArray)=(acc++(List.replicate k its).flatten).toArray
  | 0, acc => by simp
  | k+1, acc => by
    have e : acc.toArray++its.toArray=(acc++its).toArray := by simp
    have e2 : (acc++its)++(List.replicate k its).flatten=acc++(List.replicate (k+1) its).flatten := by
      rw [A5, AC, zw]
    rw [← e2, ← gY its k (acc++its), ← e, A5, Dn]
section
variable {X : Cx} {pins : List (Addr × Obj)} {σ : St} {H : Hp} {s : Shared} {l b : Addr} {xs ys zs : List V}
theorem Inv.lset {its its' : List Value}{n : Nat}{f : Array Value → Array Value}{t' : Nat}(I : Inv X pins σ H s)(hH : H l=some (.lst xs))
    (e : s.heap.get? l=some { cls := .type "list", data := .seq its.toArray n }) (hf : f its.toArray=its'.toArray) (hv : aU ys its') (hz : ys.length≤sizeLine) :
    Inv X pins σ (upd H l (.lst ys)) { s with heap := s.heap.update l (Obj.mapSeq f), toks := t' } := by
  have q := PySem.IsL.update e f
  rw [hf] at q
  refine I.write (x := l) (e := l) (by rw [hH];exact trivial) (.inl rfl) (fun b' u hb hu => (Az s.heap (Obj.mapSeq f) (Ne.symm hb)).trans hu) ⟨_, q⟩ ?_
  exact ⟨hz, its', _, hv, q⟩
theorem Inv.lnew {its : List Value}{t' : Nat}(I : Inv X pins σ H s)(hv : aU ys its)(hz : ys.length≤sizeLine) :
    Inv X pins σ (upd H s.heap.objs.size (.lst ys)) { s with heap := s.heap.push { cls := .type "list", data := .seq its.toArray }, toks := t' } :=
  I.laid (fun _ _ q => zq _ q) (zA _) ⟨hz, its, 0, hv, zI _ rfl⟩
theorem Inv.fresh (I : Inv X pins σ H s) : H s.heap.objs.size=none := I.hok.fresh (zA _)
theorem Inv.lstM (I : Inv X pins σ H s)(hH : H l=some (.lst xs)) : xs.length≤sizeLine ∧ ∃ (its : List Value) (n : Nat), aU xs its ∧ xs.length=its.length ∧ s.heap.get? l=some { cls := .type "list", data := .seq its.toArray n } := by
  obtain ⟨z, its, n, r, e⟩ := I.hok l _ hH
  exact ⟨z, its, n, r, r.length, e⟩
theorem ji {n : Nat}(h : n≤sizeLine) : Builtin.List.listTooLong n=false := by
  unfold Builtin.List.listTooLong
  exact zp (by omega)
end
section
variable {X : Cx}
inductive kW (x : V)(vs : List V)(H : Hp)(Q : VK) : Prop
  | mk : ∀ l xs y, (x = .ref l) → (vs=[y]) → (H l=some (.lst xs)) → (xs.length < sizeLine) → (Q .non (upd H l (.lst (xs++[y])))) → kW x vs H Q
theorem kX : MtM X "list.append" kW := by
  intro pins s σ H x vs v us Q I rx rv h
  obtain ⟨l, xs, y, rfl, rfl, hH, hz, q⟩ := h
  cases rx
  obtain ⟨u, rfl, ru⟩ := rv.one
  obtain ⟨z, its, n, r, hl, e⟩ := I.lstM hH
  refine Cm F.slot_list_append ⟨_, e, rfl⟩ F.entry_list_append (F.args_list_append_2 _ _) (PySem.list_append l its.toArray n u (by rw [zO];omega)) ⟨e, ?_⟩
  refine ⟨.non, _, I.lset (its' := its++[u]) hH e (by simp) (r.append (.cons ru .nil)) ?_, rfl, q⟩
  rw [zo, A_]
  omega
inductive kY (x : V)(vs : List V)(H : Hp)(Q : VK) : Prop
  | mk : ∀ l b xs zs, (x = .ref l) → (vs=[.ref b]) → (H l=some (.lst xs)) → (H b=some (.lst zs)) → (xs.length+zs.length≤sizeLine) → (Q .non (upd H l (.lst (xs++zs)))) → kY x vs H Q
theorem eA : MtM X "list.extend" kY := by
  intro pins s σ H x vs v us Q I rx rv h
  obtain ⟨l, b, xs, zs, rfl, rfl, hH, hB, hz, q⟩ := h
  cases rx
  obtain ⟨u, rfl, ru⟩ := rv.one
  cases ru
  obtain ⟨z, its, n, r, hl, e⟩ := I.lstM hH
  obtain ⟨z2, its2, n2, r2, hl2, e2⟩ := I.lstM hB
  have hsz : its.toArray.size+its2.toArray.size≤sizeLine := by rw [zO, zO];omega
  have hlong : ¬ (!its.toArray.isEmpty && Builtin.List.listTooLong (its.toArray.size+its2.toArray.size))=true := by
    rw [ji hsz, CJ]
    exact zT
  refine Cm F.slot_list_extend ⟨_, e, rfl⟩ F.entry_list_extend (F.args_list_extend_2 _ _)
    (AutoSeq1.list_extend_list_list_0 l its.toArray n b its2.toArray n2 hlong (by rw [zO];omega) (by omega)) ⟨e, e2, ?_⟩
  refine ⟨.non, _, I.lset (its' := its++its2) hH e (by simp) (r.append r2) ?_, rfl, q⟩
  rw [zo]
  omega
inductive yp (x : V)(vs : List V)(H : Hp)(Q : VK) : Prop
  | mk : ∀ l xs y, (x = .ref l) → (vs=[]) → (H l=some (.lst xs)) → (xs[xs.length - 1]? = some y) → (Q y (upd H l (.lst xs.dropLast))) → yp x vs H Q
theorem uO : MtM X "list.pop" yp := by
  intro pins s σ H x vs v us Q I rx rv h
  obtain ⟨l, xs, y, rfl, rfl, hH, hy, q⟩ := h
  cases rx
  have hus := rv.zero
  subst hus
  obtain ⟨z, its, n, r, hl, e⟩ := I.lstM hH
  obtain ⟨u, hu, ru⟩ := r.get hy
  have hy' : its.toArray[its.toArray.size - 1]? = some u := by
    show its.toArray[its.length - 1]? = some u
    rw [← z8, ← hl]
    exact hu
  refine Cm F.slot_list_pop ⟨_, e, rfl⟩ F.entry_list_pop (F.args_list_pop_1 _) (MeetsSeq.list_pop_last l its.toArray n u hy' (by rw [zO];omega)) ⟨e, ?_⟩
  refine ⟨y, _, I.lset (its' := its.dropLast) hH e ?_ r.dropLast ?_, ru, q⟩
  · show its.toArray.eraseIdxIfInBounds (its.toArray.size - 1)=its.dropLast.toArray
    rw [zO, B5, j2]
  · rw [List.length_dropLast]
    omega
inductive qc (x : V)(vs : List V)(H : Hp)(Q : VK) : Prop
  | mk : ∀ l xs i k y, (x = .ref l) → (vs=[.int i]) → (H l=some (.lst xs)) → (-(2 ^ 63)≤i) → (i < 2 ^ 63) → (seqIndex? i xs.length=some k) → (xs[k]? = some y) → (Q y (upd H l (.lst (xs.eraseIdx k)))) → qc x vs H Q
theorem oE : MtM X "list.pop" qc := by
  intro pins s σ H x vs v us Q I rx rv h
  obtain ⟨l, xs, i, k, y, rfl, rfl, hH, h1, h2, hk, hy, q⟩ := h
  cases rx
  obtain ⟨u, rfl, ru⟩ := rv.one
  obtain ⟨t, rfl⟩ := ru
  obtain ⟨z, its, n, r, hl, e⟩ := I.lstM hH
  obtain ⟨w, hw, rw'⟩ := r.get hy
  refine Cm F.slot_list_pop ⟨_, e, rfl⟩ F.entry_list_pop (F.args_list_pop_2 _ _)
    (MeetsSeq.list_pop_at l its.toArray n i t k w (fitsIndex_both h1 h2) (by rw [zO, ← hl];exact hk) (by rw [← z8];exact hw) (by rw [zO];omega)) ⟨e, ?_⟩
  refine ⟨y, _, I.lset (its' := its.eraseIdx k) hH e ?_ (r.eraseIdx k) ?_, rw', q⟩
  · show its.toArray.eraseIdxIfInBounds k=(its.eraseIdx k).toArray
    rw [B5]
  · have := gX xs k
    omega
inductive yq (x : V)(y : V)(H : Hp)(Q : VK) : Prop
  | mk : ∀ l b xs zs, (x = .ref l) → (y = .ref b) → (H l=some (.lst xs)) → (H b=some (.lst zs)) → (xs.length+zs.length≤sizeLine) → (∀ p, H p=none → Q (.ref p) (upd H p (.lst (xs++zs)))) → yq x y H Q
theorem uP : OpR X (binaryOp .Add) yq := by
  intro pins s σ H x y v u Q I rx ry h
  obtain ⟨l, b, xs, zs, rfl, rfl, hH, hB, hz, q⟩ := h
  cases rx
  cases ry
  obtain ⟨z, its, n, r, hl, e⟩ := I.lstM hH
  obtain ⟨z2, its2, n2, r2, hl2, e2⟩ := I.lstM hB
  refine PySem.P.add_list e e2 ?_ (by rw [zO, zO];omega)
  have ea : its.toArray++its2.toArray=(its++its2).toArray := by simp
  rw [ea]
  exact ⟨.ref _, _, I.lnew (t' := s.toks) (r.append r2) (by rw [zo];omega), rfl, q _ I.fresh⟩
inductive yr (x : V)(y : V)(H : Hp)(Q : VK) : Prop
  | mk : ∀ l k xs, (x = .ref l) → (y = .int k) → (H l=some (.lst xs)) → (-(2 ^ 63)≤k) → (k < 2 ^ 63) → (xs.length*k.toNat≤sizeLine) → (∀ p, H p=none → Q (.ref p) (upd H p (.lst (List.replicate k.toNat xs).flatten))) → yr x y H Q
theorem rf {α : Type}(xs : List α)(k : Nat) : (List.replicate k xs).flatten.length=k*xs.length := by
  induction k with
  | zero => simp
  | succ k ih => rw [A5, AC, zo, ih, Nat.succ_mul, Do]
theorem uQ : OpR X (binaryOp .Mult) yr := by
  intro pins s σ H x y v u Q I rx ry h
  obtain ⟨l, k, xs, rfl, rfl, hH, h1, h2, hz, q⟩ := h
  cases rx
  obtain ⟨t, rfl⟩ := ry
  obtain ⟨z, its, n, r, hl, e⟩ := I.lstM hH
  have hlen : its.toArray.size*k.toNat≤sizeLine := by rw [zO, ← hl];exact hz
  have hcap : ¬ its.toArray.size*k.toNat > (2 ^ 63 - 1) / 8 := by
    have : (sizeLine : Nat)≤(2 ^ 63 - 1) / 8 := by decide
    omega
  have hfit : ¬ (!Builtin.List.listFitsIndex k)=true := by
    rw [fitsIndex_both h1 h2]
    exact zT
  have hlong : ¬ Builtin.List.listTooLong (its.toArray.size*k.toNat)=true := by
    rw [ji hlen]
    exact zT
  have hnew : List.foldl (fun x1 x2 => x1++x2) #[] (List.replicate (if its.toArray.isEmpty=true then 0 else k.toNat) its.toArray)=(List.replicate k.toNat its).flatten.toArray := by
    have f0 : ∀ m : Nat, List.foldl (fun x1 x2 => x1++x2) #[] (List.replicate m its.toArray)=(List.replicate m its).flatten.toArray := fun m => by
      have := gY its m []
      rw [List.nil_append] at this
      exact this
    rw [f0]
    cases its with
    | nil => simp
    | cons a r' => rw [if_neg (by simp)]
  refine wpAny_binaryOp_repeat_ref (T := "list") (U := "int") (by decide) ⟨_, e, rfl⟩ (fun s' => typeIs_int s' k t) noFill_list_mul F.fills_int_mul F.slot_int_rmul repeat_list F.slot_int_index.lookup
    (Cm F.slot_int_rmul (typeIs_int s k t) F.entry_int_rmul (F.args_int_rmul_2 _ _) (int___rmul___int_list k t l its.toArray n)
      ⟨e, rfl, ⟨_, e, rfl⟩, Cm F.slot_list_mul ⟨_, e, rfl⟩ F.entry_list_mul (F.args_list_mul_2 _ _) (AutoListH.list___mul___list_int_3 l its.toArray n k t hfit hcap hlong) ⟨e, ?_⟩⟩)
  rw [hnew]
  exact ⟨.ref _, _, I.lnew (t' := s.toks) (r.rep k.toNat) (by rw [rf, Nat.mul_comm];exact hz), rfl, q _ I.fresh⟩
end
section
variable {prog : Program} {w : World} {A : Around} {E : Value → Shared → Prop} {s : Shared}
end
section
variable {X : Cx}
end
section
variable {κ : Type} [DecidableEq κ]
def cM (kvs : List (κ × V))(k : κ) : Option V := (kvs.find? fun kv => decide (kv.1=k)).map (·.2)
def bY (kvs : List (κ × V))(k : κ)(v : V) : List (κ × V) :=
  if (kvs.any fun kv => decide (kv.1=k))=true then kvs.map (fun kv => if kv.1=k then (kv.1, v) else kv) else kvs++[(k, v)]
theorem bo {p : κ × V}{r : List (κ × V)}{k : κ}(e : p.1=k) : cM (p::r) k=some p.2 := by simp [cM, Br, e]
theorem bp {p : κ × V}{r : List (κ × V)}{k : κ}(e : ¬ p.1=k) : cM (p::r) k=cM r k := by simp [cM, Br, e]
theorem dP (k : κ) : ∀ kvs : List (κ × V), (kvs.any fun kv => decide (kv.1=k))=(cM kvs k).isSome
  | [] => rfl
  | p::r => by
    rw [Dz]
    by_cases e : p.1=k
    · simp only [bo e, zH e, Bool.true_or, Option.isSome_some]
    · rw [bp e, zp e, Bool.false_or];exact dP k r
theorem jj (k j : κ)(y : V) : ∀ kvs : List (κ × V), cM (kvs.map fun kv => if kv.1=k then (kv.1, y) else kv) j=(cM kvs j).map fun x => if j=k then y else x
  | [] => rfl
  | p::r => by
    have ih := jj k j y r
    rw [z9]
    by_cases h : p.1=k
    · rw [if_pos h]
      by_cases e : p.1=j
      · rw [bo (p := (p.1, y)) e, bo e, Ct, if_pos (e.symm.trans h)]
      · rw [bp (p := (p.1, y)) e, bp e, ih]
    · rw [if_neg h]
      by_cases e : p.1=j
      · rw [bo (p := p) e, bo e, Ct, if_neg (fun z => h (e.trans z))]
      · rw [bp (p := p) e, bp e, ih]
theorem gZ (k j : κ)(y : V) : ∀ kvs : List (κ × V), cM kvs k=none → cM (kvs++[(k, y)]) j=if j=k then some y else cM kvs j
  | [], _ => by
    by_cases e : k=j
    · rw [if_pos e.symm];exact bo (p := (k, y)) e
    · rw [if_neg (fun z => e z.symm)];exact bp (p := (k, y)) e
  | p::r, hn => by
    rw [Da]
    have hk : ¬ p.1=k := fun z => by rw [bo z] at hn;cases hn
    rw [bp hk] at hn
    have ih := gZ k j y r hn
    by_cases e : p.1=j
    · rw [bo e, bo e, if_neg (fun z => hk (e.trans z))]
    · rw [bp e, bp e, ih]
theorem jk (kvs : List (κ × V))(k j : κ)(y : V) : cM (bY kvs k y) j=if j=k then some y else cM kvs j := by
  unfold bY
  by_cases a : (kvs.any fun kv => decide (kv.1=k))=true
  · rw [if_pos a, jj]
    rw [dP] at a
    by_cases e : j=k
    · obtain ⟨x, hx⟩ := CP.mp a
      rw [if_pos e, e, hx, Ct, if_pos rfl]
    · rw [if_neg e]
      cases cM kvs j with
      | none => rfl
      | some x => rw [Ct, if_neg e]
  · rw [if_neg a]
    refine gZ k j y kvs ?_
    rw [dP] at a
    cases q : cM kvs k with
    | none => rfl
    | some x => rw [q] at a;exact (a rfl).elim
theorem bt (kvs : List (κ × V))(k : κ)(v : V) : (bY kvs k v).length≤kvs.length+1 := by
  unfold bY
  split
  · rw [zu];omega
  · rw [zo, zY, Av];omega
theorem oe.isSome_eq {o : Option V}{u : Option Value}(r : oe o u) : o.isSome=u.isSome := by
  cases o with
  | none => cases u with
    | none => rfl
    | some _ => exact (show False from r).elim
  | some _ => cases u with
    | none => exact (show False from r).elim
    | some _ => rfl
theorem KV.val {kvs : List (κ × V)}{vs : List (κ × Value)}(r : KV kvs vs)(k : κ) : oe (cM kvs k) (valueAt vs k) := by
  unfold KV at r
  induction r with
  | nil => exact True.intro
  | @cons p q ps qs h t ih =>
    obtain ⟨h1, h2⟩ := h
    by_cases e : p.1=k
    · have e' : q.1=k := h1.symm.trans e
      have b : valueAt (q::qs) k=some q.2 := by simp [valueAt, Br, e']
      rw [bo e, b];exact h2
    · have e' : ¬ q.1=k := fun z => e (h1.trans z)
      have b : valueAt (q::qs) k=valueAt qs k := by simp [valueAt, Br, e']
      rw [bp e, b];exact ih
theorem KV.any {kvs : List (κ × V)}{vs : List (κ × Value)}(r : KV kvs vs)(k : κ) : (kvs.any fun kv => decide (kv.1=k))=vs.any fun kv => decide (kv.1=k) := by
  unfold KV at r
  induction r with
  | nil => rfl
  | cons h t ih => rw [Dz, Dz, ih, h.1]
theorem KV.repl {kvs : List (κ × V)}{vs : List (κ × Value)}(r : KV kvs vs)(k : κ){y : V}{u : Value}(ry : bu y u) :
    KV (kvs.map fun kv => if kv.1=k then (kv.1, y) else kv) (vs.map fun kv => if kv.1=k then (kv.1, u) else kv) := by
  unfold KV at r ⊢
  induction r with
  | nil => exact .nil
  | @cons p q ps qs h t ih =>
    rw [z9, z9]
    refine .cons ?_ ih
    obtain ⟨h1, h2⟩ := h
    by_cases e : p.1=k
    · rw [if_pos e, if_pos (h1.symm.trans e)];exact ⟨h1, ry⟩
    · rw [if_neg e, if_neg (fun z => e (h1.trans z))];exact ⟨h1, h2⟩
theorem KV.put {kvs : List (κ × V)}{vs : List (κ × Value)}(r : KV kvs vs)(k : κ){y : V}{u : Value}(ry : bu y u) : KV (bY kvs k y) (stored vs k u) := by
  unfold bY stored
  rw [r.any k]
  by_cases e : (vs.any fun kv => decide (kv.1=k))=true
  · rw [if_pos e, if_pos e];exact r.repl k ry
  · rw [if_neg e, if_neg e];exact Paired.snoc r ⟨rfl, ry⟩
theorem KV.length {kvs : List (κ × V)}{vs : List (κ × Value)}(r : KV kvs vs) : kvs.length=vs.length := C1 r
end
theorem oF {P : Program}{w : World}{k : Key}{u : Value}(r : bu (kV k) u) : (a9 P w).is k u=true := by
  cases k with
  | inl i => obtain ⟨t, e⟩ := (show ∃ t, u=Value.int i t from r);subst e;exact il P w i t
  | inr x => obtain ⟨t, e⟩ := (show ∃ t, u=Value.str x t from r);subst e;exact ip P w x t
theorem g0 {P : Program}{w : World} : ∀ {ks : List Key} {us : List Value}, aU (ks.map kV) us → ItemsAre (a9 P w) ks us
  | [], _, r => by rw [BJ] at r;cases r;exact .nil
  | k::ks, _, r => by
    rw [z9] at r
    cases r with
    | cons h t => exact .cons (oF h) (g0 t)
abbrev KT (H : Hp) : List (List Key × V) → List (List Key × Addr × Value) → Prop := Paired fun p q => p.1=q.1 ∧ H q.2.1=some (.tup (p.1.map kV)) ∧ bu p.2 q.2.2
theorem KT.val {H : Hp}{kvs : List (List Key × V)}{xs : List (List Key × Addr × Value)}(r : KT H kvs xs)(k : List Key) : oe (cM kvs k) ((atKey xs k).map (·.2)) := by
  induction r with
  | nil => exact True.intro
  | @cons p q ps qs h t ih =>
    obtain ⟨h1, _, h2⟩ := h
    by_cases e : p.1=k
    · have e' : q.1=k := h1.symm.trans e
      have b : atKey (q::qs) k=some q.2 := by simp [atKey, Br, e']
      rw [bo e, b];exact h2
    · have e' : ¬ q.1=k := fun z => e (h1.trans z)
      have b : atKey (q::qs) k=atKey qs k := by simp [atKey, Br, e']
      rw [bp e, b];exact ih
theorem KT.repl {H : Hp}{kvs : List (List Key × V)}{xs : List (List Key × Addr × Value)}(r : KT H kvs xs)(k : List Key){y : V}{u : Value}(ry : bu y u) :
    KT H (kvs.map fun kv => if kv.1=k then (kv.1, y) else kv) (xs.map (putAt k u)) := by
  induction r with
  | nil => exact .nil
  | @cons p q ps qs h t ih =>
    rw [z9, z9]
    refine .cons ?_ ih
    obtain ⟨h1, h2, h3⟩ := h
    unfold putAt
    by_cases e : p.1=k
    · rw [if_pos e, if_pos (h1.symm.trans e)];exact ⟨h1, h2, ry⟩
    · rw [if_neg e, if_neg (fun z => e (h1.trans z))];exact ⟨h1, h2, h3⟩
theorem KT.put {H : Hp}{kvs : List (List Key × V)}{xs : List (List Key × Addr × Value)}(r : KT H kvs xs)(k : List Key){b : Addr}{y : V}{u : Value}(hb : H b=some (.tup (k.map kV)))(ry : bu y u) :
    KT H (bY kvs k y) (storedH xs k b u) := by
  have e : (kvs.any fun kv => decide (kv.1=k))=(atKey xs k).isSome := by
    rw [dP, (r.val k).isSome_eq, Option.isSome_map]
  unfold bY storedH
  rw [e]
  by_cases q : (atKey xs k).isSome=true
  · rw [if_pos q, if_pos q];exact r.repl k ry
  · rw [if_neg q, if_neg q];exact Paired.snoc r ⟨rfl, hb, ry⟩
theorem KT.keeps {H H' : Hp}{kvs : List (List Key × V)}{xs : List (List Key × Addr × Value)}(r : KT H kvs xs)(ht : ∀ b ys, H b=some (.tup ys) → H' b=some (.tup ys)) : KT H' kvs xs :=
  Paired.mapP r fun _ _ z => ⟨z.1, ht _ _ z.2.1, z.2.2⟩
section
variable {P : Program} {w : World} {H : Hp} {h : Heap} {a : Addr}
theorem uR {u : HO}(ok : HOk P w H h)(e : Rd H a u) : bG P w H h a u := e.ok ok
theorem rg {kvs : List (Key × V)}(ok : HOk P w H h)(e : Rd H a (.dK kvs)) : kvs.length≤sizeLine ∧ (a == sysModules)=false ∧ ∃ vs, KV kvs vs ∧ h.DictOf (a9 P w) a vs :=
  show bG P w H h a (.dK kvs) from uR ok e
theorem uS {kvs : List (Key × V)}(ok : HOk P w H h)(e : H a=some (.dK kvs)) : kvs.length≤sizeLine ∧ (a == sysModules)=false ∧ ∃ vs, KV kvs vs ∧ h.DictOf (a9 P w) a vs := rg ok (.inl e)
theorem kZ {ks : List Key}(ok : HOk P w H h)(e : H a=some (.tup (ks.map kV))) : (tupleKind (a9 P w)).is h ks a := by
  obtain ⟨_, its, r, ⟨o, h1, h2, n, h3⟩, _⟩ := (show bG P w H h a (.tup (ks.map kV)) from ok a _ e)
  exact ⟨o, its.toArray, n, h1, h2, h3, by simpa using g0 r⟩
theorem rh {kvs : List (List Key × V)}(ok : HOk P w H h)(e : Rd H a (.dT kvs)) : kvs.length≤sizeLine ∧ (a == sysModules)=false ∧
    ∃ xs, KT H kvs xs ∧ h.DictOfH (tupleKind (a9 P w)) a xs := by
  obtain ⟨z, y, xs, r, o, es, ep, h1, h2, h3, h4, h5⟩ := (show bG P w H h a (.dT kvs) from uR ok e)
  refine ⟨z, y, xs, r, o, es, ep, h1, h2, h3, h4, fun x hx => ?_, h5⟩
  have all : ∀ {l : List (List Key × V)} {m : List (List Key × Addr × Value)}, KT H l m → ∀ x∈m, (tupleKind (a9 P w)).is h x.1 x.2.1 := by
    intro l m q
    induction q with
    | nil => intro x hx;exact nomatch hx
    | @cons p q ps qs hq t ih =>
      intro x hx
      rcases zN.mp hx with e | hx
      · subst e
        exact kZ ok (by rw [← hq.1];exact hq.2.1)
      · exact ih x hx
  exact all r x hx
theorem wO {kvs : List (List Key × V)}(ok : HOk P w H h)(e : H a=some (.dT kvs)) : kvs.length≤sizeLine ∧ (a == sysModules)=false ∧
    ∃ xs, KT H kvs xs ∧ h.DictOfH (tupleKind (a9 P w)) a xs := rh ok (.inl e)
end
def qd (H : Hp)(a : Addr)(y : V)(r : Option V) : Prop :=
  (∃ kvs k, Rd H a (.dK kvs) ∧ y=kV k ∧ r=cM kvs k) ∨ ∃ kvs k b, Rd H a (.dT kvs) ∧ y = .ref b ∧ H b=some (.tup (k.map kV)) ∧ r=cM kvs k
def qe (H : Hp)(a : Addr)(y v : V)(H' : Hp) : Prop :=
  (∃ kvs k, H a=some (.dK kvs) ∧ y=kV k ∧ kvs.length < sizeLine ∧ H'=upd H a (.dK (bY kvs k v))) ∨
  ∃ kvs k b, H a=some (.dT kvs) ∧ y = .ref b ∧ H b=some (.tup (k.map kV)) ∧ kvs.length < sizeLine ∧ H'=upd H a (.dT (bY kvs k v))
theorem qd.k {H : Hp}{a : Addr}{kvs : List (Key × V)}{k : Key}(e : H a=some (.dK kvs)) : qd H a (kV k) (cM kvs k) := .inl ⟨kvs, k, .inl e, rfl, rfl⟩
theorem qe.k {H : Hp}{a : Addr}{kvs : List (Key × V)}{k : Key}{v : V}(e : H a=some (.dK kvs))(hl : kvs.length < sizeLine) : qe H a (kV k) v (upd H a (.dK (bY kvs k v))) := .inl ⟨kvs, k, e, rfl, hl, rfl⟩
section
variable {X : Cx} {pins : List (Addr × Obj)} {σ : St} {H : Hp} {s : Shared} {a : Addr} {y v : V} {u r : Value} {o : Option V} {A : Around} {E : Value → Shared → Prop}
theorem Inv.big (I : Inv X pins σ H s) : sysModules < s.heap.objs.size := by
  have h : mainGlobals < s.heap.objs.size := (I.mod.glob.keeps I.bk).lt
  exact DE (by decide) h
theorem k0 {Q : Value → Shared → Prop}(hu : A.units+1 < cLine)(I : Inv X pins σ H s)(g : qd H a y (some v))(ry : bu y u)(h : ∀ w' s', Inv X pins σ H s' → bu v w' → Q w' s') :
    wpAny (model X.prog X.w) A (getItem (.ref a) u) Q E s := by
  rcases g with ⟨kvs, k, e, ey, l⟩ | ⟨kvs, k, b, e, ey, eb, l⟩
  · subst ey
    obtain ⟨z, hd, vs, rel, dd⟩ := rg I.hok e
    obtain ⟨w', hw, rw'⟩ := oe.some_of (v := v) (o := valueAt vs k) (by rw [l];exact rel.val k)
    exact wpAny_getItem_of (oF ry) dd.mapOf hw (h w' _ (I.tok _) rw')
  · subst ey
    cases (show u=Value.ref b from ry)
    obtain ⟨z, hd, xs, rel, dd⟩ := rh I.hok e
    obtain ⟨w', hw, rw'⟩ := oe.some_of (v := v) (o := (atKey xs k).map (·.2)) (by rw [l];exact rel.val k)
    obtain ⟨p, hp, hp2⟩ := Option.map_eq_some_iff.mp hw
    refine wpAny_getItem_heap (tupleKind_room_in1 hu) (kZ I.hok eb) dd hp ?_
    rw [hp2]
    exact h w' _ (I.tok _) rw'
theorem iy {h' : Heap}{t' : Nat}{ob : HO}(I : Inv X pins σ H s)(mu : Mut (H a))(hs : Heap.SameBut a s.heap h')(he : ∃ q, h'.get? a=some q)(new : bG X.prog X.w (upd H a ob) h' a ob) :
    Inv X pins σ (upd H a ob) { s with heap := h', toks := t' } :=
  I.write (x := a) (e := a) mu (.inl rfl) (fun b q hb z => (hs.2 b hb).trans z) he new
theorem qf {P : Program}{w : World}{H' : Hp}{h' : Heap}{kvs : List (Key × V)}{vs : List (Key × Value)}(z : kvs.length≤sizeLine)(hd : (a == sysModules)=false)(rel : KV kvs vs)(dd : h'.DictOf (a9 P w) a vs) :
    bG P w H' h' a (.dK kvs) := ⟨z, hd, vs, rel, dd⟩
theorem k6 {H' : Hp}{Q : Unit → Shared → Prop}(hu : A.units+1 < cLine)(I : Inv X pins σ H s)(g : qe H a y v H')(ry : bu y u)(rv : bu v r)(h : ∀ s', Inv X pins σ H' s' → Q () s') :
    wpAny (model X.prog X.w) A (setItem (.ref a) u r) Q E s := by
  rcases g with ⟨kvs, k, e, ey, l, eH⟩ | ⟨kvs, k, b, e, ey, eb, l, eH⟩
  · subst ey eH
    obtain ⟨z, hd, vs, rel, dd⟩ := uS I.hok e
    have hz : vs.length≤sizeLine := by rw [← rel.length];exact z
    have hl : (bY kvs k v).length≤sizeLine := by have := bt kvs k v;omega
    refine wpAny_setItem_pairs (hsz := hz) (oF ry) dd fun h' dd' hs => h _ ?_
    have he : ∃ q, h'.get? a=some q := let ⟨q, _, _, hq, _⟩ := dd';⟨q, hq⟩
    exact iy I (by rw [e];exact True.intro) hs he (qf hl hd (rel.put k rv) dd')
  · subst ey eH
    cases (show u=Value.ref b from ry)
    obtain ⟨z, hd, xs, rel, dd⟩ := wO I.hok e
    have hz : xs.length≤sizeLine := by rw [← C1 rel];exact z
    have hl : (bY kvs k v).length≤sizeLine := by have := bt kvs k v;omega
    refine wpAny_setItem_heap (hsz := hz) (tupleKind_room_in1 hu) (kZ I.hok eb) dd fun h' dd' hs => h _ ?_
    obtain ⟨q, es, ep, hq, h2, h3, h4, _, h5⟩ := dd'
    refine iy I (by rw [e];exact True.intro) hs ⟨q, hq⟩ ⟨hl, hd, _, (rel.put k eb rv).keeps fun c ys ec => ?_, q, es, ep, hq, h2, h3, h4, h5⟩
    rw [aG (qO ec e (fun z => nomatch z))]
    exact ec
end
section
variable {X : Cx} {pins : List (Addr × Obj)} {σ : St} {H : Hp} {s : Shared} {a : Addr} {kvs : List (Key × V)} {k : Key} {u : Value} {A : Around} {E : Value → Shared → Prop}
end
def yt (i : Expr) : Prop := ∀ ov iv, subscripted i false ov iv=operate [ov, iv] (getItem ov iv)
theorem ri {prog : Program}{w : World}{A : Around}{E : Value → Shared → Prop}{s : Shared}{env : Env}{value slice : Expr}{pos : Pos}{T id : String}{Q : Value → Shared → Prop}
    (hl : typeLookup (.type T) "__getitem__" = pure (some (.builtin id))) (hs : yt slice)
    (h : wpAny (model prog w) A (eval value env) (fun o s₁ => wpAny (model prog w) A (eval slice env) (fun i s₂ => s₂.TypeIs o T ∧ wpAny (model prog w) A (getItem o i) Q E s₂) E s₁) E s) :
    wpAny (model prog w) A (eval (.Subscript value slice pos) env) Q E s := by
  refine CS (A2 h (fun o s₁ h₁ => A2 h₁ (fun i s₂ h₂ => ?_) fun _ _ x => x) fun _ _ x => x)
  obtain ⟨hT, h₂⟩ := h₂
  unfold subscriptTail
  refine zl ?_
  rw [getitemInPython_of_ne hT.not_modules]
  refine zl (Dp hT hl ?_)
  have fin : wpAny (model prog w) A (subscripted slice false o i) (fun r s₃ => wpAny (model prog w) A (letTemporaryGo value o r >>= fun _ => pure r) Q E s₃) E s₂ := by
    rw [hs o i]
    exact wpAny_operating (A2 h₂ (fun r s₃ h₃ => zl (wpAny_letTemporaryGo (zJ h₃))) fun _ _ x => x)
  first
    | exact zJ (zl fin)
    | exact zl (zJ (zl fin))
    | exact zl fin
theorem iz {X : Cx}{pins : List (Addr × Obj)}{σ : St}{H : Hp}{s : Shared}{a : Addr}{y : V}{o : Option V}(I : Inv X pins σ H s)(g : qd H a y o) : s.TypeIs (.ref a) "dict" := by
  rcases g with ⟨kvs, k, e, _, _⟩ | ⟨kvs, k, b, e, _, _, _⟩
  · obtain ⟨_, _, vs, _, dd⟩ := rg I.hok e
    exact dd.typeIs
  · obtain ⟨_, _, xs, _, dd⟩ := rh I.hok e
    exact dd.typeIs
def wQ (td ty : TE) : TE := fun σ H Q => td σ H fun x H1 => ty σ H1 fun y H2 => ∃ a v, x = .ref a ∧ qd H2 a y (some v) ∧ Q v H2
def wR (td ty tv : TE) : TS := fun D σ H => tv σ H fun v H1 => td σ H1 fun x H2 => ty σ H2 fun y H3 => ∃ a H4, x = .ref a ∧ qe H3 a y v H4 ∧ D.nx σ H4
section
variable {X : Cx} {o i e value : Expr} {pos pos' tpos : Pos} {td ty tv : TE}
theorem bD (hu : X.A.units+1 < cLine)(ho : PE X o td)(hi : PE X i ty)(hs : yt i) : PE X (.Subscript o i pos) (wQ td ty) := by
  intro pins s σ H Q I h
  refine ri PySem.F.slot_dict_getitem.lookup hs (thn (ho pins s σ H _ I h) fun u s1 ⟨x, H1, I1, rx, q1⟩ => thn (hi pins s1 σ H1 _ I1 q1) fun iv s2 zq68 => ?_)
  obtain ⟨y, H2, I2, ry, a, v, ex, g, q2⟩ := zq68
  subst ex
  obtain rfl : u=Value.ref a := rx
  exact ⟨iz I2 g, k0 hu I2 g ry fun w' s3 I3 rw' => ⟨v, H2, I3, rw', q2⟩⟩
theorem dk (hu : X.A.units+1 < cLine)(ho : PE X o td)(hi : PE X i ty)(hv : PE X value tv)(hs : swapsWith value (some (.Subscript o i pos')) pos.line X.env=pure false) :
    PS X (.Assign [.Subscript o i pos'] value pos) (wR td ty tv) := by
  intro pins s σ H D I h
  refine wpAny_Assign_Subscript (thn (hv pins s σ H _ I h) fun r s1 ⟨v, H1, I1, rv, q1⟩ => thn (ho pins s1 σ H1 _ I1 q1) fun u s2 ⟨x, H2, I2, rx, q2⟩ => thn (hi pins s2 σ H2 _ I2 q2) fun iv s3 zq71 => ?_) hs
  obtain ⟨y, H3, I3, ry, a, H4, ex, g, q3⟩ := zq71
  subst ex
  obtain rfl : u=Value.ref a := rx
  exact k6 hu I3 g ry rv fun s4 I4 => ⟨σ, H4, I4, q3⟩
end
theorem jl {P : Program}{w : World}{H : Hp}(h : Heap)(hb : sysModules < h.objs.size) : bG P w H (h.push { cls := .type "dict", data := .dict #[] }) h.objs.size (.dK []) :=
  ⟨Ao _, beq_eq_false_iff_ne.mpr (Ne.symm (Ar hb)), [], .nil, Heap.DictOf.new h⟩
def uT : TE := fun _ H Q => ∀ p, H p=none → Q (.ref p) (upd H p (.dK []))
section
variable {X : Cx} {pos : Pos}
theorem oG : PE X (.Dict [] [] pos) uT := fun pins s σ H Q I h =>
  wpAny_Dict_empty ⟨.ref s.heap.objs.size, _, I.laid (a := s.heap.objs.size) (o := .dK []) (t' := s.toks) (fun _ _ q => zq _ q) (zA _) (jl s.heap I.big), rfl, h _ (I.hok.fresh (zA _))⟩
end
def k7 : List (TE × TE) → St → Hp → (List (V × V) → Hp → Prop) → Prop
  | [], _, H, Q => Q [] H
  | (tk, tv)::r, σ, H, Q => tk σ H fun x H1 => tv σ H1 fun y H2 => k7 r σ H2 fun ps H3 => Q ((x, y)::ps) H3
abbrev VV : List (V × V) → List (Value × Value) → Prop := Paired fun p q => bu p.1 q.1 ∧ bu p.2 q.2
def PPs (X : Cx)(pos : Pos)(keys : List (Option Expr))(values : List Expr)(trs : List (TE × TE)) : Prop :=
  ∀ (pins : List (Addr × Obj)) (s : Shared) (σ : St) (H : Hp) (Q : List (V × V) → Hp → Prop), Inv X pins σ H s → k7 trs σ H Q →
    wpAny (model X.prog X.w) X.A (evalPairs (pairTrees keys values X.env pos)) (fun vs s' => ∃ ps H', Inv X pins σ H' s' ∧ VV ps vs ∧ Q ps H') X.xe s
theorem rj {X : Cx}{pos : Pos} : PPs X pos [] [] [] := fun pins s σ H Q I h => pairTrees_nil_walk ⟨[], H, I, .nil, h⟩
theorem dQ {X : Cx}{pos : Pos}{k v : Expr}{ks : List (Option Expr)}{vs : List Expr}{tk tv : TE}{trs : List (TE × TE)}(hk : PE X k tk)(hv : PE X v tv)(hr : PPs X pos ks vs trs) :
    PPs X pos (some k::ks) (v::vs) ((tk, tv)::trs) := fun pins s σ H Q I h =>
  pairTrees_cons_walk (thn (hk pins s σ H _ I h) fun u s1 ⟨x, H1, I1, rx, q1⟩ => thn (hv pins s1 σ H1 _ I1 q1) fun w2 s2 ⟨y, H2, I2, ry, q2⟩ =>
    thn (hr pins s2 σ H2 _ I2 q2) fun ws s3 zq75 => (by obtain ⟨ps, H3, I3, rel, q3⟩ := zq75;exact ⟨(x, y)::ps, H3, I3, .cons ⟨rx, ry⟩ rel, q3⟩))
def eB (kvs more : List (Key × V)) : List (Key × V) := more.foldl (fun acc kv => bY acc kv.1 kv.2) kvs
theorem KV.merge : ∀ {more : List (Key × V)} {rs : List (Key × Value)} {kvs : List (Key × V)} {vs : List (Key × Value)}, KV more rs → KV kvs vs → KV (eB kvs more) (merged vs rs) := by
  intro more rs kvs vs r
  unfold KV at r
  induction r generalizing kvs vs with
  | nil => intro q;exact q
  | @cons p q ps qs h t ih =>
    intro r0
    have e : KV (bY kvs p.1 p.2) (stored vs q.1 q.2) := by
      have := r0.put p.1 h.2
      rw [← h.1];exact this
    exact ih e
theorem c4 : ∀ (more kvs : List (Key × V)), (eB kvs more).length≤kvs.length+more.length
  | [], kvs => by show kvs.length≤kvs.length+0;omega
  | p::r, kvs => by
    have h1 := c4 r (bY kvs p.1 p.2)
    have h2 := bt kvs p.1 p.2
    show (eB (bY kvs p.1 p.2) r).length≤_
    rw [zY];omega
theorem eZ {P : Program}{w : World} : ∀ {kvs : List (Key × V)} {ws : List (Value × Value)}, VV (kvs.map fun kv => (kV kv.1, kv.2)) ws → ∃ rs, Carries (a9 P w) ws rs ∧ KV kvs rs
  | [], _, r => by rw [BJ] at r;cases r;exact ⟨[], True.intro, .nil⟩
  | p::kvs, _, r => by
    rw [z9] at r
    cases r with
    | @cons a b as bs h t =>
      obtain ⟨rs, c, q⟩ := eZ (P := P) (w := w) t
      obtain ⟨b1, b2⟩ := b
      exact ⟨(p.1, b2)::rs, ⟨oF h.1, rfl, c⟩, .cons ⟨rfl, h.2⟩ q⟩
def wU (trs : List (TE × TE)) : TE := fun σ H Q => ∀ p, H p=none → k7 trs σ (upd H p (.dK [])) fun ps H2 => H2 p=some (.dK []) ∧ ∃ kvs : List (Key × V), ps=kvs.map (fun kv => (kV kv.1, kv.2)) ∧ kvs.length≤15 ∧ Q (.ref p) (upd H2 p (.dK (eB [] kvs)))
theorem rm {X : Cx}{pos : Pos}{keys : List (Option Expr)}{values : List Expr}{trs : List (TE × TE)}(h : PPs X pos keys values trs)(hall : keys.all (·.isSome)=true)(hl : keys.length=values.length)(h0 : keys≠[])
    (h15 : keys.length≤15) : PE X (.Dict keys values pos) (wU trs) := by
  intro pins s σ H Q I q
  have hn := I.hok.fresh (zA s.heap.objs.size)
  have I1 := I.laid (a := s.heap.objs.size) (o := .dK []) (h' := s.heap.push { cls := .type "dict", data := .dict #[] }) (t' := s.toks) (fun _ _ q => zq _ q) (zA _) (jl s.heap I.big)
  refine wpAny_Dict_walk (knd := a9 X.prog X.w) hall hl h0 h15 (thn (h pins _ σ _ _ I1 (q _ hn)) fun ws s2 zq76 => ?_)
  obtain ⟨ps, H2, I2, rel, e, kvs, ep, lk, q2⟩ := zq76
  subst ep
  obtain ⟨rs, c, rk⟩ := eZ (P := X.prog) (w := X.w) rel
  obtain ⟨z, hd, vs0, r0, dd⟩ := uS I2.hok e
  cases r0
  refine ⟨rs, c, dd, fun h' dd' hs => ⟨.ref s.heap.objs.size, _, ?_, rfl, q2⟩⟩
  have hz : (eB [] kvs).length≤sizeLine := by
    have h1 := c4 kvs []
    rw [Av] at h1
    rw [Cq];omega
  have he : ∃ q, h'.get? s.heap.objs.size=some q := let ⟨q, _, _, hq, _⟩ := dd';⟨q, hq⟩
  exact iy I2 (by rw [e];exact True.intro) hs he (qf hz hd (rk.merge .nil) dd')
section
variable {X : Cx} {pins : List (Addr × Obj)} {σ : St} {H : Hp} {s : Shared} {a : Addr} {y d : V} {u r : Value} {o : Option V} {A : Around} {E : Value → Shared → Prop}
end
section
variable {X : Cx} {o e f : Expr} {apos cpos : Pos} {td ty tx : TE}
end
section
variable {X : Cx} {pins : List (Addr × Obj)} {σ : St} {H : Hp} {s : Shared} {a : Addr} {kvs : List (Key × V)} {A : Around} {E : Value → Shared → Prop}
end
section
variable {X : Cx} {pins : List (Addr × Obj)} {σ : St} {H : Hp} {s : Shared} {a : Addr} {y : V} {u : Value} {A : Around} {E : Value → Shared → Prop}
end
end L2
namespace Att
open PySem PySem.W PySem.Calls PyProof.Rows
theorem eC {P : Params}{h : Heap} : ∀ (ns : List Int) (vs : List Value), WellAll P h vs (ns.map WData.int) → IntsAre vs ns := by
  intro ns
  induction ns with
  | nil =>
    intro vs w
    rw [BJ] at w
    cases w
    exact .nil
  | cons n ns ih =>
    intro vs w
    rw [z9] at w
    cases w with
    | cons a b =>
      cases a
      exact .cons _ _ (ih _ b)
theorem k8 {l : OpenLaw}{n : Nat}(hn : l.most=some n){P : Params}{h : Heap}{args : List WData}{vals : List Value}
    (hpre : l.row.toRowW.claim.pre args=true) (hwl : WellAll P h vals args) :
    ∃ a vs ns, vals=[Value.ref a] ∧ args=[WData.list (ns.map WData.int)] ∧ h.get? a=some { cls := .type "list", data := .seq vs.toArray } ∧ IntsAre vs ns ∧ ns.length≤n := by
  have hsh : WShape.hasAll [] args [.list .int]=true := (pre_splitW hpre).1
  have hc : l.pre.holds [] { args := args }=true := (pre_splitW hpre).2
  obtain ⟨d, r, rfl, h1, h2⟩ := hasAllW_cons hsh
  obtain rfl := hasAllW_nil h2
  obtain ⟨xs, rfl, h3⟩ := hasW_list h1
  obtain ⟨ns, rfl⟩ := items_int h3
  have hlen : ns.length≤n := by
    unfold OpenLaw.pre at hc
    have h4 : (WTm.not (.lt (.lit (.int (n : Int))) (.len (.arg 0)))).holds [] { args := [.list (ns.map .int)] }=true := by
      have h4 := (holds_andW hc).1
      rw [hn] at h4
      exact h4
    have h5 := condW_of h4 (w_not (w_lt w_lit (w_len_list (w_arg rfl))))
    rw [zu] at h5
    refine Nat.le_of_not_lt fun q => ?_
    have q' : (n : Int) < ((ns.length : Nat) : Int) := by omega
    first
      | (rw [zH q'] at h5;exact absurd h5 (by decide))
      | (simp at h5;omega)
  cases hwl with
  | cons w1 w2 =>
    cases w2
    cases w1 with
    | list ho hall => exact ⟨_, _, ns, rfl, rfl, ho, eC ns _ hall, hlen⟩
theorem k9 (l : OpenLaw)(args : List WData) : l.row.toRowW.claim.post args (.bool true) args=true :=
  postW_of (r := l.row.toRowW) (X := (true == true))
    (show WShape.has [] (.bool true) .bool=true by first | rfl | decide | simp [WShape.has, WShape.arms, WShape.armsAll])
    (show (WTm.eq .res (.lit (.bool true))).value [] { args := args, res := some (.bool true), after := args }=some (.bool (true == true)) from w_eq_bool (w_res rfl) w_lit) rfl
theorem attach_call {l : OpenLaw}{n : Nat}{q : Program}{loose : List Str}{XP : (Str → Option Value) → Heap → Prop}{YP : World → Heap → Prop}{d : DefRec}
    (hn : l.most=some n) (hdf : d.params.defaults=[])
    (call : ∀ (w : World) (s₀ s₁ : Shared) (mg mb : Str → Option Value) (fa : Addr) (o : Obj) (pm cd doc : Value) (a : Addr) (vs : List Value) (ns : List Int),
      Ground q loose [] XP w s₀ mg mb s₁.heap → YP w s₁.heap →
      s₁.heap.get? fa=some o → o.data = .func (docDef d.name d.params d.body d.scope pm cd doc) → s₁.heap.CodeRec cd d.name → mg d.name=some (.ref fa) →
      s₁.heap.get? a=some { cls := .type "list", data := .seq vs.toArray } → IntsAre vs ns → ns.length≤n → s₁.gens=#[] →
      codeAny (model l.prog w) callerA (.call (.ref fa) ⟨[.ref a], []⟩) (fun r s' => r = .ok (.ret (.bool true)) ∧ OldK s₁.heap s'.heap ∧ s'.os=s₁.os ∧ AllBare s'.gens) s₁) :
    WalkO q loose XP YP l.row.toRowW d [] (fun f vs => PySem.call f vs) := by
  intro w s₀ s₁ mg mb G Y fa o pm cd doc dV kV ho hd hcd hD hmg hg args vals as hpre hlay hrd hwl hlo
  obtain rfl : dV = .none := Dflts.none hD hdf
  obtain rfl : kV = .none := Dflts.noKw hD
  obtain ⟨a, vs, ns, rfl, rfl, hobj, hints, hlen⟩ := k8 hn hpre hwl
  refine enter_call (CG (call w s₀ s₁ mg mb fa o pm cd doc a vs ns G Y ho (fd_plain hd) hcd hmg hobj hints hlen hg) fun r s' hq => ?_)
  obtain ⟨rfl, h2, h3, h4⟩ := hq
  exact ⟨.inl ⟨.bool true, .bool true, [], rfl, fun _ => rfl, .bool true, k9 l _, fun _ => ⟨List.Pairwise.nil, fun _ hm => (nomatch hm)⟩⟩, h2, h3, h4⟩
section
variable {prog : Program} {w : World} {A : Around} {E : Value → Shared → Prop} {s : Shared} {K : Frag}
end
end Att
namespace L2
open PySem PySem.Spec PyProof.Rows
theorem g5 : ∀ {vs : List Value} {ns : List Int}, IntsAre vs ns → aU (ns.map V.int) vs
  | _, _, .nil => .nil
  | _, _, .cons n t h => .cons ⟨t, rfl⟩ (g5 h)
def wV (H : Hp) : Prop := ∀ b, H b=none ∨ ∃ o xs, H b=some (.frz o (.lst xs))
theorem oH {P : Program}{w : World}{K : PySem.W.Frag}{mg mb : Str → Option Value}{CX : CXT}{k : Nat}{fa a : Addr}{fd : FuncData}{x : Str}{sp : Sp}{s₁ : Shared}{vs : List Value}{ns : List Int}
    (KX : K.In s₁.heap) (hns : s₁.heap.Ns mainGlobals mg) (hb : s₁.heap.Ns builtinsNs mb) (hbb : ∀ x : Str, x ≠ "__name__" → mb x=bootBuiltins x) (hlim : s₁.heap.NoLimit) (hg : s₁.gens=#[])
    (ha : s₁.heap.get? a=some { cls := .type "list", data := .seq vs.toArray }) (hi : IntsAre vs ns) (hl : ns.length≤sizeLine) (hr : eW k callerA)
    (F : ∀ base : Heap, K.In base → base.Ns mainGlobals mg → og P w K mg base CX k fa fd [x] sp) (hbind : ∀ (s : Shared) (u : Value), BindsTo s fd ⟨[u], []⟩ [(x, u)])
    (hsp : ∀ H : Hp, wV H → SqL K H a (ns.map V.int) → sp [.ref a] H (fun v _ => v = .bl true) fun _ _ _ => False)
    (hCX : ∀ H e s', CX [] H s₁ (fun _ _ _ => False) e s' → False) :
    codeAny (model P w) callerA (.call (.ref fa) ⟨[.ref a], []⟩) (fun r s' => r = .ok (.ret (.bool true)) ∧ OldK s₁.heap s'.heap ∧ s'.os=s₁.os ∧ AllBare s'.gens) s₁ := by
  have rv := g5 hi
  have lenV := hi.length
  -- from an abstract heap in which nothing but the script may be tracked
  have core : ∀ H : Hp, wV H → SqL K H a (ns.map V.int) → HOk P w H s₁.heap → (∀ b, H b≠none → b=a) → (H a≠none → K.lookup a=none) →
      codeAny (model P w) callerA (.call (.ref fa) ⟨[.ref a], []⟩) (fun r s' => r = .ok (.ret (.bool true)) ∧ OldK s₁.heap s'.heap ∧ s'.os=s₁.os ∧ AllBare s'.gens) s₁ := by
    intro H hO hS hok hA hK
    have base_of : ∀ {b : Addr} {o : Obj}, s₁.heap.get? b=some o → H b=none → (oj s₁.heap H).get? b=some o := fun e n => om e n
    have noA : ∀ {b : Addr} {o : Obj} {es : Array DictEntry} {ep : Nat}, s₁.heap.get? b=some o → o.data = .dict es ep → H b=none := fun {b o es ep} e d => by
      cases q : H b with
      | none => rfl
      | some u =>
        have e' : b=a := hA b (by rw [q];simp)
        subst e'
        rw [ha] at e;cases e
        have d' : Data.seq vs.toArray _=Data.dict es ep := d
        cases d'
    have nsK : ∀ {b : Addr} {m : Str → Option Value}, s₁.heap.Ns b m → (oj s₁.heap H).Ns b m := fun {b m} ⟨o, es, ep, e, d, r⟩ => ⟨o, es, ep, base_of e (noA e d), d, r⟩
    have hKb : K.In (oj s₁.heap H) := fun b o e => base_of (KX b o e) (by
      cases q : H b with
      | none => rfl
      | some u =>
        have e' : b=a := hA b (by rw [q];simp)
        subst e'
        rw [hK (by rw [q];simp)] at e;cases e)
    have hM : Mod K mg (oj s₁.heap H) := ⟨hKb, nsK hns, ⟨mb, nsK hb, hbb⟩, let ⟨mc, h1, h2⟩ := hlim;⟨mc, nsK h1, h2⟩⟩
    have e0 : wq P w K mg (oj s₁.heap H) callerA [] s₁ H := ⟨rfl, hM, fun b o e => qP e, Nat.le_of_eq (kz _ _), trivial, fun b hb => absurd (show b∈([] : List Addr) from hb) (by simp), hok, .of_eq hg⟩
    refine CG ((F _ hKb (nsK hns)).run callerA [] s₁ H ⟨[.ref a], []⟩ [.ref a] [.ref a] _ _ hr e0 (hbind s₁ (.ref a)) (.cons rfl .nil) (hsp H hO hS)) fun r s' h => ?_
    cases r with
    | error e => exact (hCX H e s' h).elim
    | ok fl =>
      cases fl with
      | next => exact False.elim h
      | brk => exact False.elim h
      | cont => exact False.elim h
      | ret u =>
        obtain ⟨v, H', os, bare, un, hok', r', q⟩ := h
        have q' : v = .bl true := q
        subst q'
        obtain rfl : u=Value.bool true := r'
        refine ⟨rfl, OldK.of_keep fun b o e => ?_, os, bare⟩
        cases q : H b with
        | none => exact un.keep b o e q (by intro z;exact absurd (show b∈([] : List Addr) from z) (by simp)) (by simp)
        | some u =>
          rcases hO b with z | ⟨ob, xs, z⟩
          · rw [q] at z;cases z
          · have z2 := un.frzs b ob _ z
            obtain ⟨e1, _⟩ := hok b _ z
            obtain ⟨e2, _⟩ := hok' b _ z2
            rw [e] at e1;cases e1
            exact e2
  cases hk : K.lookup a with
  | some o =>
    -- the script is one of the module's own objects
    have e := KX a o hk
    rw [ha] at e
    cases e
    refine core (fun _ => none) (fun _ => .inl rfl) (.inr ⟨_, vs.toArray, _, hk, rfl, rfl, rfl, by rw [zO, lenV];exact hl, by simpa using rv⟩) (fun b u z => by have z' : (none : Option HO)=some u := z;cases z') (fun b z => absurd rfl z) fun z => absurd rfl z
  | none =>
    refine core (fun b => if b=a then some (.frz { cls := .type "list", data := .seq vs.toArray } (.lst (ns.map V.int))) else none) (fun b => ?_) (.inl (.inr ⟨{ cls := .type "list", data := .seq vs.toArray }, if_pos rfl⟩)) (fun b u z => ?_) (fun b z => ?_) fun _ => hk
    · by_cases hb : b=a
      · exact .inr ⟨_, _, if_pos hb⟩
      · exact .inl (if_neg hb)
    · by_cases hb : b=a
      · have z' := (if_pos hb).symm.trans z
        cases z'
        subst hb
        exact ⟨ha, by rw [zu];exact hl, vs, _, rv, ha⟩
      · have z' := (if_neg hb).symm.trans z
        cases z'
    · by_cases hb : b=a
      · exact hb
      · exact absurd (if_neg hb) z
theorem k_ {l : PySem.W.OpenLaw}{n k : Nat}{q : Program}{loose : List Str}{XP : (Str → Option Value) → Heap → Prop}{YP : World → Heap → Prop}{d : DefRec}{K : Params → PySem.W.Frag}{CX : World → CXT}{sp : World → Sp}{x : Str}
    (hn : l.most=some n) (hn2 : n≤sizeLine) (hdf : d.params.defaults=[]) (hr : eW k callerA)
    (hY : ∀ (w : World) (h : Heap), YP w h → (K w.params).In h)
    (F : ∀ (w : World) (mg : Str → Option Value) (fa : Addr) (h : Heap), (K w.params).In h → h.Ns mainGlobals mg → mg d.name=some (.ref fa) →
      ∃ fd : FuncData, (∀ (s : Shared) (u : Value), BindsTo s fd ⟨[u], []⟩ [(x, u)]) ∧
        ∀ base : Heap, (K w.params).In base → base.Ns mainGlobals mg → og l.prog w (K w.params) mg base (CX w) k fa fd [x] (sp w))
    (hsp : ∀ (w : World) (H : Hp) (a : Addr) (ns : List Int), ns.length≤n → wV H → SqL (K w.params) H a (ns.map V.int) → sp w [.ref a] H (fun v _ => v = .bl true) fun _ _ _ => False)
    (hCX : ∀ (w : World) (H : Hp) (s : Shared) (e : Value) (s' : Shared), CX w [] H s (fun _ _ _ => False) e s' → False) :
    PySem.W.WalkO q loose XP YP l.row.toRowW d [] (fun f vs => PySem.call f vs) := by
  refine Att.attach_call hn hdf fun w s₀ s₁ mg mb fa o pm cd doc a vs ns G Y ho hd hcd hmg hobj hints hlen hg => ?_
  have KX := hY w _ Y
  obtain ⟨fd, hb, hF⟩ := F w mg fa _ KX G.T.g hmg
  exact oH KX G.T.g G.T.b G.T.builtins G.T.nolimit hg hobj hints (Ay hlen hn2) hr hF hb (fun H hO hS => hsp w H a ns hlen hO hS) fun H e s' => hCX w H s₁ e s'
end L2
/- THE LAST THEOREM (shape;LID, My.* are yours):
   My.Adr: a structure of the addresses that your layer names (classes, functions);My.Txt K t: a structure (Prop) of the equations over K;
   My.txt_mk : {K} {implicit addresses ..} (e1 : nsIn K mainGlobals "law" = some (some (.ref f))) (e2 : K.lookup f=some ⟨oc, od, .func (fnOf "law" "law" params body scope dV kV doc pm an cdv ct), sl⟩) (e3 : codeIn K cdv "law" = true) .. : ∃ t, My.Txt K t
set_option maxRecDepth 100000 in
set_option maxHeartbeats 0 in
theorem PySem.Challenge.cw_LID_holds : PySem.Challenge.rw_LID.Holds := by
  w_on;o_law;k_head;(case hw => w_witness2)
  k_fill
  refine L2.k_ (l := PySem.Challenge.rw_LID) (n := 63) (k := 40) (x := "script") (CX := fun w => ..) (sp := fun _ => My.sp_law) rfl (by decide) rfl ⟨rfl, by decide, by decide⟩ (fun w h Y => PySem.W.kIn_of Y) ?F ?S ?C
  case F =>
    intro w mg fa h KX G hmg
    have T : ∃ t, My.Txt (L2.KOf KX) t := by
      dsimp only [L2.KOf]                          -- K must stand as «<heap const> w.params» for k_is
      refine' My.txt_mk ?e1 ?e2 ?e3 ..
      (case e1 => PySem.W.k_is)                    -- in the order: a name -> its address -> its object -> its parts
      (case e2 => PySem.W.k_is)
      ..
    obtain ⟨t, T⟩ := T
    have e0 := hmg.symm.trans (BP KX G T.law)
    cases e0                                       -- fa is the law's own address
    exact ⟨_, fun s u => .of_eq rfl, fun base kb nb => My.law_fn T kb nb⟩     -- if «.of_eq rfl» comes too early: refine' ⟨_, ?b, fun base kb nb => My.law_fn T kb nb⟩;exact fun s u => .of_eq rfl
  case S => exact fun w H a ns hl hO hS => ..
  case C => exact ..
(the tactic k_is has no namespace: write k_is) -/
namespace L2
open PySem PySem.Spec PyProof.Rows
def bJ (s : Stmt) : Arguments := match s with
  | .FunctionDef _ a _ _ _ _ _ _ _ _ => a
  | _ => { posonlyargs := [], args := [], vararg := none, kwonlyargs := [], kw_defaults := [], kwarg := none, defaults := [] }
def bz (s : Stmt) : List Stmt := match s with
  | .FunctionDef _ _ b _ _ _ _ _ _ _ => b
  | _ => []
def ak (s : Stmt) : Scope := match s with
  | .FunctionDef _ _ _ _ _ _ sc _ _ _ => sc
  | _ => { kind := .function, names := [], isGenerator := false, isCoroutine := false }
abbrev CX0 : CXT := fun _ _ _ _ _ _ => False
abbrev E0 : XK := fun _ _ _ => False
theorem wW {X : Cx} : kQ CX0 X E0 := fun _ _ _ _ _ _ _ h => h.elim
structure Fun (K : PySem.W.Frag) (x qual : Str) (st : Stmt) (f : Addr) (fd : FuncData) : Prop where
  ex : ∃ (oc : Value) (od : Option Addr) (kV doc pm : Value) (an : Option Addr) (cdv ct : Value) (osl : Array (Option Value)),
    fd=PySem.W.fnOf x qual (bJ st) (bz st) (ak st) .none kV doc pm an cdv ct ∧ K.lookup f=some ⟨oc, od, .func fd, osl⟩ ∧ PySem.W.codeIn K cdv qual=true
  kp : PySem.W.keepIn K (.ref f)=true
section
variable {P : Program} {w : World} {K : PySem.W.Frag} {mg : Str → Option Value} {base : Heap}
theorem Fun.ok {x qual : Str}{st : Stmt}{f : Addr}{fd : FuncData}{N ps : List Str}{k : Nat}{sp : Sp}(F : Fun K x qual st f fd)(S : aC N ps (ak st))(len : ∀ vs H Q E, sp vs H Q E → vs.length=ps.length)
    (hbody : ∀ (cdv : Value) (A : Around) (outer : List Env) (s : Shared) (H : Hp) (vs : List V) (Q : VK) (E : XK), eW k (A.deeper (envOfC qual (ak st) s.heap.objs.size f cdv)) → sp vs H Q E →
      ∃ t, PSs (qZ CX0 P w K mg base N qual (ak st) f cdv A outer s H E).nox (bz st) t ∧ t { nx := fun _ H' => Q .non H', rt := Q } (start N vs) H) : og P w K mg base CX0 (k+1) f fd ps sp := by
  obtain ⟨oc, od, kV, doc, pm, an, cdv, ct, osl, rfl, lk, hcd⟩ := F.ex
  refine wL lk hcd S len fun A outer s H vs Q E hr hsp => ?_
  obtain ⟨t, h, q⟩ := hbody cdv A outer s H vs Q E hr hsp
  exact ⟨t, h.nox, q⟩
theorem Fun.binds {x qual : Str}{st : Stmt}{f : Addr}{fd : FuncData}{ps : List Str}(F : Fun K x qual st f fd)
    (h : ∀ (kV doc pm : Value) (an : Option Addr) (cdv ct : Value) (us : List Value), us.length=ps.length → bindArgs (PySem.W.fnOf x qual (bJ st) (bz st) (ak st) .none kV doc pm an cdv ct) ⟨us, []⟩=pure (ps.zip us)) : jZ K fd ps [] := by
  obtain ⟨oc, od, kV, doc, pm, an, cdv, ct, osl, rfl, lk, hcd⟩ := F.ex
  exact .all (h kV doc pm an cdv ct)
theorem qg {x qual : Str}{st : Stmt}{f : Addr}{oc : Value}{od an : Option Addr}{osl : Array (Option Value)}{kV doc pm cdv ct : Value}(l : K.lookup f=some ⟨oc, od, .func (PySem.W.fnOf x qual (bJ st) (bz st) (ak st) .none kV doc pm an cdv ct), osl⟩)
    (c : PySem.W.codeIn K cdv qual=true) (k : PySem.W.keepIn K (.ref f)=true) : Fun K x qual st f (PySem.W.fnOf x qual (bJ st) (bz st) (ak st) .none kV doc pm an cdv ct) := ⟨⟨oc, od, kV, doc, pm, an, cdv, ct, osl, rfl, l, c⟩, k⟩
end
theorem oI {A : Around}{k : Nat}(hr : eW k A) : A.units+1 < cLine := Nat.lt_of_le_of_lt (Nat.add_le_add_left (by decide : 1≤64) _) hr.units
section
variable {X : Cx}
theorem pv (i : Nat){x : Str}{pos : Pos}(hN : X.N[i]? = some x := by rfl)(hv : Vis X.env.scope x := by first | exact Or.inl rfl | exact Or.inr (Or.inl rfl) | exact Or.inr (Or.inr rfl))(hd : (x == ("__debug__" : Str))=false := by decide)
    (hcd : (x == ("__classdict__" : Str))=false := by decide) : PE X (.Name x pos) (wA i) := uh hN hv hd hcd
end
theorem qh {A B : Prop}(h : B) : if false=true then A else B := by
  rw [if_neg zT]
  exact h
theorem wX {A B : Prop}(h : A) : if true=true then A else B := by
  rw [if_pos rfl]
  exact h
theorem qi {c A B : Prop}[Decidable c](h1 : c → A)(h2 : ¬ c → B) : if c then A else B := by
  by_cases h : c
  · rw [if_pos h]
    exact h1 h
  · rw [if_neg h]
    exact h2 h
def aA (H H' : Hp) : Prop := ∀ b o, H b=some o → H' b=some o
theorem aA.refl (H : Hp) : aA H H := fun _ _ h => h
theorem aA.trans {H H1 H2 : Hp}(a : aA H H1)(b : aA H1 H2) : aA H H2 := fun c o h => b c o (a c o h)
theorem aA.free {H H' : Hp}(e : aA H H'){l : Addr}(h : H' l=Option.none) : H l=Option.none := by
  cases q : H l with
  | none => rfl
  | some o =>
    rw [e l o q] at h
    cases h
theorem aA.seq {K : PySem.W.Frag}{H H' : Hp}{a : Addr}{xs : List V}(e : aA H H')(h : SqL K H a xs) : SqL K H' a xs := by
  rcases h with (h | ⟨o, h⟩) | h
  · exact .inl (.inl (e _ _ h))
  · exact .inl (.inr ⟨o, e _ _ h⟩)
  · exact .inr h
section
variable {κ : Type} [DecidableEq κ]
end
end L2
namespace L2
open PySem PySem.Spec PyProof.Rows
def jm (cells : List (Str × Addr)) : List (Str × NameKind) → List (Str × Addr) → List (Str × Addr)
  | [], acc => acc
  | (x, k)::r, acc => if k == NameKind.free then jm cells r ((x, (cells.lookup x).getD 0)::acc) else jm cells r acc
theorem fI {cells : List (Str × Addr)}{p : Str × Addr} : ∀ {names : List (Str × NameKind)} {acc : List (Str × Addr)}, p∈jm cells names acc → p∈acc ∨ ((p.1, NameKind.free)∈names ∧ p.2=(cells.lookup p.1).getD 0)
  | [], _, h => .inl h
  | (x, k)::r, acc, h => by
    unfold jm at h
    by_cases hk : (k == NameKind.free)=true
    · rw [if_pos hk] at h
      have ek : k=NameKind.free := by simpa using hk
      subst ek
      rcases fI h with h | ⟨h, e⟩
      · rcases zN.mp h with h | h
        · subst h
          exact .inr ⟨zK, rfl⟩
        · exact .inl h
      · exact .inr ⟨zB _ h, e⟩
    · rw [if_neg hk] at h
      rcases fI h with h | ⟨h, e⟩
      · exact .inl h
      · exact .inr ⟨zB _ h, e⟩
theorem fJ {cells : List (Str × Addr)}{p : Str × Addr} : ∀ {names : List (Str × NameKind)} {acc : List (Str × Addr)}, p∈acc → p∈jm cells names acc
  | [], _, h => h
  | (x, k)::r, acc, h => by
    unfold jm
    split
    · exact fJ (zB _ h)
    · exact fJ h
theorem fK {cells : List (Str × Addr)}{x : Str} : ∀ {names : List (Str × NameKind)} {acc : List (Str × Addr)}, (x, NameKind.free)∈names → (x, (cells.lookup x).getD 0)∈jm cells names acc
  | [], _, h => by simp at h
  | (y, k)::r, acc, h => by
    unfold jm
    rcases zN.mp h with h | h
    · have e1 : x=y := zR Prod.fst h
      have e2 : NameKind.free=k := zR Prod.snd h
      subst e1 e2
      rw [if_pos (by simp)]
      exact fJ zK
    · split
      · exact fK h
      · exact fK h
theorem c5 {x : Str}{c : Addr} : ∀ {l : List (Str × Addr)}, (x, c)∈l → ∃ d, l.lookup x=some d
  | [], h => by simp at h
  | (y, d)::r, h => by
    rw [Cd]
    by_cases e : (x == y)=true
    · rw [e];exact ⟨d, rfl⟩
    · have e' : (x == y)=false := by simpa using e
      rw [e']
      rcases zN.mp h with h | h
      · have : x=y := zR Prod.fst h
        exact absurd (by simpa using this) e
      · exact c5 h
theorem fN {env : Env}{scope : Scope}(h : ∀ y∈scope.names, y.2=NameKind.free → ∃ c, env.cells.lookup y.1=some c) : closureFor scope env=pure (jm env.cells scope.names []) := by
  have all : ∀ (names : List (Str × NameKind)) (acc : List (Str × Addr)), (∀ y∈names, y.2=NameKind.free → ∃ c, env.cells.lookup y.1=some c) →
      (forIn names acc (fun (p : Str × NameKind) (r : List (Str × Addr)) => (if (p.2 == NameKind.free)=true then (do let a ← cellOf env p.1;pure (ForInStep.yield ((p.1, a)::r))) else pure (ForInStep.yield r) : Sem (ForInStep (List (Str × Addr))))))=(pure (jm env.cells names acc) : Sem (List (Str × Addr))) := by
    intro names
    induction names with
    | nil => intro acc _;rfl
    | cons p r ih =>
      intro acc hh
      obtain ⟨x, k⟩ := p
      have hr : ∀ y∈r, y.2=NameKind.free → ∃ c, env.cells.lookup y.1=some c := fun y hy => hh y (zB _ hy)
      rw [List.forIn_cons]
      unfold jm
      by_cases hk : (k == NameKind.free)=true
      · obtain ⟨c, hc⟩ := hh (x, k) zK (by simpa using hk)
        have hc : env.cells.lookup x=some c := hc
        have ec : cellOf env x=pure c := by
          unfold cellOf
          rw [hc]
        simp only [hk, Bd, ec, pure_bind, hc, Option.getD_some]
        exact ih _ hr
      · simp only [hk, AI, pure_bind]
        exact ih _ hr
  have e := all scope.names [] h
  unfold closureFor
  simp only [bind_pure]
  exact e
def uU (scope sc : Scope)(NB own : List Str)(cap : List Nat)(N : List Str) : Bool :=
  (scope.kind == .function) && (sc.kind == .function) &&
  (scope.names.all fun y => match y.2 with
    | .cell => false
    | .free => sc.names.lookup y.1 == some NameKind.cell
    | .local => scope.names.lookup y.1 == some NameKind.local
    | _ => true) &&
  (own.all fun x => scope.names.lookup x == some NameKind.local && scope.names.all fun y => !(y.1 == x) || y.2 == NameKind.local) &&
  (NB == own++cap.map fun i => N.getD i "") && (cap.all fun i => decide (i < N.length) && scope.names.lookup (N.getD i "") == some NameKind.free)
structure Blk (X : Cx) (scope : Scope) (NB own : List Str) (cap : List Nat) : Prop where
  kind : scope.kind = .function
  outk : X.env.scope.kind = .function
  nocell : ∀ y∈scope.names, y.2 ≠ .cell
  free : ∀ y∈scope.names, y.2 = .free → X.env.kindOf y.1=some .cell
  names : ∀ y∈scope.names, y.2 = .local → scope.names.lookup y.1=some .local
  owns : ∀ x∈own, ∀ y∈scope.names, y.1=x → y.2 = .local
  nb : NB=own++cap.map fun i => X.N.getD i ""
  caps : ∀ i∈cap, i < X.N.length ∧ scope.names.lookup (X.N.getD i "")=some .free
theorem e8 {X : Cx}{scope sc : Scope}{NB own : List Str}{cap : List Nat}(hs : X.env.scope=sc)(h : uU scope sc NB own cap X.N=true) : Blk X scope NB own cap := by
  unfold uU at h
  simp only [AV] at h
  obtain ⟨⟨⟨⟨⟨h1, h2⟩, h3⟩, h4⟩, h5⟩, h6⟩ := h
  rw [BE] at h3 h4 h6
  subst hs
  refine ⟨by simpa using h1, by simpa using h2, fun y hy e => ?_, fun y hy e => ?_, fun y hy e => ?_, fun x hx y hy e => ?_, by simpa using h5, fun i hi => ?_⟩
  · have := h3 y hy
    rw [e] at this
    exact absurd this (by simp)
  · have := h3 y hy
    rw [e] at this
    show X.env.scope.names.lookup y.1=some .cell
    simpa using this
  · have := h3 y hy
    rw [e] at this
    simpa using this
  · have := h4 x hx
    simp only [AV, BE] at this
    have q := this.2 y hy
    subst e
    simpa using q
  · have := h6 i hi
    simp only [AV] at this
    exact ⟨of_decide_eq_true this.1, by simpa using this.2⟩
def cxB (X : Cx)(NB own : List Str)(scope : Scope)(C : Addr)(fp : List Addr)(s₀ : Shared)(H₀ : Hp) : Cx where
  prog := X.prog
  w := X.w
  K := X.K
  mg := X.mg
  base := X.base
  A := X.A
  N := NB
  s₀ := s₀
  H₀ := H₀
  env := compEnvC scope (jm X.env.cells scope.names []) C X.env
  outer := X.stack
  stack := X.stack
  ex := fp
  fn := fun x => own.contains x
  calm := X.calm
  pn := []
  xe := fun _ _ => False
theorem bZ {env : Env}{x : Str}{k : NameKind}(hk : k = .cell ∨ k = .free) : ∀ {names : List (Str × NameKind)}, (∀ y∈names, y.2 ≠ .cell) →
    (names.map fun (n, k) => if (k == NameKind.free && env.scope.kind == .function && env.kindOf n == some .cell) then (n, NameKind.cell) else (n, k)).lookup x=some k → (x, NameKind.free)∈names
  | [], _, h => by simp at h
  | (n, q)::r, hn, h => by
    have ih := @bZ env x k hk r fun y hy => hn y (zB _ hy)
    rw [z9, Cd] at h
    have key : (if (q == NameKind.free && env.scope.kind == .function && env.kindOf n == some .cell)=true then (n, NameKind.cell) else (n, q)).1=n := by split <;> rfl
    by_cases e : (x == n)=true
    · have en : x=n := by simpa using e
      subst en
      by_cases hq : q = .free
      · subst hq;exact zK
      · have hqf : (q == NameKind.free)=false := by simpa using hq
        simp only [hqf, Ab, zP, AI, Dc] at h
        have h' : q=k := zD h
        rcases hk with z | z
        · exact absurd (h'.trans z) (hn (x, q) zK)
        · exact absurd (h'.trans z) hq
    · have e' : (x == n)=false := by simpa using e
      refine zB _ (ih ?_)
      have e2 : (x == (if (q == NameKind.free && env.scope.kind == .function && env.kindOf n == some .cell)=true then (n, NameKind.cell) else (n, q)).1)=false := by rw [key];exact e'
      rw [e2] at h
      exact h
theorem eD {env : Env}{x : Str}(hk : env.scope.kind = .function)(hc : env.kindOf x=some .cell) : ∀ {names : List (Str × NameKind)}, names.lookup x=some .free →
    (names.map fun (n, k) => if (k == NameKind.free && env.scope.kind == .function && env.kindOf n == some .cell) then (n, NameKind.cell) else (n, k)).lookup x=some .cell
  | [], h => by simp at h
  | (n, q)::r, h => by
    have ih := @eD env x hk hc r
    rw [Cd] at h
    rw [z9, Cd]
    by_cases e : (x == n)=true
    · have en : x=n := by simpa using e
      subst en
      rw [e] at h
      have hq : q = .free := zD h
      subst hq
      simp [hk, hc]
    · have e' : (x == n)=false := by simpa using e
      rw [e'] at h
      have key : (if (q == NameKind.free && env.scope.kind == .function && env.kindOf n == some .cell)=true then (n, NameKind.cell) else (n, q)).1=n := by split <;> rfl
      have e2 : (x == (if (q == NameKind.free && env.scope.kind == .function && env.kindOf n == some .cell)=true then (n, NameKind.cell) else (n, q)).1)=false := by rw [key];exact e'
      rw [e2]
      exact ih h
def stB (own : List Str)(cap : List Nat)(σ : St) : St := (own.map fun _ => none)++cap.map fun i => (σ[i]?).getD none
section
variable {X : Cx} {pins : List (Addr × Obj)} {σ : St} {H : Hp} {s : Shared} {scope : Scope} {NB own : List Str} {cap : List Nat} {fp : List Addr} {C : Addr}
theorem Blk.cells (B : Blk X scope NB own cap)(ok : X.Ok){x : Str}{c : Addr}(h : (jm X.env.cells scope.names []).lookup x=some c) : X.env.cells.lookup x=some c ∧ (x, NameKind.free)∈scope.names := by
  rcases fI (AO h) with q | ⟨q, e⟩
  · simp at q
  · obtain ⟨d, hd⟩ := ok.has x (.inl (B.free (x, .free) q rfl))
    have e : c=(X.env.cells.lookup x).getD 0 := e
    rw [hd] at e
    refine ⟨?_, q⟩
    rw [hd, e];rfl
theorem Blk.cell (B : Blk X scope NB own cap)(ok : X.Ok){x : Str}(h : (x, NameKind.free)∈scope.names) : ∃ c, (jm X.env.cells scope.names []).lookup x=some c := c5 (fK h)
theorem Blk.start (B : Blk X scope NB own cap)(I : Inv X pins σ H s)(hf : ∀ b∈fp, kG X pins H b)(hfs : ∀ b∈fp, ∃ o, s.heap.get? b=some o){h' : Heap}{tk : Nat}{m : Str → Option Value}(hC : s.heap.objs.size≤C)
    (k : ∀ b o, s.heap.get? b=some o → h'.get? b=some o) (hn : h'.Ns C m) :
    Inv (cxB X NB own scope C fp s H) [] (stB own cap σ) H { s with heap := h', toks := tk } := by
  have hlen : NB.length=own.length+cap.length := by rw [B.nb];simp
  have okB : (cxB X NB own scope C fp s H).Ok := by
    refine ⟨I.ok.mod, B.kind, I.ok.glob, I.ok.blt, hC, fun x y c h1 h2 => I.ok.inj x y c (B.cells I.ok h1).1 (B.cells I.ok h2).1, fun x hx => ?_, fun x c h1 h2 => ?_, I.ok.hd, I.ok.frames, .inl rfl, fun b hb => ⟨?_, fun x c h => ?_⟩, I.bs, Ay I.ok.bsz I.sz, fun b o e hb => ?_, fun b hb z => ?_, I.stack, I.stkFree⟩
    · have : (x, NameKind.free)∈scope.names := by
        rcases hx with z | z
        · exact bZ (.inl rfl) B.nocell z
        · exact bZ (.inr rfl) B.nocell z
      exact B.cell I.ok this
    · have hx : x∈own := by simpa [cxB] using h1
      have q := B.owns x hx _ (B.cells I.ok h2).2 rfl
      exact absurd q (by simp)
    · obtain ⟨o, e⟩ := hfs b hb
      exact Ar (zV (zM e) hC)
    · exact (hf b hb).2.2.2.2.1 x c (B.cells I.ok h).1
    · have hb : b∈fp := hb
      rcases (hf b hb).2.2.2.1 with z | z
      · exact I.ok.noex b o e z
      · exact absurd (zV (zM e) (Ay I.ok.bsz z)) (AL _)
    · rcases zN.mp (I.stkSub b z) with z | z
      · exact (hf b hb).2.1 z
      · exact (hf b hb).2.2.1 z
  refine ⟨okB, rfl, I.bare, Un.kept k, ⟨m, hn, fun i x v e1 e2 e3 => ?_⟩, fun x c h => ?_, I.hok.fresh hC, fun x c h => I.freeC x c (B.cells I.ok h).1, fun p hp => absurd (show p∈([] : List (Addr × Obj)) from hp) (by simp), I.hok.kept k, ?_⟩
  · have e1 : NB[i]? = some x := e1
    have hi : ¬ i < own.length := fun hi => by
      unfold stB at e2
      rw [zU (by simpa using hi), zW] at e2
      cases q : own[i]? <;> rw [q] at e2 <;> cases e2
    unfold stB at e2
    rw [zL (by simpa using hi), zW] at e2
    rw [B.nb, zL (by omega), zW] at e1
    simp only [zu] at e2
    cases q : cap[i - own.length]? with
    | none => rw [q] at e1;cases e1
    | some j =>
      rw [q] at e1 e2
      have ex : X.N.getD j "" = x := zD e1
      have ev : (σ[j]?).getD none=some v := zD e2
      obtain ⟨hj, hjf⟩ := B.caps j (An q)
      rw [ex] at hjf
      have hN : X.N[j]? = some x := by rw [← ex, zx, fu hj];rfl
      have hσ : σ[j]? = some (some v) := by
        cases z : σ[j]? with
        | none => rw [z] at ev;cases ev
        | some u => rw [z] at ev;exact zR some ev
      have hmem : (x, NameKind.free)∈scope.names := AO hjf
      have hkc := B.free _ hmem rfl
      obtain ⟨m0, hn0, hl⟩ := I.loc
      obtain ⟨u, r, l⟩ := hl j x v hN hσ (.inr (.inl hkc))
      refine ⟨u, r, .inr ⟨.inl (eD B.outk hkc hjf), ?_⟩⟩
      obtain ⟨c, hc⟩ := B.cell I.ok hmem
      refine ⟨c, hc, ?_⟩
      rcases l with ⟨z, _⟩ | ⟨_, c', hc', ⟨oc, hoc, hd⟩⟩
      · rw [show X.env.kindOf x=some .cell from hkc] at z;cases z
      · have := (B.cells I.ok hc).1
        rw [hc'] at this
        have : c'=c := zD this
        subst this
        exact ⟨oc, k _ _ hoc, hd⟩
  · obtain ⟨v, oc, hoc, hd⟩ := I.cell x c (B.cells I.ok h).1
    exact ⟨v, oc, k _ _ hoc, hd⟩
  · show (stB own cap σ).length=NB.length
    unfold stB
    rw [hlen];simp
theorem Blk.done (B : Blk X scope NB own cap)(I : Inv X pins σ H s)(hf : ∀ b∈fp, kG X pins H b){σB : St}{H' : Hp}{s' : Shared}{h'' : Heap}{D : Addr}{ys : List V}{its : List Value}{n : Nat}(hC : s.heap.objs.size≤C)(hD : s.heap.objs.size≤D)(hDC : D≠C)
    (J : Inv (cxB X NB own scope C fp s H) [] σB H' s') (hn : H' D=none) (e : s'.heap.get? D=some { cls := .type "list", data := .seq its.toArray n }) (hv : aU ys its) (hz : ys.length≤sizeLine)
    (sb : Heap.SameBut C s'.heap h'') : Inv X pins σ (upd H' D (.lst ys)) { s' with heap := h'' } := by
  have un : Un (frs X.stack) fp H H' s.heap s'.heap := J.base
  have neC : ∀ {b o}, s.heap.get? b=some o → b≠C := fun q => Ar (zV (zM q) hC)
  have neD : ∀ {b o}, s.heap.get? b=some o → b≠D := fun q => Ar (zV (zM q) hD)
  have hCn : H' C=none := J.free
  refine I.call' (s' := { s' with heap := h'' }) (ch := fp) J.os ⟨fun b o q n hb hx => ?_, fun b o q n hb hx => ?_, fun b o q n hx => ?_, fun b o q hx => ?_, fun b xs q => ?_, fun b o u q => ?_, fun b ps q => ?_⟩ (fun b u q => ?_) J.bare fun b hb => ?_
  · exact (sb.2 b (neC q)).trans (un.keep b o q n hb hx)
  · obtain ⟨sl, r⟩ := un.slot b o q n hb hx
    exact ⟨sl, (sb.2 b (neC q)).trans r⟩
  · rw [aG (neD q)]
    exact un.free b o q n hx
  · obtain ⟨o', r⟩ := un.there b o q hx
    exact ⟨o', (sb.2 b (neC q)).trans r⟩
  · have r := un.tups b xs q
    rw [aG (aw r hn)]
    exact r
  · have r := un.frzs b o u q
    rw [aG (aw r hn)]
    exact r
  · obtain ⟨more, r⟩ := un.tbls b ps q
    exact ⟨more, by rw [aG (aw r hn)];exact r⟩
  · by_cases hb : b=D
    · subst hb
      rw [ah] at q
      cases q
      exact ⟨hz, its, n, hv, (sb.2 b hDC).trans e⟩
    · rw [aG hb] at q
      refine (J.hok b u q).stay (fun c v hc r => (sb.2 c ?_).trans r) (fun c r => ?_) fun c xs r => ?_
      · rcases hc with z | z
        · rw [z];exact aw q hCn
        · exact aw z hCn
      · rw [aG (aw r hn)];exact r
      · rw [aG (aw r hn)];exact r
  · obtain ⟨_, f1, _, f3, f4, f5⟩ := hf b hb
    exact ⟨f3, f1, f4, f5⟩
end
def PIf (X : Cx)(ifs : List Expr)(t : TT) : Prop :=
  ∀ (pins : List (Addr × Obj)) (s : Shared) (σ : St) (H : Hp) (Q : Bool → Hp → Prop), Inv X pins σ H s → t σ H Q →
    wpAny (model X.prog X.w) X.A (forIn ifs true fun c r => if r=true then do let ok ← isTrue c X.env (eval c X.env);pure (ForInStep.yield ok) else pure (ForInStep.yield r)) (TP X pins σ Q) X.xe s
def yS : TT := fun _ H Q => Q true H
theorem dR {X : Cx} : PIf X [] yS := fun _ _ _ H _ I h => wpAny_tests_nil ⟨H, I, h⟩
theorem jo {X : Cx}{c : Expr}{t : TT}(h : PT X c t) : PIf X [c] t := fun pins s σ H Q I q => wpAny_tests_one (h pins s σ H Q I q)
section
variable {prog : Program} {w : World} {A : Around} {R : Result → Shared → Prop} {s : Shared}
abbrev noE : Value → Shared → Prop := fun _ _ => False
theorem lh {elt tg iter : Expr}{ifs : List Expr}{scope : Scope}{pos : Pos}{it acc : Value}{env : Env}(I : Nat → Shared → Prop)
    (turn : ∀ n s, I n s → wpAny (model prog w) A (pyNext it) (fun r s₁ => match r with
      | none => R (.ok .next) s₁
      | some v => wpAny (model prog w) A (letOwnedTupleGo tg it v) (fun _ s₀ => wpAny (model prog w) A (assign tg env v) (fun _ s₂ =>
          wpAny (model prog w) A (forIn ifs true fun c r => if r=true then do let ok ← isTrue c env (eval c env);pure (ForInStep.yield ok) else pure (ForInStep.yield r)) (fun ok s₃ =>
            if ok=true then wpAny (model prog w) A (eval elt env) (fun x s₄ => wpAny (model prog w) A (call (.builtin "list.append") [acc, x]) (fun _ s₅ => ∃ m, m < n ∧ I m s₅) noE s₄) noE s₃
            else ∃ m, m < n ∧ I m s₃) noE s₂) noE s₀) noE s₁) noE s)
    (n : Nat) (h : I n s) : codeAny (model prog w) A (.compLoop (.ListComp elt [⟨tg, iter, ifs, 0⟩] scope pos) 0 it acc env) R s := by
  refine codeAny_loop rfl I (fun n s hI => ?_) n h
  show wpAny _ A ((compTurn (.ListComp elt [⟨tg, iter, ifs, 0⟩] scope pos) 0 it acc env).onRaise (fun x => do noteFrame x env;theTreesLotGoes x)) _ _ s
  refine wpAny_noted ?_
  rw [compTurn_list]
  refine zl (wpAny_standAt (zl (A2 (turn n s hI) (fun r s₁ h₁ => ?_) fun _ _ z => False.elim z)))
  cases r with
  | none => exact zJ h₁
  | some v =>
    refine zl (A2 h₁ (fun _ s₀ h₀ => zl (A2 h₀ (fun _ s₂ h₂ => zl (A2 h₂ (fun ok s₃ h₃ => ?_) fun _ _ z => False.elim z)) fun _ _ z => False.elim z)) fun _ _ z => False.elim z)
    cases ok with
    | false => exact zJ ⟨rfl, h₃⟩
    | true => exact zl (zl (A2 h₃ (fun x s₄ h₄ => zl (A2 h₄ (fun _ s₅ h₅ => zJ (zJ ⟨rfl, h₅⟩)) fun _ _ z => False.elim z)) fun _ _ z => False.elim z))
end
def rn (own : List Str)(cap : List Nat)(g : TG)(ti : TT)(te : TE)(Q : VK)(σ : St)(J : It)(H1 : Hp) : Prop := ∃ W : Nat → Nat → List V → St → Hp → Prop, (∃ m, W 0 m [] (stB own cap σ) H1) ∧ ∀ i m ys σ H, W i m ys σ H →
  (J.stop i H ∧ ys.length≤sizeLine ∧ ∀ D, H D=none → Q (.ref D) (upd H D (.lst ys))) ∨
  (J.go i H ∧ ys.length < sizeLine ∧ ∀ x H', J.yld i H x H' → g x σ H' fun σ2 H2 => ti σ2 H2 fun b H3 => if b=true then te σ2 H3 fun y H4 => ∃ m', m' < m ∧ W (i+1) m' (ys++[y]) σ2 H4 else ∃ m', m' < m ∧ W (i+1) m' ys σ2 H3)
def ro (own : List Str)(cap : List Nat)(wi : TI)(g : TG)(ti : TT)(te : TE) : TE := fun σ H Q => wi σ H fun J H1 => rn own cap g ti te Q σ J H1
theorem jq {X : Cx}{pos2 : Pos}{use : Option (Value → Sem Unit)}{QQ : Value → Shared → Prop}{pins : List (Addr × Obj)}{s : Shared}{σ : St}{H : Hp}{Q : VK}{elt iter tg : Expr}{ifs : List Expr}{scope : Scope}{pos : Pos}{NB own : List Str}{cap : List Nat}{wi : TI}{g : TG}{ti : TT}{te : TE}(B : Blk X scope NB own cap)(hc : X.calm=true)(hi : PI X tg iter wi)
    (hg : ∀ C fp s₀ H₀, PG (cxB X NB own scope C fp s₀ H₀) tg g) (ht : ∀ C fp s₀ H₀, PIf (cxB X NB own scope C fp s₀ H₀) ifs ti) (he : ∀ C fp s₀ H₀, PE (cxB X NB own scope C fp s₀ H₀) elt te)
    (hs : ∀ x, foldedSetIterable iter X.env x=pure x) (I0 : Inv X pins σ H s) (h : ro own cap wi g ti te σ H Q)
    (fin : ∀ (fp : List Addr) (C : Addr) (s2 s4 : Shared) (H2 H3 : Hp) (σ3 : St) (its : List Value) (ys : List V) (k : Nat), Inv X pins σ H2 s2 → (∀ b∈fp, kG X pins H2 b) → s2.heap.objs.size≤C → s2.heap.objs.size≠C → Inv (cxB X NB own scope C fp s2 H2) [] σ3 H3 s4 → H3 s2.heap.objs.size=none → s4.heap.get? s2.heap.objs.size=some { cls := .type "list", data := .seq its.toArray k } → aU ys its → ys.length≤sizeLine → Q (.ref s2.heap.objs.size) (upd H3 s2.heap.objs.size (.lst ys)) →
      compPost (model X.prog X.w) X.A X.xe use QQ (.ref s2.heap.objs.size) C (.ok .next) s4) : wpAny (model X.prog X.w) X.A (comprehension (.ListComp elt [⟨tg, iter, ifs, 0⟩] scope pos) scope X.env pos2 (newList []) false (eval iter X.env) use) QQ X.xe s := by
  have hclos := fN (env := X.env) (scope := scope) fun y hy e => I0.ok.has y.1 (.inl (B.free y hy e))
  refine wpAny_comprehension_free (use := use) rfl hs hclos B.kind B.names (thn (hi pins s σ H _ I0 h) fun v s1 h1 => thn h1 fun itv s2 h2 => ?_)
  obtain ⟨it, fp, tn, J, H2, rfl, I, T, st2, f2, W, ⟨m0, w0⟩, turn⟩ := h2
  refine Cg ?_
  refine wpAny_newFunctionEnv B.nocell (by intro y hy;simp at hy) (fun h₁ hns₁ hsb₁ => ?_) B.kind
  dsimp only at hns₁ hsb₁ ⊢
  generalize hP : s2.heap.push { cls := .type "list", dict := none, data := .seq ([] : List Value).toArray }=P at hns₁ hsb₁ ⊢
  have hC : P.objs.size=s2.heap.objs.size+1 := by rw [← hP, CK]
  have hDC : s2.heap.objs.size≠P.objs.size := by rw [hC];exact Ar (BF _)
  have hCle : s2.heap.objs.size≤P.objs.size := by rw [hC];exact Cr _
  have old : ∀ b o, s2.heap.get? b=some o → h₁.get? b=some o := fun b o e => by
    refine (hsb₁.2 b ?_).trans (zq _ (hP ▸ zq _ e))
    exact Ar (zV (zM e) hCle)
  have hD : h₁.get? s2.heap.objs.size=some { cls := .type "list", data := .seq ([] : List Value).toArray 0 } := by
    refine (hsb₁.2 _ hDC).trans (zq _ ?_)
    rw [← hP]
    exact zI _ rfl
  have hfs : ∀ b∈fp, ∃ o, s2.heap.get? b=some o := fun b hb => let ⟨o, e, _⟩ := T.obj _ _ st2 b hb;⟨o, e⟩
  have st4 : tn 0 h₁ := T.keep _ _ _ st2 fun b _ o e => old b o e
  generalize htk : s2.toks+([] : List (Str × Value)).length=tk4
  have I4 := B.start (C := P.objs.size) (tk := tk4) I f2 hfs hCle old hns₁
  have fOk : ∀ {H' : Hp} {b : Addr} {ob : Obj}, b∈fp → H' b=none → kG (cxB X NB own scope P.objs.size fp s2 H2) [(s2.heap.objs.size, ob)] H' b := fun {H' b ob} hb hn => by
    obtain ⟨o, e⟩ := hfs b hb
    refine ⟨hn, (I4.ok.exf b hb).1, I4.ok.exfs b hb, .inl hb, (I4.ok.exf b hb).2, fun p hp => ?_⟩
    have ep : p=(s2.heap.objs.size, ob) := zr.mp (show p∈[(s2.heap.objs.size, ob)] from hp)
    rw [ep]
    exact fun z => absurd (zM e) (by rw [← z];exact AL _)
  have dnf : s2.heap.objs.size∉frs X.stack := fun z => by
    rcases zN.mp (I.stkSub _ z) with z | z
    · exact absurd I.lt (by rw [← z];exact AL _)
    · exact I.nofs (zA _) z
  have I3D : ∀ {σ3 : St} {H3 : Hp} {s3 : Shared} {its : List Value} {k : Nat}, Inv (cxB X NB own scope P.objs.size fp s2 H2) [] σ3 H3 s3 → s3.heap.get? s2.heap.objs.size=some { cls := .type "list", data := .seq its.toArray k } → H3 s2.heap.objs.size=none →
      Inv (cxB X NB own scope P.objs.size fp s2 H2) [(s2.heap.objs.size, { cls := .type "list", data := .seq its.toArray k })] σ3 H3 s3 := fun I3 e n => I3.pins_of fun p hp => by
    have ep := zr.mp hp
    subst ep
    exact ⟨e, n, hDC, dnf, fun v z => by cases z⟩
  have ndf : s2.heap.objs.size∉fp := fun z => by
    obtain ⟨o, e⟩ := hfs _ z
    exact absurd (zM e) (AL _)
  have nCD : ∀ x c, (cxB X NB own scope P.objs.size fp s2 H2).env.cells.lookup x=some c → c≠s2.heap.objs.size := fun x c e z => by
    obtain ⟨v, o, ho, _⟩ := I.cell x c (B.cells I.ok e).1
    rw [z] at ho
    exact absurd (zM ho) (AL _)
  have loop : ∀ s₃ : Shared, s₃ = { s2 with heap := h₁, toks := tk4 } → codeAny (model X.prog X.w) X.A (.compLoop (.ListComp elt [⟨tg, iter, ifs, 0⟩] scope pos) 0 (.ref it) (.ref s2.heap.objs.size) (cxB X NB own scope P.objs.size fp s2 H2).env)
      (compPost (model X.prog X.w) X.A X.xe use QQ (.ref s2.heap.objs.size) P.objs.size) s₃ := by
    rintro s₃ rfl
    refine lh (fun n s' => ∃ i σB H' ys its k, Inv (cxB X NB own scope P.objs.size fp s2 H2) [] σB H' s' ∧ tn i s'.heap ∧ (∀ b∈fp, H' b=none) ∧ s'.heap.get? s2.heap.objs.size=some { cls := .type "list", data := .seq (its : List Value).toArray k } ∧ aU ys its ∧ H' s2.heap.objs.size=none ∧ W i n ys σB H') ?_ m0
      ⟨0, stB own cap σ, H2, [], [], 0, I4, st4, fun b hb => (f2 b hb).1, hD, .nil, I.hok.fresh (zA _), w0⟩
    rintro n s3 ⟨i, σ3, H3, ys, its, k, I3, st3, fr3, hD3, rv, hn3, w3⟩
    rcases turn i n ys σ3 H3 w3 with ⟨stop, hz, q⟩ | ⟨go, hz, step⟩
    · refine thn (T.done (cxB X NB own scope P.objs.size fp s2 H2) rfl rfl rfl hc i _ s3 σ3 H3 noE (I3D I3 hD3 hn3) (fun b hb => fOk hb (fr3 b hb)) st3 stop) fun r s4 zq1 => ?_
      obtain ⟨hr, I4'⟩ := zq1
      subst hr
      have hD4 : s4.heap.get? s2.heap.objs.size=some { cls := .type "list", data := .seq (its : List Value).toArray k } := (I4'.pin (s2.heap.objs.size, _) (zG _ (zr.mpr rfl))).1
      have I5 : Inv (cxB X NB own scope P.objs.size fp s2 H2) [] σ3 H3 s4 := I4'.pins_of fun p hp => absurd (show p∈([] : List (Addr × Obj)) from hp) (by simp)
      exact fin fp _ s2 s4 H2 H3 σ3 its ys k I f2 hCle hDC I5 hn3 hD4 rv hz (q _ hn3)
    · refine thn (T.item (cxB X NB own scope P.objs.size fp s2 H2) rfl rfl rfl hc i _ s3 σ3 H3 noE (I3D I3 hD3 hn3) (fun b hb => fOk hb (fr3 b hb)) st3 go) fun r s4 zq2 => ?_
      obtain ⟨u, hr, h4⟩ := zq2
      subst hr
      refine thn h4 fun _ s5 zq3 => ?_
      obtain ⟨x, H5, I5, r5, y5, st5, fr5⟩ := zq3
      have I5' := I5.pinned (fun b hb => fOk hb (fr5 b hb)) (T.obj _ _ st5)
      refine thn (hg _ fp s2 H2 _ s5 σ3 H5 x u _ I5' r5 (step x H5 y5)) fun _ s6 zq4 => ?_
      obtain ⟨σ6, H6, I6, q6⟩ := zq4
      refine thn (ht _ fp s2 H2 _ s6 σ6 H6 _ I6 q6) fun b s7 zq5 => ?_
      obtain ⟨H7, I7, q7⟩ := zq5
      have pinned : ∀ {σ8 : St} {H8 : Hp} {s8 : Shared}, Inv (cxB X NB own scope P.objs.size fp s2 H2) ([(s2.heap.objs.size, { cls := .type "list", data := .seq (its : List Value).toArray k })]++gL fp s5.heap) σ8 H8 s8 →
          tn (i+1) s8.heap ∧ (∀ b∈fp, H8 b=none) ∧ s8.heap.get? s2.heap.objs.size=some { cls := .type "list", data := .seq (its : List Value).toArray k } ∧ H8 s2.heap.objs.size=none := fun {σ8 H8 s8} I8 => by
        refine ⟨T.keep _ _ _ st5 fun b hb o e => (I8.pin (b, o) (zG _ (zG _ (cu hb e)))).1, fun b hb => ?_, ?_, ?_⟩
        · obtain ⟨o, e, d⟩ := T.obj _ _ st5 b hb
          exact (I8.pin (b, o) (zG _ (zG _ (cu hb e)))).2.1
        · exact (I8.pin (s2.heap.objs.size, _) (zG _ (z6 _ (zr.mpr rfl)))).1
        · exact (I8.pin (s2.heap.objs.size, _) (zG _ (z6 _ (zr.mpr rfl)))).2.1
      have nopin : ∀ {pp : List (Addr × Obj)} {σ8 : St} {H8 : Hp} {s8 : Shared}, Inv (cxB X NB own scope P.objs.size fp s2 H2) pp σ8 H8 s8 → Inv (cxB X NB own scope P.objs.size fp s2 H2) [] σ8 H8 s8 := fun I8 => I8.pins_of fun p hp => absurd (show p∈([] : List (Addr × Obj)) from hp) (by simp)
      cases b with
      | false =>
        rw [if_neg zT] at q7 ⊢
        obtain ⟨m', hm, w7⟩ := q7
        obtain ⟨p1, p2, p3, p4⟩ := pinned I7
        exact ⟨m', hm, i+1, σ6, H7, ys, its, k, nopin I7, p1, p2, p3, rv, p4, w7⟩
      | true =>
        rw [if_pos rfl] at q7 ⊢
        refine thn (he _ fp s2 H2 _ s7 σ6 H7 _ I7 q7) fun yv s8 zq6 => ?_
        obtain ⟨y, H8, I8, r8, m', hm, w8⟩ := zq6
        obtain ⟨p1, p2, p3, p4⟩ := pinned I8
        refine Cm F.slot_list_append ⟨_, p3, rfl⟩ F.entry_list_append (F.args_list_append_2 _ _) (PySem.list_append s2.heap.objs.size its.toArray k yv (by rw [zO, ← rv.length];omega)) ⟨p3, ?_⟩
        have q := PySem.IsL.update p3 fun a => a.push yv
        have ea : its.toArray.push yv=(its++[yv]).toArray := by simp
        rw [ea] at q
        have I9 : Inv (cxB X NB own scope P.objs.size fp s2 H2) [] σ6 H8 { s8 with heap := s8.heap.update s2.heap.objs.size (Obj.mapSeq fun a => a.push yv), toks := s8.toks } :=
          (nopin I8).turned (it := s2.heap.objs.size) (fun b o hb e => (Az s8.heap _ (Ne.symm hb)).trans e) p4 hDC (.inr (zA _)) (fun x c e => nCD x c e) fun p hp => absurd (show p∈([] : List (Addr × Obj)) from hp) (by simp)
        refine ⟨m', hm, i+1, σ6, H8, ys++[y], its++[yv], _, I9, ?_, p2, q, rv.append (.cons r8 .nil), p4, w8⟩
        refine T.keep _ _ _ p1 fun b hb o e => (Az s8.heap _ ?_).trans e
        intro z
        rw [z] at ndf
        exact ndf hb
  exact codeAny_compStart_list (loop _ rfl) (T.self X.A 0 _ _ _ st4 (loop _ rfl))
theorem fP {X : Cx}{elt iter tg : Expr}{ifs : List Expr}{scope : Scope}{pos : Pos}{NB own : List Str}{cap : List Nat}{wi : TI}{g : TG}{ti : TT}{te : TE}(B : Blk X scope NB own cap)(hc : X.calm=true)(hi : PI X tg iter wi)
    (hg : ∀ C fp s₀ H₀, PG (cxB X NB own scope C fp s₀ H₀) tg g) (ht : ∀ C fp s₀ H₀, PIf (cxB X NB own scope C fp s₀ H₀) ifs ti) (he : ∀ C fp s₀ H₀, PE (cxB X NB own scope C fp s₀ H₀) elt te)
    (hs : ∀ x, foldedSetIterable iter X.env x=pure x := by intro _;rfl) : PE X (.ListComp elt [⟨tg, iter, ifs, 0⟩] scope pos) (ro own cap wi g ti te) := by
  intro pins s σ H Q I0 h
  rw [eval_ListComp]
  refine jq (use := none) (QQ := EP X pins σ Q) B hc hi hg ht he hs I0 h fun fp C s2 s4 H2 H3 σ3 its ys k I f2 hCle hDC I5 hn3 hD4 rv hz q => ?_
  obtain ⟨mC, hnC, _⟩ := I5.loc
  exact ⟨mC, hnC, fun h'' sb => ⟨.ref s2.heap.objs.size, _, B.done I f2 hCle (zA _) hDC I5 hn3 hD4 rv hz sb, rfl, q⟩⟩
theorem dm {own : List Str}{cap : List Nat}{J : It}{g : TG}{ti : TT}{te : TE}{σ : St}{H : Hp}{Q : VK}(n : Nat)(Pv : Nat → List V → St → Hp → Prop)(h0 : Pv 0 [] (stB own cap σ) H)(hz : ∀ i ys σ H, i≤n → Pv i ys σ H → ys.length≤i)(hn : n≤sizeLine)
    (hgo : ∀ i ys σ H, i < n → Pv i ys σ H → J.go i H) (hst : ∀ ys σ H, Pv n ys σ H → J.stop n H)
    (hs : ∀ i ys σ H x H' (N : List V → St → Hp → Prop), i < n → Pv i ys σ H → J.yld i H x H' → (∀ ys' σ' H'', Pv (i+1) ys' σ' H'' → N ys' σ' H'') → g x σ H' fun σ2 H2 => ti σ2 H2 fun b H3 => if b=true then te σ2 H3 fun y H4 => N (ys++[y]) σ2 H4 else N ys σ2 H3)
    (hd : ∀ ys σ H D, Pv n ys σ H → H D=none → Q (.ref D) (upd H D (.lst ys))) :
    rn own cap g ti te Q σ J H := by
  refine ⟨fun i m ys σ H => m=n - i ∧ i≤n ∧ Pv i ys σ H, ⟨n, by simp, Ao _, h0⟩, ?_⟩
  rintro i m ys σ H ⟨rfl, hi, p⟩
  have hl := hz i ys σ H hi p
  by_cases hlt : i < n
  · refine .inr ⟨hgo i ys σ H hlt p, by omega, fun x H' y => ?_⟩
    exact hs i ys σ H x H' (fun ys' σ' H'' => ∃ m', m' < n - i ∧ m'=n - (i+1) ∧ i+1≤n ∧ Pv (i+1) ys' σ' H'') hlt p y fun ys' σ' H'' q => ⟨n - (i+1), by omega, rfl, hlt, q⟩
  · have e : i=n := by omega
    subst e
    exact .inl ⟨hst ys σ H p, by omega, fun D hD => hd ys σ H D p hD⟩
end L2
namespace L2
open PySem PySem.Spec PyProof.Rows
def Its (z : Str) : It := ⟨fun i _ => i < z.cps.size, fun i H x H' => H'=H ∧ ∃ c, z.cps[i]? = some c ∧ x = .str ⟨#[c]⟩, fun i _ => i=z.cps.size⟩
theorem bR {P : Program}{w : World}{K : PySem.W.Frag}{tg : Expr}{it n : Nat}{Pv : Nat → Value → Prop}{st : Nat → Heap → Prop}{J : It}{T : String}{fl : Nat → Array Value}
    (W : ∀ A : Around, A.handled=none → Walks P w A it [it] [it] n Pv st) (hst : ∀ i h, st i h → ∃ o, h.get? it=some o ∧ o.cls = .type T ∧ o.data = .fields (fl i))
    (hT : ["enumerate", "zip", "dict_itemiterator", "dict_reverseitemiterator", "odict_iterator", "itertools.zip_longest", "itertools.pairwise"].contains T=false)
    (hgo : ∀ i H, J.go i H → i < n) (hstop : ∀ i H, J.stop i H → i=n) (hy : ∀ i H u, J.go i H → Pv i u → ∃ x, bu x u ∧ J.yld i H x H)
    (hself : ∀ (A : Around) (i : Nat) (s : Shared) (Q : Value → Shared → Prop) (E : Value → Shared → Prop), st i s.heap → Q (.ref it) s → wpAny (model P w) A (pyIter (.ref it)) Q E s) : uu P w K tg J [it] it st where
  mem := by simp
  obj := fun i h s b hb => by
    have e : b=it := by simpa using hb
    subst e
    obtain ⟨o, e, c, d⟩ := hst i h s
    exact ⟨o, e, fun v z => by rw [d] at z;cases z⟩
  keep := fun i h h' s k => (W {} rfl).frame i h h' s k
  item := by
    intro X hP hw hK hc i pins s σ H E I hf s0 hg
    subst hP hw hK
    obtain ⟨f0, f1, f2, f3, f4, f5⟩ := hf it (by simp)
    refine (W X.A (I.ok.hd hc)).item i s _ _ (hgo i H hg) s0 fun v h' tk hv st' kk => ?_
    have I1 : Inv X pins σ H { s with heap := h', toks := tk } := I.turned (fun b o hb e => kk b o (by simpa using hb) e) f0 f1 f3 f4 f5
    obtain ⟨o, e, c, d⟩ := hst _ _ st'
    obtain ⟨x, rx, yx⟩ := hy i H v hg hv
    exact ⟨v, rfl, oq (s := { s with heap := h', toks := tk }) e c d hT ⟨x, H, I1, rx, yx, st', fun b hb => (hf b hb).1⟩⟩
  done := by
    intro X hP hw hK hc i pins s σ H E I hf s0 hg
    subst hP hw hK
    obtain ⟨f0, f1, f2, f3, f4, f5⟩ := hf it (by simp)
    have e := hstop i H hg
    subst e
    exact (W X.A (I.ok.hd hc)).done s _ _ s0 fun h' tk kk => ⟨rfl, I.turned (fun b o hb e => kk b o (by simpa using hb) e) f0 f1 f3 f4 f5⟩
  self := hself
section
variable {X : Cx} {tg : Expr}
def yT (tl : TE) : TI := fun σ H R => tl σ H fun x H1 => ∃ z, x = .str z ∧ R (Its z) H1
theorem lq {z : Str}{i : Nat}{H : Hp}{u : Value}(h : SignAt z i u) : ∃ x, bu x u ∧ (Its z).yld i H x H := by
  obtain ⟨c, t, e, rfl⟩ := h
  exact ⟨.str ⟨#[c]⟩, ⟨t, rfl⟩, rfl, c, e, rfl⟩
theorem e9 {l : Expr}{tl : TE}(hl : PE X l tl) : PI X tg l (yT tl) := by
  intro pins s σ H R I h
  refine thn (hl pins s σ H _ I h) fun v s1 zq1 => ?_
  obtain ⟨x, H1, I1, r1, q1⟩ := zq1
  obtain ⟨z, rfl, q⟩ := q1
  obtain ⟨t, rfl⟩ := r1
  have fp : ∀ b∈[s1.heap.objs.size], kG X pins H1 b := fun b hb => by
    have e : b=s1.heap.objs.size := by simpa using hb
    subst e
    exact I1.fpOk (zA _) (I1.hok.fresh (zA _))
  cases ha : z.cps.all (· < 128)
  · refine wpAny_pyIter_wide ha ⟨s1.heap.objs.size, [s1.heap.objs.size], _, Its z, H1, rfl, I1.kept (t' := s1.toks) fun b o e => zq _ e,
      bR (T := "str_iterator") (fl := fun i => #[.str z t, .int i 0]) (fun A hh => Walks.strWide hh _ z t) (fun i h st => st) (by decide) (fun i H g => g) (fun i H g => g) (fun i H u _ hu => lq hu) (fun A i s Q E st h => wpAny_pyIter_striter_wide st h), ⟨_, zI _ rfl, rfl, rfl⟩, fp, q⟩
  · refine wpAny_pyIter_ascii ha ⟨s1.heap.objs.size, [s1.heap.objs.size], _, Its z, H1, rfl, I1.kept (t' := s1.toks) fun b o e => zq _ e,
      bR (T := "str_ascii_iterator") (fl := fun i => #[.str z t, .int i 0]) (fun A hh => Walks.strAscii hh _ z t) (fun i h st => st) (by decide) (fun i H g => g) (fun i H g => g) (fun i H u _ hu => lq hu) (fun A i s Q E st h => wpAny_pyIter_striter_ascii st h), ⟨_, zI _ rfl, rfl, rfl⟩, fp, q⟩
inductive yu (x : V)(lo : Option Int)(hi : Option Int)(H : Hp)(Q : VK) : Prop
  | mk : ∀ z, (x = .str z) → (z.length≤sizeLine) → (Q (.str (Txt.slice z lo hi)) H) → yu x lo hi H Q
theorem br : SlR X yu := by
  intro pins s σ H x v vl vu lo hi sl Q I rx hs pl pu h
  obtain ⟨z, rfl, hz, q⟩ := h
  obtain ⟨t, rfl⟩ := rx
  have fin : ∀ (lo hi : Option Int), Q (.str (Txt.slice z lo hi)) H → ∀ t' k, EP X pins σ Q (.str (Txt.slice z lo hi) t') { s with toks := k } := fun lo hi q t' k => ⟨.str _, H, I.tok _, ⟨_, rfl⟩, q⟩
  refine ⟨"str", _, F.slot_str_getitem.lookup, Ck _ _ _, ?_⟩
  cases pl with
  | none =>
    cases pu with
    | none => exact AW (l := none) (u := none) (st := none) hs rfl (BQ ⟨Ay (B8 z _ _) hz, fun t' k => fin _ _ q t' k⟩)
    | int j uj => exact AW (l := none) (u := some (j, uj)) (st := none) hs rfl (BQ ⟨Ay (B8 z _ _) hz, fun t' k => fin _ _ q t' k⟩)
  | int i ui =>
    cases pu with
    | none => exact AW (l := some (i, ui)) (u := none) (st := none) hs rfl (BQ ⟨Ay (B8 z _ _) hz, fun t' k => fin _ _ q t' k⟩)
    | int j uj => exact AW (l := some (i, ui)) (u := some (j, uj)) (st := none) hs rfl (BQ ⟨Ay (B8 z _ _) hz, fun t' k => fin _ _ q t' k⟩)
inductive qj (x : V)(vs : List V)(H : Hp)(Q : VK) : Prop
  | mk : ∀ z, (x = .str z) → (vs=[]) → (z.length≤5592405) → (Q (.str (Txt.upper z)) H) → qj x vs H Q
inductive qk (x : V)(vs : List V)(H : Hp)(Q : VK) : Prop
  | mk : ∀ z, (x = .str z) → (vs=[]) → (z.length≤5592405) → (Q (.str (Txt.lower z)) H) → qk x vs H Q
theorem dS : MtR X "str.upper" qj := by
  intro pins s σ H x vs v us Q I rx rv h
  obtain ⟨z, rfl, rfl, hz, q⟩ := h
  obtain ⟨t, rfl⟩ := rx
  cases rv
  exact SCL.upper hz fun _ => ⟨.str _, H, I.tok _, ⟨_, rfl⟩, q⟩
theorem oJ : MtR X "str.lower" qk := by
  intro pins s σ H x vs v us Q I rx rv h
  obtain ⟨z, rfl, rfl, hz, q⟩ := h
  obtain ⟨t, rfl⟩ := rx
  cases rv
  exact SCL.lower hz fun _ => ⟨.str _, H, I.tok _, ⟨_, rfl⟩, q⟩
theorem e_ : ∀ {ys : List Str} {us : List Value}, aU (ys.map V.str) us → StrsAre us ys
  | [], _, r => by
    rw [BJ] at r
    cases r
    exact .nil
  | y::ys, us, r => by
    rw [z9] at r
    cases r with
    | cons r1 r2 =>
      obtain ⟨t, e⟩ := r1
      subst e
      exact .cons y t (e_ r2)
inductive uV (K : PySem.W.Frag)(x : V)(vs : List V)(H : Hp)(Q : VK) : Prop
  | mk : ∀ z p ys, (x = .str z) → (vs=[.ref p]) → (SqL K H p (ys.map V.str)) → ((ys.map (·.length)).sum+ys.length*z.length≤16777216) → (Q (.str (Txt.join z ys)) H) → uV K x vs H Q
theorem fR : MtR X "str.join" (uV X.K) := by
  intro pins s σ H x vs v us Q I rx rv h
  obtain ⟨z, p, ys, rfl, rfl, hq, hz, q⟩ := h
  obtain ⟨t, rfl⟩ := rx
  obtain ⟨u, rfl, ru⟩ := cZ rv
  cases ru
  obtain ⟨its, r, pl, _⟩ := I.list hq
  exact join_list pl.isList (by simpa using e_ r) hz fun t' k => ⟨.str _, H, I.tok _, ⟨_, rfl⟩, q⟩
inductive dG  (x : V)(y : V)(H : Hp)(Q : VK) : Prop
  | mk : ∀ z n, (x = .str z) → (y = .int n) → (MulOk z n) → (Q (.str (Txt.mul z n)) H) → dG x y H Q
theorem j3 : OpR X (binaryOp .Mult) dG := by
  intro pins s σ H x y v u Q I rx ry h
  obtain ⟨z, n, rfl, rfl, hz, q⟩ := h
  obtain ⟨t, rfl⟩ := rx
  obtain ⟨t', rfl⟩ := ry
  exact SB.mul hz fun t' k => ⟨.str _, H, I.tok _, ⟨_, rfl⟩, q⟩
end
theorem fT {z : Str}{g : TG}{tb : TS}{D : iq}{σ : St}{H : Hp}(Pv : Nat → St → Hp → Prop)(h0 : Pv 0 σ H)
    (hs : ∀ i c σ H, z.cps[i]? = some c → Pv i σ H → g (.str ⟨#[c]⟩) σ H fun σ2 H2 => tb { D with nx := Pv (i+1), ct := Pv (i+1), bk := D.nx } σ2 H2) (hd : ∀ σ H, Pv z.cps.size σ H → D.nx σ H) :
    ∃ W : Nat → Nat → St → Hp → Prop, (∃ m, W 0 m σ H) ∧ ∀ i m σ H, W i m σ H →
      ((Its z).stop i H ∧ D.nx σ H) ∨ ((Its z).go i H ∧ ∃ N : St → Hp → Prop, (∀ σ' H', N σ' H' → ∃ m', m' < m ∧ W (i+1) m' σ' H') ∧ ∀ x H', (Its z).yld i H x H' → g x σ H' fun σ2 H2 => tb { D with nx := N, ct := N, bk := D.nx } σ2 H2) := by
  refine ⟨fun i m σ H => m=z.cps.size - i ∧ i≤z.cps.size ∧ Pv i σ H, ⟨z.cps.size, by simp, Ao _, h0⟩, ?_⟩
  rintro i m σ H ⟨rfl, hi, p⟩
  by_cases hlt : i < z.cps.size
  · refine .inr ⟨hlt, Pv (i+1), fun σ' H' p' => ⟨z.cps.size - (i+1), by omega, rfl, hlt, p'⟩, fun x H' y => ?_⟩
    obtain ⟨e, c, hc, ex⟩ := y
    subst e ex
    exact hs i c σ _ hc p
  · have e : i=z.cps.size := by omega
    subst e
    exact .inl ⟨rfl, hd σ H p⟩
end L2
namespace PySem
open Sem (wp)
open Builtin Builtin.SmallTypes
namespace F
theorem lookup_str_reversed : typeLookup (.type "str") "__reversed__" = pure none := by rw [Cu, Bs]; kernel_rfl
theorem fU : Slot "reversed" "__init__" "object.__init__" :=
  .of (owner := "object") (n := "__init__") (by rw [Cu, Bs];kernel_rfl) (by decide +kernel) (by decide +kernel) (by decide +kernel)
    (by first | exact .inl (by decide +kernel) | exact .inr (by decide +kernel)) (by rw [CL];kernel_rfl)
theorem called_rvs : TypeCalled "reversed" "reversed.__new__" "object.__init__" :=
  ⟨by decide +kernel, create_reversed, ⟨_, _, mro_reversed⟩, made_reversed, plain_reversed_new, sub_reversed_self, fU⟩
end F
set_option maxHeartbeats 1000000 in
theorem lu (x : Str)(t : Tok) : Meets (Builtin.«reversed.__new__» ⟨[.type "reversed", .str x t], []⟩) (fun _ R s => ¬ (x.length : Int)≥2 ^ 63 ∧
      ∀ tk, R (.ok (.ret (.ref s.heap.objs.size))) { s with heap := s.heap.push { cls := .type "reversed", data := .fields #[.str x t, rawInt ((x.length : Int) - 1)] }, toks := tk }) :=
  .of_wp fun prog w A R s h => by
    obtain ⟨hx, h⟩ := h
    unfold Builtin.«reversed.__new__»
    refine zl (Cv (newClass_reversed _) ?_)
    try dsimp only
    refine zl (Cv (a := ()) (by first | rfl | kernel_rfl) ?_)
    refine zl (Cv (a := ()) (by first | rfl | kernel_rfl) ?_)
    try dsimp only
    refine zl (Dp (Ck s x t) F.lookup_str_reversed ?_)
    try dsimp only
    refine zl ?_
    have hl := F.slot_str_getitem.lookup
    have hT := Ck s x t
    have hD : isSubtype (.type "str") (.type "dict")=pure false := by rw [CL];kernel_rfl
    repeat (any_goals (first | assumption | refine PySem.P.len_str hx ?_ | wp_step))
    exact ⟨_, rfl, h _⟩
def Heap.IsRvs (h : Heap)(a : Addr)(x : Str)(t : Tok)(i : Int) : Prop := ∃ o, h.get? a=some o ∧ o.cls = .type "reversed" ∧ o.data = .fields #[.str x t, rawInt i]
theorem Heap.IsRvs.typeIs {s : Shared}{a : Addr}{x : Str}{t : Tok}{i : Int}(y : s.heap.IsRvs a x t i) : s.TypeIs (.ref a) "reversed" := let ⟨o, ho, hc, _⟩ := y; ⟨o, ho, hc⟩
namespace F
theorem slot_rvs_next : Slot "reversed" "__next__" "reversed.__next__" :=
  .of (owner := "reversed") (n := "__next__") (by rw [Cu, Bs];kernel_rfl) (by decide +kernel) (by decide +kernel) (by decide +kernel)
    (by first | exact .inl (by decide +kernel) | exact .inr (by decide +kernel)) (by rw [CL];kernel_rfl)
theorem entry_rvs_next : entryFor table "reversed.__next__" = some Builtin.«reversed.__next__» := entryFor_of_tree (by kernel_rfl)
theorem args_rvs_next (a : Value) : argsOk "reversed.__next__" ⟨[a], []⟩ := by unfold argsOk; kernel_rfl
theorem slot_rvs_iter : Slot "reversed" "__iter__" "reversed.__iter__" :=
  .of (owner := "reversed") (n := "__iter__") (by rw [Cu, Bs];kernel_rfl) (by decide +kernel) (by decide +kernel) (by decide +kernel)
    (by first | exact .inl (by decide +kernel) | exact .inr (by decide +kernel)) (by rw [CL];kernel_rfl)
theorem args_rvs_iter (a : Value) : argsOk "reversed.__iter__" ⟨[a], []⟩ := by unfold argsOk; kernel_rfl
theorem entry_rvs_iter : entryFor table "reversed.__iter__" = some Builtin.«dict_keyiterator.__iter__» :=
  entryFor_alias (id' := "dict_keyiterator.__iter__") (by kernel_rfl) rfl (by decide +kernel) (by kernel_rfl)
end F
section
variable {prog : Program} {w : World} {A : Around} {E : Value → Shared → Prop} {s : Shared} {x : Str} {t : Tok}
theorem g6 {Q : Value → Shared → Prop}(hx : ¬ (x.length : Int)≥2 ^ 63)
    (h : ∀ tk, Q (.ref s.heap.objs.size) { s with heap := s.heap.push { cls := .type "reversed", data := .fields #[.str x t, rawInt ((x.length : Int) - 1)] }, toks := tk }) : wpAny (model prog w) A (call (.type "reversed") [.str x t]) Q E s :=
  callType_new F.called_rvs (by decide) (F.typeCall_reversed_1 _) (F.newCall_reversed_1 _) (fun obj => F.args_object_init_2 obj _) F.entry_reversed_new (lu x t) ⟨hx, fun tk => ⟨⟨_, zI _ rfl, rfl⟩, h tk⟩⟩
theorem fV {it : Addr}{i : Int}{Q : Value → Shared → Prop}(hit : s.heap.IsRvs it x t i)(h : Q (.ref it) s) : wpAny (model prog w) A (pyIter (.ref it)) Q E s := by
  refine wpAny_pyIter_slot hit.typeIs F.slot_rvs_iter (BG F.slot_rvs_iter hit.typeIs F.entry_rvs_iter ?_ (F.args_rvs_iter _))
  show wpAny _ _ (ret (.ref it)) _ _ s
  exact zJ ⟨_, rfl, "reversed", _, hit.typeIs, F.slot_rvs_next.lookup, h⟩
theorem fW {it : Addr}{i : Nat}{c : Nat}{Q : Option Value → Shared → Prop}(hit : s.heap.IsRvs it x t (i : Int))(hx : x.cps[i]? = some c)(h63 : (i : Int) < 2 ^ 63)
    (hQ : ∀ h' tk u, h'.IsRvs it x t ((i : Int) - 1) → Heap.SameBut it s.heap h' → Q (some (.str ⟨#[c]⟩ u)) { s with heap := h', toks := tk }) : wpAny (model prog w) A (pyNext (.ref it)) Q E s := by
  obtain ⟨o, ho, hc, hd⟩ := id hit
  unfold pyNext
  refine zl (C3 (wpAny_callSpecial?_slot (name := Str.ofString "__next__") hit.typeIs F.slot_rvs_next
    (BG F.slot_rvs_next hit.typeIs F.entry_rvs_next ?_ (F.args_rvs_next _))))
  unfold Builtin.«reversed.__next__»
  refine zl (Cv (a := (Value.ref it, [])) rfl ?_)
  try dsimp only
  refine zl (C4 ho hd (x := .str x t) rfl ?_)
  refine zl (C4 ho hd (x := rawInt (i : Int)) rfl ?_)
  show wpAny _ _ (if (i : Int) < 0 then _ else _) _ _ s
  rw [if_neg (by omega)]
  refine zl (Dp (Ck s x t) F.slot_str_getitem.lookup ?_)
  show wpAny _ _ (if (some (Value.builtin "str.__getitem__")).isNone=true then _ else _) _ _ s
  rw [if_neg (by decide)]
  refine zl (wpAny_mkInt ?_)
  have hlt : i < x.length := by
    have := A7.mp hx
    exact this.1
  refine zl (C3 (PySem.P.getItem_str (c := c) ?_ ?_ ?_))
  · have e1 : decide ((i : Int) < -(2 ^ 63 : Int))=false := zp (by omega)
    have e2 : decide ((i : Int)≥2 ^ 63)=false := zp (by omega)
    rw [e1, e2, Dy]
  · rw [PySem.StrLaws.seqIndex_nonneg (by omega) (by omega)]
    simpa using hx
  try dsimp only
  refine zl (C4 ho hd (x := rawInt (i : Int)) rfl ?_)
  show wpAny _ _ (setField (.ref it) 1 (rawInt ((i : Int) - 1)) >>= _) _ _ _
  refine zl (Dv ho hd (by simp) ?_)
  refine zJ ⟨_, rfl, zJ (hQ _ _ _ ?_ (Cw ..))⟩
  exact ⟨_, B9 _ ho (Obj.isFreed_of_fields (BR hd _)), (Obj.cls_mapFields ..).trans hc, by
    rw [BR hd];simp⟩
theorem g7 {it : Addr}{Q : Option Value → Shared → Prop}(hh : A.handled=none)(hit : s.heap.IsRvs it x t (-1))
    (hQ : ∀ h', (∀ b o, b≠it → s.heap.get? b=some o → h'.get? b=some o) → Q none { s with heap := h' }) : wpAny (model prog w) A (pyNext (.ref it)) Q E s := by
  obtain ⟨o, ho, hc, hd⟩ := id hit
  unfold pyNext
  refine zl (C3 (wpAny_callSpecial?_slot (name := Str.ofString "__next__") hit.typeIs F.slot_rvs_next
    (BG F.slot_rvs_next hit.typeIs F.entry_rvs_next ?_ (F.args_rvs_next _))))
  unfold Builtin.«reversed.__next__»
  refine zl (Cv (a := (Value.ref it, [])) rfl ?_)
  try dsimp only
  refine zl (C4 ho hd (x := .str x t) rfl ?_)
  refine zl (C4 ho hd (x := rawInt (-1)) rfl ?_)
  show wpAny _ _ (if (-1 : Int) < 0 then _ else _) _ _ s
  rw [if_pos (by decide)]
  refine zl (Bk ?_)
  refine zl ?_
  show wpAny _ _ (setField (.ref it) 1 (rawInt (-1)) >>= fun _ => setField (.ref it) 0 .none) _ _ s
  refine zl (Dv ho hd (by simp) ?_)
  have ho2 := B9 (Obj.mapFields fun a => a.setIfInBounds 1 (rawInt (-1))) ho (Obj.isFreed_of_fields (BR hd _))
  have hd2 := BR hd fun a => a.setIfInBounds 1 (rawInt (-1))
  refine Dv ho2 hd2 (by simp) ?_
  generalize hh2 : (s.heap.update it _).update it _=h2
  have kk : ∀ b o, b≠it → s.heap.get? b=some o → h2.get? b=some o := fun b o hb e => by
    rw [← hh2]
    exact (Az _ _ (Ne.symm hb)).trans ((Az _ _ (Ne.symm hb)).trans e)
  have hz : A.in1.handled=none := hh
  have sub := isSubtype_stop
  repeat (any_goals (first | assumption | wp_step))
  unfold raiseNew
  refine zl (wpAny_handled ?_)
  rw [hz]
  refine zl (zJ (wpAny_throw ?_))
  refine zl (wpAny_isInstance (T := "StopIteration") (b := true) ?_ sub (zJ (hQ _ fun b o hb e => ?_)))
  · exact ⟨_, zI _ rfl, rfl⟩
  exact zq _ (zq _ (kk b o hb e))
theorem lx (hh : A.handled=none)(it : Addr)(x : Str)(t : Tok)(h63 : (x.cps.size : Int) < 2 ^ 63) :
    Walks prog w A it [it] [it] x.cps.size (fun i v => ∃ c u, x.cps[x.cps.size - 1 - i]? = some c ∧ v = .str ⟨#[c]⟩ u) (fun i h => i≤x.cps.size ∧ h.IsRvs it x t ((x.cps.size : Int) - 1 - (i : Int))) where
  sub := fun _ hb => hb
  frame := fun _ _ _ st hk => let ⟨l, o, ho, r⟩ := st;⟨l, o, hk it (by simp) o ho, r⟩
  item := fun i s Q E hi y hQ => by
    have e : (x.cps.size : Int) - 1 - (i : Int)=((x.cps.size - 1 - i : Nat) : Int) := by omega
    have hit := y.2
    rw [e] at hit
    have hx : x.cps[x.cps.size - 1 - i]? = some (x.cps[x.cps.size - 1 - i]'(by omega)) := Array.getElem?_eq_getElem (by omega)
    refine fW hit hx (by omega) fun h' tk u hit' hs' => ?_
    have e2 : ((x.cps.size - 1 - i : Nat) : Int) - 1=(x.cps.size : Int) - 1 - ((i+1 : Nat) : Int) := by omega
    rw [e2] at hit'
    exact hQ _ h' tk ⟨_, u, hx, rfl⟩ ⟨hi, hit'⟩ fun b o hb eo => hs'.extBut b o (fun h => hb (by simp [h])) eo
  done := fun s Q E y hQ => by
    have e : (x.cps.size : Int) - 1 - (x.cps.size : Int) = -1 := by omega
    have hit := y.2
    rw [e] at hit
    exact g7 hh hit fun h' he' => hQ h' s.toks fun b o hb eo => he' b o (fun h => hb (by simp [h])) eo
  self := fun _ _ _ _ y hQ => fV y.2 hQ
end
end PySem
namespace L2
open PySem PySem.Spec PyProof.Rows
def wY (z : Str) : It := ⟨fun i _ => i < z.cps.size, fun i H x H' => H'=H ∧ ∃ c, z.cps[z.cps.size - 1 - i]? = some c ∧ x = .str ⟨#[c]⟩, fun i _ => i=z.cps.size⟩
section
variable {X : Cx} {tg : Expr}
def wZ (ta : TA) : TI := fun σ H R => ta σ H fun vs H1 => ∃ z, vs=[.str z] ∧ z.length≤sizeLine ∧ R (wY z) H1
theorem rq {a : Expr}{ta : TA}{p pos : Pos}(hg : Gl X "reversed")(hm : X.mg "reversed" = none)(hb : bootBuiltins "reversed" = some (.type "reversed"))(ha : PA X [a] ta)(hs : starEach [a] X.env=[(false, eval a X.env)] := by rfl) :
    PI X tg (.Call (.Name "reversed" p) [a] [] pos) (wZ ta) := by
  intro pins s σ H R I h
  refine Call_ (gK I hg hm hb (A4 (thn (ha pos pins s σ H _ I h) fun us s1 zq1 => ?_) hs rfl))
  obtain ⟨vs, H1, I1, r1, q1⟩ := zq1
  obtain ⟨z, rfl, hz, q⟩ := q1
  obtain ⟨u, rfl, t, rfl⟩ := cZ r1
  have hn := d9
  have hsz : z.cps.size=z.length := rfl
  refine g6 (by omega) fun tk => ?_
  have hit : Heap.IsRvs (s1.heap.push { cls := .type "reversed", data := .fields #[.str z t, rawInt ((z.length : Int) - 1)] }) s1.heap.objs.size z t ((z.length : Int) - 1) := ⟨_, zI _ rfl, rfl, rfl⟩
  refine fV (s := { s1 with heap := s1.heap.push { cls := .type "reversed", data := .fields #[.str z t, rawInt ((z.length : Int) - 1)] }, toks := tk }) hit ?_
  refine ⟨s1.heap.objs.size, [s1.heap.objs.size], _, wY z, H1, rfl, I1.kept (t' := tk) fun b o e => zq _ e,
    bR (T := "reversed") (fl := fun i => #[.str z t, rawInt ((z.cps.size : Int) - 1 - (i : Int))]) (fun A hh => lx hh _ z t (by omega)) (fun i h st => st.2) (by decide) (fun i H g => g) (fun i H g => g)
      (fun i H u _ ⟨c, t', e, eu⟩ => ⟨.str ⟨#[c]⟩, ⟨t', eu⟩, rfl, c, e, rfl⟩) (fun A i s Q E st h => fV st.2 h), ⟨Ao _, by simpa [hsz] using hit⟩, fun b hb => ?_, q⟩
  have e : b=s1.heap.objs.size := by simpa using hb
  subst e
  exact I1.fpOk (zA _) (I1.hok.fresh (zA _))
structure DTx (K : PySem.W.Frag) (w : World) (a : Addr) : Prop where
  ob : ∃ (es : Array DictEntry) (n : Nat), K.lookup a=some ⟨.type "dict", none, .dict es n, #[]⟩ ∧ PySem.W.KeysLit w.params es.toList
theorem oK {a : Addr}(D : DTx X.K X.w a) : IxR X (fun x y H Q => ∃ z z' t, x = .ref a ∧ y = .str z ∧ PySem.W.nsIn X.K a z=some (some (.str z' t)) ∧ Q (.str z') H) := by
  intro value slice pins s σ H x y v u Q I rx ry h hs
  obtain ⟨z, z', t', rfl, rfl, e, q⟩ := h
  cases rx
  obtain ⟨t, rfl⟩ := ry
  obtain ⟨es, n, hl, hk⟩ := D.ob
  obtain ⟨m, F⟩ := I.fr
  exact PySem.W.topItem_K F I.ok.mod.kin hl hk e ⟨.str z', H, I.tok _, ⟨_, rfl⟩, q⟩ hs
def oM (K : PySem.W.Frag)(a : Addr)(Q : VK) : V → Hp → Prop := fun y H1 => ∃ z z' t, y = .str z ∧ PySem.W.nsIn K a z=some (some (.str z' t)) ∧ Q (.str z') H1
def w5 (K : PySem.W.Frag)(a : Addr)(ti : TE) : TE := fun σ H Q => ti σ H (oM K a Q)
theorem ly {K : PySem.W.Frag}{w : World}{a : Addr}{x : Str}{i : Expr}{ti : TE}{p pos : Pos}(D : DTx K w a)(hK : X.K=K)(hw : X.w=w)(hg : Gl X x)(hm : X.mg x=some (.ref a))(hi : PE X i ti)(hs : kU i)
    (hd : (x == ("__debug__" : Str))=false := by decide) : PE X (.Subscript (.Name x p) i pos) (w5 K a ti) := by
  subst hK hw
  intro pins s σ H Q I h
  refine CS (ir I hg hm (thn (hi pins s σ H _ I h) fun u s2 zq2 => ?_) hd)
  obtain ⟨y, H2, I2, ry, z, z', t', e1, e2, q⟩ := zq2
  exact oK D _ _ pins s2 σ H2 (.ref a) y (.ref a) u Q I2 rfl ry ⟨z, z', t', rfl, e1, e2, q⟩ (hs _ _)
end
end L2
namespace Wd
abbrev L := Fin 12
def inv (x : L) : L := if h : x.val < 6 then ⟨x.val+6, by omega⟩ else ⟨x.val - 6, by omega⟩
theorem aX : ∀ x : L, inv (inv x)=x := by decide
theorem g9 : ∀ x : L, inv x≠x := by decide
def bk (w : List L) : List L := (w.map inv).reverse
theorem lA (u v : List L) : bk (u++v)=bk v++bk u := by simp [bk]
theorem uW (w : List L) : bk (bk w)=w := by
  unfold bk
  rw [List.map_reverse, Bz, AY]
  have : (inv ∘ inv)=id := funext fun x => aX x
  rw [this, List.map_id]
theorem bq (w : List L) : (bk w).length=w.length := by simp [bk]
theorem dH (x : L) : bk [x]=[inv x] := rfl
def push (st : List L)(x : L) : List L := match st with
  | [] => [x]
  | y::r => if y=inv x then r else x::y::r
def act (w : List L)(st : List L) : List L := w.foldl push st
theorem fX (x : L)(w st : List L) : act (x::w) st=act w (push st x) := rfl
theorem cw (u v st : List L) : act (u++v) st=act v (act u st) := by simp [act, List.foldl_append]
theorem jr (u : List L)(x : L)(st : List L) : act (u++[x]) st=push (act u st) x := by rw [cw]; rfl
def Rd : List L → Prop
  | [] => True
  | [_] => True
  | x::y::r => y≠inv x ∧ Rd (y::r)
theorem Rd.tail : ∀ {x : L} {r : List L}, Rd (x::r) → Rd r
  | _, [], _ => trivial
  | _, _::_, h => h.2
theorem lC {st : List L}(x : L)(h : Rd st) : Rd (push st x) := by
  cases st with
  | nil => trivial
  | cons y r =>
    show Rd (if y=inv x then r else x::y::r)
    split
    · exact h.tail
    · rename_i hn
      exact ⟨hn, h⟩
theorem lD : ∀ (w : List L) {st : List L}, Rd st → Rd (act w st)
  | [], _, h => h
  | x::w, st, h => lD w (lC x h)
theorem lE {st : List L}(x : L)(h : Rd st) : push (push st x) (inv x)=st := by
  cases st with
  | nil =>
    show (if x=inv (inv x) then [] else _)=_
    rw [if_pos (aX x).symm]
  | cons y r =>
    show push (if y=inv x then r else x::y::r) (inv x)=y::r
    by_cases e : y=inv x
    · rw [if_pos e]
      subst e
      cases r with
      | nil => rfl
      | cons z r =>
        show (if z=inv (inv x) then r else inv x::z::r)=_
        rw [if_neg h.1]
    · rw [if_neg e]
      show (if x=inv (inv x) then y::r else _)=_
      rw [if_pos (aX x).symm]
def red (w : List L) : List L := (act w []).reverse
theorem lF : ∀ {st : List L}, Rd st → act st.reverse []=st
  | [], _ => rfl
  | x::r, h => by
    rw [A3, jr, lF h.tail]
    cases r with
    | nil => rfl
    | cons y r =>
      show (if y=inv x then r else _)=_
      rw [if_neg h.1]
theorem lH : Rd [] := trivial
theorem iA (st : List L)(x : L) : (push st x).length≤st.length+1 := by
  cases st with
  | nil => simp [push]
  | cons y r =>
    show (if y=inv x then r else x::y::r).length≤_
    split
    · simp only [zY];omega
    · simp
theorem dq : ∀ (w st : List L), (act w st).length≤st.length+w.length
  | [], _ => by simp [act]
  | x::w, st => by
    have := dq w (push st x)
    have := iA st x
    rw [fX, zY]
    omega
theorem fc (w : List L) : (red w).length≤w.length := by
  have := dq w []
  simpa [red] using this
def rep : Nat → List L → List L
  | 0, _ => []
  | n+1, w => rep n w++w
theorem fY (w : List L) : ∀ n, rep n w++w=w++rep n w
  | 0 => by simp [rep]
  | n+1 => by
    show (rep n w++w)++w=w++(rep n w++w)
    rw [← zw, ← fY w n]
theorem fe (w : List L) : ∀ n, (rep n w).length=n*w.length
  | 0 => by simp [rep]
  | n+1 => by
    show (rep n w++w).length=_
    rw [zo, fe w n, Nat.succ_mul]
def pw (w : List L)(n : Int) : List L := rep n.natAbs (if n < 0 then bk w else w)
def ql (k : Nat)(w : List L) : Prop := ∀ i x y, i+1 < k → w[i]? = some x → w[i+1]? = some y → y≠inv x
theorem rz : ∀ {w : List L} {k : Nat}, w.length≤k → ql k w → act w []=w.reverse := by
  have all : ∀ (u st : List L), Rd st → (∀ x y, st.head? = some x → u.head? = some y → y≠inv x) → ql u.length u → act u st=u.reverse++st := by
    intro u
    induction u with
    | nil => intro st _ _ _;rfl
    | cons x u ih =>
      intro st h hd hr
      have e : push st x=x::st := by
        cases st with
        | nil => rfl
        | cons y r =>
          show (if y=inv x then r else _)=_
          rw [if_neg]
          intro e
          have := hd y x rfl rfl
          rw [e, aX] at this
          exact this rfl
      rw [fX, e, ih (x::st), A3, zw]
      · rfl
      · rw [← e];exact lC x h
      · intro a b ha hb
        have ea : a=x := (zD ha).symm
        subst ea
        cases u with
        | nil => cases hb
        | cons c u =>
          have eb : b=c := (zD hb).symm
          subst eb
          exact hr 0 a b (by simp) rfl rfl
      · intro i a b hi ha hb
        exact hr (i+1) a b (by simp only [zY];omega) ha hb
  intro w k hk h
  have := all w [] lH (fun x y hx => by cases hx) (fun i x y hi => h i x y (by omega))
  simpa using this
theorem iB {w : List L}{k : Nat}(hk : w.length≤k)(h : ql k w) : red w=w := by
  unfold red
  rw [rz hk h, Bz]
theorem lI {w : List L}{k : Nat}(h : ql (k+1) w)(hn : ∀ x y, w[k]? = some x → w[k+1]? = some y → y≠inv x) : ql (k+2) w := by
  intro i x y hi hx hy
  by_cases e : i=k
  · subst e;exact hn x y hx hy
  · exact h i x y (by omega) hx hy
theorem oN {w : List L}{k : Nat}(h : ql (k+1) w) : ql (k - 1+1) (w.take k++w.drop (k+2)) := by
  intro i x y hi hx hy
  by_cases hk : k=0
  · omega
  · have e1 : (w.take k++w.drop (k+2))[i]? = w[i]? := by
      by_cases hl : i < (w.take k).length
      · rw [zU hl, Ag (by omega)]
      · rw [zy] at hl
        rw [AA (l := w) (by omega)]
        rw [AA]
        rw [zo, zy, As]
        omega
    have e2 : (w.take k++w.drop (k+2))[i+1]? = w[i+1]? := by
      by_cases hl : i+1 < (w.take k).length
      · rw [zU hl, Ag (by omega)]
      · rw [zy] at hl
        rw [AA (l := w) (by omega)]
        rw [AA]
        rw [zo, zy, As]
        omega
    rw [e1] at hx
    rw [e2] at hy
    exact h i x y (by omega) hx hy
theorem rA {w : List L}{k : Nat}{x : L}(hx : w[k]? = some x)(hy : w[k+1]? = some (inv x)) : red (w.take k++w.drop (k+2))=red w := by
  obtain ⟨h1, e1⟩ := zm.mp hx
  obtain ⟨h2, e2⟩ := zm.mp hy
  have e : w=w.take k++([x, inv x]++w.drop (k+2)) := by
    have a := (zQ k w).symm
    have b : w.drop k=x::inv x::w.drop (k+2) := by
      rw [Aq h1, Aq h2, e1, e2]
    rw [b] at a
    exact a
  have q : red (w.take k++([x, inv x]++w.drop (k+2)))=red (w.take k++w.drop (k+2)) := by
    unfold red
    rw [cw, cw, cw]
    show (act (w.drop (k+2)) (push (push (act (w.take k) []) x) (inv x))).reverse=_
    rw [lE x (lD _ lH)]
  rw [← q, ← e]
end Wd
namespace L2
open PySem PySem.Spec PyProof.Rows Wd
def cp (x : L) : Nat := if x.val < 6 then 97+x.val else 59+x.val
theorem rB : ∀ x : L, cp x < 128 := by decide
theorem uX : ∀ x y : L, cp x=cp y → x=y := by decide
def toS (w : List L) : Str := ⟨(w.map cp).toArray⟩
def tx (w : List L) : V := .str (toS w)
theorem bA (w : List L) : (toS w).cps.toList=w.map cp := by simp [toS]
theorem ae (w : List L) : (toS w).length=w.length := by simp [toS, Str.length]
theorem ba (w : List L) : (toS w).cps.size=w.length := by simp [toS]
theorem ff (u v : List L) : toS u++toS v=toS (u++v) := by
  apply Str.ext'
  rw [Str.cps_append]
  simp [toS]
theorem dt : ∀ {u v : List L}, u.map cp=v.map cp → u=v
  | [], [], _ => rfl
  | [], _::_, h => by simp at h
  | _::_, [], h => by simp at h
  | x::u, y::v, h => by
    simp only [z9, Dq] at h
    rw [uX x y h.1, dt h.2]
theorem iC {u v : List L}(h : toS u=toS v) : u=v := by
  have : (toS u).cps.toList=(toS v).cps.toList := by rw [h]
  rw [bA, bA] at this
  exact dt this
theorem js {u v : List L}(h : tx u=tx v) : u=v := iC (V.str.inj h)
theorem rD : toS []=("" : Str) := by decide +kernel
theorem jt : tx []=V.str ("" : Str) := zR V.str rD
theorem ju (u v : List L) : decide (tx u=tx v)=decide (u=v) := by
  by_cases h : u=v
  · subst h;simp
  · rw [zp h, zp fun e => h (js e)]
theorem lJ : toS [0, 1, 2, 3, 4, 5]=("abcdef" : Str) := by decide +kernel
theorem big : toS [6, 7, 8, 9, 10, 11]=("ABCDEF" : Str) := by decide +kernel
theorem b_ {w : List L}{i c : Nat}(h : (toS w).cps[i]? = some c) : ∃ x, w[i]? = some x ∧ (⟨#[c]⟩ : Str)=toS [x] := by
  have h : ((w.map cp).toArray)[i]? = some c := h
  rw [List.getElem?_toArray, zW] at h
  cases e : w[i]? with
  | none => rw [e] at h;cases h
  | some x =>
    rw [e] at h
    have : cp x=c := zD h
    exact ⟨x, rfl, by rw [← this];rfl⟩
theorem cO {w : List L}{k : Nat}{x : L}{i : Int}(hk : i=(k : Int))(h : w[k]? = some x) : atI (toS w).cps.toList i=some (cp x) := by
  subst hk
  rw [bA]
  obtain ⟨hl, e⟩ := zm.mp h
  unfold atI ixN
  rw [if_pos (by omega), if_pos (by rw [zu];omega)]
  show (w.map cp)[((k : Nat) : Int).toNat]? = _
  rw [Ah, zW, h]
  rfl
def j4 (w : List L)(lo hi : Option Int) : List L := (w.drop (HT.sIx w.length 0 lo)).take (HT.sIx w.length w.length hi - HT.sIx w.length 0 lo)
theorem rE (lo hi : Option Int)(n : Nat) : Builtin.Str.strSliceIndices lo hi 1 n=(List.range (HT.sIx n n hi - HT.sIx n 0 lo)).map (fun k => HT.sIx n 0 lo+k) := by
  have cl : ∀ v : Int, max (0 : Int) (min (if v < 0 then v+(n : Int) else v) (n : Int))=(((if v < 0 then (v+(n : Int)).toNat else min v.toNat n) : Nat) : Int) := fun v => by
    by_cases hv : v < 0
    · simp only [if_pos hv];omega
    · simp only [if_neg hv];omega
  have fin : ∀ a b : Nat, sliceRange (a : Int) (b : Int) 1=(List.range (b - a)).map (fun k => a+k) := fun a b => by
    unfold sliceRange
    simp only [show ((1 : Int) > 0)=True from by simp, Bd]
    by_cases hlt : (a : Int) < b
    · have e3 : (((b : Int) - a+1 - 1) / 1).toNat=b - a := by first | omega | (simp;done) | (simp;omega)
      simp only [hlt, Bd, e3]
      exact List.map_congr_left fun k _ => by omega
    · have : b - a=0 := by omega
      simp [hlt, this]
  unfold Builtin.Str.strSliceIndices
  simp only [show ((1 : Int) > 0)=True from by simp, Bd]
  cases lo with
  | none =>
    cases hi with
    | none => exact fin 0 n
    | some j => simp only [cl];exact fin 0 _
  | some i =>
    cases hi with
    | none => simp only [cl];exact fin _ n
    | some j => simp only [cl];exact fin _ _
theorem aF (w : List L)(lo hi : Option Int) : Txt.slice (toS w) lo hi=toS (j4 w lo hi) := by
  have h1 := HT.qa w.length 0 (Ao _) lo
  have h2 := HT.qa w.length w.length (zA _) hi
  unfold Txt.slice
  rw [rE, ae]
  split
  · rename_i h
    have hl : HT.sIx w.length w.length hi - HT.sIx w.length 0 lo=w.length := by simpa using h
    have e : j4 w lo hi=w := by
      unfold j4
      rw [hl]
      have ha : HT.sIx w.length 0 lo=0 ∨ w.length=0 := by omega
      rcases ha with ha | ha
      · rw [ha, CM, Bh]
      · have : w=[] := Aw ha
        subst this
        simp
    rw [e]
  · apply Str.ext'
    show (List.filterMap _ _).toArray=_
    have e := StrLaws.picks (w.map cp) (HT.sIx w.length w.length hi - HT.sIx w.length 0 lo) (HT.sIx w.length 0 lo)
    by_cases hle : HT.sIx w.length 0 lo≤HT.sIx w.length w.length hi
    · have e := e (by rw [zu];omega)
      have e2 : (fun k : Nat => (toS w).cps[k]?)=fun k : Nat => (w.map cp)[k]? := funext fun k => by simp [toS]
      rw [e2, e]
      simp [toS, j4, List.map_take, List.map_drop]
    · have z : HT.sIx w.length w.length hi - HT.sIx w.length 0 lo=0 := by omega
      rw [z]
      simp [toS, j4, z]
theorem cf (w : List L){n : Int}(h : 0≤n) : j4 w none (some n)=w.take n.toNat := by
  obtain ⟨k, rfl⟩ := AD h
  unfold j4
  rw [HT.fB, HT.ei, CM, Nat.sub_zero, Ah]
  by_cases hk : k≤w.length
  · rw [Nat.min_eq_left hk]
  · rw [Nat.min_eq_right (by omega), Bh, Am (by omega)]
theorem c6 (w : List L){n : Int}(h : 0≤n) : j4 w (some n) none=w.drop n.toNat := by
  obtain ⟨k, rfl⟩ := AD h
  unfold j4
  rw [HT.fB, HT.ei, Ah]
  by_cases hk : k≤w.length
  · rw [Nat.min_eq_left hk, Am (by rw [As];omega)]
  · rw [Nat.min_eq_right (by omega), Dd, List.drop_eq_nil_of_le (by omega)]
    simp
theorem fg (w : List L)(lo hi : Option Int) : (j4 w lo hi).length≤w.length := by
  unfold j4
  rw [zy, As]
  omega
theorem lK (w : List L) : Txt.upper (toS w)=⟨((w.map cp).map up1).toArray⟩ := by
  rw [upper_ascii fun c hc => by rw [bA] at hc;obtain ⟨x, _, rfl⟩ := Ak.mp hc;exact rB x]
  simp [toS]
theorem lN (w : List L) : Txt.lower (toS w)=⟨((w.map cp).map lo1).toArray⟩ := by
  rw [lower_ascii fun c hc => by rw [bA] at hc;obtain ⟨x, _, rfl⟩ := Ak.mp hc;exact rB x]
  simp [toS]
theorem w6 : ∀ x : L, x.val < 6 → up1 (cp x)=cp (inv x) := by decide
theorem w9 : ∀ x : L, ¬ x.val < 6 → lo1 (cp x)=cp (inv x) := by decide
theorem cg {x : L}(h : x.val < 6) : Txt.upper (toS [x])=toS [inv x] := by
  rw [lK]
  show (⟨#[up1 (cp x)]⟩ : Str)=⟨#[cp (inv x)]⟩
  rw [w6 x h]
theorem g_ {x : L}(h : ¬ x.val < 6) : Txt.lower (toS [x])=toS [inv x] := by
  rw [lN]
  show (⟨#[lo1 (cp x)]⟩ : Str)=⟨#[cp (inv x)]⟩
  rw [w9 x h]
theorem ex1 : ∀ x : L, cp x∈List.map cp [0, 1, 2, 3, 4, 5] → x.val < 6 := by decide
theorem ex2 : ∀ x : L, x.val < 6 → (List.map cp [0, 1, 2, 3, 4, 5])[x.val]? = some (cp x) := by decide
theorem oO (x : L) : (!(Builtin.Str.occurrences ("abcdef" : Str) (toS [x]) 0 ("abcdef" : Str).length 1).isEmpty)=decide (x.val < 6) := by
  have h := StrLaws.found_iff ("abcdef" : Str) (toS [x])
  have e : (∃ i, i+(toS [x]).length≤("abcdef" : Str).length ∧ Builtin.Str.subAt ("abcdef" : Str) (toS [x]) i=true) ↔ x.val < 6 := by
    have e2 : ∀ i, (i+(toS [x]).length≤("abcdef" : Str).length ∧ Builtin.Str.subAt ("abcdef" : Str) (toS [x]) i=true) ↔ ("abcdef" : Str).cps.toList[i]? = some (cp x) := fun i => StrLaws.subAt_one _ _ _
    rw [show (("abcdef" : Str))=toS [0, 1, 2, 3, 4, 5] from lJ.symm] at e2 ⊢
    constructor
    · rintro ⟨i, hi⟩
      have hi := (e2 i).mp hi
      rw [bA] at hi
      exact ex1 x (An hi)
    · intro hx
      refine ⟨x.val, (e2 x.val).mpr ?_⟩
      rw [bA]
      exact ex2 x hx
  rw [Ad, h, e, zE]
theorem oP : ∀ w : List L, Txt.join ("" : Str) (w.map fun x => toS [x])=toS w := by
  intro w
  have e0 : ("" : Str)=Str.empty := by decide +kernel
  unfold Txt.join
  rw [StrLaws.glued_eq_join, e0]
  induction w with
  | nil => rfl
  | cons x r ih =>
    cases r with
    | nil => rfl
    | cons y r =>
      show toS [x]++Str.empty++Str.join Str.empty ((y::r).map fun x => toS [x])=_
      rw [ih, Str.append_empty, ff]
      rfl
theorem rF (w : List L) : ((w.map fun x => toS [x]).map (·.length)).sum=w.length := by
  induction w with
  | nil => rfl
  | cons x r ih =>
    simp only [z9, List.sum_cons, zY]
    rw [ih, ae]
    simp only [A_]
    omega
theorem dI (w : List L) : ∀ (n : Nat) (acc : Array Nat), (List.replicate n (toS w).cps).foldl (· ++ ·) acc=acc++((rep n w).map cp).toArray
  | 0, acc => by simp [rep]
  | n+1, acc => by
    rw [A5, Dn, dI w n]
    show _=acc++((rep n w++w).map cp).toArray
    rw [fY]
    simp [toS]
theorem lP : ∀ n, rep n ([] : List L)=[]
  | 0 => rfl
  | n+1 => by show rep n []++[]=[];rw [lP n];rfl
theorem rG (w : List L)(n : Int) : Txt.mul (toS w) n=toS (rep n.toNat w) := by
  unfold Txt.mul
  by_cases h1 : n < 1
  · rw [if_pos h1]
    have : n.toNat=0 := by omega
    rw [this]
    rfl
  · rw [if_neg h1]
    split
    · rename_i h
      rw [ae] at h
      simp only [Bool.or_eq_true, DB] at h
      rcases h with h | h
      · subst h
        show toS w=toS (rep 1 w)
        show toS w=toS ([]++w)
        rfl
      · have : w=[] := Aw h
        subst this
        rw [lP]
    · apply Str.ext'
      show (List.replicate n.toNat (toS w).cps).foldl (· ++ ·) #[]=_
      rw [dI]
      simp [toS]
theorem lQ (w : List L){n : Int}(h1 : -1000000≤n)(h2 : n≤1000)(hw : w.length≤10000) : MulOk (toS w) n := by
  refine ⟨?_, fun hn _ => ?_, fun hn _ => ?_⟩
  · have e1 : decide (n < -(2 ^ 63 : Int))=false := zp (by omega)
    have e2 : decide (n≥2 ^ 63)=false := zp (by omega)
    rw [e1, e2, Dy]
  · rw [ae]
    have hn1 : 1≤n := by omega
    have q : (9223372036854775 : Int)≤(2 ^ 63 - 1) / n := by
      rw [Int.le_ediv_iff_mul_le (by omega)]
      omega
    omega
  · rw [ae]
    unfold Builtin.Str.tooLong
    have e : sizeLine=16777216 := Cq
    obtain ⟨k, rfl⟩ := AD (show 0≤n by omega)
    have hk : k≤1000 := by omega
    rw [Ah]
    have q : w.length*k≤10000*1000 := Nat.mul_le_mul hw hk
    exact zp (by omega)
end L2
namespace L2
open PySem PySem.Spec PyProof.Rows Wd
structure Fnc (P : Program) (w : World) (K : PySem.W.Frag) (mg : Str → Option Value) (base : Heap) (x : Str) (ps : List Str) (k : Nat) (sp : Sp) : Prop where
  ex : ∃ (f : Addr) (fd : FuncData), mg x=some (.ref f) ∧ PySem.W.keepIn K (.ref f)=true ∧ jZ K fd ps [] ∧ og P w K mg base CX0 k f fd ps sp
theorem ay {X : Cx}{x : Str}{ps : List Str}{k j : Nat}{sp : Sp}{e : Expr}{es : List Expr}{t : TA}{p pos : Pos}(F : Fnc X.prog X.w X.K X.mg X.base x ps j sp)(hr : eW k X.A)(hj : j≤k)(hg : Gl X x)(ha : PA X (e::es) t)
    (hdb : (x == ("__debug__" : Str))=false := by decide) (he : starEach (e::es) X.env=(false, eval e X.env)::starEach es X.env := by rfl) (hpl : (backTo pos (starEach es X.env)).any (·.1)=false := by rfl) :
    PE X (.Call (.Name x p) (e::es) [] pos) (uF sp [] E0 t) := by
  obtain ⟨f, fd, hm, hk, hb, F⟩ := F.ex
  exact qY F (hr.mono hj) hg hm hk hb .nil wW ha hdb he hpl
structure Df (K : PySem.W.Frag) (mg : Str → Option Value) (x : Str) (st : Stmt) : Prop where
  ex : ∃ (f : Addr) (fd : FuncData), mg x=some (.ref f) ∧ Fun K x x st f fd
theorem Df.ok {P : Program}{w : World}{K : PySem.W.Frag}{mg : Str → Option Value}{base : Heap}{x : Str}{st : Stmt}{N ps : List Str}{k : Nat}{sp : Sp}(D : Df K mg x st)(S : aC N ps (ak st))
    (hb : ∀ (kV doc pm : Value) (an : Option Addr) (cdv ct : Value) (us : List Value), us.length=ps.length → bindArgs (PySem.W.fnOf x x (bJ st) (bz st) (ak st) .none kV doc pm an cdv ct) ⟨us, []⟩=pure (ps.zip us))
    (len : ∀ vs H Q E, sp vs H Q E → vs.length=ps.length)
    (hbody : ∀ (f : Addr) (cdv : Value) (A : Around) (outer : List Env) (s : Shared) (H : Hp) (vs : List V) (Q : VK) (E : XK), eW k (A.deeper (envOfC x (ak st) s.heap.objs.size f cdv)) → sp vs H Q E →
      ∃ t, PSs (qZ CX0 P w K mg base N x (ak st) f cdv A outer s H E).nox (bz st) t ∧ t { nx := fun _ H' => Q .non H', rt := Q } (start N vs) H) : Fnc P w K mg base x ps (k+1) sp := by
  obtain ⟨f, fd, hm, F⟩ := D.ex
  exact ⟨f, fd, hm, F.kp, F.binds hb, F.ok S len fun cdv A outer s H vs Q E hr h => hbody f cdv A outer s H vs Q E hr h⟩
def bj (d : Addr)(H H' : Hp) : Prop := ∀ b o, b≠d → H b=some o → H' b=some o
theorem bj.refl (d : Addr)(H : Hp) : bj d H H := fun _ _ _ h => h
theorem bj.trans {d : Addr}{H H1 H2 : Hp}(a : bj d H H1)(b : bj d H1 H2) : bj d H H2 := fun c o n h => b c o n (a c o n h)
theorem aA.b {d : Addr}{H H' : Hp}(a : aA H H') : bj d H H' := fun b o _ h => a b o h
theorem aA.new {H : Hp}{a : Addr}{o : HO}(h : H a=none) : aA H (upd H a o) := fun b u e => by rw [aG (aw e h)]; exact e
theorem bj.upd {d : Addr}{H : Hp}{o : HO} : bj d H (upd H d o) := fun b u n e => by rw [aG n]; exact e
theorem aA.then {H H1 : Hp}{a : Addr}{o : HO}(s : aA H H1)(h : H1 a=none) : aA H (L2.upd H1 a o) := s.trans (aA.new h)
def kS (x : Str) : Key := .inr x
def fkv (c : Addr)(i l t : Int) : List (Key × V) := [(kS "cells", .ref c), (kS "at", .int i), (kS "left", .int l), (kS "turn", .int t)]
theorem w_ : ¬ (kS "cells" = kS "at") := by decide +kernel
theorem xf : ¬ (kS "cells" = kS "left") := by decide +kernel
theorem xg : ¬ (kS "cells" = kS "turn") := by decide +kernel
theorem wt : ¬ (kS "at" = kS "left") := by decide +kernel
theorem wu : ¬ (kS "at" = kS "turn") := by decide +kernel
theorem wx : ¬ (kS "left" = kS "turn") := by decide +kernel
theorem dU {κ : Type}[DecidableEq κ]{k : κ}{v : V}{r : List (κ × V)} : cM ((k, v)::r) k=some v := by unfold cM; simp
theorem bL {κ : Type}[DecidableEq κ]{k k' : κ}{v : V}{r : List (κ × V)}(h : ¬ k'=k) : cM ((k', v)::r) k=cM r k := by unfold cM; simp [h]
theorem lU (c : Addr)(i l t : Int) : cM (fkv c i l t) (kS "cells")=some (.ref c) := dU
theorem yw (c : Addr)(i l t : Int) : cM (fkv c i l t) (kS "at")=some (.int i) := (bL w_).trans dU
theorem hE (c : Addr)(i l t : Int) : cM (fkv c i l t) (kS "left")=some (.int l) := (bL xf).trans ((bL wt).trans dU)
theorem lV (c : Addr)(i l t : Int) : cM (fkv c i l t) (kS "turn")=some (.int t) := (bL xg).trans ((bL wu).trans ((bL wx).trans dU))
theorem yU : ¬ (kS "turn" = kS "at") := fun e => wu e.symm
theorem yV : ¬ (kS "left" = kS "at") := fun e => wt e.symm
theorem yW : ¬ (kS "turn" = kS "left") := fun e => wx e.symm
theorem yX (c : Addr)(i l t z : Int) : bY (fkv c i l t) (kS "at") (.int z)=fkv c z l t := by simp [bY, fkv, w_, yV, yU]
theorem lX (c : Addr)(i l t z : Int) : bY (fkv c i l t) (kS "left") (.int z)=fkv c i z t := by simp [bY, fkv, xf, wt, yW]
theorem uY (c : Addr)(i l t z : Int) : bY (fkv c i l t) (kS "turn") (.int z)=fkv c i l z := by simp [bY, fkv, xg, wu, wx]
theorem eE (c : Addr)(i l t : Int) : (fkv c i l t).length < sizeLine := by show 4 < sizeLine; decide
theorem xh (c : Addr)(i l t : Int) : eB [] (fkv c i l t)=fkv c i l t := by simp [eB, bY, fkv, w_, xf, xg, wt, wu, wx]
structure Fd (H : Hp) (d : Addr) : Prop where
  ex : ∃ (c : Addr) (i l t : Int) (ns : List Int), H d=some (.dK (fkv c i l t)) ∧ H c=some (.lst (ns.map V.int)) ∧ ns≠[] ∧ ns.length≤64
theorem Fd.same {H H' : Hp}{d : Addr}(F : Fd H d)(s : aA H H') : Fd H' d := by
  obtain ⟨c, i, l, t, ns, h1, h2, h3, h4⟩ := F.ex
  exact ⟨c, i, l, t, ns, s _ _ h1, s _ _ h2, h3, h4⟩
theorem Fd.new {H : Hp}{d a : Addr}{o : HO}(F : Fd H d)(h : H a=none) : Fd (upd H a o) d := F.same (aA.new h)
theorem Fd.ne {H : Hp}{d a : Addr}(F : Fd H d)(h : H a=none) : a≠d := by
  obtain ⟨c, i, l, t, ns, h1, h2, h3, h4⟩ := F.ex
  exact (aw h1 h).symm
inductive dM (vs : List V)(H : Hp)(Q : VK)(u3_ : XK) : Prop
  | mk : ∀ (d : Addr) (m : Int), (vs=[.ref d, .int m]) → (Fd H d) → (0 < m) → (m < 1000000) → (∀ (r : Int) (H' : Hp), 0≤r → r < m → Fd H' d → bj d H H' → Q (.int r) H') → dM vs H Q u3_
inductive lY (K : PySem.W.Frag)(vs : List V)(H : Hp)(Q : VK)(u3_ : XK) : Prop
  | mk : ∀ (a : Addr) (ns : List Int), (vs=[.ref a]) → (SqL K H a (ns.map V.int)) → (ns.length≤63) → (∀ (d : Addr) (H' : Hp), H d=none → Fd H' d → aA H H' → Q (.ref d) H') → lY K vs H Q u3_
theorem rH {ns : List Int}(h : ns≠[])(i : Int) : ∃ n : Int, atI (ns.map V.int) (i % ((ns.map V.int).length : Int))=some (.int n) := by
  have hl : 0 < ns.length := Ai.mpr h
  rw [zu]
  have h0 := Ap i (show (ns.length : Int)≠0 by omega)
  have h1 := Af i (show (0 : Int) < ns.length by omega)
  obtain ⟨k, hk⟩ := AD h0
  rw [hk] at h1 ⊢
  have hk' : k < ns.length := by omega
  refine ⟨ns[k], ?_⟩
  unfold atI ixN
  rw [if_pos (by omega), if_pos (by rw [zu];omega)]
  show (ns.map V.int)[((k : Nat) : Int).toNat]? = _
  rw [Ah, zW, fu hk']
  rfl
end L2
namespace L2
open PySem PySem.Spec PyProof.Rows Wd
mutual
inductive Dt (H : Hp) : V → PyData → Prop where
  | non : Dt H .non .none
  | bl (b : Bool) : Dt H (.bl b) (.bool b)
  | int (i : Int) : Dt H (.int i) (.int i)
  | str (x : Str) : Dt H (.str x) (.str x)
  | lst {a : Addr} {xs : List V} {ds : List PyData} : H a=some (.lst xs) → Dts H xs ds → Dt H (.ref a) (.list ds)
  | tup {a : Addr} {xs : List V} {ds : List PyData} : H a=some (.tup xs) → Dts H xs ds → Dt H (.ref a) (.tuple ds)
inductive Dts (H : Hp) : List V → List PyData → Prop where
  | nil : Dts H [] []
  | cons {v : V} {d : PyData} {vs : List V} {ds : List PyData} : Dt H v d → Dts H vs ds → Dts H (v::vs) (d::ds)
end
section
variable {P : Program} {w : World} {H : Hp} {h : Heap}
mutual
theorem Dt.reads (ok : HOk P w H h) : ∀ {v : V} {d : PyData}, Dt H v d → ∀ {u : Value}, bu v u → ∃ as, Reads h u d as
  | _, _, .non, u, r => by cases r;exact ⟨_, .none⟩
  | _, _, .bl b, u, r => by cases r;exact ⟨_, .bool b⟩
  | _, _, .int i, u, r => by obtain ⟨t, rfl⟩ := r;exact ⟨_, .int i t⟩
  | _, _, .str x, u, r => by obtain ⟨t, rfl⟩ := r;exact ⟨_, .str x t⟩
  | _, _, .lst e q, u, r => by
    cases r
    obtain ⟨_, its, n, rv, g⟩ := ok _ _ e
    obtain ⟨as, ra⟩ := Dts.reads ok q rv
    exact ⟨_, .list g rfl rfl (by simpa using ra)⟩
  | _, _, .tup e q, u, r => by
    cases r
    obtain ⟨_, its, rv, ⟨ob, g, c, n, d⟩, _⟩ := ok _ _ e
    obtain ⟨as, ra⟩ := Dts.reads ok q rv
    exact ⟨_, .tuple g c d (by simpa using ra)⟩
theorem Dts.reads (ok : HOk P w H h) : ∀ {vs : List V} {ds : List PyData}, Dts H vs ds → ∀ {us : List Value}, aU vs us → ∃ as, ReadsAll h us ds as
  | _, _, .nil, _, r => by cases r;exact ⟨_, .nil⟩
  | _, _, .cons q qs, _, r => by
    cases r with
    | cons r rs =>
      obtain ⟨as, a1⟩ := Dt.reads ok q r
      obtain ⟨bs, a2⟩ := Dts.reads ok qs rs
      exact ⟨_, .cons a1 a2⟩
end
end
section
variable {X : Cx}
end
end L2
namespace Kx
open PySem PySem.Spec PyProof.Rows L2 Wd
theorem qm : bootBuiltins "list" = some (.type "list") := by kernel_rfl
theorem xi : bootBuiltins "int" = some (.type "int") := by kernel_rfl
theorem uZ : bootBuiltins "max" = some (.builtin "max") := by kernel_rfl
theorem xj : bootBuiltins "min" = some (.builtin "min") := by kernel_rfl
theorem oQ : bootBuiltins "sorted" = some (.builtin "sorted") := by kernel_rfl
theorem j5 : bootBuiltins "reversed" = some (.type "reversed") := by kernel_rfl
structure Bt (K : PySem.W.Frag) (w : World) (mg : Str → Option Value) (aB : Addr) : Prop where
  len : mg "len" = none
  repr : mg "repr" = none
  abs : mg "abs" = none
  max : mg "max" = none
  int : mg "int" = none
  list : mg "list" = none
  range : mg "range" = none
  reversed : mg "reversed" = none
  min : mg "min" = none
  sorted : mg "sorted" = none
  tuple : mg "tuple" = none
  isinstance : mg "isinstance" = none
  all : mg "all" = none
  str : mg "str" = none
  zip : mg "zip" = none
  mgB : mg "BACKS" = some (.ref aB)
  dB : DTx K w aB
  gB : ∀ x : L, ∃ t, PySem.W.nsIn K aB (toS [x])=some (some (.str (toS [inv x]) t))
theorem dg {H : Hp}{d : Addr}{kvs : List (Key × V)}{k : Str}{v : V}(h : H d=some (.dK kvs))(e : cM kvs (kS k)=some v) : qd H d (.str k) (some v) := by
  have q := qd.k (k := kS k) h
  rw [e] at q
  exact q
theorem dp {H : Hp}{d : Addr}{kvs kvs' : List (Key × V)}{k : Str}{v : V}(h : H d=some (.dK kvs))(hl : kvs.length < sizeLine)(e : bY kvs (kS k) v=kvs') : qe H d (.str k) v (upd H d (.dK kvs')) := by
  have q := qe.k (k := kS k) (v := v) h hl
  rw [e] at q
  exact q
theorem xk {ns : List Int}(h : ns.length≤63) : ko (ns.map V.int) none (some 63)=ns.map V.int := by
  unfold ko
  have e : HT.sIx (ns.map V.int).length (ns.map V.int).length (some 63)=(ns.map V.int).length := by
    have := HT.ei (ns.map V.int).length (ns.map V.int).length 63
    rw [show ((63 : Nat) : Int)=63 from rfl] at this
    rw [this, zu]
    omega
  rw [e, HT.fB, CM, Nat.sub_zero, Bh]
def cx (w : List L) : List V := w.map fun x => tx [x]
theorem dW (w : List L) : cx w=(w.map fun x => toS [x]).map V.str := by unfold cx; rw [AY]; rfl
theorem cj (w : List L)(x : L) : cx w++[tx [x]]=cx (w++[x]) := by unfold cx; rw [AR]; rfl
theorem a7 (w : List L) : (cx w).length=w.length := by unfold cx; rw [zu]
theorem c7 (w : List L) : V.str (Txt.join ("" : Str) (w.map fun x => toS [x]))=tx w := zR V.str (oP w)
theorem c8 (w : List L)(h : w.length≤1000000) : ((w.map fun x => toS [x]).map (·.length)).sum+(w.map fun x => toS [x]).length*("" : Str).length≤16777216 := by
  have e : ("" : Str).length=0 := by decide +kernel
  rw [e, rF]
  omega
theorem a6 : sizeLine=16777216 := Cq
inductive lZ (vs : List V)(H : Hp)(Q : VK)(u3_ : XK) : Prop
  | mk : ∀ w, (vs=[tx w]) → (w.length≤5000) → (∀ H', aA H H' → Q (tx (bk w)) H') → lZ vs H Q u3_
inductive l7 (vs : List V)(H : Hp)(Q : VK)(u3_ : XK) : Prop
  | mk : ∀ w, (vs=[tx w]) → (w.length≤5000) → (∀ H', aA H H' → Q (tx (red w)) H') → l7 vs H Q u3_
theorem bU (u v : List L) : V.str (toS u++toS v)=tx (u++v) := zR V.str (ff u v)
def sg (m : Int) : List L := ([0, 1, 2, 3, 4, 5] : List L).take m.toNat++([6, 7, 8, 9, 10, 11] : List L).take m.toNat
theorem hJ {m : Int}(h1 : 1≤m)(h2 : m≤6) : (sg m).length=2*m.toNat := by
  unfold sg
  rw [zo, zy, zy]
  simp only [zY, Av]
  omega
theorem oR {m : Int}(h1 : 1≤m) : V.str (Txt.slice ("abcdef" : Str) none (some m)++Txt.slice ("ABCDEF" : Str) none (some m))=tx (sg m) := by
  rw [← lJ, ← big, aF, aF, cf _ (by omega), cf _ (by omega), bU]
  rfl
theorem jv : ("abcdef" : Str).length=6 := by decide +kernel
theorem qo : ("ABCDEF" : Str).length=6 := by decide +kernel
theorem qp (u : List L){i : Nat}{y : L}(hi : i < u.length)(h : u[u.length - 1 - i]? = some y) : (bk u)[i]? = some (inv y) := by
  unfold bk
  rw [B_ (by rw [zu];exact hi), zu, zW, h]
  rfl
theorem bM {u : List L}{i : Nat}{x : L}(h : u[i]? = some x) : u.take (i+1)=u.take i++[x] := by
  obtain ⟨hl, e⟩ := zm.mp h
  rw [CU, h]
  rfl
theorem oh {c : Bool}{A B : Prop}(hc : c=true)(h : A) : if c=true then A else B := by rw [if_pos hc]; exact h
theorem qq {c : Bool}{A B : Prop}(hc : c=false)(h : B) : if c=true then A else B := by rw [hc]; exact qh h
theorem sm6 : ∀ j : Fin 6, ([0, 1, 2, 3, 4, 5] : List L)[j.val]? = some ⟨j.val, DE j.isLt (by decide)⟩ := by decide
end Kx
namespace L2
open PySem PySem.Spec PyProof.Rows Wd
section
variable {X : Cx} {tg : Expr}
end
section
variable {X : Cx} {o e : Expr} {es : List Expr} {to : TE} {t : TA} {name : Str} {apos cpos : Pos} {T id : String} {r : V → List V → Hp → VK → Prop} {K : PySem.W.Frag}
theorem u3 (hK : X.K=K)(pa : PlainAttrs T)(slot : Slot T name id)(hty : typeOf (.builtin id)=pure (.type "method_descriptor"))(hm : MtR X id r)(ho : PE X o to)(ha : PA X (e::es) t)
    (hbase : attributeBase o name X.env (eval o X.env)=eval o X.env := by rfl)
    (hfew : ((backTo cpos (starEach (e::es) X.env)).all (fun x => !x.1) && (backToKw cpos (keywordEach [] X.env)).all (fun x => x.1.isSome)
      && decide ((e::es).length+([] : List Keyword).length+(if ([] : List Keyword).isEmpty then 0 else 1) < 30))=true := by rfl)
    (hline : (apos.endLine == cpos.line)=true := by rfl) (hs : starEach (e::es) X.env=(false, eval e X.env)::starEach es X.env := by rfl) (hplain : (backTo cpos (starEach es X.env)).any (·.1)=false := by rfl) :
    PE X (.Call (.Attribute o name apos) (e::es) [] cpos) (tBM K T r to t) := by
  subst hK
  exact dN pa slot hty hm ho ha hbase hfew hline hs hplain
end
end L2
namespace L2
open PySem PySem.Spec PyProof.Rows Wd
section
variable {X : Cx}
inductive qr (x : V)(vs : List V)(H : Hp)(Q : VK) : Prop
  | mk : ∀ z y i rest, (x = .str z) → (vs=[.str y]) → (Builtin.Str.occurrences z y 0 z.length 1=i::rest) → (Q (.int (i : Nat)) H) → qr x vs H Q
theorem f9 : MtR X "str.index" qr := by
  intro pins s σ H x vs v us Q I rx rv h
  obtain ⟨z, y, i, rest, rfl, rfl, ho, q⟩ := h
  obtain ⟨t, rfl⟩ := rx
  obtain ⟨u1, rfl, ⟨t1, rfl⟩⟩ := cZ rv
  exact SC.index ho ⟨.int _, H, I.tok _, ⟨_, rfl⟩, q⟩
def iD (z : Str) : List V := z.cps.toList.map fun c => .str ⟨#[c]⟩
theorem j6 {z : Str}{acc : Array Value}(h : ItemsOf (SignAt z) acc z.cps.size) : aU (iD z) acc.toList := by
  have all : ∀ (cs : List Nat) (us : List Value), cs.length=us.length → (∀ (j : Nat) (v : Value), us[j]? = some v → ∃ c u, cs[j]? = some c ∧ v = .str ⟨#[c]⟩ u) → aU (cs.map fun c => V.str ⟨#[c]⟩) us := by
    intro cs
    induction cs with
    | nil =>
      intro us hl _
      cases us with
      | nil => exact .nil
      | cons _ _ => simp at hl
    | cons c cs ih =>
      intro us hl hh
      cases us with
      | nil => simp at hl
      | cons u us =>
        obtain ⟨c', t, e1, e2⟩ := hh 0 u rfl
        have : c=c' := zD e1
        subst this
        exact .cons ⟨t, e2⟩ (ih us (by simpa using hl) fun j v hj => hh (j+1) v (by simpa using hj))
  refine all _ _ (by rw [zk, zk];exact h.1.symm) fun j v hj => ?_
  obtain ⟨c, u, e1, e2⟩ := h.2 j v (by simpa using hj)
  exact ⟨c, u, by simpa using e1, e2⟩
inductive bN  (xs : List V)(H : Hp)(Q : VK) : Prop
  | mk : ∀ z, (xs=[.str z]) → (z.length≤sizeLine) → (∀ p, H p=none → Q (.ref p) (upd H p (.lst (iD z)))) → bN xs H Q
theorem eF (hc : X.calm=true) : cV X (.type "list") bN := by
  intro pins s σ H xs us Q I r h
  obtain ⟨z, rfl, hz, q⟩ := h
  obtain ⟨u, rfl, t, rfl⟩ := cZ r
  refine call_list_str (I.ok.hd hc) z t (fun h' tk acc' c' kp e hI => ?_) hz
  have hl : (iD z).length≤sizeLine := by unfold iD;rw [zu, zk];exact hz
  exact ⟨.ref s.heap.objs.size, _, I.laid kp (zA _) (show bG X.prog X.w _ h' _ (.lst (iD z)) from ⟨hl, acc'.toList, c', j6 hI, by simpa using e⟩), rfl, q _ (I.hok.fresh (zA _))⟩
end
end L2
namespace PySem
open Sem (wp)
section
variable {prog : Program} {w : World} {A : Around} {E : Value → Shared → Prop} {s : Shared} {z TI TO i1 i2 : Addr} {x y : Str} {t u : Tok} {k c d : Nat} {a b : Value}
end
end PySem
namespace PySem
end PySem
namespace L2
open PySem PySem.Spec PyProof.Rows
section
variable {X : Cx}
end
end L2
namespace L2
open PySem PySem.Spec PyProof.Rows Wd
def l8 : Expr → Bool
  | .Starred _ _ => false
  | _ => true
theorem rJ {e : Expr}(h : l8 e=true)(es : List Expr)(env : Env) : starEach (e::es) env=(false, eval e env)::starEach es env := by
  cases e <;> first | rfl | cases h
theorem oi {X : Cx}{e : Expr}{es : List Expr}{te : TE}{t : TA}(ha : PE X e te)(hr : PA X es t)(h : l8 e=true := by rfl) : PA X (e::es) (uE te t) := aa ha hr (rJ h _ _)
def xm : List Str := ([0, 1, 2, 3, 4, 5, 6, 7, 8, 9, 10, 11] : List L).map fun x => toS [x]
end L2
namespace Kx
open PySem PySem.Spec PyProof.Rows L2 Wd
theorem asc (u : List L) : (toS u).cps.all (· < 128)=true := by
  rw [← Array.all_toList, bA, BE]
  intro c hc
  obtain ⟨x, _, rfl⟩ := Ak.mp hc
  exact zH (rB x)
end Kx
namespace L2
open PySem PySem.Spec PyProof.Rows Wd
section
variable {X : Cx}
inductive qt (x : V)(y : V)(H : Hp)(Q : VK) : Prop
  | mk : ∀ a b xs, (x = .ref a) → (y = .ref b) → (H a=some (.lst xs)) → (H b=some (.lst [])) → (Q (.bl (!xs.isEmpty)) H) → qt x y H Q
theorem l9 (hu : X.A.units+64 < cLine) : OpR X (compareOp .NotEq) qt := by
  intro pins s σ H x y v u Q I rx ry h
  obtain ⟨a, b, xs, rfl, rfl, ha, hb, q⟩ := h
  cases rx
  cases ry
  obtain ⟨its, n, rv, ea, _⟩ := I.lst ha
  obtain ⟨its2, n2, rv2, eb, _⟩ := I.lst hb
  cases rv2
  have hla : s.heap.IsList a its.toArray := ⟨_, ea, rfl, _, rfl⟩
  have hlb : s.heap.IsList b ([] : List Value).toArray := ⟨_, eb, rfl, _, rfl⟩
  cases xs with
  | nil =>
    cases rv
    refine CV (SeqAt.RcNeAt.lists (e := fun _ => true) hla hlb rfl (by omega) (fun j hj => by simp at hj)) ?_
    exact ⟨.bl false, H, I, rfl, q⟩
  | cons z r =>
    cases rv with
    | cons r1 r2 =>
      refine CV (SeqAt.RcNeAt.lists_lengths hla hlb (by simp) (by omega)) ?_
      exact ⟨.bl true, H, I, rfl, q⟩
end
end L2
namespace Kx
open PySem PySem.Spec PyProof.Rows L2 Wd
theorem s12 : toS [0, 1, 2, 3, 4, 5, 6, 7, 8, 9, 10, 11]=("abcdefABCDEF" : Str) := by decide +kernel
end Kx
namespace L2
open PySem PySem.Spec PyProof.Rows Wd
theorem l_ {K : PySem.W.Frag}{a : Addr}{xs : List V}{own : List Str}{cap : List Nat}{g : TG}{ti : TT}{te : TE}{σ : St}{H : Hp}{Q : VK}(Pv : Nat → List V → St → Hp → Prop)(h0 : Pv 0 [] (stB own cap σ) H)(hz : ∀ i ys σ H, i≤xs.length → Pv i ys σ H → ys.length≤i)(hn : xs.length≤sizeLine)
    (hl : ∀ i ys σ H, Pv i ys σ H → SqL K H a xs)
    (hs : ∀ i ys σ H x (N : List V → St → Hp → Prop), xs[i]? = some x → Pv i ys σ H → (∀ ys' σ' H'', Pv (i+1) ys' σ' H'' → N ys' σ' H'') → g x σ H fun σ2 H2 => ti σ2 H2 fun b H3 => if b=true then te σ2 H3 fun y H4 => N (ys++[y]) σ2 H4 else N ys σ2 H3)
    (hd : ∀ ys σ H D, Pv xs.length ys σ H → H D=none → Q (.ref D) (upd H D (.lst ys))) :
    rn own cap g ti te Q σ (Itl K a) H := by
  refine dm (J := Itl K a) xs.length Pv h0 hz hn (fun i ys σ H hi p => ⟨xs, xs[i], hl i ys σ H p, fu hi⟩) (fun ys σ H p => ⟨xs, hl _ ys σ H p, zA _⟩) ?_ hd
  rintro i ys σ H x H' N hi p ⟨rfl, hx⟩ hN
  exact hs i ys σ _ x N (hx xs (hl i ys σ _ p)) p hN
theorem rK (x z : L)(mid : List L) : j4 (x::(mid++[z])) (some 1) (some (((x::(mid++[z])).length : Int) - 1))=mid := by
  have e : (((x::(mid++[z])).length : Int) - 1)=((mid.length+1 : Nat) : Int) := by simp only [zY, zo, Av];omega
  rw [e]
  unfold j4
  have h1 := HT.ei (x::(mid++[z])).length 0 1
  have h2 := HT.ei (x::(mid++[z])).length (x::(mid++[z])).length (mid.length+1)
  have l : (x::(mid++[z])).length=mid.length+2 := by simp
  rw [show ((1 : Nat) : Int)=1 from rfl] at h1
  rw [h1, h2, l]
  rw [show min 1 (mid.length+2)=1 by omega, show min (mid.length+1) (mid.length+2)=mid.length+1 by omega]
  simp
theorem none_of {H H1 : Hp}{a : Addr}(s : aA H H1)(h : H1 a=none) : H a=none := by
  cases e : H a with
  | none => rfl
  | some o => rw [s _ _ e] at h;cases h
end L2
namespace L2
open PySem PySem.Spec PyProof.Rows
theorem ma {X : Cx}{i : Nat}{y : Str}{py spos : Pos}{elt iter tg : Expr}{ifs : List Expr}{scope : Scope}{pos : Pos}{NB own : List Str}{cap : List Nat}{wi : TI}{g : TG}{ti : TT}{te : TE}(hN : X.N.Nodup)(hi0 : X.N[i]? = some y)(hx : Loc X.env.scope y)(B : Blk X scope NB own cap)(hc : X.calm=true)(hi : PI X tg iter wi)
    (hg : ∀ C fp s₀ H₀, PG (cxB X NB own scope C fp s₀ H₀) tg g) (ht : ∀ C fp s₀ H₀, PIf (cxB X NB own scope C fp s₀ H₀) ifs ti) (he : ∀ C fp s₀ H₀, PE (cxB X NB own scope C fp s₀ H₀) elt te)
    (hs : ∀ x, foldedSetIterable iter X.env x=pure x := by intro _;rfl) (hsw : swapsWith (.ListComp elt [⟨tg, iter, ifs, 0⟩] scope pos) (some (.Name y py)) spos.line X.env=pure true := by rfl) (hf : X.fn y=true ∨ X.env.scope.names.lookup y=some .local := by first | exact .inl rfl | exact .inr rfl | assumption) : PS X (.Assign [.Name y py] (.ListComp elt [⟨tg, iter, ifs, 0⟩] scope pos) spos) (yg (ro own cap wi g ti te) (kF i)) := by
  intro pins s σ H DD I0 h
  rw [exec_Assign_Name_used _ _ _ _ hsw]
  refine zl (wpAny_standAt (zl ?_))
  show wpAny _ X.A (do let _ ← comprehension (.ListComp elt [⟨tg, iter, ifs, 0⟩] scope pos) scope X.env _ (newList []) false (eval iter X.env) (some (assign (.Name y py) X.env))) _ _ s
  refine zl (A2 (jq (use := some (assign (.Name y py) X.env)) (QQ := fun _ s' => SP X pins DD .next s') (pos := pos) B hc hi hg ht he hs I0 h fun fp C s2 s4 H2 H3 σ3 its ys k I f2 hCle hDC I5 hn3 hD4 rv hz q => ?_) (fun _ s' hq => zJ (zJ hq)) fun _ _ e => e)
  obtain ⟨mC, hnC, _⟩ := I5.loc
  have I6 : Inv X pins σ (upd H3 s2.heap.objs.size (.lst ys)) s4 := B.done (h'' := s4.heap) I f2 hCle (zA _) hDC I5 hn3 hD4 rv hz ⟨rfl, fun _ _ => rfl⟩
  obtain ⟨oC, es, ep, hoC, hdC, rC⟩ := hnC
  have hCn : (upd H3 s2.heap.objs.size (.lst ys)) C=none := by rw [aG hDC.symm];exact I5.free
  have nL : C≠X.env.locals := fun z => absurd I.lt (by rw [← z];exact Nat.not_lt.mpr hCle)
  have I7 : Inv X (pins++[(C, oC)]) σ (upd H3 s2.heap.objs.size (.lst ys)) s4 := I6.pins_of fun p hp => by
    rcases Ac.mp hp with z | z
    · exact I6.pin p (zG _ z)
    · have ep := zr.mp z
      subst ep
      exact ⟨hoC, hCn, nL, I.nofs hCle, fun v z => by rw [hdC] at z;cases z⟩
  refine thn (bf (pos := py) hN hi0 hx hf (pins++[(C, oC)]) s4 σ _ (.ref s2.heap.objs.size) (.ref s2.heap.objs.size) (fun σ' H' => DD.nx σ' H' ∧ H'=upd H3 s2.heap.objs.size (.lst ys)) I7 rfl ⟨q, rfl⟩) fun _ s5 zq2 => ?_
  obtain ⟨σ5, H5, I8, q5, e5⟩ := zq2
  subst e5
  have pC := (I8.pin (C, oC) (zG _ (zG _ (zr.mpr rfl)))).1
  refine ⟨mC, ⟨oC, es, ep, pC, hdC, rC⟩, fun h'' sb => ⟨σ5, _, ?_, q5⟩⟩
  have I9 : Inv X pins σ5 (upd H3 s2.heap.objs.size (.lst ys)) s5 := I8.pins_of fun p hp => I8.pin p (zG _ (z6 _ hp))
  refine I9.turned (t' := s5.toks) (it := C) (fun b o hb e => (sb.2 b hb).trans e) hCn nL (.inr (Ay I.sz hCle)) (fun x c e z => ?_) fun p hp z => ?_
  · obtain ⟨v, o, ho, _⟩ := I.cell x c e
    exact absurd (zM ho) (by rw [z];exact Nat.not_lt.mpr hCle)
  · exact absurd (zM (I.pin p hp).1) (by rw [z];exact Nat.not_lt.mpr hCle)
end L2
namespace L2
open PySem PySem.Spec PyProof.Rows Wd
end L2
namespace L2
open PySem PySem.Spec PyProof.Rows Wd
section
variable {X : Cx}
def u4 (z : Str) : Str := Txt.sliceBy z none none (-1, 0)
def xo (te ts : TE) : TE := fun σ H Q => te σ H fun x H1 => ts σ H1 fun k H2 => ∃ z, x = .str z ∧ k = .int (-1) ∧ z.length≤sizeLine ∧ Q (.str (u4 z)) H2
theorem rL {e st : Expr}{te ts : TE}{pos p2 : Pos}(he : PE X e te)(hs : PE X st ts) : PE X (.Subscript e (.Slice none none (some st) p2) pos) (xo te ts) := by
  intro pins s σ H Q I h
  refine CS (thn (he pins s σ H _ I h) fun v s1 zq1 => ?_)
  obtain ⟨x, H1, I1, r1, q1⟩ := zq1
  refine wpAny_Slice ?_
  rw [C2]
  refine zJ ?_
  refine zJ ?_
  rw [evalPart_some]
  refine thn (hs pins s1 σ H1 _ I1 q1) fun vs s3 zq2 => ?_
  obtain ⟨k, H3, I3, r3, z, ez, ek, hz, q3⟩ := zq2
  subst ez ek
  obtain ⟨t, rfl⟩ := r1
  obtain ⟨tk, rfl⟩ := r3
  have I4 : Inv X pins σ H3 { s3 with heap := s3.heap.push { cls := .type "slice", data := .fields #[.none, .none, .int (-1) tk] } } := I3.kept (t' := s3.toks) fun b ob q => zq _ q
  show wpAny (model X.prog X.w) X.A (subscriptTail e (.Slice none none (some st) p2) (.str z t) (.ref s3.heap.objs.size)) (EP X pins σ Q) X.xe { s3 with heap := s3.heap.push { cls := .type "slice", data := .fields #[.none, .none, .int (-1) tk] } }
  refine tail_any (ops := [.ref s3.heap.objs.size, .str z t]) (Ck _ _ _) F.slot_str_getitem.lookup ?_ (by with_unfolding_all rfl)
  exact AW (l := none) (u := none) (st := some (-1, tk)) ⟨_, zI _ rfl, rfl, rfl⟩ rfl (BQ ⟨Ay (Txt.sliceBy_le z none none (-1, tk) (by show (-1 : Int)≠0;decide)) hz, fun t' k => ⟨.str _, H3, I4.tok _, ⟨_, rfl⟩, q3⟩⟩)
theorem oS (u : List L) : u4 (toS u)=toS u.reverse := by
  have h : (u4 (toS u)).cps.toList=(toS u.reverse).cps.toList := by
    unfold u4
    rw [step_rev_list, bA, ae]
    apply List.ext_getElem?
    intro i
    rw [zW]
    by_cases hi : i < u.length
    · rw [List.getElem?_range hi, zW, B_ hi]
      have e : (toS u).cps.getD (u.length - 1 - i) 0=cp u[u.length - 1 - i] := by
        simp [toS, Array.getD, show u.length - 1 - i < u.length by omega]
      rw [fu (show u.length - 1 - i < u.length by omega)]
      exact zR some e
    · rw [AA (by simpa using hi), AA (by simp;omega)]
      rfl
  cases hr : u4 (toS u) with
  | mk c => 
    rw [hr] at h
    have : c=(toS u.reverse).cps := Array.toList_inj.mp h
    rw [this]
end
end L2
namespace L2
open PySem PySem.Spec PyProof.Rows
section
variable {X : Cx}
theorem fh {i j : Int}{its : List Value}(r : aU [.int i, .int j] its) : ∃ t u, its=[.int i t, .int j u] := by
  obtain ⟨u1, u2, rfl, ⟨t1, rfl⟩, ⟨t2, rfl⟩⟩ := qV r
  exact ⟨t1, t2, rfl⟩
def nAt (i j : Int)(k : Nat) : Int := if k=0 then i else j
end
end L2
namespace Wd
structure Srf (u : List L) : Prop where
  ne : u≠[]
  nd : u.Nodup
  iv : ∀ x∈u, inv x∈u
  le : u.length≤12
def xp (u : List L)(g : Nat) : L := u.getD ((g+1) % u.length) 0
def u5 (u : List L)(g : Nat) : Nat := u.idxOf (inv (xp u g))
structure Sn (u : List L) (S : List Nat) : Prop where
  nd : S.Nodup
  lt : ∀ g∈S, g < u.length
def u6 (u : List L) : Nat → Nat → List Nat → List L → List Nat × List L
  | 0, _, S, w => (S, w)
  | n+1, g, S, w => if g∈S then (S, w) else u6 u n (u5 u g) (S++[g]) (w++[xp u g])
def wk (u : List L)(g : Nat)(S : List Nat)(w : List L) : List Nat × List L := u6 u (u.length+1 - S.length) g S w
def rM (u : List L) : Nat → List Nat × List (List L)
  | 0 => ([], [])
  | i+1 => if i∈(rM u i).1 then rM u i else ((wk u i (rM u i).1 []).1, (rM u i).2++[(wk u i (rM u i).1 []).2])
def fam (k : Nat) : List L := (List.range k).flatMap fun j => if h : j < 6 then [⟨j, by omega⟩, ⟨j+6, by omega⟩] else []
theorem qu : ∀ k : Fin 7, (fam k.val).Nodup ∧ (∀ x∈fam k.val, inv x∈fam k.val) ∧ (fam k.val).length=2*k.val := by decide
theorem oT {k : Nat}(h : k < 6) : fam (k+1)=fam k++[⟨k, by omega⟩, ⟨k+6, by omega⟩] := by
  unfold fam
  rw [Dr, Cy]
  simp [h]
theorem u7 {k : Nat}{u : List L}(h1 : 1≤k)(h6 : k≤6)(p : u.Perm (fam k)) : Srf u := by
  obtain ⟨a, b, c⟩ := qu ⟨k, by omega⟩
  have hl := p.length_eq
  have c : (fam k).length=2*k := c
  refine ⟨fun e => ?_, (p.nodup_iff).mpr a, fun x hx => p.mem_iff.mpr (b x (p.mem_iff.mp hx)), by omega⟩
  subst e
  rw [c] at hl
  simp at hl
  omega
theorem oU {u v : List L}(x : L)(i : Nat)(p : u.Perm v) : (u.take i++x::u.drop i).Perm (v++[x]) := by
  refine De.trans ?_
  rw [zQ]
  exact ((List.Perm.cons x p).trans (List.perm_append_singleton x v).symm)
end Wd
namespace Kx
open PySem PySem.Spec PyProof.Rows L2 Wd
theorem me (u : List L)(x : L)(i : Nat) : StrLaws.At (toS u) (toS [x]) (toS u).length i ↔ u[i]? = some x := by
  unfold StrLaws.At
  rw [ae, ae, StrLaws.subAt_eq, ae, bA, bA, DB, ← List.map_drop, ← List.map_take]
  simp only [A_]
  constructor
  · rintro ⟨h1, h2⟩
    have h2 := dt h2
    have : (u.drop i).take 1=[u[i]] := by rw [Aq (by omega)];rfl
    rw [this] at h2
    rw [fu (by omega)]
    exact zR some (Be h2).1
  · intro h
    obtain ⟨hl, e⟩ := zm.mp h
    refine ⟨by omega, ?_⟩
    rw [Aq hl, e]
    rfl
theorem mf {u : List L}{x : L}(h : x∈u) : ∃ rest, Builtin.Str.occurrences (toS u) (toS [x]) 0 (toS u).length 1=u.idxOf x::rest := by
  have hlt := Bu h
  have hx : u[u.idxOf x]? = some x := by rw [fu hlt];exact zR some (BS hlt)
  rcases StrLaws.occ_head (toS u) (toS [x]) 1 (zA 1) with ⟨h0, hn⟩ | ⟨i, r, h0, hi, hn⟩
  · exact absurd ((me u x _).mpr hx) (hn _)
  · refine ⟨r, ?_⟩
    rw [h0]
    have hi := (me u x i).mp hi
    have : i=u.idxOf x := by
      rcases Nat.lt_trichotomy i (u.idxOf x) with h1 | h1 | h1
      · have q := List.not_of_lt_findIdx (p := (· == x)) h1
        obtain ⟨hl, e⟩ := zm.mp hi
        exact absurd (DB.mpr e) (by simpa using q)
      · exact h1
      · exact absurd ((me u x _).mpr hx) (hn _ h1)
    rw [this]
theorem none_of {H H' : Hp}{a : Addr}(s : aA H H')(h : H' a=none) : H a=none := by
  cases e : H a with
  | none => rfl
  | some o => exact absurd (s _ _ e) (by rw [h];intro z;cases z)
theorem sm_at {i : Nat}(h : i < 6) : atI ("abcdef" : Str).cps.toList (i : Int)=some (cp ⟨i, by omega⟩) := by
  rw [← lJ]
  exact cO (k := i) rfl (sm6 ⟨i, h⟩)
end Kx
namespace Wd
def rot (w : List L)(p : Nat) : List L := w.drop p++w.take p
theorem mh {w : List L}{p i : Nat}(hp : p≤w.length)(hi : i < w.length) : (rot w p)[i]? = w[(i+p) % w.length]? := by
  unfold rot
  by_cases h : i < w.length - p
  · rw [zU (by rw [As];exact h), Al, A9 (by omega), Do]
  · rw [zL (by rw [As];omega), As, Ag (by omega)]
    have : (i+p) % w.length=i - (w.length - p) := by
      rw [Nat.mod_eq_sub_mod (by omega), A9 (by omega)]
      omega
    rw [this]
end Wd
namespace Wd
structure SK (u : List L) (k : Nat) : Prop where
  pm : u.Perm (fam k)
  lo : 1≤k
  hi : k≤6
theorem SK.srf {u : List L}{k : Nat}(h : SK u k) : Srf u := u7 h.lo h.hi h.pm
theorem f_ {k : Nat}(h : k≤6) : (fam k).length=2*k := (qu ⟨k, by omega⟩).2.2
theorem SK.len {u : List L}{k : Nat}(h : SK u k) : u.length=2*k := by rw [h.pm.length_eq, f_ h.hi]
theorem iE : ∀ (k : Fin 7) (x : L), x∈fam k.val ↔ x.val % 6 < k.val := by decide
theorem SK.mem {u : List L}{k : Nat}(h : SK u k)(x : L) : x∈u ↔ x.val % 6 < k := by
  rw [h.pm.mem_iff]
  exact iE ⟨k, by have := h.hi;omega⟩ x
theorem gf : ∀ x : L, (inv x).val % 6=x.val % 6 := by decide
theorem SK.rev {u : List L}{k : Nat}(h : SK u k) : SK u.reverse k := ⟨(List.reverse_perm u).trans h.pm, h.lo, h.hi⟩
theorem bS (u : List L)(p : Nat) : (rot u p).Perm u := by
  unfold rot
  refine AB.trans ?_
  rw [zQ]
theorem SK.rot {u : List L}{k : Nat}(h : SK u k)(p : Nat) : SK (rot u p) k := ⟨(bS u p).trans h.pm, h.lo, h.hi⟩
theorem cz {u : List L}(nd : u.Nodup){i : Nat}{x : L}(h : u[i]? = some x) : u.idxOf x=i := by
  obtain ⟨hi, e⟩ := zm.mp h
  subst e
  exact List.Nodup.idxOf_getElem nd i hi
theorem du {u : List L}{x : L}(h : x∈u) : u[u.idxOf x]? = some x := by
  have hlt := Bu h
  rw [fu hlt]
  exact zR some (BS hlt)
theorem aQ {u : List L}{x : L}(h : x∈u) : u.idxOf x < u.length := Bu h
theorem ck {u : List L}{x y : L}(hx : x∈u)(hy : y∈u)(h : u.idxOf x=u.idxOf y) : x=y := by
  have h1 := du hx
  have h2 := du hy
  rw [h, h2] at h1
  exact (zD h1).symm
def rfI (u : List L)(a b : L) : Int := ((u.idxOf b : Int) - (u.idxOf a : Int)) % (u.length : Int)
theorem gg {n a b : Nat}(ha : a < n)(hb : b < n) : ((b : Int) - (a : Int)) % (n : Int)=if a≤b then (b : Int) - a else (b : Int) - a+n := by
  split
  · exact Ax (by omega) (by omega)
  · have : (b : Int) - a=((b : Int) - a+n)+(n : Int)*(-1) := by omega
    rw [this, CC, Ax (by omega) (by omega)]
    omega
theorem a8 {u : List L}{a b : L}(ha : a∈u)(hb : b∈u) : rfI u a b=if u.idxOf a≤u.idxOf b then (u.idxOf b : Int) - (u.idxOf a : Int) else (u.idxOf b : Int) - (u.idxOf a : Int)+(u.length : Int) := gg (aQ ha) (aQ hb)
def ic (u : List L)(x z : L) : Int := if rfI u x z < rfI u x (inv x) then 1 else 0
def sd (u : List L)(x y : L) : Int := ic u x y - ic u x (inv y)
theorem iF {u : List L}(nd : u.Nodup){x : L}(h : x∈u) : u.reverse.idxOf x=u.length - 1 - u.idxOf x := by
  have hlt := aQ h
  refine cz ((List.reverse_perm u).nodup_iff.mpr nd) ?_
  rw [B_ (by omega)]
  have e : u.length - 1 - (u.length - 1 - u.idxOf x)=u.idxOf x := by omega
  rw [e]
  exact du h
theorem mi {u : List L}(nd : u.Nodup){p : Nat}(hp : p < u.length){x : L}(h : x∈u) : ((rot u p).idxOf x : Int)=((u.idxOf x : Int) - (p : Int)) % (u.length : Int) := by
  have hlt := aQ h
  have hlen : (rot u p).length=u.length := (bS u p).length_eq
  rw [gg hp hlt]
  have key : ∀ j : Nat, j < u.length → (j+p) % u.length=u.idxOf x → (rot u p).idxOf x=j := fun j hj e => by
    refine cz ((bS u p).nodup_iff.mpr nd) ?_
    rw [mh (by omega) hj, e]
    exact du h
  split
  · rename_i hle
    have := key (u.idxOf x - p) (by omega) (by rw [Nat.sub_add_cancel hle];exact A9 hlt)
    omega
  · rename_i hle
    have := key (u.idxOf x+u.length - p) (by omega) (by
      have e : u.idxOf x+u.length - p+p=u.idxOf x+u.length := by omega
      rw [e, Nat.add_mod_right]
      exact A9 hlt)
    omega
theorem qv {u : List L}(nd : u.Nodup){p : Nat}(hp : p < u.length){x y : L}(hx : x∈u)(hy : y∈u) : rfI (rot u p) x y=rfI u x y := by
  have hlen : (rot u p).length=u.length := (bS u p).length_eq
  have m : ∀ z, z∈u → z∈rot u p := fun z h => (bS u p).mem_iff.mpr h
  have b1 := aQ hx
  have b2 := aQ hy
  have e1 := mi nd hp hx
  have e2 := mi nd hp hy
  rw [gg hp b1] at e1
  rw [gg hp b2] at e2
  rw [a8 hx hy, a8 (m _ hx) (m _ hy), hlen]
  generalize (rot u p).idxOf x=a at *
  generalize (rot u p).idxOf y=b at *
  generalize u.idxOf x=c at *
  generalize u.idxOf y=d at *
  generalize u.length=n at *
  grind
def lt6 (j : Nat) : L := if h : j < 12 then ⟨j, h⟩ else 0
theorem mj {j : Nat}(h : j < 6) : (lt6 j).val=j := by
  unfold lt6
  rw [dif_pos (by omega)]
theorem ml : ∀ x : L, x.val < 6 → (inv x).val=x.val+6 := by decide
theorem oV {u : List L}{g : Nat}(h : g < u.length) : u[g]? = some (u.getD g 0) := by
  rw [zx, fu h]
  rfl
end Wd
namespace L2
open PySem PySem.Spec PyProof.Rows
section
variable {prog : Program} {w : World} {A : Around} {E : Value → Shared → Prop} {s : Shared}
end
section
variable {X : Cx}
end
end L2
namespace PySem
open Sem (wp)
open AutoSeq1 (wpAny_loadPart')
section
variable {prog : Program} {w : World} {A : Around} {E : Value → Shared → Prop} {s : Shared}
end
end PySem
namespace L2
open PySem PySem.Spec PyProof.Rows Wd
section
variable {X : Cx}
end
end L2
namespace PySem
open Sem (wp)
section
variable {prog : Program} {w : World} {A : Around} {E : Value → Shared → Prop} {s : Shared} {z TI TO i1 i2 : Addr} {k n1 n2 : Nat} {a b : Value} {fp1 fp2 : List Addr} {P1 P2 : Nat → Value → Prop} {S1 S2 : Nat → Heap → Prop}
end
end PySem
namespace PySem
end PySem
namespace L2
open PySem PySem.Spec PyProof.Rows Wd
section
variable {X : Cx}
end
end L2
namespace L2
open PySem PySem.Spec PyProof.Rows Wd
section
variable {X : Cx}
end
end L2
namespace Kx
open PySem PySem.Spec PyProof.Rows L2 Wd
def jn (yl : List Nat) : List (List Nat) → List Nat
  | [] => []
  | [p] => p
  | p::q::r => p++yl++jn yl (q::r)
def Gd (c : Nat) : Prop := (48≤c ∧ c≤57) ∨ 65≤c
end Kx
namespace L2
open PySem PySem.Spec PyProof.Rows Wd
section
variable {X : Cx} {tg : Expr}
end
end L2
namespace Kx
open PySem PySem.Spec PyProof.Rows L2 Wd
def dV : V → PyData
  | .int i => .int i
  | .str z => .str z
  | _ => .none
end Kx
namespace L2
open PySem PySem.Spec PyProof.Rows
section
variable {X : Cx}
end
end L2
namespace Kx
open PySem PySem.Spec PyProof.Rows L2 Wd
def zj (k : Nat) : List L := (List.range k).map lt6++bk ((List.range k).map lt6)
end Kx
namespace Tv
open PySem PyProof.Rows
theorem ao {σ : Type}{M : Model}{A : Around}{E : Value → Shared → Prop}{s : Shared}{α : Type}{c : Prop}[Decidable c]{x y : StateT σ Sem α}{Q : α → σ → Prop}{st : σ}(h : c)(p : wpS M A E s x Q st) : wpS M A E s (if c then x else y) Q st := by
  rw [if_pos h];exact p
theorem aq {σ : Type}{M : Model}{A : Around}{E : Value → Shared → Prop}{s : Shared}{α : Type}{c : Prop}[Decidable c]{x y : StateT σ Sem α}{Q : α → σ → Prop}{st : σ}(h : ¬ c)(p : wpS M A E s y Q st) : wpS M A E s (if c then x else y) Q st := by
  rw [if_neg h];exact p
def kof (κ : KeyKind)(p : Keyed) : κ.α := (κ.keyOf p.1).getD κ.dflt
def Gd (κ : KeyKind)(p : Keyed) : Prop := ∃ a, κ.keyOf p.1=some a
theorem Gd.eq {κ : KeyKind}{p : Keyed}(h : Gd κ p) : κ.keyOf p.1=some (kof κ p) := by
  obtain ⟨a, e⟩ := h
  unfold kof
  rw [e]
  rfl
structure TB (kd : SortKind) (st : SortSt) : Prop where
  kind : kindOf st=kd
  failed : failedOf st=none
def Lt1 (κ : KeyKind)(prog : Program)(w : World)(A : Around)(s : Shared)(kd : SortKind) : Prop := ∀ (E : Value → Shared → Prop) (x y : Value) (a b : κ.α) (Q : Bool → Shared → Prop), κ.keyOf x=some a → κ.keyOf y=some b → Q (κ.blt a b) s → wpAny (model prog w) A (keyLt' kd x y) Q E s
def gal : Bool → Keyed → Array Keyed → Nat → Nat → Nat → StateT SortSt Sem (Option Nat) := sortPriv% PySem.Builtin.gallop
def gbd (lf : Bool)(key : Keyed)(arr : Array Keyed)(b i : Nat) : StateT SortSt Sem (Option Bool) := do
  let it ← elem' arr (b+i)
  if lf then lt' it key else return (← lt' key it).map (!·)
def wz (lf : Bool)(key : Keyed)(arr : Array Keyed)(b n d0 u0 : Nat) : StateT SortSt Sem (Option Nat) := do
  let mut dn := d0
  let mut up := u0
  for _ in [0:n] do
    if dn≥up then break
    let md := dn+(up - dn) / 2
    let some mr ← gbd lf key arr b md | return none
    if mr then dn := md+1 else up := md
  return some up
theorem u9 (lf : Bool)(key : Keyed)(arr : Array Keyed)(b n h : Nat) : gal lf key arr b n h=(do
  let mut la := 0
  let mut of := 1
  let some rt ← gbd lf key arr b h | return none
  if rt then
    for _ in [0:n] do
      if of≥n - h then break
      let some mr ← gbd lf key arr b (h+of) | return none
      if !mr then break
      la := of
      of := 2*of+1
    wz lf key arr b n (h+la+1) (h+min of (n - h))
  else
    for _ in [0:n] do
      if of≥h+1 then break
      let some fd ← gbd lf key arr b (h - of) | return none
      if fd then break
      la := of
      of := 2*of+1
    wz lf key arr b n (h+1 - min of (h+1)) (h - la)) := rfl
section
variable {prog : Program} {w : World} {A : Around} {E : Value → Shared → Prop} {s : Shared} {κ : KeyKind} {kd : SortKind}
theorem hU {st : SortSt}{x y : Keyed}{Q : Option Bool → SortSt → Prop}(hO : Lt1 κ prog w A s kd)(hB : TB kd st)(hx : Gd κ x)(hy : Gd κ y)(h : Q (some (κ.blt (kof κ x) (kof κ y))) st) : wpS (model prog w) A E s (lt' x y) Q st := by
  rw [lt'_eq]
  refine zC (Cz ?_)
  rw [hB.kind]
  refine zC (Du (C3 (hO _ x.1 y.1 _ _ _ hx.eq hy.eq ⟨rfl, ?_⟩)))
  exact zF h
def bdB (κ : KeyKind)(lf : Bool)(key : κ.α)(x : κ.α) : Bool := if lf then κ.blt x key else !κ.blt key x
theorem rN {st : SortSt}{lf : Bool}{key p : Keyed}{arr : Array Keyed}{b i : Nat}{Q : Option Bool → SortSt → Prop}(hO : Lt1 κ prog w A s kd)(hB : TB kd st)(hk : Gd κ key)(e : arr[b+i]? = some p)(hp : Gd κ p)
    (h : Q (some (bdB κ lf (kof κ key) (kof κ p))) st) : wpS (model prog w) A E s (gbd lf key arr b i) Q st := by
  unfold gbd
  rw [elem'_eq, e]
  refine zC (zF ?_)
  unfold bdB at h
  cases lf with
  | true => exact hU hO hB hp hk h
  | false => exact zC (hU hO hB hk hp (zF h))
theorem iG {st : SortSt}{lf : Bool}{key : Keyed}{arr : Array Keyed}{b n h : Nat}{Q : Option Nat → SortSt → Prop}(hO : Lt1 κ prog w A s kd)(hB : TB kd st)(hk : Gd κ key)(B : Nat → Bool)(hh : h < n)
    (at_ : ∀ i, i < n → ∃ p, arr[b+i]? = some p ∧ Gd κ p ∧ bdB κ lf (kof κ key) (kof κ p)=B i) (mono : ∀ i j, i≤j → j < n → B j=true → B i=true)
    (hq : ∀ k, k≤n → (∀ i, i < k → B i=true) → (∀ i, k≤i → i < n → B i=false) → Q (some k) st) : wpS (model prog w) A E s (gal lf key arr b n h) Q st := by
  have ask : ∀ {i : Nat} {R : Option Bool → SortSt → Prop}, i < n → R (some (B i)) st → wpS (model prog w) A E s (gbd lf key arr b i) R st := fun {i R} hi r => by
    obtain ⟨p, e, g, eb⟩ := at_ i hi
    exact rN hO hB hk e g (by rw [eb];exact r)
  have no : ∀ i j, i≤j → j < n → B i=false → B j=false := fun i j hij hj e => by
    cases ej : B j with
    | false => rfl
    | true => rw [mono i j hij hj ej] at e;cases e
  -- the last part
  have fin : ∀ dn up, dn≤up → up≤n → (∀ i, i < dn → B i=true) → (∀ i, up≤i → i < n → B i=false) → wpS (model prog w) A E s (wz lf key arr b n dn up) Q st := by
    intro dn up h1 h2 h3 h4
    unfold wz
    refine zC (AX (Au (I := fun x c st' => st'=st ∧ ∃ dn up, c=(none, dn, up) ∧ dn≤up ∧ up≤n ∧ up - dn≤n - x ∧ (∀ i, i < dn → B i=true) ∧ (∀ i, up≤i → i < n → B i=false))
      (Q := fun c st' => st'=st ∧ ∃ k, c=(none, k, k) ∧ k≤n ∧ (∀ i, i < k → B i=true) ∧ (∀ i, k≤i → i < n → B i=false)) ?step ?fin ⟨rfl, dn, up, rfl, h1, h2, by omega, h3, h4⟩) ?post)
    case post =>
      rintro c st' ⟨rfl, k, rfl, a1, a2, a3⟩
      exact zF (hq k a1 a2 a3)
    case fin =>
      rintro c st' ⟨rfl, dn, up, rfl, a1, a2, a3, a4, a5⟩
      have : dn=up := by omega
      subst this
      exact ⟨rfl, dn, rfl, a2, a4, a5⟩
    case step =>
      rintro x c st' _ hx ⟨rfl, dn, up, rfl, a1, a2, a3, a4, a5⟩
      dsimp only
      by_cases hd : dn≥up
      · refine ao hd ?_
        have : dn=up := by omega
        subst this
        exact zF ⟨rfl, dn, rfl, a2, a4, a5⟩
      · refine aq hd ?_
        refine zC (ask (by omega) ?_)
        cases eb : B (dn+(up - dn) / 2) with
        | true =>
          simp only [Bd]
          exact zF ⟨rfl, dn+(up - dn) / 2+1, up, rfl, by omega, a2, by omega, fun i hi => mono i _ (by omega) (by omega) eb, a5⟩
        | false =>
          simp only [zP, AI]
          exact zF ⟨rfl, dn, dn+(up - dn) / 2, rfl, by omega, by omega, by omega, a4, fun i hi1 hi2 => no _ i (by omega) hi2 eb⟩
  rw [u9]
  refine zC (ask hh ?_)
  cases eh : B h with
  | true =>
    dsimp only
    refine ao rfl ?_
    refine zC (AX (Au (I := fun x c st' => st'=st ∧ ∃ la of, c=(none, la, of) ∧ la < of ∧ x+1≤of ∧ h+la < n ∧ B (h+la)=true)
      (Q := fun c st' => st'=st ∧ ∃ la of, c=(none, la, of) ∧ la < of ∧ h+la < n ∧ B (h+la)=true ∧ (of≥n - h ∨ (h+of < n ∧ B (h+of)=false))) ?step ?fin ⟨rfl, 0, 1, rfl, by omega, by omega, by omega, eh⟩) ?post)
    case post =>
      rintro c st' ⟨rfl, la, of, rfl, a1, a2, a3, a4⟩
      dsimp only
      refine fin (h+la+1) (h+min of (n - h)) (by omega) (by omega) (fun i hi => mono i _ (by omega) a2 a3) fun i hi1 hi2 => ?_
      rcases a4 with a4 | ⟨a4, a5⟩
      · omega
      · exact no _ i (by omega) hi2 a5
    case fin =>
      rintro c st' ⟨rfl, la, of, rfl, a1, a2, a3, a4⟩
      exact ⟨rfl, la, of, rfl, a1, a3, a4, .inl (by omega)⟩
    case step =>
      rintro x c st' _ hx ⟨rfl, la, of, rfl, a1, a2, a3, a4⟩
      dsimp only
      by_cases ho : of≥n - h
      · refine ao ho ?_
        exact zF ⟨rfl, la, of, rfl, a1, a3, a4, .inl ho⟩
      · refine aq ho ?_
        refine zC (ask (by omega) ?_)
        cases eb : B (h+of) with
        | true =>
          simp only [Ci, zP, AI]
          exact zF ⟨rfl, of, 2*of+1, rfl, by omega, by omega, by omega, eb⟩
        | false =>
          simp only [Bool.not_false, Bd]
          exact zF ⟨rfl, la, of, rfl, a1, a3, a4, .inr ⟨by omega, eb⟩⟩
  | false =>
    dsimp only
    refine aq zT ?_
    refine zC (AX (Au (I := fun x c st' => st'=st ∧ ∃ la of, c=(none, la, of) ∧ la < of ∧ x+1≤of ∧ la≤h ∧ B (h - la)=false)
      (Q := fun c st' => st'=st ∧ ∃ la of, c=(none, la, of) ∧ la < of ∧ la≤h ∧ B (h - la)=false ∧ (of≥h+1 ∨ (of≤h ∧ B (h - of)=true))) ?step ?fin ⟨rfl, 0, 1, rfl, by omega, by omega, by omega, eh⟩) ?post)
    case post =>
      rintro c st' ⟨rfl, la, of, rfl, a1, a2, a3, a4⟩
      dsimp only
      refine fin (h+1 - min of (h+1)) (h - la) (by omega) (by omega) (fun i hi => ?_) fun i hi1 hi2 => no _ i hi1 hi2 a3
      rcases a4 with a4 | ⟨a4, a5⟩
      · omega
      · exact mono i _ (by omega) (by omega) a5
    case fin =>
      rintro c st' ⟨rfl, la, of, rfl, a1, a2, a3, a4⟩
      exact ⟨rfl, la, of, rfl, a1, a3, a4, .inl (by omega)⟩
    case step =>
      rintro x c st' _ hx ⟨rfl, la, of, rfl, a1, a2, a3, a4⟩
      dsimp only
      by_cases ho : of≥h+1
      · refine ao ho ?_
        exact zF ⟨rfl, la, of, rfl, a1, a3, a4, .inl ho⟩
      · refine aq ho ?_
        refine zC (ask (by omega) ?_)
        cases eb : B (h - of) with
        | false =>
          simp only [zP, AI]
          exact zF ⟨rfl, of, 2*of+1, rfl, by omega, by omega, by omega, eb⟩
        | true =>
          simp only [Bd]
          exact zF ⟨rfl, la, of, rfl, a1, a3, a4, .inr ⟨by omega, eb⟩⟩
end
end Tv
namespace Tv
open PySem PyProof.Rows
def mlo : Array Keyed → Array Keyed → StateT SortSt Sem (Array Keyed) := sortPriv% PySem.Builtin.mergeLo
def smg : Nat → StateT SortSt Sem Unit := sortPriv% PySem.Builtin.setMinGallop
abbrev mDn (a b o : Array Keyed)(i j : Nat) : Array Keyed := o++a.extract i a.size++b.extract j b.size
abbrev mLa (a b o : Array Keyed)(i j : Nat) : Array Keyed := o++b.extract j b.size++a.extract i a.size
theorem u_ (a b : Array Keyed) : mlo a b=(do
  rule "list.sort.merge-lo"
  let mut o : Array Keyed := #[← elem' b 0]
  let mut i := 0
  let mut j := 1
  if j == b.size then return mDn a b o i j
  if i+1 == a.size then return mLa a b o i j
  let mut g := gallopOf (← get)
  for _ in [0:a.size+b.size] do
    let mut p := 0
    let mut q := 0
    for _ in [0:a.size+b.size] do
      let some w ← lt' (← elem' b j) (← elem' a i) | return mDn a b o i j
      if w then
        o := o.push (← elem' b j)
        j := j+1
        q := q+1
        p := 0
        if j == b.size then return mDn a b o i j
        if q≥g then break
      else
        o := o.push (← elem' a i)
        i := i+1
        p := p+1
        q := 0
        if i+1 == a.size then return mLa a b o i j
        if p≥g then break
    rule "list.sort.gallop"
    g := g+1
    for _ in [0:a.size+b.size] do
      if g > 1 then g := g - 1
      smg g
      let some k ← gal false (← elem' b j) a i (a.size - i) 0 | return mDn a b o i j
      p := k
      if k > 0 then
        o := o++a.extract i (i+k)
        i := i+k
        if i+1 == a.size then return mLa a b o i j
        if i == a.size then return mDn a b o i j
      o := o.push (← elem' b j)
      j := j+1
      if j == b.size then return mDn a b o i j
      let some k ← gal true (← elem' a i) b j (b.size - j) 0 | return mDn a b o i j
      q := k
      if k > 0 then
        o := o++b.extract j (j+k)
        j := j+k
        if j == b.size then return mDn a b o i j
      o := o.push (← elem' a i)
      i := i+1
      if i+1 == a.size then return mLa a b o i j
      if p < 7 && q < 7 then break
    g := g+1
    smg g
  unsupported "internal:list.sort.merge-bound") := rfl
end Tv
namespace Tv
open PySem PyProof.Rows
variable {κ : KeyKind} {kd : SortKind}
def lek (κ : KeyKind)(x y : Keyed) : Prop := κ.kle (kof κ x) (kof κ y)
theorem c9 {x y z : Keyed}(h : lek κ x y)(g : lek κ y z) : lek κ x z := Bi h g
theorem oW (x : Keyed) : lek κ x x := AG _
def Srt (κ : KeyKind)(l : List Keyed) : Prop := l.Pairwise (lek κ)
theorem Srt.drop {l : List Keyed}(h : Srt κ l)(i : Nat) : Srt κ (l.drop i) := List.Pairwise.sublist (List.drop_sublist i l) h
theorem Srt.take {l : List Keyed}(h : Srt κ l)(i : Nat) : Srt κ (l.take i) := List.Pairwise.sublist (List.take_sublist i l) h
def Lel (κ : KeyKind)(l m : List Keyed) : Prop := ∀ x∈l, ∀ y∈m, lek κ x y
theorem aZ {l m : List Keyed} : Srt κ (l++m) ↔ Srt κ l ∧ Srt κ m ∧ Lel κ l m := List.pairwise_append
theorem Srt.at {l : List Keyed}(h : Srt κ l){i j : Nat}{x y : Keyed}(hij : i≤j)(hx : l[i]? = some x)(hy : l[j]? = some y) : lek κ x y := by
  by_cases e : i=j
  · subst e
    rw [hx] at hy
    cases hy
    exact oW _
  · obtain ⟨h1, e1⟩ := zm.mp hx
    obtain ⟨h2, e2⟩ := zm.mp hy
    have := AQ.mp h i j h1 h2 (by omega)
    rw [e1, e2] at this
    exact this
theorem bE {l : List Keyed}{i : Nat}{x : Keyed}(h : l[i]? = some x) : l.drop i=x::l.drop (i+1) := by
  obtain ⟨h1, e1⟩ := zm.mp h
  rw [Aq h1, e1]
theorem aY {l : List Keyed}{i : Nat}{x : Keyed}(h : l[i]? = some x) : l.take (i+1)=l.take i++[x] := by
  rw [CU, h]
  rfl
structure Mc (κ : KeyKind) (A B O : List Keyed) (i j : Nat) : Prop where
  pm : O.Perm (A.take i++B.take j)
  so : Srt κ O
  la : Lel κ O (A.drop i)
  lb : Lel κ O (B.drop j)
  hi : i≤A.length
  hj : j≤B.length
theorem Mc.pushA {A B O : List Keyed}{i j : Nat}(M : Mc κ A B O i j)(sA : Srt κ A){x : Keyed}(h : A[i]? = some x)(hx : Lel κ [x] (B.drop j)) : Mc κ A B (O++[x]) (i+1) j := by
  have ed := bE h
  have sd := sA.drop i
  rw [ed] at sd
  have sd' := Bp.mp sd
  refine ⟨?_, aZ.mpr ⟨M.so, C5 _ _, fun o ho y hy => ?_⟩, fun o ho y hy => ?_, fun o ho y hy => ?_, (zm.mp h).1, M.hj⟩
  · rw [aY h]
    refine (M.pm.append_right [x]).trans ?_
    rw [zw, zw]
    exact AK _ AB
  · rw [zr] at hy
    subst hy
    exact M.la o ho _ (by rw [ed];exact zK)
  · rcases Ac.mp ho with ho | ho
    · exact M.la o ho y (by rw [ed];exact zB _ hy)
    · rw [zr] at ho
      subst ho
      exact sd'.1 y hy
  · rcases Ac.mp ho with ho | ho
    · exact M.lb o ho y hy
    · exact hx o ho y hy
theorem Mc.pushB {A B O : List Keyed}{i j : Nat}(M : Mc κ A B O i j)(sB : Srt κ B){x : Keyed}(h : B[j]? = some x)(hx : Lel κ [x] (A.drop i)) : Mc κ A B (O++[x]) i (j+1) := by
  have ed := bE h
  have sd := sB.drop j
  rw [ed] at sd
  have sd' := Bp.mp sd
  refine ⟨?_, aZ.mpr ⟨M.so, C5 _ _, fun o ho y hy => ?_⟩, fun o ho y hy => ?_, fun o ho y hy => ?_, M.hi, (zm.mp h).1⟩
  · rw [aY h]
    refine (M.pm.append_right [x]).trans ?_
    rw [zw]
  · rw [zr] at hy
    subst hy
    exact M.lb o ho _ (by rw [ed];exact zK)
  · rcases Ac.mp ho with ho | ho
    · exact M.la o ho y hy
    · exact hx o ho y hy
  · rcases Ac.mp ho with ho | ho
    · exact M.lb o ho y (by rw [ed];exact zB _ hy)
    · rw [zr] at ho
      subst ho
      exact sd'.1 y hy
theorem Mc.pushAs {A B O : List Keyed}{i j : Nat}(M : Mc κ A B O i j)(sA : Srt κ A) : ∀ k, i+k≤A.length → Lel κ ((A.drop i).take k) (B.drop j) → Mc κ A B (O++(A.drop i).take k) (i+k) j
  | 0, _, _ => by simpa using M
  | k+1, hk, hl => by
    have hlt : i+k < A.length := by omega
    have e : (A.drop i)[k]? = some A[i+k] := by rw [Al, fu hlt]
    have et : (A.drop i).take (k+1)=(A.drop i).take k++[A[i+k]] := aY e
    rw [et] at hl ⊢
    have ih := Mc.pushAs M sA k (by omega) fun x hx => hl x (z6 _ hx)
    have := ih.pushA sA (fu hlt) fun x hx => hl x (zG _ hx)
    rw [zw] at this
    exact this
theorem Mc.pushBs {A B O : List Keyed}{i j : Nat}(M : Mc κ A B O i j)(sB : Srt κ B) : ∀ k, j+k≤B.length → Lel κ ((B.drop j).take k) (A.drop i) → Mc κ A B (O++(B.drop j).take k) i (j+k)
  | 0, _, _ => by simpa using M
  | k+1, hk, hl => by
    have hlt : j+k < B.length := by omega
    have e : (B.drop j)[k]? = some B[j+k] := by rw [Al, fu hlt]
    have et : (B.drop j).take (k+1)=(B.drop j).take k++[B[j+k]] := aY e
    rw [et] at hl ⊢
    have ih := Mc.pushBs M sB k (by omega) fun x hx => hl x (z6 _ hx)
    have := ih.pushB sB (fu hlt) fun x hx => hl x (zG _ hx)
    rw [zw] at this
    exact this
def Mg (κ : KeyKind)(A B R : List Keyed) : Prop := R.Perm (A++B) ∧ Srt κ R
theorem Mc.perm {A B O : List Keyed}{i j : Nat}(M : Mc κ A B O i j) : (O++(A.drop i++B.drop j)).Perm (A++B) := by
  have h1 : (O++(A.drop i++B.drop j)).Perm ((A.take i++B.take j)++(A.drop i++B.drop j)) := M.pm.append_right _
  refine h1.trans ?_
  have h2 : ((A.take i++B.take j)++(A.drop i++B.drop j)).Perm ((A.take i++A.drop i)++(B.take j++B.drop j)) := by
    rw [zw, zw]
    refine AK _ ?_
    rw [← zw, ← zw]
    exact BZ _ AB
  rw [zQ, zQ] at h2
  exact h2
theorem Mc.done {A B O : List Keyed}{i j : Nat}(M : Mc κ A B O i j)(sA : Srt κ A)(sB : Srt κ B)(h : i=A.length ∨ j=B.length) : Mg κ A B (O++A.drop i++B.drop j) := by
  refine ⟨by rw [zw];exact M.perm, ?_⟩
  rw [zw]
  refine aZ.mpr ⟨M.so, aZ.mpr ⟨sA.drop i, sB.drop j, fun x hx y hy => ?_⟩, fun o ho y hy => ?_⟩
  · rcases h with h | h
    · subst h;rw [Dd] at hx;cases hx
    · subst h;rw [Dd] at hy;cases hy
  · rcases Ac.mp hy with hy | hy
    · exact M.la o ho y hy
    · exact M.lb o ho y hy
theorem Mc.last {A B O : List Keyed}{i j : Nat}(M : Mc κ A B O i j)(sA : Srt κ A)(sB : Srt κ B)(h : i+1=A.length)(hl : ∀ z, A[A.length - 1]? = some z → Lel κ B [z]) : Mg κ A B (O++B.drop j++A.drop i) := by
  have hlt : i < A.length := by omega
  have ed : A.drop i=[A[i]] := by rw [bE (fu hlt), Bm (by omega)]
  refine ⟨?_, ?_⟩
  · refine List.Perm.trans ?_ M.perm
    rw [zw]
    exact AK _ AB
  · rw [zw]
    refine aZ.mpr ⟨M.so, aZ.mpr ⟨sB.drop j, sA.drop i, fun x hx y hy => ?_⟩, fun o ho y hy => ?_⟩
    · rw [ed] at hy
      exact hl A[i] (by rw [show A.length - 1=i by omega];exact fu hlt) x (BA hx) y hy
    · rcases Ac.mp hy with hy | hy
      · exact M.lb o ho y hy
      · exact M.la o ho y hy
theorem jw (a b o : Array Keyed)(i j : Nat) : (mDn a b o i j).toList=o.toList++a.toList.drop i++b.toList.drop j := by
  simp [mDn, AE, Am]
theorem jx (a b o : Array Keyed)(i j : Nat) : (mLa a b o i j).toList=o.toList++b.toList.drop j++a.toList.drop i := by
  simp [mLa, AE, Am]
theorem jy (a : Array Keyed)(i k : Nat) : (a.extract i (i+k)).toList=(a.toList.drop i).take k := by
  simp [AE, List.take_drop]
theorem jz {lf : Bool}{key x y : κ.α}(h : κ.kle x y)(hb : bdB κ lf key y=true) : bdB κ lf key x=true := by
  unfold bdB at hb ⊢
  cases lf with
  | true => exact KeyOrd.klt_of_kle_of_klt h hb
  | false =>
    have hb : (!κ.blt key y)=true := hb
    have hy : κ.kle y key := by show κ.blt key y=false;simpa using hb
    have := Bi h hy
    show (!κ.blt key x)=true
    have this : κ.blt key x=false := this
    rw [this]
    rfl
end Tv
namespace Tv
open PySem PyProof.Rows
section
variable {prog : Program} {w : World} {A : Around} {E : Value → Shared → Prop} {s : Shared} {κ : KeyKind} {kd : SortKind}
structure Ok (kd : SortKind) (st st' : SortSt) : Prop where
  tb : TB kd st'
  ar : arrOf st'=arrOf st
  pd : pendingOf st'=pendingOf st
theorem Ok.refl {st : SortSt}(h : TB kd st) : Ok kd st st := ⟨h, rfl, rfl⟩
theorem gh {st st' : SortSt}{g : Nat}{Q : Unit → SortSt → Prop}(h : Ok kd st st')(q : ∀ st'', Ok kd st st'' → Q () st'') : wpS (model prog w) A E s (smg g) Q st' := by
  refine BK (q _ ⟨⟨h.tb.kind, h.tb.failed⟩, h.ar, h.pd⟩)
theorem aK {st : SortSt}{arr : Array Keyed}{i : Nat}{x : Keyed}{Q : Keyed → SortSt → Prop}(e : arr.toList[i]? = some x)(h : Q x st) : wpS (model prog w) A E s (elem' arr i) Q st := by
  have e' : arr[i]? = some x := by simpa using e
  rw [elem'_eq, e']
  exact zF h
theorem jA {st : SortSt}{lf : Bool}{key : Keyed}{arr : Array Keyed}{i : Nat}{Q : Option Nat → SortSt → Prop}(hO : Lt1 κ prog w A s kd)(hB : TB kd st)(hk : Gd κ key)(hg : ∀ x∈arr.toList, Gd κ x)(sa : Srt κ arr.toList)(hi : i < arr.size)
    (hq : ∀ k, i+k≤arr.size → (∀ x∈(arr.toList.drop i).take k, bdB κ lf (kof κ key) (kof κ x)=true) → (∀ x∈arr.toList.drop (i+k), bdB κ lf (kof κ key) (kof κ x)=false) → Q (some k) st) :
    wpS (model prog w) A E s (gal lf key arr i (arr.size - i) 0) Q st := by
  have hl : arr.toList.length=arr.size := zk
  refine iG hO hB hk (fun t => match arr.toList[i+t]? with | some p => bdB κ lf (kof κ key) (kof κ p) | none => false) (by omega) (fun t ht => ?_) (fun t u htu hu hb => ?_) (fun k hk' h1 h2 => hq k (by omega) (fun x hx => ?_) fun x hx => ?_)
  · have hlt : i+t < arr.toList.length := by omega
    have e := fu hlt
    refine ⟨arr.toList[i+t], by simpa using e, hg _ (Aj hlt), ?_⟩
    rw [e]
  · have h1 : i+t < arr.toList.length := by omega
    have h2 : i+u < arr.toList.length := by omega
    have e1 := fu h1
    have e2 := fu h2
    rw [e2] at hb
    rw [e1]
    exact jz (sa.at (by omega) e1 e2) hb
  · obtain ⟨t, e⟩ := AF hx
    have ht : t < k := by
      have := (zm.mp e).1
      rw [zy] at this
      omega
    rw [BU, if_pos ht, Al] at e
    have := h1 t ht
    rw [e] at this
    exact this
  · obtain ⟨t, e⟩ := AF hx
    rw [Al] at e
    have hlt := (zm.mp e).1
    have := h2 (k+t) (by omega) (by omega)
    rw [show i+(k+t)=i+k+t by omega, e] at this
    exact this
theorem not_lt {x y : Keyed}(h : κ.blt (kof κ x) (kof κ y)=false) : lek κ y x := h
theorem oX {x y : Keyed}(h : κ.blt (kof κ x) (kof κ y)=true) : lek κ x y := By h
theorem eG {l : List Keyed}(sl : Srt κ l){i : Nat}{x y : Keyed}(e : l[i]? = some y)(h : lek κ x y) : Lel κ [x] (l.drop i) := fun z hz t ht => by
  rw [zr] at hz
  subst hz
  rw [bE e] at ht
  rcases zN.mp ht with rfl | ht
  · exact h
  · have sd := sl.drop i
    rw [bE e] at sd
    exact c9 h ((Bp.mp sd).1 t ht)
abbrev MSt := Option (Array Keyed) × Array Keyed × Nat × Nat × Nat × Nat × Nat
def jp3 (a b : Array Keyed)(i g p q : Nat)(o : Array Keyed)(j : Nat) : StateT SortSt Sem (ForInStep MSt) := do
  let e ← elem' a i
  if (i+1+1 == a.size)=true then pure (.done (some (mLa a b (o.push e) (i+1) j), o.push e, i+1, j, g, p, q))
  else if (decide (p < 7) && decide (q < 7))=true then pure (.done (none, o.push e, i+1, j, g, p, q)) else pure (.yield (none, o.push e, i+1, j, g, p, q))
def jp2 (a b : Array Keyed)(j g p q : Nat)(o : Array Keyed)(i : Nat) : StateT SortSt Sem (ForInStep MSt) := do
  let e ← elem' b j
  if (j+1 == b.size)=true then pure (.done (some (mDn a b (o.push e) i (j+1)), o.push e, i, j+1, g, p, q))
  else do
    let f ← elem' a i
    let y ← gal true f b (j+1) (b.size - (j+1)) 0
    match y with
    | some k => if k > 0 then (if (j+1+k == b.size)=true then pure (.done (some (mDn a b (o.push e++b.extract (j+1) (j+1+k)) i (j+1+k)), o.push e++b.extract (j+1) (j+1+k), i, j+1+k, g, p, k)) else jp3 a b i g p k (o.push e++b.extract (j+1) (j+1+k)) (j+1+k)) else jp3 a b i g p k (o.push e) (j+1)
    | _ => pure (.done (some (mDn a b (o.push e) i (j+1)), o.push e, i, j+1, g, p, q))
def jp1 (a b : Array Keyed)(o : Array Keyed)(i j p q g : Nat) : StateT SortSt Sem (ForInStep MSt) := do
  smg g
  let e ← elem' b j
  let y ← gal false e a i (a.size - i) 0
  match y with
  | some k => if k > 0 then (if (i+k+1 == a.size)=true then pure (.done (some (mLa a b (o++a.extract i (i+k)) (i+k) j), o++a.extract i (i+k), i+k, j, g, k, q)) else if (i+k == a.size)=true then pure (.done (some (mDn a b (o++a.extract i (i+k)) (i+k) j), o++a.extract i (i+k), i+k, j, g, k, q)) else jp2 a b j g k q (o++a.extract i (i+k)) (i+k)) else jp2 a b j g k q o i
  | _ => pure (.done (some (mDn a b o i j), o, i, j, g, p, q))
def Pst (κ : KeyKind)(a b : Array Keyed)(x : Nat)(st : SortSt)(r : ForInStep MSt)(st' : SortSt) : Prop := match r with
  | .done c => ((∃ r z, c=(some r, z) ∧ Mg κ a.toList b.toList r.toList) ∨ ∃ o i j g p q, c=(none, o, i, j, g, p, q) ∧ Mc κ a.toList b.toList o.toList i j ∧ i+1 < a.size ∧ j < b.size ∧ x+2≤i+j) ∧ Ok kd st st'
  | .yield c => ∃ o i j g p q, c=(none, o, i, j, g, p, q) ∧ Mc κ a.toList b.toList o.toList i j ∧ i+1 < a.size ∧ j < b.size ∧ x+2≤i+j ∧ Ok kd st st'
structure Two (κ : KeyKind) (a b : Array Keyed) : Prop where
  ga : ∀ x∈a.toList, Gd κ x
  gb : ∀ x∈b.toList, Gd κ x
  sa : Srt κ a.toList
  sb : Srt κ b.toList
  hl : ∀ z, a.toList[a.size - 1]? = some z → Lel κ b.toList [z]
theorem Two.atA {a b : Array Keyed}(T : Two κ a b){i : Nat}(hi : i < a.size) : ∃ x, a.toList[i]? = some x ∧ Gd κ x := ⟨a.toList[i]'(by rw [zk]; exact hi), fu (by rw [zk]; exact hi), T.ga _ (Aj _)⟩
theorem Two.atB {a b : Array Keyed}(T : Two κ a b){i : Nat}(hi : i < b.size) : ∃ x, b.toList[i]? = some x ∧ Gd κ x := ⟨b.toList[i]'(by rw [zk]; exact hi), fu (by rw [zk]; exact hi), T.gb _ (Aj _)⟩
theorem Two.dn {a b : Array Keyed}(T : Two κ a b){o : Array Keyed}{i j : Nat}(M : Mc κ a.toList b.toList o.toList i j)(h : i=a.size ∨ j=b.size) : Mg κ a.toList b.toList (mDn a b o i j).toList := by
  rw [jw]
  exact M.done T.sa T.sb (by rw [zk, zk];exact h)
theorem Two.ls {a b : Array Keyed}(T : Two κ a b){o : Array Keyed}{i j : Nat}(M : Mc κ a.toList b.toList o.toList i j)(h : i+1=a.size) : Mg κ a.toList b.toList (mLa a b o i j).toList := by
  rw [jx]
  exact M.last T.sa T.sb (by rw [zk];exact h) (by rw [zk];exact T.hl)
theorem mn {st st' : SortSt}{a b o : Array Keyed}{i j g p q x : Nat}{xa : Keyed}(T : Two κ a b)(M : Mc κ a.toList b.toList o.toList i j)(hi : i+1 < a.size)(hj : j < b.size)(hx : x+2≤i+j)(ok : Ok kd st st')(exa : a.toList[i]? = some xa)(hle : Lel κ [xa] (b.toList.drop j)) :
    wpS (model prog w) A E s (jp3 a b i g p q o j) (Pst (kd := kd) κ a b x st) st' := by
  unfold jp3
  refine zC (aK exa ?_)
  have M' : Mc κ a.toList b.toList (o.push xa).toList (i+1) j := by rw [Bc];exact M.pushA T.sa exa hle
  by_cases hia : i+1+1=a.size
  · refine ao (by simpa using hia) ?_
    exact zF ⟨.inl ⟨_, _, rfl, T.ls M' hia⟩, ok⟩
  · refine aq (by simpa using hia) ?_
    by_cases hpq : (decide (p < 7) && decide (q < 7))=true
    · refine ao hpq ?_
      exact zF ⟨.inr ⟨_, _, _, _, _, _, rfl, M', by omega, hj, by omega⟩, ok⟩
    · refine aq hpq ?_
      exact zF ⟨_, _, _, _, _, _, rfl, M', by omega, hj, by omega, ok⟩
theorem dX {x y : Keyed} : bdB κ false (kof κ x) (kof κ y)=true → lek κ y x := fun h => by
  unfold bdB at h
  have h : (!κ.blt (kof κ x) (kof κ y))=true := h
  show κ.blt (kof κ x) (kof κ y)=false
  simpa using h
theorem eI {x y : Keyed} : bdB κ false (kof κ x) (kof κ y)=false → lek κ x y := fun h => by
  unfold bdB at h
  have h : (!κ.blt (kof κ x) (kof κ y))=false := h
  exact oX (by simpa using h)
theorem iH {x y : Keyed} : bdB κ true (kof κ x) (kof κ y)=true → lek κ y x := fun h => oX h
theorem gi {x y : Keyed} : bdB κ true (kof κ x) (kof κ y)=false → lek κ x y := fun h => h
theorem mq {st st' : SortSt}{a b o : Array Keyed}{i j g p q x : Nat}{xb : Keyed}(hO : Lt1 κ prog w A s kd)(T : Two κ a b)(M : Mc κ a.toList b.toList o.toList i j)(hi : i+1 < a.size)(hj : j < b.size)(hx : x+2≤i+j)(ok : Ok kd st st')(exb : b.toList[j]? = some xb)(hle : Lel κ [xb] (a.toList.drop i)) :
    wpS (model prog w) A E s (jp2 a b j g p q o i) (Pst (kd := kd) κ a b x st) st' := by
  have la : a.toList.length=a.size := zk
  have lb : b.toList.length=b.size := zk
  unfold jp2
  refine zC (aK exb ?_)
  have M' : Mc κ a.toList b.toList (o.push xb).toList i (j+1) := by rw [Bc];exact M.pushB T.sb exb hle
  by_cases hjb : j+1=b.size
  · refine ao (by simpa using hjb) ?_
    exact zF ⟨.inl ⟨_, _, rfl, T.dn M' (.inr hjb)⟩, ok⟩
  refine aq (by simpa using hjb) ?_
  obtain ⟨xa, exa, gxa⟩ := T.atA (i := i) (by omega)
  refine zC (aK exa (zC (jA hO ok.tb gxa T.gb T.sb (by omega) fun k hk t1 t2 => ?_)))
  dsimp only
  have MB : Mc κ a.toList b.toList ((o.push xb).toList++(b.toList.drop (j+1)).take k) i (j+1+k) := M'.pushBs T.sb k (by omega) fun z hz => eG T.sa exa (iH (t1 z hz)) z (zr.mpr rfl)
  have rest : Lel κ [xa] (b.toList.drop (j+1+k)) := fun z hz y hy => by
    rw [zr] at hz
    subst hz
    exact gi (t2 y hy)
  by_cases hk0 : k > 0
  · refine ao hk0 ?_
    have MB' : Mc κ a.toList b.toList (o.push xb++b.extract (j+1) (j+1+k)).toList i (j+1+k) := by rw [CA, jy];exact MB
    by_cases hje : j+1+k=b.size
    · refine ao (by simpa using hje) ?_
      exact zF ⟨.inl ⟨_, _, rfl, T.dn MB' (.inr hje)⟩, ok⟩
    · refine aq (by simpa using hje) ?_
      exact mn T MB' hi (by omega) (by omega) ok exa rest
  · refine aq hk0 ?_
    have : k=0 := by omega
    subst this
    exact mn T M' hi (by omega) (by omega) ok exa rest
theorem mw {st st' : SortSt}{a b o : Array Keyed}{i j g p q x : Nat}(hO : Lt1 κ prog w A s kd)(T : Two κ a b)(M : Mc κ a.toList b.toList o.toList i j)(hi : i+1 < a.size)(hj : j < b.size)(hx : x+2≤i+j)(ok : Ok kd st st') :
    wpS (model prog w) A E s (jp1 a b o i j p q g) (Pst (kd := kd) κ a b x st) st' := by
  have la : a.toList.length=a.size := zk
  have lb : b.toList.length=b.size := zk
  unfold jp1
  refine zC (gh ok fun st3 ok3 => ?_)
  obtain ⟨xb, exb, gxb⟩ := T.atB hj
  refine zC (aK exb (zC (jA hO ok3.tb gxb T.ga T.sa (by omega) fun k hk t1 t2 => ?_)))
  dsimp only
  have MA : Mc κ a.toList b.toList (o.toList++(a.toList.drop i).take k) (i+k) j := M.pushAs T.sa k (by omega) fun z hz => eG T.sb exb (dX (t1 z hz)) z (zr.mpr rfl)
  have rest : Lel κ [xb] (a.toList.drop (i+k)) := fun z hz y hy => by
    rw [zr] at hz
    subst hz
    exact eI (t2 y hy)
  by_cases hk0 : k > 0
  · refine ao hk0 ?_
    have MA' : Mc κ a.toList b.toList (o++a.extract i (i+k)).toList (i+k) j := by rw [CA, jy];exact MA
    by_cases h1 : i+k+1=a.size
    · refine ao (by simpa using h1) ?_
      exact zF ⟨.inl ⟨_, _, rfl, T.ls MA' h1⟩, ok3⟩
    · refine aq (by simpa using h1) ?_
      by_cases h2 : i+k=a.size
      · refine ao (by simpa using h2) ?_
        exact zF ⟨.inl ⟨_, _, rfl, T.dn MA' (.inl h2)⟩, ok3⟩
      · refine aq (by simpa using h2) ?_
        exact mq hO T MA' (by omega) hj (by omega) ok3 exb rest
  · refine aq hk0 ?_
    have : k=0 := by omega
    subst this
    exact mq hO T M hi hj hx ok3 exb rest
abbrev TS (α : Type) := StateT SortSt Sem α
abbrev T6 := Option (Array Keyed) × Array Keyed × Nat × Nat × Nat × Nat
abbrev T5 := Option (Array Keyed) × Array Keyed × Nat × Nat × Nat
def mBe {α : Type}(c : Option (Array Keyed) × α) : TS (Array Keyed) := match c.1 with
  | some r => pure r
  | none => unsupported "internal:list.sort.merge-bound"
def mB1 (a b : Array Keyed)(g : Nat) : T6 → TS (ForInStep T6) := fun (_, o, i, j, p, q) => do
  let y ← elem' b j
  let x ← elem' a i
  let w ← lt' y x
  match w with
  | some w =>
    if w=true then do
      let e ← elem' b j
      if (j+1 == b.size)=true then pure (.done (some (mDn a b (o.push e) i (j+1)), o.push e, i, j+1, 0, q+1))
      else if q+1≥g then pure (.done (none, o.push e, i, j+1, 0, q+1)) else pure (.yield (none, o.push e, i, j+1, 0, q+1))
    else do
      let e ← elem' a i
      if (i+1+1 == a.size)=true then pure (.done (some (mLa a b (o.push e) (i+1) j), o.push e, i+1, j, p+1, 0))
      else if p+1≥g then pure (.done (none, o.push e, i+1, j, p+1, 0)) else pure (.yield (none, o.push e, i+1, j, p+1, 0))
  | _ => pure (.done (some (mDn a b o i j), o, i, j, p, q))
def mB3 (a b : Array Keyed) : MSt → TS (ForInStep MSt) := fun (_, o, i, j, g, p, q) => if g > 1 then jp1 a b o i j p q (g - 1) else jp1 a b o i j p q g
def mB2 (a b : Array Keyed)(g : Nat) : T6 → TS (ForInStep T5)
  | (some r, o, i, j, _) => pure (.done (some r, o, i, j, g))
  | (none, o, i, j, p, q) => do
    rule "list.sort.gallop"
    match ← forIn [0:a.size+b.size] ((none, o, i, j, g+1, p, q) : MSt) fun _ d => mB3 a b d with
    | (some r, o, i, j, g, _) => pure (.done (some r, o, i, j, g))
    | (none, o, i, j, g, _) => do
      smg (g+1)
      pure (.yield (none, o, i, j, g+1))
def mB0 (a b : Array Keyed) : T5 → TS (ForInStep T5) := fun (_, o, i, j, g) => do
  let d ← forIn [0:a.size+b.size] ((none, o, i, j, 0, 0) : T6) fun _ d => mB1 a b g d
  mB2 a b g d
theorem rO (a b : Array Keyed) : mlo a b=(do
  rule "list.sort.merge-lo"
  let e ← elem' b 0
  if (1 == b.size)=true then pure (mDn a b #[e] 0 1)
  else if (0+1 == a.size)=true then pure (mLa a b #[e] 0 1)
  else do
    let st ← get
    let c ← forIn [0:a.size+b.size] ((none, #[e], 0, 1, gallopOf st) : T5) fun _ c => mB0 a b c
    mBe c) := by
  rw [u_]
  refine zR (bind _) (funext fun u => zR (bind _) (funext fun e => zR (ite _ _) (zR (ite _ _) (zR (bind _) (funext fun st => ?_)))))
  refine congr (zR bind (zR (forIn _ _) (funext fun x => funext fun c => ?_))) (funext fun c => ?_)
  · refine congr (zR bind (zR (forIn _ _) (funext fun y => funext fun d => rfl))) (funext fun d => ?_)
    rcases d with ⟨_ | r, d⟩
    · refine zR (bind _) (funext fun u => ?_)
      refine congr (zR bind (zR (forIn _ _) (funext fun y => funext fun d => rfl))) (funext fun d => ?_)
      rcases d with ⟨_ | r, d⟩ <;> rfl
    · rfl
  · rcases c with ⟨_ | r, c⟩ <;> rfl
theorem rP {st : SortSt}{a b : Array Keyed}{Q : Array Keyed → SortSt → Prop}(hO : Lt1 κ prog w A s kd)(hB : TB kd st)(ga : ∀ x∈a.toList, Gd κ x)(gb : ∀ x∈b.toList, Gd κ x)(sa : Srt κ a.toList)(sb : Srt κ b.toList)(h0 : 0 < a.size)(h1 : 0 < b.size)
    (hf : ∀ x y, a.toList[0]? = some x → b.toList[0]? = some y → lek κ y x) (hl : ∀ z, a.toList[a.size - 1]? = some z → Lel κ b.toList [z])
    (hq : ∀ r st', Ok kd st st' → Mg κ a.toList b.toList r.toList → Q r st') : wpS (model prog w) A E s (mlo a b) Q st := by
  have la : a.toList.length=a.size := zk
  have lb : b.toList.length=b.size := zk
  have hl : ∀ z, a.toList[a.toList.length - 1]? = some z → Lel κ b.toList [z] := by rw [la];exact hl
  have atA : ∀ {i : Nat}, i < a.size → ∃ x, a.toList[i]? = some x ∧ Gd κ x := fun {i} hi => ⟨a.toList[i]'(by omega), fu (by omega), ga _ (Aj _)⟩
  have atB : ∀ {i : Nat}, i < b.size → ∃ x, b.toList[i]? = some x ∧ Gd κ x := fun {i} hi => ⟨b.toList[i]'(by omega), fu (by omega), gb _ (Aj _)⟩
  rw [rO]
  refine zC (Du (Bk ⟨rfl, ?_⟩))
  obtain ⟨y0, ey0, gy0⟩ := atB h1
  obtain ⟨x0, ex0, gx0⟩ := atA h0
  refine zC (aK ey0 ?_)
  have M0 : Mc κ a.toList b.toList [y0] 0 1 := by
    have : Mc κ a.toList b.toList ([]++[y0]) 0 (0+1) := Mc.pushB (O := []) (i := 0) (j := 0) ⟨Bl _, .nil, (fun x hx => by cases hx), (fun x hx => by cases hx), Ao _, Ao _⟩ sb ey0 (eG sa ex0 (hf _ _ ex0 ey0))
    exact this
  have dn : ∀ {o : Array Keyed} {i j : Nat}, Mc κ a.toList b.toList o.toList i j → (i=a.size ∨ j=b.size) → Mg κ a.toList b.toList (mDn a b o i j).toList := fun M h => by rw [jw];exact M.done sa sb (by rw [la, lb];exact h)
  have ls : ∀ {o : Array Keyed} {i j : Nat}, Mc κ a.toList b.toList o.toList i j → i+1=a.size → Mg κ a.toList b.toList (mLa a b o i j).toList := fun M h => by rw [jx];exact M.last sa sb (by rw [la];exact h) hl
  by_cases hb1 : 1=b.size
  · refine ao (by simpa using hb1) ?_
    exact zF (hq _ _ (.refl hB) (dn (o := #[y0]) M0 (.inr hb1)))
  refine aq (by simpa using hb1) ?_
  by_cases ha1 : 0+1=a.size
  · refine ao (by simpa using ha1) ?_
    exact zF (hq _ _ (.refl hB) (ls (o := #[y0]) M0 ha1))
  refine aq (by simpa using ha1) ?_
  refine zC (Cz ?_)
  refine zC (AX (Au (I := fun x c st' => ∃ o i j g, c=(none, o, i, j, g) ∧ Mc κ a.toList b.toList o.toList i j ∧ i+1 < a.size ∧ j < b.size ∧ x+1≤i+j ∧ Ok kd st st')
    (Q := fun c st' => ∃ r z, c=(some r, z) ∧ Mg κ a.toList b.toList r.toList ∧ Ok kd st st') ?step ?fin ⟨#[y0], 0, 1, _, rfl, M0, by omega, by omega, by omega, .refl hB⟩) ?post)
  case post =>
    rintro c st' ⟨r, z, rfl, m, ok⟩
    unfold mBe
    exact zF (hq _ _ ok m)
  case fin =>
    rintro c st' ⟨o, i, j, g, rfl, M, hi, hj, hx, ok⟩
    omega
  case step =>
    rintro x c st1 _ hx ⟨o, i, j, g, rfl, M, hi, hj, hij, ok1⟩
    unfold mB0
    dsimp only
    refine zC (AX (Au (I := fun y c st' => st'=st1 ∧ ∃ o i j p q, c=(none, o, i, j, p, q) ∧ Mc κ a.toList b.toList o.toList i j ∧ i+1 < a.size ∧ j < b.size ∧ x+1+y≤i+j)
      (Q := fun c st' => st'=st1 ∧ ((∃ r z, c=(some r, z) ∧ Mg κ a.toList b.toList r.toList) ∨ ∃ o i j p q, c=(none, o, i, j, p, q) ∧ Mc κ a.toList b.toList o.toList i j ∧ i+1 < a.size ∧ j < b.size ∧ x+2≤i+j)) ?step1 ?fin1 ⟨rfl, o, i, j, 0, 0, rfl, M, hi, hj, by omega⟩) ?post1)
    case fin1 =>
      rintro c st' ⟨rfl, o, i, j, p, q, rfl, M, hi, hj, hy⟩
      exact ⟨rfl, .inr ⟨o, i, j, p, q, rfl, M, hi, hj, by omega⟩⟩
    case step1 =>
      rintro y c st' _ hy ⟨rfl, o, i, j, p, q, rfl, M, hi, hj, hij⟩
      unfold mB1
      dsimp only
      obtain ⟨xb, exb, gxb⟩ := atB hj
      obtain ⟨xa, exa, gxa⟩ := atA (i := i) (by omega)
      refine zC (aK exb (zC (aK exa (zC (hU hO ok1.tb gxb gxa ?_)))))
      cases eb : κ.blt (kof κ xb) (kof κ xa) with
      | true =>
        simp only [Bd]
        refine zC (aK exb ?_)
        have M' : Mc κ a.toList b.toList (o.push xb).toList i (j+1) := by rw [Bc];exact M.pushB sb exb (eG sa exa (oX eb))
        by_cases hjb : j+1=b.size
        · refine ao (by simpa using hjb) ?_
          exact zF ⟨rfl, .inl ⟨_, _, rfl, dn M' (.inr hjb)⟩⟩
        · refine aq (by simpa using hjb) ?_
          by_cases hqg : q+1≥g
          · refine ao hqg ?_
            exact zF ⟨rfl, .inr ⟨_, _, _, _, _, rfl, M', hi, by omega, by omega⟩⟩
          · refine aq hqg ?_
            exact zF ⟨rfl, _, _, _, _, _, rfl, M', hi, by omega, by omega⟩
      | false =>
        simp only [zP, AI]
        refine zC (aK exa ?_)
        have M' : Mc κ a.toList b.toList (o.push xa).toList (i+1) j := by rw [Bc];exact M.pushA sa exa (eG sb exb (not_lt eb))
        by_cases hia : i+1+1=a.size
        · refine ao (by simpa using hia) ?_
          exact zF ⟨rfl, .inl ⟨_, _, rfl, ls M' hia⟩⟩
        · refine aq (by simpa using hia) ?_
          by_cases hpg : p+1≥g
          · refine ao hpg ?_
            exact zF ⟨rfl, .inr ⟨_, _, _, _, _, rfl, M', by omega, hj, by omega⟩⟩
          · refine aq hpg ?_
            exact zF ⟨rfl, _, _, _, _, _, rfl, M', by omega, hj, by omega⟩
    case post1 =>
      rintro c st' ⟨rfl, ⟨r, z, rfl, m⟩ | ⟨o, i, j, p, q, rfl, M, hi, hj, hij⟩⟩
      · exact zF ⟨r, _, rfl, m, ok1⟩
      unfold mB2
      dsimp only
      refine zC (Du (Bk ⟨rfl, ?_⟩))
      refine zC (AX (Au (I := fun y c st' => ∃ o i j g p q, c=(none, o, i, j, g, p, q) ∧ Mc κ a.toList b.toList o.toList i j ∧ i+1 < a.size ∧ j < b.size ∧ x+2≤i+j ∧ Ok kd st st')
        (Q := fun c st' => ((∃ r z, c=(some r, z) ∧ Mg κ a.toList b.toList r.toList) ∨ ∃ o i j g p q, c=(none, o, i, j, g, p, q) ∧ Mc κ a.toList b.toList o.toList i j ∧ i+1 < a.size ∧ j < b.size ∧ x+2≤i+j) ∧ Ok kd st st') ?step2 ?fin2 ⟨o, i, j, _, p, q, rfl, M, hi, hj, hij, ok1⟩) ?post2)
      case fin2 =>
        rintro c st' ⟨o, i, j, g, p, q, rfl, M, hi, hj, hij, ok⟩
        exact ⟨.inr ⟨o, i, j, g, p, q, rfl, M, hi, hj, hij⟩, ok⟩
      case post2 =>
        rintro c st' ⟨⟨r, z, rfl, m⟩ | ⟨o, i, j, g, p, q, rfl, M, hi, hj, hij⟩, ok⟩
        · exact zF ⟨r, _, rfl, m, ok⟩
        · dsimp only
          exact zC (gh ok fun st'' ok' => zF ⟨o, i, j, _, rfl, M, hi, hj, by omega, ok'⟩)
      case step2 =>
        rintro y c st2 _ hy ⟨o, i, j, g, p, q, rfl, M, hi, hj, hij, ok2⟩
        change wpS _ _ _ _ (if g > 1 then jp1 a b o i j p q (g - 1) else jp1 a b o i j p q g) _ _
        refine AX (Q := Pst (kd := kd) κ a b x st) ?_ fun r st' h => ?_
        rotate_left
        · cases r with
          | done c => exact h
          | yield c => exact h
        by_cases hg : g > 1
        · refine ao hg ?_
          exact mw hO ⟨ga, gb, sa, sb, by rw [← la];exact hl⟩ M hi hj hij ok2
        · refine aq hg ?_
          exact mw hO ⟨ga, gb, sa, sb, by rw [← la];exact hl⟩ M hi hj hij ok2
end
end Tv
namespace Tv
open PySem PyProof.Rows
def mhi : Array Keyed → Array Keyed → StateT SortSt Sem (Array Keyed) := sortPriv% PySem.Builtin.mergeHi
abbrev hDn (a b o : Array Keyed)(i j : Nat) : Array Keyed := a.extract 0 i++b.extract 0 j++o.reverse
abbrev hFb (a b o : Array Keyed)(i j : Nat) : Array Keyed := b.extract 0 j++a.extract 0 i++o.reverse
theorem va (a b : Array Keyed) : mhi a b=(do
  rule "list.sort.merge-hi"
  let mut i := a.size - 1
  let mut j := b.size
  let mut o : Array Keyed := #[← elem' a i]
  if i == 0 then return hDn a b o i j
  if j == 1 then return hFb a b o i j
  let mut g := gallopOf (← get)
  for _ in [0:a.size+b.size] do
    let mut p := 0
    let mut q := 0
    for _ in [0:a.size+b.size] do
      let some w ← lt' (← elem' b (j - 1)) (← elem' a (i - 1)) | return hDn a b o i j
      if w then
        i := i - 1
        o := o.push (← elem' a i)
        p := p+1
        q := 0
        if i == 0 then return hDn a b o i j
        if p≥g then break
      else
        j := j - 1
        o := o.push (← elem' b j)
        q := q+1
        p := 0
        if j == 1 then return hFb a b o i j
        if q≥g then break
    rule "list.sort.gallop"
    g := g+1
    for _ in [0:a.size+b.size] do
      if g > 1 then g := g - 1
      smg g
      let some t ← gal false (← elem' b (j - 1)) a 0 i (i - 1) | return hDn a b o i j
      let k := i - t
      p := k
      if k > 0 then
        o := o++(a.extract t i).reverse
        i := t
        if i == 0 then return hDn a b o i j
      j := j - 1
      o := o.push (← elem' b j)
      if j == 1 then return hFb a b o i j
      let some t ← gal true (← elem' a (i - 1)) b 0 j (j - 1) | return hDn a b o i j
      let k := j - t
      q := k
      if k > 0 then
        o := o++(b.extract t j).reverse
        j := t
        if j == 1 then return hFb a b o i j
        if j == 0 then return hDn a b o i j
      i := i - 1
      o := o.push (← elem' a i)
      if i == 0 then return hDn a b o i j
      if p < 7 && q < 7 then break
    g := g+1
    smg g
  unsupported "internal:list.sort.merge-bound") := rfl
variable {κ : KeyKind} {kd : SortKind}
structure Mh (κ : KeyKind) (A B R : List Keyed) (i j : Nat) : Prop where
  pm : R.Perm (A.drop i++B.drop j)
  so : Srt κ R
  la : Lel κ (A.take i) R
  lb : Lel κ (B.take j) R
  hi : i≤A.length
  hj : j≤B.length
theorem Mh.pushA {A B R : List Keyed}{i j : Nat}(M : Mh κ A B R (i+1) j)(sA : Srt κ A){x : Keyed}(h : A[i]? = some x)(hx : Lel κ (B.take j) [x]) : Mh κ A B (x::R) i j := by
  have et := aY h
  have st := sA.take (i+1)
  rw [et] at st
  have st' := aZ.mp st
  refine ⟨?_, Bp.mpr ⟨fun y hy => M.la x (by rw [et];simp) y hy, M.so⟩, fun y hy z hz => ?_, fun y hy z hz => ?_, by have := M.hi;omega, M.hj⟩
  · rw [bE h, Da]
    exact M.pm.cons x
  · rcases zN.mp hz with rfl | hz
    · exact st'.2.2 y hy _ (by simp)
    · exact M.la y (by rw [et];exact z6 _ hy) z hz
  · rcases zN.mp hz with rfl | hz
    · exact hx y hy _ (by simp)
    · exact M.lb y hy z hz
theorem Mh.pushB {A B R : List Keyed}{i j : Nat}(M : Mh κ A B R i (j+1))(sB : Srt κ B){x : Keyed}(h : B[j]? = some x)(hx : Lel κ (A.take i) [x]) : Mh κ A B (x::R) i j := by
  have et := aY h
  have st := sB.take (j+1)
  rw [et] at st
  have st' := aZ.mp st
  refine ⟨?_, Bp.mpr ⟨fun y hy => M.lb x (by rw [et];simp) y hy, M.so⟩, fun y hy z hz => ?_, fun y hy z hz => ?_, M.hi, by have := M.hj;omega⟩
  · rw [bE h]
    exact (M.pm.cons x).trans De.symm
  · rcases zN.mp hz with rfl | hz
    · exact hx y hy _ (by simp)
    · exact M.la y hy z hz
  · rcases zN.mp hz with rfl | hz
    · exact st'.2.2 y hy _ (by simp)
    · exact M.lb y (by rw [et];exact z6 _ hy) z hz
theorem Mh.pushAs {A B R : List Keyed}{t j : Nat}(sA : Srt κ A) : ∀ k, Mh κ A B R (t+k) j → Lel κ (B.take j) ((A.drop t).take k) → Mh κ A B ((A.drop t).take k++R) t j
  | 0, M, _ => by simpa using M
  | k+1, M, hl => by
    have hlt : t+k < A.length := by have := M.hi;omega
    have e : (A.drop t)[k]? = some A[t+k] := by rw [Al, fu hlt]
    have et : (A.drop t).take (k+1)=(A.drop t).take k++[A[t+k]] := aY e
    rw [et] at hl ⊢
    have M1 : Mh κ A B (A[t+k]::R) (t+k) j := Mh.pushA M sA (fu hlt) fun y hy z hz => hl y hy z (zG _ hz)
    have := Mh.pushAs sA k M1 fun y hy z hz => hl y hy z (z6 _ hz)
    rw [zw]
    exact this
theorem Mh.pushBs {A B R : List Keyed}{t i : Nat}(sB : Srt κ B) : ∀ k, Mh κ A B R i (t+k) → Lel κ (A.take i) ((B.drop t).take k) → Mh κ A B ((B.drop t).take k++R) i t
  | 0, M, _ => by simpa using M
  | k+1, M, hl => by
    have hlt : t+k < B.length := by have := M.hj;omega
    have e : (B.drop t)[k]? = some B[t+k] := by rw [Al, fu hlt]
    have et : (B.drop t).take (k+1)=(B.drop t).take k++[B[t+k]] := aY e
    rw [et] at hl ⊢
    have M1 : Mh κ A B (B[t+k]::R) i (t+k) := Mh.pushB M sB (fu hlt) fun y hy z hz => hl y hy z (zG _ hz)
    have := Mh.pushBs sB k M1 fun y hy z hz => hl y hy z (z6 _ hz)
    rw [zw]
    exact this
theorem Mh.perm {A B R : List Keyed}{i j : Nat}(M : Mh κ A B R i j) : (A.take i++B.take j++R).Perm (A++B) := by
  have h1 : (A.take i++B.take j++R).Perm (A.take i++B.take j++(A.drop i++B.drop j)) := M.pm.append_left _
  refine h1.trans ?_
  have h2 : ((A.take i++B.take j)++(A.drop i++B.drop j)).Perm ((A.take i++A.drop i)++(B.take j++B.drop j)) := by
    rw [zw, zw]
    refine AK _ ?_
    rw [← zw, ← zw]
    exact BZ _ AB
  rw [zQ, zQ] at h2
  exact h2
theorem Mh.done {A B R : List Keyed}{i j : Nat}(M : Mh κ A B R i j)(sA : Srt κ A)(sB : Srt κ B)(h : i=0 ∨ j=0) : Mg κ A B (A.take i++B.take j++R) := by
  refine ⟨M.perm, aZ.mpr ⟨aZ.mpr ⟨sA.take i, sB.take j, fun x hx y hy => ?_⟩, M.so, fun o ho y hy => ?_⟩⟩
  · rcases h with h | h
    · subst h;simp at hx
    · subst h;simp at hy
  · rcases Ac.mp ho with ho | ho
    · exact M.la o ho y hy
    · exact M.lb o ho y hy
theorem Mh.first {A B R : List Keyed}{i j : Nat}(M : Mh κ A B R i j)(sA : Srt κ A)(sB : Srt κ B)(h : j=1)(hf : ∀ z, B[0]? = some z → Lel κ [z] A) : Mg κ A B (B.take j++A.take i++R) := by
  refine ⟨List.Perm.trans (BZ _ AB) M.perm, aZ.mpr ⟨aZ.mpr ⟨sB.take j, sA.take i, fun x hx y hy => ?_⟩, M.so, fun o ho y hy => ?_⟩⟩
  · subst h
    cases B with
    | nil => simp at hx
    | cons z B =>
      have hx : x=z := by simpa using hx
      subst hx
      exact hf x rfl x (by simp) y (BB hy)
  · rcases Ac.mp ho with ho | ho
    · exact M.lb o ho y hy
    · exact M.la o ho y hy
theorem oY (a b o : Array Keyed)(i j : Nat) : (hDn a b o i j).toList=a.toList.take i++b.toList.take j++o.toList.reverse := by
  simp [hDn, AE]
theorem oZ (a b o : Array Keyed)(i j : Nat) : (hFb a b o i j).toList=b.toList.take j++a.toList.take i++o.toList.reverse := by
  simp [hFb, AE]
theorem mx (a : Array Keyed)(t i : Nat) : ((a.extract t i).reverse).toList.reverse=(a.toList.drop t).take (i - t) := by
  simp [AE]
section
variable {prog : Program} {w : World} {A : Around} {E : Value → Shared → Prop} {s : Shared}
theorem jB {st : SortSt}{lf : Bool}{key : Keyed}{arr : Array Keyed}{n : Nat}{Q : Option Nat → SortSt → Prop}(hO : Lt1 κ prog w A s kd)(hB : TB kd st)(hk : Gd κ key)(hg : ∀ x∈arr.toList, Gd κ x)(sa : Srt κ arr.toList)(hn : 0 < n)(hna : n≤arr.size)
    (hq : ∀ k, k≤n → (∀ x∈arr.toList.take k, bdB κ lf (kof κ key) (kof κ x)=true) → (∀ x∈(arr.toList.drop k).take (n - k), bdB κ lf (kof κ key) (kof κ x)=false) → Q (some k) st) :
    wpS (model prog w) A E s (gal lf key arr 0 n (n - 1)) Q st := by
  have hl : arr.toList.length=arr.size := zk
  refine iG hO hB hk (fun t => match arr.toList[t]? with | some p => bdB κ lf (kof κ key) (kof κ p) | none => false) (by omega) (fun t ht => ?_) (fun t u htu hu hb => ?_) (fun k hk' h1 h2 => hq k (by omega) (fun x hx => ?_) fun x hx => ?_)
  · have hlt : t < arr.toList.length := by omega
    have e := fu hlt
    refine ⟨arr.toList[t], by rw [DF];simpa using e, hg _ (Aj hlt), ?_⟩
    rw [e]
  · have h1 : t < arr.toList.length := by omega
    have h2 : u < arr.toList.length := by omega
    have e1 := fu h1
    have e2 := fu h2
    rw [e2] at hb
    rw [e1]
    exact jz (sa.at (by omega) e1 e2) hb
  · obtain ⟨t, e⟩ := AF hx
    have ht : t < k := by
      have := (zm.mp e).1
      rw [zy] at this
      omega
    rw [BU, if_pos ht] at e
    have := h1 t ht
    rw [e] at this
    exact this
  · obtain ⟨t, e⟩ := AF hx
    have ht : t < n - k := by
      have := (zm.mp e).1
      rw [zy] at this
      omega
    rw [BU, if_pos ht, Al] at e
    have := h2 (k+t) (by omega) (by omega)
    rw [e] at this
    exact this
theorem gj {l : List Keyed}(sl : Srt κ l){i : Nat}{x y : Keyed}(e : l[i]? = some y)(h : lek κ y x) : Lel κ (l.take (i+1)) [x] := fun z hz t ht => by
  rw [zr] at ht
  subst ht
  rw [aY e] at hz
  rcases Ac.mp hz with hz | hz
  · have st := sl.take (i+1)
    rw [aY e] at st
    exact c9 ((aZ.mp st).2.2 z hz y (by simp)) h
  · rw [zr] at hz
    subst hz
    exact h
structure kq (κ : KeyKind) (a b : Array Keyed) : Prop where
  ga : ∀ x∈a.toList, Gd κ x
  gb : ∀ x∈b.toList, Gd κ x
  sa : Srt κ a.toList
  sb : Srt κ b.toList
  hf : ∀ z, b.toList[0]? = some z → Lel κ [z] a.toList
theorem kq.atA {a b : Array Keyed}(T : kq κ a b){i : Nat}(hi : i < a.size) : ∃ x, a.toList[i]? = some x ∧ Gd κ x := ⟨a.toList[i]'(by rw [zk]; exact hi), fu (by rw [zk]; exact hi), T.ga _ (Aj _)⟩
theorem kq.atB {a b : Array Keyed}(T : kq κ a b){i : Nat}(hi : i < b.size) : ∃ x, b.toList[i]? = some x ∧ Gd κ x := ⟨b.toList[i]'(by rw [zk]; exact hi), fu (by rw [zk]; exact hi), T.gb _ (Aj _)⟩
theorem kq.dn {a b : Array Keyed}(T : kq κ a b){o : Array Keyed}{i j : Nat}(M : Mh κ a.toList b.toList o.toList.reverse i j)(h : i=0 ∨ j=0) : Mg κ a.toList b.toList (hDn a b o i j).toList := by
  rw [oY]
  exact M.done T.sa T.sb h
theorem kq.fb {a b : Array Keyed}(T : kq κ a b){o : Array Keyed}{i j : Nat}(M : Mh κ a.toList b.toList o.toList.reverse i j)(h : j=1) : Mg κ a.toList b.toList (hFb a b o i j).toList := by
  rw [oZ]
  exact M.first T.sa T.sb h T.hf
theorem dY (o : Array Keyed)(x : Keyed) : (o.push x).toList.reverse=x::o.toList.reverse := by simp
theorem my (o : Array Keyed)(a : Array Keyed)(t i : Nat) : (o++(a.extract t i).reverse).toList.reverse=(a.toList.drop t).take (i - t)++o.toList.reverse := by
  rw [CA, List.reverse_append, mx]
abbrev HSt := Option (Array Keyed) × Nat × Nat × Array Keyed × Nat × Nat × Nat
def hq3 (a b : Array Keyed)(i g p q j : Nat)(o : Array Keyed) : StateT SortSt Sem (ForInStep HSt) := do
  let e ← elem' a (i - 1)
  if (i - 1 == 0)=true then pure (.done (some (hDn a b (o.push e) (i - 1) j), i - 1, j, o.push e, g, p, q))
  else if (decide (p < 7) && decide (q < 7))=true then pure (.done (none, i - 1, j, o.push e, g, p, q)) else pure (.yield (none, i - 1, j, o.push e, g, p, q))
def hq2 (a b : Array Keyed)(j g p q i : Nat)(o : Array Keyed) : StateT SortSt Sem (ForInStep HSt) := do
  let e ← elem' b (j - 1)
  if (j - 1 == 1)=true then pure (.done (some (hFb a b (o.push e) i (j - 1)), i, j - 1, o.push e, g, p, q))
  else do
    let f ← elem' a (i - 1)
    let y ← gal true f b 0 (j - 1) (j - 1 - 1)
    match y with
    | some t => if j - 1 - t > 0 then (if (t == 1)=true then pure (.done (some (hFb a b (o.push e++(b.extract t (j - 1)).reverse) i t), i, t, o.push e++(b.extract t (j - 1)).reverse, g, p, j - 1 - t)) else if (t == 0)=true then pure (.done (some (hDn a b (o.push e++(b.extract t (j - 1)).reverse) i t), i, t, o.push e++(b.extract t (j - 1)).reverse, g, p, j - 1 - t)) else hq3 a b i g p (j - 1 - t) t (o.push e++(b.extract t (j - 1)).reverse)) else hq3 a b i g p (j - 1 - t) (j - 1) (o.push e)
    | _ => pure (.done (some (hDn a b (o.push e) i (j - 1)), i, j - 1, o.push e, g, p, q))
def hq1 (a b : Array Keyed)(i j : Nat)(o : Array Keyed)(p q g : Nat) : StateT SortSt Sem (ForInStep HSt) := do
  smg g
  let e ← elem' b (j - 1)
  let y ← gal false e a 0 i (i - 1)
  match y with
  | some t => if i - t > 0 then (if (t == 0)=true then pure (.done (some (hDn a b (o++(a.extract t i).reverse) t j), t, j, o++(a.extract t i).reverse, g, i - t, q)) else hq2 a b j g (i - t) q t (o++(a.extract t i).reverse)) else hq2 a b j g (i - t) q i o
  | _ => pure (.done (some (hDn a b o i j), i, j, o, g, p, q))
def Hst (κ : KeyKind)(a b : Array Keyed)(x : Nat)(st : SortSt)(r : ForInStep HSt)(st' : SortSt) : Prop := match r with
  | .done c => ((∃ r z, c=(some r, z) ∧ Mg κ a.toList b.toList r.toList) ∨ ∃ i j o g p q, c=(none, i, j, o, g, p, q) ∧ Mh κ a.toList b.toList o.toList.reverse i j ∧ 0 < i ∧ 1 < j ∧ x+2+i+j≤a.size+b.size) ∧ Ok kd st st'
  | .yield c => ∃ i j o g p q, c=(none, i, j, o, g, p, q) ∧ Mh κ a.toList b.toList o.toList.reverse i j ∧ 0 < i ∧ 1 < j ∧ x+2+i+j≤a.size+b.size ∧ Ok kd st st'
theorem mz {st st' : SortSt}{a b o : Array Keyed}{i j g p q x : Nat}{xa : Keyed}(T : kq κ a b)(M : Mh κ a.toList b.toList o.toList.reverse i j)(hi : 0 < i)(hj : 1 < j)(hx : x+2+i+j≤a.size+b.size)(ok : Ok kd st st')(exa : a.toList[i - 1]? = some xa)(hle : Lel κ (b.toList.take j) [xa]) :
    wpS (model prog w) A E s (hq3 a b i g p q j o) (Hst (kd := kd) κ a b x st) st' := by
  unfold hq3
  refine zC (aK exa ?_)
  have M' : Mh κ a.toList b.toList (o.push xa).toList.reverse (i - 1) j := by
    rw [dY]
    exact Mh.pushA (by rw [show i - 1+1=i by omega];exact M) T.sa exa hle
  by_cases h0 : i - 1=0
  · refine ao (by simpa using h0) ?_
    exact zF ⟨.inl ⟨_, _, rfl, T.dn M' (.inl h0)⟩, ok⟩
  · refine aq (by simpa using h0) ?_
    by_cases hpq : (decide (p < 7) && decide (q < 7))=true
    · refine ao hpq ?_
      exact zF ⟨.inr ⟨_, _, _, _, _, _, rfl, M', by omega, hj, by omega⟩, ok⟩
    · refine aq hpq ?_
      exact zF ⟨_, _, _, _, _, _, rfl, M', by omega, hj, by omega, ok⟩
theorem mB {st st' : SortSt}{a b o : Array Keyed}{i j g p q x : Nat}{xb : Keyed}(hO : Lt1 κ prog w A s kd)(T : kq κ a b)(M : Mh κ a.toList b.toList o.toList.reverse i j)(hi : 0 < i)(hj : 1 < j)(hx : x+2+i+j≤a.size+b.size)(ok : Ok kd st st')(exb : b.toList[j - 1]? = some xb)(hle : Lel κ (a.toList.take i) [xb]) :
    wpS (model prog w) A E s (hq2 a b j g p q i o) (Hst (kd := kd) κ a b x st) st' := by
  have la : a.toList.length=a.size := zk
  have lb : b.toList.length=b.size := zk
  have hia := M.hi
  have hjb := M.hj
  unfold hq2
  refine zC (aK exb ?_)
  have M' : Mh κ a.toList b.toList (o.push xb).toList.reverse i (j - 1) := by
    rw [dY]
    exact Mh.pushB (by rw [show j - 1+1=j by omega];exact M) T.sb exb hle
  by_cases h1 : j - 1=1
  · refine ao (by simpa using h1) ?_
    exact zF ⟨.inl ⟨_, _, rfl, T.fb M' h1⟩, ok⟩
  refine aq (by simpa using h1) ?_
  obtain ⟨xa, exa, gxa⟩ := T.atA (i := i - 1) (by omega)
  refine zC (aK exa (zC (jB hO ok.tb gxa T.gb T.sb (by omega) (by omega) fun t ht t1 t2 => ?_)))
  dsimp only
  have up : Lel κ (b.toList.take t) [xa] := fun z hz y hy => by
    rw [zr] at hy
    subst hy
    exact iH (t1 z hz)
  have MB : Mh κ a.toList b.toList ((b.toList.drop t).take (j - 1 - t)++(o.push xb).toList.reverse) i t := Mh.pushBs T.sb (j - 1 - t) (by rw [show t+(j - 1 - t)=j - 1 by omega];exact M') fun y hy z hz => by
    have := gj T.sa exa (gi (t2 z hz))
    rw [show i - 1+1=i by omega] at this
    exact this y hy z (by simp)
  by_cases hk0 : j - 1 - t > 0
  · refine ao hk0 ?_
    have MB' : Mh κ a.toList b.toList (o.push xb++(b.extract t (j - 1)).reverse).toList.reverse i t := by rw [my];exact MB
    by_cases ht1 : t=1
    · refine ao (by simpa using ht1) ?_
      exact zF ⟨.inl ⟨_, _, rfl, T.fb MB' ht1⟩, ok⟩
    · refine aq (by simpa using ht1) ?_
      by_cases ht0 : t=0
      · refine ao (by simpa using ht0) ?_
        exact zF ⟨.inl ⟨_, _, rfl, T.dn MB' (.inr ht0)⟩, ok⟩
      · refine aq (by simpa using ht0) ?_
        exact mz T MB' hi (by omega) (by omega) ok exa up
  · refine aq hk0 ?_
    have : t=j - 1 := by omega
    subst this
    exact mz T M' hi (by omega) (by omega) ok exa up
theorem mF {st st' : SortSt}{a b o : Array Keyed}{i j g p q x : Nat}(hO : Lt1 κ prog w A s kd)(T : kq κ a b)(M : Mh κ a.toList b.toList o.toList.reverse i j)(hi : 0 < i)(hj : 1 < j)(hx : x+2+i+j≤a.size+b.size)(ok : Ok kd st st') :
    wpS (model prog w) A E s (hq1 a b i j o p q g) (Hst (kd := kd) κ a b x st) st' := by
  have la : a.toList.length=a.size := zk
  have lb : b.toList.length=b.size := zk
  have hia := M.hi
  have hjb := M.hj
  unfold hq1
  refine zC (gh ok fun st3 ok3 => ?_)
  obtain ⟨xb, exb, gxb⟩ := T.atB (i := j - 1) (by omega)
  refine zC (aK exb (zC (jB hO ok3.tb gxb T.ga T.sa hi (by omega) fun t ht t1 t2 => ?_)))
  dsimp only
  have up : Lel κ (a.toList.take t) [xb] := fun z hz y hy => by
    rw [zr] at hy
    subst hy
    exact dX (t1 z hz)
  have MA : Mh κ a.toList b.toList ((a.toList.drop t).take (i - t)++o.toList.reverse) t j := Mh.pushAs T.sa (i - t) (by rw [show t+(i - t)=i by omega];exact M) fun y hy z hz => by
    have := gj T.sb exb (eI (t2 z hz))
    rw [show j - 1+1=j by omega] at this
    exact this y hy z (by simp)
  by_cases hk0 : i - t > 0
  · refine ao hk0 ?_
    have MA' : Mh κ a.toList b.toList (o++(a.extract t i).reverse).toList.reverse t j := by rw [my];exact MA
    by_cases ht0 : t=0
    · refine ao (by simpa using ht0) ?_
      exact zF ⟨.inl ⟨_, _, rfl, T.dn MA' (.inl ht0)⟩, ok3⟩
    · refine aq (by simpa using ht0) ?_
      exact mB hO T MA' (by omega) hj (by omega) ok3 exb up
  · refine aq hk0 ?_
    have : t=i := by omega
    subst this
    exact mB hO T M hi hj hx ok3 exb up
abbrev H6 := Option (Array Keyed) × Nat × Nat × Array Keyed × Nat × Nat
abbrev H5 := Option (Array Keyed) × Nat × Nat × Array Keyed × Nat
def hB1 (a b : Array Keyed)(g : Nat) : H6 → TS (ForInStep H6) := fun (_, i, j, o, p, q) => do
  let y ← elem' b (j - 1)
  let x ← elem' a (i - 1)
  let w ← lt' y x
  match w with
  | some w =>
    if w=true then do
      let e ← elem' a (i - 1)
      if (i - 1 == 0)=true then pure (.done (some (hDn a b (o.push e) (i - 1) j), i - 1, j, o.push e, p+1, 0))
      else if p+1≥g then pure (.done (none, i - 1, j, o.push e, p+1, 0)) else pure (.yield (none, i - 1, j, o.push e, p+1, 0))
    else do
      let e ← elem' b (j - 1)
      if (j - 1 == 1)=true then pure (.done (some (hFb a b (o.push e) i (j - 1)), i, j - 1, o.push e, 0, q+1))
      else if q+1≥g then pure (.done (none, i, j - 1, o.push e, 0, q+1)) else pure (.yield (none, i, j - 1, o.push e, 0, q+1))
  | _ => pure (.done (some (hDn a b o i j), i, j, o, p, q))
def hB3 (a b : Array Keyed) : HSt → TS (ForInStep HSt) := fun (_, i, j, o, g, p, q) => if g > 1 then hq1 a b i j o p q (g - 1) else hq1 a b i j o p q g
def hB2 (a b : Array Keyed)(g : Nat) : H6 → TS (ForInStep H5)
  | (some r, i, j, o, _) => pure (.done (some r, i, j, o, g))
  | (none, i, j, o, p, q) => do
    rule "list.sort.gallop"
    match ← forIn [0:a.size+b.size] ((none, i, j, o, g+1, p, q) : HSt) fun _ d => hB3 a b d with
    | (some r, i, j, o, g, _) => pure (.done (some r, i, j, o, g))
    | (none, i, j, o, g, _) => do
      smg (g+1)
      pure (.yield (none, i, j, o, g+1))
def hB0 (a b : Array Keyed) : H5 → TS (ForInStep H5) := fun (_, i, j, o, g) => do
  let d ← forIn [0:a.size+b.size] ((none, i, j, o, 0, 0) : H6) fun _ d => hB1 a b g d
  hB2 a b g d
theorem rQ (a b : Array Keyed) : mhi a b=(do
  rule "list.sort.merge-hi"
  let e ← elem' a (a.size - 1)
  if (a.size - 1 == 0)=true then pure (hDn a b #[e] (a.size - 1) b.size)
  else if (b.size == 1)=true then pure (hFb a b #[e] (a.size - 1) b.size)
  else do
    let st ← get
    let c ← forIn [0:a.size+b.size] ((none, a.size - 1, b.size, #[e], gallopOf st) : H5) fun _ c => hB0 a b c
    mBe c) := by
  rw [va]
  refine zR (bind _) (funext fun u => zR (bind _) (funext fun e => zR (ite _ _) (zR (ite _ _) (zR (bind _) (funext fun st => ?_)))))
  refine congr (zR bind (zR (forIn _ _) (funext fun x => funext fun c => ?_))) (funext fun c => ?_)
  · refine congr (zR bind (zR (forIn _ _) (funext fun y => funext fun d => rfl))) (funext fun d => ?_)
    rcases d with ⟨_ | r, d⟩
    · refine zR (bind _) (funext fun u => ?_)
      refine congr (zR bind (zR (forIn _ _) (funext fun y => funext fun d => rfl))) (funext fun d => ?_)
      rcases d with ⟨_ | r, d⟩ <;> rfl
    · rfl
  · rcases c with ⟨_ | r, c⟩ <;> rfl
theorem rR {st : SortSt}{a b : Array Keyed}{Q : Array Keyed → SortSt → Prop}(hO : Lt1 κ prog w A s kd)(hB : TB kd st)(T : kq κ a b)(h0 : 0 < a.size)(h1 : 0 < b.size)
    (hl : ∀ z, a.toList[a.size - 1]? = some z → Lel κ b.toList [z])
    (hq : ∀ r st', Ok kd st st' → Mg κ a.toList b.toList r.toList → Q r st') : wpS (model prog w) A E s (mhi a b) Q st := by
  have la : a.toList.length=a.size := zk
  have lb : b.toList.length=b.size := zk
  rw [rQ]
  refine zC (Du (Bk ⟨rfl, ?_⟩))
  obtain ⟨z0, ez0, gz0⟩ := T.atA (i := a.size - 1) (by omega)
  refine zC (aK ez0 ?_)
  have M0 : Mh κ a.toList b.toList (#[z0] : Array Keyed).toList.reverse (a.size - 1) b.size := by
    have : Mh κ a.toList b.toList [z0] (a.size - 1) b.size := Mh.pushA (R := []) (by
      rw [show a.size - 1+1=a.size by omega]
      refine ⟨?_, .nil, (fun x hx y hy => by cases hy), (fun x hx y hy => by cases hy), by omega, by omega⟩
      rw [Bm (by omega), Bm (by omega)]
      exact Bl _) T.sa ez0 (by rw [Am (by omega)];exact hl _ ez0)
    exact this
  by_cases ha1 : a.size - 1=0
  · refine ao (by simpa using ha1) ?_
    exact zF (hq _ _ (.refl hB) (T.dn M0 (.inl ha1)))
  refine aq (by simpa using ha1) ?_
  by_cases hb1 : b.size=1
  · refine ao (by simpa using hb1) ?_
    exact zF (hq _ _ (.refl hB) (T.fb M0 hb1))
  refine aq (by simpa using hb1) ?_
  refine zC (Cz ?_)
  refine zC (AX (Au (I := fun x c st' => ∃ i j o g, c=(none, i, j, o, g) ∧ Mh κ a.toList b.toList o.toList.reverse i j ∧ 0 < i ∧ 1 < j ∧ x+1+i+j≤a.size+b.size ∧ Ok kd st st')
    (Q := fun c st' => ∃ r z, c=(some r, z) ∧ Mg κ a.toList b.toList r.toList ∧ Ok kd st st') ?step ?fin ⟨_, _, _, _, rfl, M0, by omega, by omega, by omega, .refl hB⟩) ?post)
  case post =>
    rintro c st' ⟨r, z, rfl, m, ok⟩
    unfold mBe
    exact zF (hq _ _ ok m)
  case fin =>
    rintro c st' ⟨i, j, o, g, rfl, M, hi, hj, hx, ok⟩
    omega
  case step =>
    rintro x c st1 _ hx ⟨i, j, o, g, rfl, M, hi, hj, hij, ok1⟩
    unfold hB0
    dsimp only
    refine zC (AX (Au (I := fun y c st' => st'=st1 ∧ ∃ i j o p q, c=(none, i, j, o, p, q) ∧ Mh κ a.toList b.toList o.toList.reverse i j ∧ 0 < i ∧ 1 < j ∧ x+1+y+i+j≤a.size+b.size)
      (Q := fun c st' => st'=st1 ∧ ((∃ r z, c=(some r, z) ∧ Mg κ a.toList b.toList r.toList) ∨ ∃ i j o p q, c=(none, i, j, o, p, q) ∧ Mh κ a.toList b.toList o.toList.reverse i j ∧ 0 < i ∧ 1 < j ∧ x+2+i+j≤a.size+b.size)) ?step1 ?fin1 ⟨rfl, i, j, o, 0, 0, rfl, M, hi, hj, by omega⟩) ?post1)
    case fin1 =>
      rintro c st' ⟨rfl, i, j, o, p, q, rfl, M, hi, hj, hy⟩
      exact ⟨rfl, .inr ⟨i, j, o, p, q, rfl, M, hi, hj, by omega⟩⟩
    case step1 =>
      rintro y c st' _ hy ⟨rfl, i, j, o, p, q, rfl, M, hi, hj, hij⟩
      unfold hB1
      dsimp only
      have hia := M.hi
      have hjb := M.hj
      obtain ⟨xb, exb, gxb⟩ := T.atB (i := j - 1) (by omega)
      obtain ⟨xa, exa, gxa⟩ := T.atA (i := i - 1) (by omega)
      refine zC (aK exb (zC (aK exa (zC (hU hO ok1.tb gxb gxa ?_)))))
      cases eb : κ.blt (kof κ xb) (kof κ xa) with
      | true =>
        simp only [Bd]
        refine zC (aK exa ?_)
        have M' : Mh κ a.toList b.toList (o.push xa).toList.reverse (i - 1) j := by
          rw [dY]
          refine Mh.pushA (by rw [show i - 1+1=i by omega];exact M) T.sa exa ?_
          have := gj T.sb exb (oX eb)
          rwa [show j - 1+1=j by omega] at this
        by_cases hi0 : i - 1=0
        · refine ao (by simpa using hi0) ?_
          exact zF ⟨rfl, .inl ⟨_, _, rfl, T.dn M' (.inl hi0)⟩⟩
        · refine aq (by simpa using hi0) ?_
          by_cases hpg : p+1≥g
          · refine ao hpg ?_
            exact zF ⟨rfl, .inr ⟨_, _, _, _, _, rfl, M', by omega, hj, by omega⟩⟩
          · refine aq hpg ?_
            exact zF ⟨rfl, _, _, _, _, _, rfl, M', by omega, hj, by omega⟩
      | false =>
        simp only [zP, AI]
        refine zC (aK exb ?_)
        have M' : Mh κ a.toList b.toList (o.push xb).toList.reverse i (j - 1) := by
          rw [dY]
          refine Mh.pushB (by rw [show j - 1+1=j by omega];exact M) T.sb exb ?_
          have := gj T.sa exa (not_lt eb)
          rwa [show i - 1+1=i by omega] at this
        by_cases hj1 : j - 1=1
        · refine ao (by simpa using hj1) ?_
          exact zF ⟨rfl, .inl ⟨_, _, rfl, T.fb M' hj1⟩⟩
        · refine aq (by simpa using hj1) ?_
          by_cases hqg : q+1≥g
          · refine ao hqg ?_
            exact zF ⟨rfl, .inr ⟨_, _, _, _, _, rfl, M', hi, by omega, by omega⟩⟩
          · refine aq hqg ?_
            exact zF ⟨rfl, _, _, _, _, _, rfl, M', hi, by omega, by omega⟩
    case post1 =>
      rintro c st' ⟨rfl, ⟨r, z, rfl, m⟩ | ⟨i, j, o, p, q, rfl, M, hi, hj, hij⟩⟩
      · exact zF ⟨r, _, rfl, m, ok1⟩
      unfold hB2
      dsimp only
      refine zC (Du (Bk ⟨rfl, ?_⟩))
      refine zC (AX (Au (I := fun y c st' => ∃ i j o g p q, c=(none, i, j, o, g, p, q) ∧ Mh κ a.toList b.toList o.toList.reverse i j ∧ 0 < i ∧ 1 < j ∧ x+2+i+j≤a.size+b.size ∧ Ok kd st st')
        (Q := fun c st' => ((∃ r z, c=(some r, z) ∧ Mg κ a.toList b.toList r.toList) ∨ ∃ i j o g p q, c=(none, i, j, o, g, p, q) ∧ Mh κ a.toList b.toList o.toList.reverse i j ∧ 0 < i ∧ 1 < j ∧ x+2+i+j≤a.size+b.size) ∧ Ok kd st st') ?step2 ?fin2 ⟨i, j, o, _, p, q, rfl, M, hi, hj, hij, ok1⟩) ?post2)
      case fin2 =>
        rintro c st' ⟨i, j, o, g, p, q, rfl, M, hi, hj, hij, ok⟩
        exact ⟨.inr ⟨i, j, o, g, p, q, rfl, M, hi, hj, hij⟩, ok⟩
      case post2 =>
        rintro c st' ⟨⟨r, z, rfl, m⟩ | ⟨i, j, o, g, p, q, rfl, M, hi, hj, hij⟩, ok⟩
        · exact zF ⟨r, _, rfl, m, ok⟩
        · dsimp only
          exact zC (gh ok fun st'' ok' => zF ⟨i, j, o, _, rfl, M, hi, hj, by omega, ok'⟩)
      case step2 =>
        rintro y c st2 _ hy ⟨i, j, o, g, p, q, rfl, M, hi, hj, hij, ok2⟩
        change wpS _ _ _ _ (if g > 1 then hq1 a b i j o p q (g - 1) else hq1 a b i j o p q g) _ _
        refine AX (Q := Hst (kd := kd) κ a b x st) ?_ fun r st' h => ?_
        rotate_left
        · cases r with
          | done c => exact h
          | yield c => exact h
        by_cases hg : g > 1
        · refine ao hg ?_
          exact mF hO T M hi hj hij ok2
        · refine aq hg ?_
          exact mF hO T M hi hj hij ok2
end
end Tv
namespace Tv
open PySem PyProof.Rows
variable {κ : KeyKind} {kd : SortKind}
def SrI (κ : KeyKind)(xs : Array Keyed)(lo hi : Nat) : Prop := ∀ i j, lo≤i → i≤j → j < hi → κ.kle (KK κ xs i) (KK κ xs j)
def NiI (κ : KeyKind)(xs : Array Keyed)(lo hi : Nat) : Prop := ∀ i j, lo≤i → i≤j → j < hi → κ.kle (KK κ xs j) (KK κ xs i)
structure Rp (lo hi : Nat) (xs ys : Array Keyed) : Prop where
  pm : ys.Perm xs
  out : ∀ k, (k < lo ∨ hi≤k) → ys[k]? = xs[k]?
theorem Rp.refl (lo hi : Nat)(xs : Array Keyed) : Rp lo hi xs xs := ⟨Ds _, fun _ _ => rfl⟩
theorem Rp.trans {lo hi : Nat}{xs ys zs : Array Keyed}(h : Rp lo hi xs ys)(g : Rp lo hi ys zs) : Rp lo hi xs zs := ⟨g.pm.trans h.pm, fun k hk => (g.out k hk).trans (h.out k hk)⟩
theorem Rp.size {lo hi : Nat}{xs ys : Array Keyed}(h : Rp lo hi xs ys) : ys.size=xs.size := h.pm.size_eq
theorem Rp.mirror {lo hi i j : Nat}{xs : Array Keyed}(h1 : lo≤i)(h2 : j≤hi)(hj : j≤xs.size) : Rp lo hi xs (mirror xs i j ((j - i) / 2)) := by
  refine ⟨mirror_perm _ _ _ _, fun k hk => ?_⟩
  rw [getElem?_mirror_all hj, if_neg (by omega)]
theorem Rp.bubble {lo hi src d : Nat}{xs : Array Keyed}(h1 : lo+d≤src)(h2 : src < hi)(hs : src < xs.size) : Rp lo hi xs (bubble xs src d) := by
  refine ⟨bubble_perm _ _ _, fun k hk => ?_⟩
  rw [getElem?_bubble hs d (by omega), if_neg (by omega), if_neg (by omega)]
structure Rs (kd : SortKind) (κ : KeyKind) (lo hi : Nat) (st st' : SortSt) : Prop where
  tb : TB kd st'
  pd : pendingOf st'=pendingOf st
  gd : ∀ x∈(arrOf st').toList, Gd κ x
  rp : Rp lo hi (arrOf st) (arrOf st')
theorem Rs.refl {lo hi : Nat}{st : SortSt}(h : TB kd st)(g : ∀ x∈(arrOf st).toList, Gd κ x) : Rs kd κ lo hi st st := ⟨h, rfl, g, .refl _ _ _⟩
theorem Rs.arr {lo hi : Nat}{st st' : SortSt}(h : Rs kd κ lo hi st st'){ys : Array Keyed}(r : Rp lo hi (arrOf st') ys) : Rs kd κ lo hi st (setArr st' ys) :=
  ⟨⟨h.tb.kind, h.tb.failed⟩, h.pd, fun x hx => h.gd x ((A8.mp r.pm).mem_iff.mp hx), h.rp.trans r⟩
theorem vb {xs : Array Keyed}(g : ∀ x∈xs.toList, Gd κ x){i : Nat}(hi : i < xs.size) : ∃ x p, xs[i]? = some (x, p) ∧ κ.keyOf x=some (KK κ xs i) := by
  have e : xs[i]? = some xs[i] := DG xs i hi
  refine ⟨xs[i].1, xs[i].2, e, ?_⟩
  have := (g xs[i] (by simp)).eq
  rw [this]
  unfold KK kof
  rw [e]
section
variable {prog : Program} {w : World} {A : Around} {E : Value → Shared → Prop} {s : Shared}
theorem dw {st : SortSt}{i j : Nat}{Q : Option Bool → SortSt → Prop}(hO : Lt1 κ prog w A s kd)(hB : TB kd st)(g : ∀ x∈(arrOf st).toList, Gd κ x)(hi : i < (arrOf st).size)(hj : j < (arrOf st).size)
    (h : Q (some (κ.blt (KK κ (arrOf st) i) (KK κ (arrOf st) j))) st) : wpS (model prog w) A E s (ltAt' i j) Q st := by
  obtain ⟨x, p, e1, k1⟩ := vb g hi
  obtain ⟨y, q, e2, k2⟩ := vb g hj
  have hx : Gd κ (x, p) := ⟨_, k1⟩
  have hy : Gd κ (y, q) := ⟨_, k2⟩
  rw [ltAt'_eq]
  refine zC (Cz ?_)
  show wpS _ _ _ _ (do let x ← elem' (arrOf st) i;let y ← elem' (arrOf st) j;lt' x y) Q st
  rw [elem'_eq, elem'_eq, e1, e2]
  refine zC (zF (zC (zF (hU hO hB hx hy ?_))))
  have a1 : kof κ (x, p)=_ := zD (hx.eq.symm.trans k1)
  have a2 : kof κ (y, q)=_ := zD (hy.eq.symm.trans k2)
  rw [a1, a2]
  exact h
def xq (lo a nr : Nat) : StateT SortSt Sem (Option Nat) := do
  let mut n := a
  for _ in [a:nr] do
    let some sm ← ltAt' (lo+n) (lo+n - 1) | return none
    if sm then break
    n := n+1
  return some n
def rS (lo a nr : Nat) : StateT SortSt Sem (Option Nat) := do
  reverseSlice' lo (lo+a)
  xq lo a nr
def xr (lo a nr : Nat) : StateT SortSt Sem (Option Nat) := do
  rule "list.sort.descending-run"
  let mut n := a+1
  let mut e := 0
  for _ in [a+1:nr] do
    let some sm ← ltAt' (lo+n) (lo+n - 1) | return none
    if sm then
      if e > 0 then reverseSlice' (lo+n - (e+1)) (lo+n)
      e := 0
    else
      let some lg ← ltAt' (lo+n - 1) (lo+n) | return none
      if lg then break
      e := e+1
    n := n+1
  if e > 0 then reverseSlice' (lo+n - (e+1)) (lo+n)
  rS lo n nr
theorem mG {xs : Array Keyed}{lo x : Nat}(a1 : SrI κ xs lo (lo+x))(h1 : 1≤x)(e : κ.blt (KK κ xs (lo+x)) (KK κ xs (lo+x - 1))=false) : SrI κ xs lo (lo+(x+1)) := fun i j hi hij hj => by
  by_cases q : j < lo+x
  · exact a1 i j hi hij q
  · have : j=lo+x := by omega
    subst this
    by_cases q2 : i=lo+x
    · subst q2;exact AG _
    · exact Bi (a1 i (lo+x - 1) hi (by omega) (by omega)) e
theorem o7 {st : SortSt}{lo a nr : Nat}{Q : Option Nat → SortSt → Prop}(hO : Lt1 κ prog w A s kd)(hB : TB kd st)(g : ∀ x∈(arrOf st).toList, Gd κ x)(h1 : 1≤a)(h2 : a≤nr)(h3 : lo+nr≤(arrOf st).size)(hs : SrI κ (arrOf st) lo (lo+a))
    (h : ∀ n, a≤n → n≤nr → SrI κ (arrOf st) lo (lo+n) → Q (some n) st) : wpS (model prog w) A E s (xq lo a nr) Q st := by
  unfold xq
  refine zC (AX (Au (I := fun x c st' => st'=st ∧ c=(none, x) ∧ SrI κ (arrOf st) lo (lo+x))
    (Q := fun c st' => st'=st ∧ ∃ n, c=(none, n) ∧ a≤n ∧ n≤nr ∧ SrI κ (arrOf st) lo (lo+n) ∧ (n=nr ∨ κ.klt (KK κ (arrOf st) (lo+n)) (KK κ (arrOf st) (lo+n - 1)))) ?step ?fin ⟨rfl, rfl, hs⟩) ?post)
  case fin =>
    rintro c st' ⟨rfl, rfl, a1⟩
    have e : max a nr=nr := by omega
    rw [e] at a1 ⊢
    exact ⟨rfl, nr, rfl, by omega, zA _, a1, .inl rfl⟩
  case step =>
    rintro x c st' hx1 hx2 ⟨rfl, rfl, a1⟩
    dsimp only
    refine zC (dw hO hB g (by omega) (by omega) ?_)
    cases e : κ.blt (KK κ (arrOf st') (lo+x)) (KK κ (arrOf st') (lo+x - 1)) with
    | true =>
      simp only [Bd]
      exact zF ⟨rfl, x, rfl, hx1, by omega, a1, .inr e⟩
    | false =>
      simp only [zP, AI]
      exact zF ⟨rfl, rfl, mG a1 (by omega) e⟩
  case post =>
    rintro c st' ⟨rfl, n, rfl, a1, a2, a3, a4⟩
    exact zF (h n a1 a2 a3)
theorem hV {st st' : SortSt}{lo a nr : Nat}{Q : Option Nat → SortSt → Prop}(hO : Lt1 κ prog w A s kd)(R : Rs kd κ lo (lo+nr) st st')(h1 : 1≤a)(h2 : a≤nr)(h3 : lo+nr≤(arrOf st).size)(hs : NiI κ (arrOf st') lo (lo+a))
    (h : ∀ n st'', 1≤n → n≤nr → Rs kd κ lo (lo+nr) st st'' → SrI κ (arrOf st'') lo (lo+n) → Q (some n) st'') : wpS (model prog w) A E s (rS lo a nr) Q st' := by
  have hz := R.rp.size
  unfold rS
  refine zC (wpS_reverse ?_)
  have R' : Rs kd κ lo (lo+nr) st (setArr st' (mirror (arrOf st') lo (lo+a) ((lo+a - lo) / 2))) := R.arr (Rp.mirror (zA _) (by omega) (by omega))
  refine o7 hO R'.tb R'.gd h1 h2 (by rw [R'.rp.size];exact h3) (fun i j hi hij hj => ?_) fun n a1 a2 a3 => h n _ (by omega) a2 R' a3
  show κ.kle (KK κ (mirror (arrOf st') lo (lo+a) ((lo+a - lo) / 2)) i) (KK κ (mirror (arrOf st') lo (lo+a) ((lo+a - lo) / 2)) j)
  rw [KK_mirror (by omega), KK_mirror (by omega), if_pos (by omega), if_pos (by omega)]
  exact hs _ _ (by omega) (by omega) (by omega)
theorem jC {st st' : SortSt}{lo a nr : Nat}{Q : Option Nat → SortSt → Prop}(hO : Lt1 κ prog w A s kd)(R : Rs kd κ lo (lo+nr) st st')(h2 : a+1≤nr)(h3 : lo+nr≤(arrOf st).size)(hs : NiI κ (arrOf st') lo (lo+(a+1)))
    (h : ∀ n st'', 1≤n → n≤nr → Rs kd κ lo (lo+nr) st st'' → SrI κ (arrOf st'') lo (lo+n) → Q (some n) st'') : wpS (model prog w) A E s (xr lo a nr) Q st' := by
  unfold xr
  refine zC (Du (Bk ⟨rfl, ?_⟩))
  dsimp only
  refine zC (AX (Au (I := fun x c st'' => ∃ e, c=(none, x, e) ∧ Rs kd κ lo (lo+nr) st st'' ∧ NiI κ (arrOf st'') lo (lo+x) ∧ e+1≤x ∧ ∀ i, lo+x - (e+1)≤i → i < lo+x → KK κ (arrOf st'') i=KK κ (arrOf st'') (lo+x - 1))
    (Q := fun c st'' => ∃ x e, c=(none, x, e) ∧ a+1≤x ∧ x≤nr ∧ Rs kd κ lo (lo+nr) st st'' ∧ NiI κ (arrOf st'') lo (lo+x) ∧ e+1≤x ∧ ∀ i, lo+x - (e+1)≤i → i < lo+x → KK κ (arrOf st'') i=KK κ (arrOf st'') (lo+x - 1)) ?step ?fin ⟨0, rfl, R, hs, by omega, fun i h1 h2 => by congr 1;omega⟩) ?post)
  case fin =>
    rintro c st'' ⟨e, rfl, R, hs, he, hk⟩
    have ex : max (a+1) nr=nr := by omega
    rw [ex] at hs he hk ⊢
    exact ⟨nr, e, rfl, h2, zA _, R, hs, he, hk⟩
  case post =>
    rintro c st'' ⟨x, e, rfl, hx1, hx2, R, hs, he, hk⟩
    have hz := R.rp.size
    dsimp only
    by_cases h0 : e > 0
    · refine ao h0 ?_
      refine zC (wpS_reverse ?_)
      refine hV hO (R.arr (Rp.mirror (by omega) (by omega) (by omega))) (by omega) hx2 h3 (fun i j hi hij hj => ?_) h
      show κ.kle (KK κ (mirror (arrOf st'') _ _ _) j) (KK κ (mirror (arrOf st'') _ _ _) i)
      rw [BV (by omega) hk, BV (by omega) hk]
      exact hs i j hi hij hj
    · refine aq h0 ?_
      exact hV hO R (by omega) hx2 h3 hs h
  case step =>
    rintro x c st'' hx1 hx2 ⟨e, rfl, R, hs, he, hk⟩
    have hz := R.rp.size
    dsimp only
    refine zC (dw hO R.tb R.gd (by omega) (by omega) ?_)
    cases e1 : κ.blt (KK κ (arrOf st'') (lo+x)) (KK κ (arrOf st'') (lo+x - 1)) with
    | true =>
      simp only [Bd]
      have nx : ∀ xs : Array Keyed, (∀ k, KK κ xs k=KK κ (arrOf st'') k) → NiI κ xs lo (lo+(x+1)) := fun xs ek i j hi hij hj => by
        rw [ek, ek]
        by_cases q : j < lo+x
        · exact hs i j hi hij q
        · have : j=lo+x := by omega
          subst this
          by_cases q2 : i=lo+x
          · subst q2;exact AG _
          · exact Bi (By e1) (hs i (lo+x - 1) hi (by omega) (by omega))
      by_cases h0 : e > 0
      · refine ao h0 ?_
        exact zC (wpS_reverse (zF ⟨0, rfl, R.arr (Rp.mirror (by omega) (by omega) (by omega)), nx _ (BV (by omega) hk), by omega, fun i h1 h2 => by congr 1;omega⟩))
      · refine aq h0 ?_
        exact zF ⟨0, rfl, R, nx _ fun _ => rfl, by omega, fun i h1 h2 => by congr 1;omega⟩
    | false =>
      simp only [zP, AI]
      refine zC (dw hO R.tb R.gd (by omega) (by omega) ?_)
      cases e2 : κ.blt (KK κ (arrOf st'') (lo+x - 1)) (KK κ (arrOf st'') (lo+x)) with
      | true =>
        simp only [Bd]
        exact zF ⟨x, e, rfl, hx1, by omega, R, hs, he, hk⟩
      | false =>
        simp only [zP, AI]
        have ee : KK κ (arrOf st'') (lo+x)=KK κ (arrOf st'') (lo+x - 1) := KeyOrd.kle_antisymm e2 e1
        refine zF ⟨e+1, rfl, R, fun i j hi hij hj => ?_, by omega, fun i h1 h2 => ?_⟩
        · by_cases q : j < lo+x
          · exact hs i j hi hij q
          · have : j=lo+x := by omega
            subst this
            by_cases q2 : i=lo+x
            · subst q2;exact AG _
            · rw [ee];exact hs i (lo+x - 1) hi (by omega) (by omega)
        · rw [show lo+(x+1) - 1=lo+x by omega]
          by_cases q : i=lo+x
          · subst q;rfl
          · rw [ee];exact hk i (by omega) (by omega)
theorem o8 {st : SortSt}{lo nr : Nat}{Q : Option Nat → SortSt → Prop}(hO : Lt1 κ prog w A s kd)(hB : TB kd st)(g : ∀ x∈(arrOf st).toList, Gd κ x)(h1 : 1≤nr)(h3 : lo+nr≤(arrOf st).size)
    (h : ∀ n st', 1≤n → n≤nr → Rs kd κ lo (lo+nr) st st' → SrI κ (arrOf st') lo (lo+n) → Q (some n) st') : wpS (model prog w) A E s (countRun' lo nr) Q st := by
  have R : Rs kd κ lo (lo+nr) st st := .refl hB g
  rw [countRun'_eq]
  change wpS _ _ _ _ (do
    let mut n := 1
    for _ in [1:nr] do
      let some sm ← ltAt' (lo+n) (lo+n - 1) | return none
      if sm then break
      n := n+1
    if n == nr then return some n
    if n > 1 then
      let some rs ← ltAt' lo (lo+n - 1) | return none
      if rs then return some n
      reverseSlice' lo (lo+n)
    xr lo n nr) _ _
  refine zC (AX (Au (I := fun x c st' => st'=st ∧ c=(none, x) ∧ SrI κ (arrOf st) lo (lo+x))
    (Q := fun c st' => st'=st ∧ ∃ n, c=(none, n) ∧ 1≤n ∧ n≤nr ∧ SrI κ (arrOf st) lo (lo+n) ∧ (n=nr ∨ κ.klt (KK κ (arrOf st) (lo+n)) (KK κ (arrOf st) (lo+n - 1)))) ?step ?fin ⟨rfl, rfl, fun i j hi hij hj => by have : i=j := (by omega);subst this;exact AG _⟩) ?post)
  case fin =>
    rintro c st' ⟨rfl, rfl, a1⟩
    have e : max 1 nr=nr := by omega
    rw [e] at a1 ⊢
    exact ⟨rfl, nr, rfl, by omega, zA _, a1, .inl rfl⟩
  case step =>
    rintro x c st' hx1 hx2 ⟨rfl, rfl, a1⟩
    dsimp only
    refine zC (dw hO hB g (by omega) (by omega) ?_)
    cases e : κ.blt (KK κ (arrOf st') (lo+x)) (KK κ (arrOf st') (lo+x - 1)) with
    | true =>
      simp only [Bd]
      exact zF ⟨rfl, x, rfl, hx1, by omega, a1, .inr e⟩
    | false =>
      simp only [zP, AI]
      exact zF ⟨rfl, rfl, mG a1 (by omega) e⟩
  rintro c st' ⟨rfl, n, rfl, a1, a2, a3, a4⟩
  dsimp only
  by_cases hn : n=nr
  · refine ao (by simpa using hn) ?_
    exact zF (h n st' a1 a2 R a3)
  · refine aq (by simpa using hn) ?_
    have lt : κ.klt (KK κ (arrOf st') (lo+n)) (KK κ (arrOf st') (lo+n - 1)) := a4.resolve_left hn
    by_cases hg : n > 1
    · refine ao hg ?_
      refine zC (dw hO hB g (by omega) (by omega) ?_)
      cases e : κ.blt (KK κ (arrOf st') lo) (KK κ (arrOf st') (lo+n - 1)) with
      | true =>
        simp only [Bd]
        exact zF (h n st' a1 a2 R a3)
      | false =>
        simp only [zP, AI]
        refine zC (wpS_reverse ?_)
        have same : ∀ i, lo≤i → i < lo+n → KK κ (arrOf st') i=KK κ (arrOf st') (lo+n - 1) := fun i hi1 hi2 => by
          have b1 := a3 i (lo+n - 1) hi1 (by omega) (by omega)
          have b2 := a3 lo i (zA _) hi1 hi2
          exact KeyOrd.kle_antisymm b1 (Bi e b2)
        refine jC hO (R.arr (Rp.mirror (zA _) (by omega) (by omega))) (by omega) h3 (fun i j hi hij hj => ?_) h
        show κ.kle (KK κ (mirror (arrOf st') _ _ _) j) (KK κ (mirror (arrOf st') _ _ _) i)
        rw [BV (by omega) same, BV (by omega) same]
        by_cases q : j < lo+n
        · rw [same i hi (by omega), same j (by omega) q]
          exact AG _
        · have : j=lo+n := by omega
          subst this
          by_cases q2 : i=lo+n
          · subst q2;exact AG _
          · rw [same i hi (by omega)]
            exact By lt
    · refine aq hg ?_
      have : n=1 := by omega
      subst this
      refine jC hO R (by omega) h3 (fun i j hi hij hj => ?_) h
      by_cases q2 : i=j
      · subst q2;exact AG _
      · have e1 : i=lo := by omega
        have e2 : j=lo+1 := by omega
        subst e1 e2
        exact By lt
end
end Tv
namespace Tv
open PySem PyProof.Rows
variable {κ : KeyKind} {kd : SortKind}
section
variable {prog : Program} {w : World} {A : Around} {E : Value → Shared → Prop} {s : Shared}
theorem o9 {st : SortSt}{lo n ok : Nat}{Q : Bool → SortSt → Prop}(hO : Lt1 κ prog w A s kd)(hB : TB kd st)(g : ∀ x∈(arrOf st).toList, Gd κ x)(hn : lo+n≤(arrOf st).size)(hok : ok≤n)(hs : SrI κ (arrOf st) lo (lo+ok))
    (h : ∀ st', Rs kd κ lo (lo+n) st st' → SrI κ (arrOf st') lo (lo+n) → Q true st') : wpS (model prog w) A E s (binarySort' lo n ok) Q st := by
  rw [binarySort'_eq]
  refine zC (AX (Au (I := fun y c st' => c=(none, ()) ∧ Rs kd κ lo (lo+n) st st' ∧ SrI κ (arrOf st') lo (lo+min y n))
    (Q := fun c st' => c=(none, ()) ∧ Rs kd κ lo (lo+n) st st' ∧ SrI κ (arrOf st') lo (lo+n)) ?step ?fin ?init) ?post)
  case post =>
    rintro c st' ⟨rfl, R, hs'⟩
    exact zF (h st' R hs')
  case init =>
    refine ⟨rfl, .refl hB g, fun i j hi hij hj => ?_⟩
    by_cases e : i=j
    · subst e;exact AG _
    · exact hs i j hi hij (by omega)
  case fin =>
    rintro c st' ⟨hc, R, hs'⟩
    rw [show min (max (max ok 1) n) n=n by omega] at hs'
    exact ⟨hc, R, hs'⟩
  case step =>
    rintro y c st' hy1 hy2 ⟨rfl, R, hs'⟩
    have hz := R.rp.size
    rw [show min y n=y by omega] at hs'
    refine zC (AX (Au (I := fun x c st'' => st''=st' ∧ ∃ l r, c=(none, l, r) ∧ l≤r ∧ r≤y ∧ r - l≤y - x ∧
        (∀ i, lo≤i → i < lo+l → κ.kle (KK κ (arrOf st') i) (KK κ (arrOf st') (lo+y))) ∧ (∀ i, lo+r≤i → i < lo+y → κ.klt (KK κ (arrOf st') (lo+y)) (KK κ (arrOf st') i)))
      (Q := fun c st'' => st''=st' ∧ ∃ l r, c=(none, l, r) ∧ l≤y ∧
        (∀ i, lo≤i → i < lo+l → κ.kle (KK κ (arrOf st') i) (KK κ (arrOf st') (lo+y))) ∧ (∀ i, lo+l≤i → i < lo+y → κ.klt (KK κ (arrOf st') (lo+y)) (KK κ (arrOf st') i))) ?istep ?ifin ?iinit) ?ipost)
    case iinit => exact ⟨rfl, 0, y, rfl, by omega, by omega, by omega, fun i h1 h2 => by omega, fun i h1 h2 => by omega⟩
    case ifin =>
      rintro c st'' ⟨rfl, l, r, rfl, q1, q2, q3, q4, q5⟩
      have : l=r := by omega
      subst this
      exact ⟨rfl, l, l, rfl, q2, q4, q5⟩
    case istep =>
      rintro x c st'' _ hx ⟨rfl, l, r, rfl, q1, q2, q3, q4, q5⟩
      dsimp only
      by_cases hge : l≥r
      · refine ao hge ?_
        have : l=r := by omega
        subst this
        exact zF ⟨rfl, l, l, rfl, q2, q4, q5⟩
      · refine aq hge ?_
        refine zC (dw hO R.tb R.gd (by omega) (by omega) ?_)
        cases e : κ.blt (KK κ (arrOf st'') (lo+y)) (KK κ (arrOf st'') (lo+(l+r) / 2)) with
        | true =>
          simp only [Bd]
          refine zF ⟨rfl, l, (l+r) / 2, rfl, by omega, by omega, by omega, q4, fun i h1 h2 => ?_⟩
          exact KeyOrd.klt_of_klt_of_kle e (hs' _ _ (by omega) h1 h2)
        | false =>
          simp only [zP, AI]
          refine zF ⟨rfl, (l+r) / 2+1, r, rfl, by omega, by omega, by omega, fun i h1 h2 => ?_, q5⟩
          exact Bi (hs' i (lo+(l+r) / 2) h1 (by omega) (by omega)) (show κ.kle _ _ from e)
    case ipost =>
      rintro c st'' ⟨rfl, l, r, rfl, hl, q4, q5⟩
      show wpS _ _ _ _ (do moveDown' (lo+y) (lo+l);pure (ForInStep.yield (none, ()))) _ _
      rw [moveDown'_eq]
      have hk : lo+y < (arrOf st'').size := by omega
      refine zC (BK (zF ⟨rfl, R.arr (Rp.bubble (by omega) (by omega) hk), ?_⟩))
      rw [show min (y+1) n=y+1 by omega]
      intro i j hi hij hj
      show κ.kle (KK κ (bubble (arrOf st'') (lo+y) (lo+y - (lo+l))) i) (KK κ (bubble (arrOf st'') (lo+y) (lo+y - (lo+l))) j)
      rw [KK_bubble hk (by omega), KK_bubble hk (by omega), show lo+y - (lo+y - (lo+l))=lo+l by omega]
      repeat' split
      all_goals first
        | (exfalso;omega)
        | exact AG _
        | exact q4 _ (by omega) (by omega)
        | exact By (q5 _ (by omega) (by omega))
        | exact hs' _ _ (by omega) (by omega) (by omega)
end
theorem mI : ∀ (r : List Keyed) (z b : Nat) (arr : Array Keyed) (X Y Z : List Keyed), arr.toList=X++(Y++Z) → X.length=z+b → Y.length=r.length →
    ((r.zipIdx b).foldl (fun a (p, j) => a.setIfInBounds (z+j) p) arr).toList=X++(r++Z)
  | [], z, b, arr, X, Y, Z, e, h1, h2 => by
    rw [BW.mp h2] at e
    exact e
  | p::r, z, b, arr, X, Y, Z, e, h1, h2 => by
    cases Y with
    | nil => simp at h2
    | cons y Y =>
      rw [Dg, Dn]
      have := mI r z (b+1) (arr.setIfInBounds (z+b) p) (X++[p]) Y Z (by
        rw [CD, e, ← h1, List.set_append_right _ _ (zA _), Ca]
        simp) (by simp [h1];omega) (by simpa using h2)
      rw [this]
      simp
def mAt (i : Nat) : StateT SortSt Sem Bool := do
  let u ← get
  let (some (za, la, pw), some (zb, lb, _)) := ((pendingOf u)[i]?, (pendingOf u)[i+1]?) | unsupported "internal:list.sort.pending"
  set (setPending u (((pendingOf u).setIfInBounds i (za, la+lb, pw)).eraseIdxIfInBounds (i+1)))
  let some c ← gal false (← elem' (arrOf u) zb) (arrOf u) za la 0 | return false
  let (za, la) := (za+c, la - c)
  if la == 0 then return true
  let some lb ← gal true (← elem' (arrOf u) (za+la - 1)) (arrOf u) zb lb (lb - 1) | return false
  if lb == 0 then return true
  let x := (arrOf u).extract za zb
  let y := (arrOf u).extract zb (zb+lb)
  let out ← if la≤lb then mlo x y else mhi x y
  modify fun v => setArr v (out.toList.zipIdx.foldl (fun a (p, j) => a.setIfInBounds (za+j) p) (arrOf v))
  return (failedOf (← get)).isNone
theorem vc (i : Nat) : mergeAt' i=mAt i := rfl
end Tv
namespace Tv
open PySem PyProof.Rows
variable {κ : KeyKind} {kd : SortKind}
section
variable {prog : Program} {w : World} {A : Around} {E : Value → Shared → Prop} {s : Shared}
end
end Tv
namespace HT
open PySem PySem.Spec PyProof.Rows
section
variable {prog : Program} {w : World} {A : Around} {E : Value → Shared → Prop} {s : Shared}
end
end HT
namespace L2
open PySem PySem.Spec PyProof.Rows Wd
end L2
namespace PySem
open Sem (wp)
section
variable {prog : Program} {w : World} {A : Around} {E : Value → Shared → Prop} {s : Shared}
def ddp (val : Nat → Str) : Nat → List Str
  | 0 => []
  | i+1 => if val i∈ddp val i then ddp val i else ddp val i++[val i]
theorem mJ (val : Nat → Str) : ∀ i, (ddp val i).length≤i
  | 0 => zA _
  | i+1 => by
    have ih := mJ val i
    unfold ddp
    split
    · omega
    · rw [zo, A_];omega
section
variable {R : Result → Shared → Prop} {I : Addr} {fp wr : List Addr} {G : Array GenState → Array GenState → Prop} {n : Nat} {P : Nat → Value → Prop} {St : Nat → Shared → Prop}
end
end
end PySem
namespace PySem
open Sem (wp)
section
variable {prog : Program} {w : World} {A : Around} {E : Value → Shared → Prop} {s : Shared}
abbrev sob (led : Bool) : Obj := { cls := .type "set", dict := none, data := .set #[] 0 (.fresh 0 0 led) }
end
end PySem
namespace PySem
open Sem (wp)
def o_ (xs : Array Nat) : Prop := ∀ (i j a b : Nat), i < j → xs[i]? = some a → xs[j]? = some b → a < b
theorem gk {xs : Array Nat}{j : Nat}(hr : o_ xs) : ∀ (f lo hi : Nat), hi - lo≤f → lo≤hi → hi≤xs.size → (∀ i a, i < lo → xs[i]? = some a → a < j) → (∀ i a, hi≤i → xs[i]? = some a → j≤a) →
    SetTable.below.go xs j f lo hi≤xs.size ∧ (∀ i a, i < SetTable.below.go xs j f lo hi → xs[i]? = some a → a < j) ∧ ∀ i a, SetTable.below.go xs j f lo hi≤i → xs[i]? = some a → j≤a
  | 0, lo, hi, h, h1, h2, l, u => by
    have e : lo=hi := by omega
    unfold SetTable.below.go
    exact ⟨by omega, l, by rw [e];exact u⟩
  | f+1, lo, hi, h, h1, h2, l, u => by
    unfold SetTable.below.go
    by_cases hlt : lo < hi
    · rw [if_pos hlt]
      have hm : (lo+hi) / 2 < xs.size := by omega
      have em : xs[(lo+hi) / 2]? = some xs[(lo+hi) / 2] := DG xs _ hm
      have eg : xs.getD ((lo+hi) / 2) j=xs[(lo+hi) / 2] := by simp [Array.getD, hm]
      dsimp only
      rw [eg]
      split
      · rename_i hx
        refine gk hr f _ _ (by omega) (by omega) h2 (fun i a hi' e => ?_) u
        by_cases q : i=(lo+hi) / 2
        · subst q;rw [em] at e;cases e;exact hx
        · exact DE (hr i _ _ _ (by omega) e em) hx
      · rename_i hx
        refine gk hr f _ _ (by omega) (by omega) (by omega) l (fun i a hi' e => ?_)
        by_cases q : i=(lo+hi) / 2
        · subst q;rw [em] at e;cases e;omega
        · have := hr _ i _ _ (show (lo+hi) / 2 < i by omega) em e
          omega
    · rw [if_neg hlt]
      have e : lo=hi := by omega
      exact ⟨by omega, l, by rw [e];exact u⟩
theorem pb {xs : Array Nat}(hr : o_ xs)(j : Nat) : SetTable.below xs j≤xs.size ∧ (∀ i a, i < SetTable.below xs j → xs[i]? = some a → a < j) ∧ ∀ i a, SetTable.below xs j≤i → xs[i]? = some a → j≤a :=
  gk hr xs.size 0 xs.size (by omega) (Ao _) (zA _) (fun i a h => absurd h (Nat.not_lt_zero _)) fun i a h e => by
    have := (A7.mp e).1
    omega
theorem o_.put {xs : Array Nat}(hr : o_ xs){j : Nat}(hn : xs[SetTable.below xs j]? ≠ some j) : o_ (SetTable.insertAt xs (SetTable.below xs j) j) := by
  obtain ⟨h1, h2, h3⟩ := pb hr j
  have hl : (SetTable.insertAt xs (SetTable.below xs j) j).toList=xs.toList.take (SetTable.below xs j)++j::xs.toList.drop (SetTable.below xs j) := by
    unfold SetTable.insertAt
    simp [AE, Am]
  have at_ : ∀ k, (SetTable.insertAt xs (SetTable.below xs j) j)[k]? = if k < SetTable.below xs j then xs[k]? else if k=SetTable.below xs j then some j else xs[k - 1]? := fun k => by
    rw [← z8, hl]
    have z : (xs.toList.take (SetTable.below xs j)).length=SetTable.below xs j := by rw [zy, zk];omega
    by_cases q1 : k < SetTable.below xs j
    · rw [if_pos q1, zU (by omega), BU, if_pos q1, z8]
    · rw [if_neg q1, zL (by omega), z]
      by_cases q2 : k=SetTable.below xs j
      · rw [if_pos q2, q2, Ca]
        rfl
      · rw [if_neg q2]
        obtain ⟨m, hm⟩ : ∃ m, k - SetTable.below xs j=m+1 := ⟨k - SetTable.below xs j - 1, by omega⟩
        rw [hm, BX, Al, z8]
        congr 1
        omega
  intro i k a b hik ea eb
  rw [at_] at ea eb
  have ne : ∀ m c, SetTable.below xs j≤m → xs[m]? = some c → j < c := fun m c hm e => by
    have l := h3 m c hm e
    by_cases q : m=SetTable.below xs j
    · subst q
      have : c≠j := fun z => hn (by rw [e, z])
      omega
    · have hb : SetTable.below xs j < xs.size := by have := (A7.mp e).1;omega
      have e0 : xs[SetTable.below xs j]? = some xs[SetTable.below xs j] := DG xs _ hb
      have := h3 _ _ (zA _) e0
      have := hr _ m _ _ (by omega) e0 e
      omega
  split at ea
  · rename_i c1
    split at eb
    · exact hr i k a b hik ea eb
    · split at eb
      · cases eb;exact h2 i a c1 ea
      · have := h2 i a c1 ea
        have := ne (k - 1) b (by omega) eb
        omega
  · split at ea
    · cases ea
      rw [if_neg (by omega), if_neg (by omega)] at eb
      exact ne (k - 1) b (by omega) eb
    · rw [if_neg (by omega), if_neg (by omega)] at eb
      exact hr (i - 1) (k - 1) a b (by omega) ea eb
theorem j7 (n : Nat) : o_ (Array.range n) := fun i j a b h ea eb => by
  rw [Array.getElem?_range] at ea eb
  split at ea <;> split at eb <;> simp_all
theorem pe : o_ #[] := fun i j a b h ea => by simp at ea
theorem fi {t : SetTable}(hd : t.dummies=#[])(g : Nat → Int)(h : Int) : ∀ (f : Nat) (p : SetTable.Probe) (j : Nat) (d : Option Nat), p.dummy=none → SetTable.probe.go t g h f p=some (.empty j d) → d=none ∧ t.slot j = .empty
  | 0, p, j, d, _, e => by unfold SetTable.probe.go at e;cases e
  | f+1, p, j, d, hp, e => by
    unfold SetTable.probe.go at e
    have hh : ∀ x, SetTable.has t.dummies x=false := fun x => by rw [hd];unfold SetTable.has;simp
    have hs : ∀ x, t.slot x ≠ .dummy := fun x => by
      unfold SetTable.slot
      dsimp only
      rw [hh]
      simp only [zP, AI]
      split
      · exact fun z => by cases z
      · exact fun z => by cases z
    cases hq : t.slot p.j with
    | empty =>
      rw [hq] at e
      cases e
      exact ⟨hp, hq⟩
    | dummy => exact absurd hq (hs _)
    | live i =>
      rw [hq] at e
      have ad : (t.advance p).dummy=none := by
        unfold SetTable.advance
        split
        · exact hp
        · exact hp
      dsimp only at e
      split at e
      · cases e
      · exact fi hd g h f _ j d ad e
theorem ph {t : SetTable}(hd : t.dummies=#[]){h : Int}{j : Nat}{b : Bool}(e : t.freeSlot h=some (j, b)) : t.place[SetTable.below t.place j]? ≠ some j := by
  unfold SetTable.freeSlot SetTable.probe at e
  split at e
  · rename_i k d hq
    obtain ⟨rfl, hs⟩ := fi hd _ _ _ _ k d rfl hq
    cases e
    intro z
    unfold SetTable.slot at hs
    simp only [C_] at z
    dsimp only at hs
    rw [z] at hs
    simp at hs
  · cases e
end PySem
namespace PySem
open Sem (wp)
abbrev ldr (w : World) : Bool := !w.params.followText "set-order"
theorem j8 {t : SetTable}{es : Array (Int × Value)}{h : Int}{x : Value} : (layNew t es h x).2.1.led=t.led := by
  unfold layNew
  split
  · dsimp only
    unfold SetTable.orStandIn
    split
    · rfl
    · rfl
  · rfl
theorem j9 {t t' : SetTable}{hs : Array Int}{w : Nat}{order : Array Nat}(h : t.relaid hs w=some (t', order)) : t'.led=t.led := by
  unfold SetTable.relaid SetTable.laid at h
  cases hq : SetTable.layClean (SetTable.sizeAbove w - 1) hs with
  | none => rw [hq] at h;cases h
  | some o => rw [hq] at h;cases h;rfl
theorem hX {t : SetTable}{es : Array (Int × Value)}{w : Nat} : (relayAll t es w).2.1.led=t.led := by
  unfold relayAll
  split
  · rename_i t' order he
    dsimp only
    split
    · exact j9 he
    · rfl
  · rfl
def Tk (t : SetTable) : Prop := t.dummies=#[] ∧ o_ t.place
theorem cC {t : SetTable}{n : Nat} : Tk (t.standIn n) := ⟨rfl, j7 n⟩
theorem mK {t : SetTable}{es : Array (Int × Value)}{h : Int}{x : Value}(k : Tk t) : Tk (layNew t es h x).2.1 := by
  unfold layNew
  split
  · rename_i j d hq
    dsimp only
    unfold SetTable.orStandIn
    split
    · refine ⟨?_, k.2.put (ph k.1 hq)⟩
      have : SetTable.has t.dummies j=false := by rw [k.1];unfold SetTable.has;simp
      show (if SetTable.has t.dummies j=true then _ else t.dummies)=#[]
      rw [this]
      simpa using k.1
    · exact cC
  · exact cC
theorem mL (n : Nat)(f : Nat → Option Nat) : o_ ((((List.range n).filterMap fun j => (f j).map (j, ·)).map (·.1)).toArray) := by
  have key : ((((List.range n).filterMap fun j => (f j).map (j, ·)).map (·.1))).Pairwise (· < ·) := by
    rw [List.pairwise_map]
    refine List.Pairwise.filterMap _ (fun a a' hlt b hb b' hb' => ?_) List.pairwise_lt_range
    cases h1 : f a with
    | none => rw [h1] at hb;simp at hb
    | some x =>
      rw [h1] at hb
      cases h2 : f a' with
      | none => rw [h2] at hb';simp at hb'
      | some x' =>
        rw [h2] at hb'
        simp at hb hb'
        rw [← hb, ← hb']
        exact hlt
  intro i j a b hij ea eb
  rw [List.getElem?_toArray] at ea eb
  obtain ⟨h1, e1⟩ := zm.mp ea
  obtain ⟨h2, e2⟩ := zm.mp eb
  rw [← e1, ← e2]
  exact AQ.mp key i j h1 h2 hij
theorem iI {t : SetTable}{es : Array (Int × Value)}{w : Nat} : Tk (relayAll t es w).2.1 := by
  unfold relayAll
  split
  · rename_i t' order he
    dsimp only
    split
    · unfold SetTable.relaid SetTable.laid at he
      cases hq : SetTable.layClean (SetTable.sizeAbove w - 1) (es.map (·.1)) with
      | none => rw [hq] at he;cases he
      | some o => rw [hq] at he;cases he;exact ⟨rfl, mL _ _⟩
    · exact cC
  · exact cC
section
variable {K : Type} [DecidableEq K] {prog : Program} {w : World} {knd : KeyKind prog w K} {A : Around} {E : Value → Shared → Prop} {s : Shared}
def j_ {K : Type}[DecidableEq K]{prog : Program}{w : World}(knd : KeyKind prog w K)(h : Heap)(a : Addr)(dl : List K) : Prop :=
  ∃ o es ep t, h.get? a=some o ∧ o.ExactSet ∧ o.data = .set es ep t ∧ ElemsOf knd es.toList ∧ (∀ k, k∈dl ↔ ∃ e∈es.toList, knd.is k e.2=true) ∧ es.size < scanBound ∧ t.fits es.size=true ∧ es.size=dl.length ∧ Tk t ∧ t.led=ldr w
theorem vd {a : Addr}{o : Obj}{es es1 : Array (Int × Value)}{ep : Nat}{t t2 : SetTable}{dl : List K}(ho : s.heap.get? a=some o)(hex : o.ExactSet)(hd : o.data = .set es ep t)(hel : ElemsOf knd es1.toList)
    (hm : ∀ k, k∈dl ↔ ∃ e∈es1.toList, knd.is k e.2=true) (hb : es1.size < scanBound) (hf : t2.fits es1.size=true) (hn : es1.size=dl.length) (hp : Tk t2) (hld : t2.led=ldr w) :
    (s.heap.update a (Obj.putSet es1 t2)).get? a=some { o with data := .set es1 (ep+1) t2 } ∧ j_ knd (s.heap.update a (Obj.putSet es1 t2)) a dl := by
  have hg : (s.heap.update a (Obj.putSet es1 t2)).get? a=some { o with data := .set es1 (ep+1) t2 } := by
    have q := B9 (Obj.putSet es1 t2) ho (by rw [putSet_of es1 t2 hd];rfl)
    rwa [putSet_of es1 t2 hd] at q
  exact ⟨hg, _, es1, ep+1, t2, hg, hex, rfl, hel, hm, hb, hf, hn, hp, hld⟩
theorem xt {a : Addr}{dl : List K}{z : K}{v : Value}{Q : Bool → Shared → Prop}(hkey : knd.is z v=true)(hsc : v.scannable=true)(hS : j_ knd s.heap a dl)(hroom : dl.length+1 < scanBound)
    (h : ∀ h' b, Heap.SameBut a s.heap h' → j_ knd h' a (if z∈dl then dl else dl++[z]) → Q b { s with heap := h' }) :
    wpAny (model prog w) A (setAddHashed a v (knd.hash z)) Q E s := by
  obtain ⟨o, es, ep, t, ho, hex, hd, hel, hm, hb, hf, hn, hpl, hld⟩ := hS
  unfold setAddHashed setAddHashedIn
  refine BY (zl (wpAny_setState_of ho hd hf ?_))
  dsimp only
  rw [byScan_of (knd := knd) hsc hb hel]
  simp only [↓reduceIte]
  unfold setAddByScan
  refine zl (zl (Bk (zl (wpAny_setScan_of (knd := knd) hkey ho hd hf hel ?_))))
  cases hr : List.findIdx? (fun e => knd.is z e.2) es.toList with
  | some j =>
    dsimp only
    obtain ⟨hj, hpj, _⟩ := List.findIdx?_eq_some_iff_getElem.mp hr
    have hz : z∈dl := (hm z).mpr ⟨es.toList[j], Aj hj, hpj⟩
    refine zJ (zJ ?_)
    have q := h s.heap false (Heap.SameBut.refl a s.heap) (by rw [if_pos hz];exact ⟨o, es, ep, t, ho, hex, hd, hel, hm, hb, hf, hn, hpl, hld⟩)
    have e : s={ s with heap := s.heap } := by cases s;rfl
    rw [e];exact q
  | none =>
    dsimp only
    have hz : z∉dl := fun hz => by
      obtain ⟨e, he, hp⟩ := (hm z).mp hz
      have q := List.findIdx?_eq_none_iff.mp hr e he
      rw [hp] at q
      cases q
    have hq : ∀ h', Heap.SameBut a s.heap h' → j_ knd h' a (dl++[z]) → Q true { s with heap := h' } := fun h' sb hs => h h' true sb (by rw [if_neg hz];exact hs)
    have hperm := layNew_perm t es (knd.hash z) v
    have hfits := layNew_fits t es (knd.hash z) v
    have hoff := mK (es := es) (h := knd.hash z) (x := v) hpl
    have hl1 : (layNew t es (knd.hash z) v).2.1.led=ldr w := j8.trans hld
    generalize hL : layNew t es (knd.hash z) v=L at hperm hfits hoff hl1 ⊢
    obtain ⟨es1, t1, wasDummy, gave⟩ := L
    dsimp only at hperm hfits hoff hl1 ⊢
    rw [Bc] at hperm
    have hel1 : ElemsOf knd es1.toList := (hel.push hkey hsc).perm hperm
    have hm1 : ∀ k, k∈dl++[z] ↔ ∃ e∈es1.toList, knd.is k e.2=true := fun k => by
      rw [← mem_push_iff (knd := knd) (S := fun k => decide (k∈dl)) hkey (fun k => by rw [zE];exact hm k) hperm k]
      simp
    have hsz1 : es1.size=(dl++[z]).length := by rw [← zk, hperm.length_eq, zo, zk, hn, zo];rfl
    have hb1 : es1.size < scanBound := by rw [hsz1, zo];exact hroom
    have tail : ∀ t2 : SetTable, Tk t2 → t2.led=ldr w → t2.fits es1.size=true → wpAny (model prog w) A (do
        storeSet a es1 t2
        if (!wasDummy && t2.tooFull)=true then do
            (match (relayAll t2 es1 (SetTable.grown es1.size)).2.2 with | true => rule "set.scan.the-table-gave-way" | false => pure ())
            storeSet a (relayAll t2 es1 (SetTable.grown es1.size)).1 (relayAll t2 es1 (SetTable.grown es1.size)).2.1
            pure (some true)
          else pure (some true)) (fun r s' => wpAny (model prog w) A (match r with | some added => pure added | none => setAddHashedIn a v (knd.hash z) 99999) Q E s') E s := fun t2 hp2 hd2 hf2 => by
      refine zl (wpAny_storeSet_of ho hd ?_ (fits_of_scanBound hb1))
      obtain ⟨ho1, hS1⟩ := vd ho hex hd hel1 hm1 hb1 hf2 hsz1 hp2 hd2
      have hsb1 := Cw s.heap a (Obj.putSet es1 t2)
      split
      · have hp := relayAll_perm t2 es1 (SetTable.grown es1.size)
        have hfr := relayAll_fits t2 es1 (SetTable.grown es1.size)
        have hof := iI (t := t2) (es := es1) (w := SetTable.grown es1.size)
        have hof2 := (hX (t := t2) (es := es1) (w := SetTable.grown es1.size)).trans hd2
        generalize relayAll t2 es1 (SetTable.grown es1.size)=Rl at hp hfr hof hof2 ⊢
        obtain ⟨es2, t3, gave2⟩ := Rl
        dsimp only at hp hfr hof hof2 ⊢
        have hsz : es2.size=es1.size := by rw [← zk, hp.length_eq, zk]
        have go : wpAny (model prog w) A (storeSet a es2 t3 >>= fun _ => pure (some true)) (fun r s' => wpAny (model prog w) A (match r with | some added => pure added | none => setAddHashedIn a v (knd.hash z) 99999) Q E s') E { s with heap := s.heap.update a (Obj.putSet es1 t2) } := by
          refine zl (wpAny_storeSet_of ho1 rfl ?_ (fits_of_scanBound (by rw [hsz];exact hb1)))
          obtain ⟨_, hS2⟩ := vd (s := { s with heap := s.heap.update a (Obj.putSet es1 t2) }) ho1 hex rfl (hel1.perm hp) (fun k => (hm1 k).trans ⟨fun zq2 => (by obtain ⟨e, he, q⟩ := zq2;exact ⟨e, hp.mem_iff.mpr he, q⟩), fun zq1 => (by obtain ⟨e, he, q⟩ := zq1;exact ⟨e, hp.mem_iff.mp he, q⟩)⟩) (by rw [hsz];exact hb1) hfr (hsz.trans hsz1) hof hof2
          exact zJ (zJ (hq _ (hsb1.trans (Cw _ a _)) hS2))
        cases gave2
        · exact zl (zJ go)
        · exact zl (Bk go)
      · exact zJ (zJ (hq _ hsb1 hS1))
    have rest : wpAny (model prog w) A (do
        let byValue ← if t1.plain=true then hashByValue 8 v else pure true
        storeSet a es1 (if byValue=true then t1 else { t1 with plain := false })
        if (!wasDummy && (if byValue=true then t1 else { t1 with plain := false } : SetTable).tooFull)=true then do
            (match (relayAll (if byValue=true then t1 else { t1 with plain := false }) es1 (SetTable.grown es1.size)).2.2 with | true => rule "set.scan.the-table-gave-way" | false => pure ())
            storeSet a (relayAll (if byValue=true then t1 else { t1 with plain := false }) es1 (SetTable.grown es1.size)).1 (relayAll (if byValue=true then t1 else { t1 with plain := false }) es1 (SetTable.grown es1.size)).2.1
            pure (some true)
          else pure (some true)) (fun r s' => wpAny (model prog w) A (match r with | some added => pure added | none => setAddHashedIn a v (knd.hash z) 99999) Q E s') E s := by
      by_cases hp1 : t1.plain=true
      · rw [if_pos hp1]
        refine zl ?_
        rw [hashByValue_scannable 8 hsc]
        refine zJ ?_
        cases plainKind v
        · exact tail { t1 with plain := false } hoff hl1 (SetTable.fits_plain_off hfits)
        · exact tail t1 hoff hl1 hfits
      · rw [if_neg hp1]
        refine zl (zJ ?_)
        exact tail t1 hoff hl1 hfits
    cases gave
    · exact zl (zJ rest)
    · exact zl (Bk rest)
theorem j_.at {h h' : Heap}{a : Addr}{dl : List K}(hS : j_ knd h a dl)(k : ∀ o, h.get? a=some o → h'.get? a=some o) : j_ knd h' a dl := by
  obtain ⟨o, es, ep, t, ho, r⟩ := hS
  exact ⟨o, es, ep, t, k o ho, r⟩
section
variable {R : Result → Shared → Prop} {I : Addr} {fp wr : List Addr} {G : Array GenState → Array GenState → Prop} {n : Nat} {P : Nat → Value → Prop} {St : Nat → Shared → Prop}
theorem xu (dd : Nat → List K)(W : WalksS prog w A.in1 I fp wr G n P St)(S : Addr)(hSf : S∉fp)(val : Nat → K)(d1 : ∀ i, val i∈dd i → dd (i+1)=dd i)(d2 : ∀ i, val i∉dd i → dd (i+1)=dd i++[val i])(hl : ∀ i, (dd i).length≤i)(hval : ∀ i v, P i v → knd.is (val i) v=true ∧ v.scannable=true)(hb : n+1 < scanBound) :
    ∀ (k i : Nat) (s : Shared), n - i=k → i≤n → St i s → j_ knd s.heap S (dd i) → (∀ s', Moved (S::wr) G s s' → j_ knd s'.heap S (dd n) → R (.ok (.ret .none)) s') →
      codeAny (model prog w) A (.builtin "set.update.loop" ⟨[.ref S, .ref I], []⟩) R s := by
  have nw : S∉wr := fun q => hSf (W.sub _ q)
  have sub : ∀ b∈wr, b∈S::wr := fun b q => zB _ q
  intro k
  induction k with
  | zero =>
    intro i s hk hi st hS hR
    obtain rfl : i=n := by omega
    refine Bv BC ?_
    rw [Ce AZ _]
    show wpAny _ A.in1 (pyNext (.ref I) >>= _) _ _ s
    refine zl (W.done s _ _ st fun s' mv => ?_)
    show wpAny _ A.in1 (ret Value.none) _ _ s'
    exact zJ (hR s' (mv.mono sub) (hS.at fun o q => mv.heap S o nw q))
  | succ k ih =>
    intro i s hk hi st hS hR
    have hlt : i < n := by omega
    refine Bv BC ?_
    rw [Ce AZ _]
    show wpAny _ A.in1 (pyNext (.ref I) >>= _) _ _ s
    refine zl (W.item i s _ _ hlt st fun v s' hP st' mv => ?_)
    obtain ⟨hk, hsc⟩ := hval i v hP
    have hS' : j_ knd s'.heap S (dd i) := hS.at fun o q => mv.heap S o nw q
    show wpAny _ A.in1 (holding [v] (setAdd S v) >>= _) _ _ s'
    refine zl (BY ?_)
    unfold setAdd
    refine BY (zl (knd.pyHash (k := val i) hk ?_))
    have hl := hl i
    refine xt (s := { s' with toks := s'.toks+1 }) hk hsc hS' (by omega) fun h' b sb hS2 => ?_
    refine zJ ⟨plainId_quiet AZ _, ih (i+1) _ (by omega) hlt (W.frame _ s' _ _ st' (Cr _) fun c hc o q => ?_) (by split at hS2;(rw [d1 i ‹_›];exact hS2);(rw [d2 i ‹_›];exact hS2)) fun s'' mv2 hS3 => ?_⟩
    · rw [sb.2 c (fun e : c=S => hSf (e ▸ hc))];exact q
    · refine hR s'' (Moved.trans W.gtrans ((mv.mono sub).then_heap (Cr _) fun c o hc q => ?_) mv2) hS3
      rw [sb.2 c (fun e : c=S => hc (e ▸ zK))];exact q
end
theorem gp (a : Value){Q₁ : Value → Shared → Prop}(q : Q₁ (.ref s.heap.objs.size) { s with heap := s.heap.push (sob (ldr w)) }) :
    codeAny (model prog w) A (.call (.builtin "set.__new__") ⟨[.type "set", a], []⟩) (wants Q₁ E) s := by
  refine codeAny_of_tree ?_
  show wpAny _ A.in1 (do checkBuiltinCall "set.__new__" ⟨[.type "set", a], []⟩;again (.builtin "set.__new__" ⟨[.type "set", a], []⟩)) _ _ s
  refine zl (Cv (F.newCall_set_1 a) (zJ ⟨plainId_quiet F.plain_set_new _, Bv F.entry_set_new ?_⟩))
  rw [Ce F.plain_set_new _]
  unfold Builtin.«set.__new__» Builtin.Frozenset.newClass
  have hsub := sub_set_self
  obtain ⟨hp, gn, dr, tk, os⟩ := s
  dsimp only
  wp_walk
  refine wpAny_askSetting (zJ ?_)
  dsimp only
  simp only [newObj]
  exact zl (wpAny_alloc (zJ (zJ q)))
abbrev ve (prog : Program)(w : World)(h : Heap)(a : Addr)(dl : List Str) : Prop := j_ (strKind prog w) h a dl
end
end PySem
namespace PySem
open Sem (wp)
section
variable {prog : Program} {w : World} {A : Around} {E : Value → Shared → Prop} {s : Shared}
end
end PySem
namespace PySem
open Sem (wp)
section
variable {prog : Program} {w : World} {A : Around} {E : Value → Shared → Prop} {s : Shared}
end
end PySem
namespace PySem
open Sem (wp)
section
variable {prog : Program} {w : World} {A : Around} {E : Value → Shared → Prop} {s : Shared}
end
end PySem
namespace Tv
open PySem PyProof.Rows
variable {κ : KeyKind} {kd : SortKind}
theorem Lel.sym_take {l : List Keyed}(h : Srt κ l)(i : Nat) : Lel κ (l.take i) (l.drop i) := by
  have : Srt κ (l.take i++l.drop i) := by rw [zQ];exact h
  exact (aZ.mp this).2.2
theorem Lel.memL {l l' m : List Keyed}(h : Lel κ l m)(hs : ∀ x∈l', x∈l) : Lel κ l' m := fun x hx y hy => h x (hs x hx) y hy
theorem Lel.memR {l m m' : List Keyed}(h : Lel κ l m)(hs : ∀ x∈m', x∈m) : Lel κ l m' := fun x hx y hy => h x hx y (hs y hy)
theorem Lel.mid {l m : List Keyed}{x : Keyed}(h : Lel κ l [x])(g : Lel κ [x] m) : Lel κ l m := fun a ha b hb => c9 (h a ha x (zr.mpr rfl)) (g x (zr.mpr rfl) b hb)
theorem gq {l : List Keyed}{x : Keyed}(h : Srt κ l)(e : l[0]? = some x) : Lel κ [x] l := fun a ha y hy => by
  rw [zr] at ha
  subst ha
  obtain ⟨i, hi⟩ := AF hy
  exact h.at (Ao _) e hi
theorem mM {l : List Keyed}{x : Keyed}(h : Srt κ l)(e : l[l.length - 1]? = some x) : Lel κ l [x] := fun a ha y hy => by
  rw [zr] at hy
  subst hy
  obtain ⟨i, hi⟩ := AF ha
  have := (zm.mp hi).1
  exact h.at (by omega) hi e
theorem rT {l m n : List Keyed} : Lel κ (l++m) n ↔ Lel κ l n ∧ Lel κ m n :=
  ⟨fun h => ⟨h.memL fun x hx => z6 _ hx, h.memL fun x hx => zG _ hx⟩, fun h x hx => (Ac.mp hx).elim (h.1 x) (h.2 x)⟩
theorem jD {l m n : List Keyed} : Lel κ l (m++n) ↔ Lel κ l m ∧ Lel κ l n :=
  ⟨fun h => ⟨h.memR fun x hx => z6 _ hx, h.memR fun x hx => zG _ hx⟩, fun h x hx y hy => (Ac.mp hy).elim (h.1 x hx y) (h.2 x hx y)⟩
theorem vf {A B r : List Keyed}{c m : Nat}{b0 al : Keyed}(sA : Srt κ A)(sB : Srt κ B)(e0 : B[0]? = some b0)(el : A[A.length - 1]? = some al)
    (h1 : Lel κ (A.take c) [b0]) (h2 : Lel κ [al] (B.drop m)) (M : Mg κ (A.drop c) (B.take m) r) : Mg κ A B (A.take c++(r++B.drop m)) := by
  have mm : ∀ x, x∈r ↔ x∈A.drop c++B.take m := fun x => M.1.mem_iff
  refine ⟨?_, aZ.mpr ⟨sA.take c, aZ.mpr ⟨M.2, sB.drop m, ?_⟩, jD.mpr ⟨?_, ?_⟩⟩⟩
  · have : (A.take c++(r++B.drop m)).Perm (A.take c++((A.drop c++B.take m)++B.drop m)) := AK _ (M.1.append_right _)
    refine this.trans (List.Perm.of_eq ?_)
    rw [zw, ← zw, zQ, zQ]
  · refine Lel.memL (l := A.drop c++B.take m) (rT.mpr ⟨?_, Lel.sym_take sB m⟩) fun x hx => (mm x).mp hx
    exact Lel.mid ((mM sA el).memL fun x hx => BA hx) h2
  · refine Lel.memR (m := A.drop c++B.take m) (jD.mpr ⟨Lel.sym_take sA c, ?_⟩) fun x hx => (mm x).mp hx
    exact Lel.mid h1 ((gq sB e0).memR fun x hx => BB hx)
  · exact Lel.mid h1 ((gq sB e0).memR fun x hx => BA hx)
section
variable {prog : Program} {w : World} {A : Around} {E : Value → Shared → Prop} {s : Shared}
theorem rV {st u : SortSt}{Q : PUnit → SortSt → Prop}(h : Q ⟨⟩ u) : wpS (model prog w) A E s (set u : StateT SortSt Sem PUnit) Q st := by
  unfold wpS
  rw [StateT.run_set]
  exact zJ ⟨rfl, h⟩
theorem jE {st : SortSt}{lf : Bool}{key : Keyed}{arr : Array Keyed}{P M S : List Keyed}{z n h : Nat}{Q : Option Nat → SortSt → Prop}(hO : Lt1 κ prog w A s kd)(hB : TB kd st)(hk : Gd κ key)(hg : ∀ x∈arr.toList, Gd κ x)(ea : arr.toList=P++(M++S))(lp : P.length=z)(ln : M.length=n)(sa : Srt κ M)(hh : h < n)
    (hq : ∀ k, k≤n → (∀ x∈M.take k, bdB κ lf (kof κ key) (kof κ x)=true) → (∀ x∈M.drop k, bdB κ lf (kof κ key) (kof κ x)=false) → Q (some k) st) :
    wpS (model prog w) A E s (gal lf key arr z n h) Q st := by
  have ga : ∀ i, i < n → arr[z+i]? = M[i]? := fun i hi => by
    rw [← z8, ea, zL (by omega), zU (by omega)]
    congr 1
    omega
  have gm : ∀ x∈M, Gd κ x := fun x hx => hg x (by rw [ea];exact zG _ (z6 _ hx))
  refine iG hO hB hk (fun t => match M[t]? with | some p => bdB κ lf (kof κ key) (kof κ p) | none => false) hh (fun t ht => ?_) (fun t u htu hu hb => ?_) (fun k hk' h1 h2 => hq k hk' (fun x hx => ?_) fun x hx => ?_)
  · have hlt : t < M.length := by omega
    have e := fu hlt
    exact ⟨M[t], by rw [ga t ht, e], gm _ (Aj _), by rw [e]⟩
  · have e1 := fu (l := M) (i := t) (by omega)
    have e2 := fu (l := M) (i := u) (by omega)
    rw [e1]
    rw [e2] at hb
    have le := sa.at htu e1 e2
    dsimp only at hb ⊢
    cases lf with
    | true => exact KeyOrd.klt_of_kle_of_klt le hb
    | false =>
      have le2 := c9 le (dX hb)
      show (!κ.blt _ _)=true
      rw [show κ.blt (kof κ key) (kof κ M[t])=false from le2]
      rfl
  · obtain ⟨i, hi⟩ := AF hx
    have l1 := (zm.mp hi).1
    rw [zy] at l1
    rw [Ag (by omega)] at hi
    have := h1 i (by omega)
    rw [hi] at this
    exact this
  · obtain ⟨i, hi⟩ := AF hx
    rw [Al] at hi
    have l1 := (zm.mp hi).1
    have := h2 (k+i) (by omega) (by omega)
    rw [hi] at this
    exact this
theorem mN {arr : Array Keyed}{P M S : List Keyed}{i j : Nat}(e : arr.toList=P++(M++S))(h1 : P.length=i)(h2 : j=i+M.length) : (arr.extract i j).toList=M := by
  rw [AE, e, List.extract_eq_drop_take, ← h1, List.drop_left, h2, ← h1, Bf, List.take_left]
theorem rX {st : SortSt}{i z na nb pw pw2 : Nat}{P Aa B S : List Keyed}{Q : Bool → SortSt → Prop}(hO : Lt1 κ prog w A s kd)(hB : TB kd st)(g : ∀ x∈(arrOf st).toList, Gd κ x)(e1 : (pendingOf st)[i]? = some (z, na, pw))(e2 : (pendingOf st)[i+1]? = some (z+na, nb, pw2))
    (ea : (arrOf st).toList=P++(Aa++(B++S))) (lp : P.length=z) (la : Aa.length=na) (lb : B.length=nb) (h0 : 0 < na) (h1 : 0 < nb) (sA : Srt κ Aa) (sB : Srt κ B)
    (h : ∀ st' R, TB kd st' → pendingOf st'=((pendingOf st).setIfInBounds i (z, na+nb, pw)).eraseIdxIfInBounds (i+1) → (arrOf st').toList=P++(R++S) → Mg κ Aa B R → Q true st') : wpS (model prog w) A E s (mergeAt' i) Q st := by
  have eb : (arrOf st).toList=(P++Aa)++(B++S) := by rw [ea, zw]
  rw [vc]
  unfold mAt
  refine zC (Cz ?_)
  rw [e1, e2]
  dsimp only
  refine zC (rV ?_)
  have hB' : TB kd (setPending st (((pendingOf st).setIfInBounds i (z, na+nb, pw)).eraseIdxIfInBounds (i+1))) := ⟨hB.kind, hB.failed⟩
  generalize hst' : setPending st (((pendingOf st).setIfInBounds i (z, na+nb, pw)).eraseIdxIfInBounds (i+1))=st' at hB' ⊢
  have hp' : pendingOf st'=((pendingOf st).setIfInBounds i (z, na+nb, pw)).eraseIdxIfInBounds (i+1) := by rw [← hst']
  have har : arrOf st'=arrOf st := by rw [← hst']
  obtain ⟨b0, eb0⟩ : ∃ b0, B[0]? = some b0 := ⟨_, fu (by omega)⟩
  obtain ⟨al, eal⟩ : ∃ al, Aa[Aa.length - 1]? = some al := ⟨_, fu (by omega)⟩
  have gA : ∀ x∈Aa, Gd κ x := fun x hx => g x (by rw [ea];simp [hx])
  have gB : ∀ x∈B, Gd κ x := fun x hx => g x (by rw [ea];simp [hx])
  have x0 : (arrOf st).toList[z+na]? = some b0 := by
    rw [eb, zL (by simp;omega), zU (by simp;omega)]
    rw [show z+na - (P++Aa).length=0 by simp;omega]
    exact eb0
  have xl : (arrOf st).toList[z+na - 1]? = some al := by
    rw [ea, zL (by omega), zU (by omega)]
    rw [show z+na - 1 - P.length=Aa.length - 1 by omega]
    exact eal
  refine zC (aK x0 ?_)
  refine zC (jE hO hB' (gB b0 (An eb0)) g ea lp la sA h0 fun c hc t1 t2 => ?_)
  dsimp only
  have k1 : Lel κ (Aa.take c) [b0] := fun x hx y hy => by
    rw [zr] at hy
    subst hy
    exact dX (t1 x hx)
  have k2 : Lel κ [b0] (Aa.drop c) := fun x hx y hy => by
    rw [zr] at hx
    subst hx
    exact eI (t2 y hy)
  by_cases hc0 : na - c=0
  · refine ao (by simpa using hc0) ?_
    have : Aa.take c=Aa := Am (by omega)
    rw [this] at k1
    exact zF (h st' (Aa++B) hB' hp' (by rw [har, ea, zw]) ⟨Bl _, aZ.mpr ⟨sA, sB, k1.mid (gq sB eb0)⟩⟩)
  · refine aq (by simpa using hc0) ?_
    rw [show z+c+(na - c) - 1=z+na - 1 by omega]
    refine zC (aK xl ?_)
    refine zC (jE hO hB' (gA al (An eal)) g eb (by simp;omega) lb sB (by omega) fun m hm u1 u2 => ?_)
    dsimp only
    have k3 : Lel κ (B.take m) [al] := fun x hx y hy => by
      rw [zr] at hy
      subst hy
      exact iH (u1 x hx)
    have k4 : Lel κ [al] (B.drop m) := fun x hx y hy => by
      rw [zr] at hx
      subst hx
      exact gi (u2 y hy)
    by_cases hm0 : m=0
    · refine ao (by simpa using hm0) ?_
      subst hm0
      exact zF (h st' (Aa++B) hB' hp' (by rw [har, ea, zw]) ⟨Bl _, aZ.mpr ⟨sA, sB, (mM sA eal).mid k4⟩⟩)
    · refine aq (by simpa using hm0) ?_
      have ec : (arrOf st).toList=(P++Aa.take c)++(Aa.drop c++(B++S)) := by
        rw [ea]
        conv => lhs;rw [← zQ c Aa]
        simp only [zw]
      have ed : (arrOf st).toList=(P++Aa)++(B.take m++(B.drop m++S)) := by
        rw [eb]
        conv => lhs;rw [← zQ m B]
        simp only [zw]
      have ex : ((arrOf st).extract (z+c) (z+na)).toList=Aa.drop c := mN ec (by simp;omega) (by simp;omega)
      have ey : ((arrOf st).extract (z+na) (z+na+m)).toList=B.take m := mN ed (by simp;omega) (by simp;omega)
      have sx : ((arrOf st).extract (z+c) (z+na)).size=na - c := by rw [← zk, ex];simp;omega
      have sy : ((arrOf st).extract (z+na) (z+na+m)).size=m := by rw [← zk, ey];simp;omega
      generalize (arrOf st).extract (z+c) (z+na)=x at ex sx ⊢
      generalize (arrOf st).extract (z+na) (z+na+m)=y at ey sy ⊢
      have ga : ∀ t∈x.toList, Gd κ t := fun t ht => gA t (by rw [ex] at ht;exact BA ht)
      have gb : ∀ t∈y.toList, Gd κ t := fun t ht => gB t (by rw [ey] at ht;exact BB ht)
      have sx' : Srt κ x.toList := by rw [ex];exact sA.drop c
      have sy' : Srt κ y.toList := by rw [ey];exact sB.take m
      have y0 : y.toList[0]? = some b0 := by rw [ey, Ag (by omega)];exact eb0
      have xn : x.toList[x.size - 1]? = some al := by
        rw [ex, Al, sx, show c+(na - c - 1)=Aa.length - 1 by omega]
        exact eal
      have fin : ∀ (r : Array Keyed) (st2 : SortSt), Ok kd st' st2 → Mg κ x.toList y.toList r.toList → wpS (model prog w) A E s (do
          modify fun v => setArr v (r.toList.zipIdx.foldl (fun a (p, j) => a.setIfInBounds (z+c+j) p) (arrOf v))
          return (failedOf (← get)).isNone : StateT SortSt Sem Bool) Q st2 := fun r st2 ok M => by
        rw [ex, ey] at M
        have lr : r.toList.length=(Aa.drop c++B.take m).length := M.1.length_eq
        refine zC (BK ?_)
        refine zC (Cz ?_)
        refine zF ?_
        have hf : failedOf (setArr st2 (r.toList.zipIdx.foldl (fun a (p, j) => a.setIfInBounds (z+c+j) p) (arrOf st2)))=none := ok.tb.failed
        rw [hf]
        refine h _ (Aa.take c++(r.toList++B.drop m)) ⟨ok.tb.kind, ok.tb.failed⟩ (ok.pd.trans hp') ?_ (vf sA sB eb0 eal k1 k4 M)
        show (r.toList.zipIdx.foldl (fun a (p, j) => a.setIfInBounds (z+c+j) p) (arrOf st2)).toList=_
        rw [mI r.toList (z+c) 0 (arrOf st2) (P++Aa.take c) (Aa.drop c++B.take m) (B.drop m++S) (by
          rw [ok.ar, har, ea]
          conv => lhs;rw [← zQ c Aa, ← zQ m B]
          simp only [zw]) (by simp;omega) lr.symm]
        simp only [zw]
      by_cases hle : na - c≤m
      · refine ao hle ?_
        refine zC (rP hO hB' ga gb sx' sy' (by omega) (by omega) (fun p q hp hq => ?_) (fun t ht => ?_) fun r st2 ok M => fin r st2 ok M)
        · rw [y0] at hq
          cases hq
          rw [ex] at hp
          exact k2 _ (zr.mpr rfl) _ (An hp)
        · rw [xn] at ht
          cases ht
          rw [ey]
          exact k3
      · refine aq hle ?_
        refine zC (rR hO hB' ⟨ga, gb, sx', sy', fun t ht => ?_⟩ (by omega) (by omega) (fun t ht => ?_) fun r st2 ok M => fin r st2 ok M)
        · rw [y0] at ht
          cases ht
          rw [ex]
          exact k2
        · rw [xn] at ht
          cases ht
          rw [ey]
          exact k3
end
end Tv
namespace Tv
open PySem PyProof.Rows
variable {κ : KeyKind} {kd : SortKind}
def PdL (κ : KeyKind) : Nat → List (Nat × Nat × Nat) → List (List Keyed) → Prop
  | _, [], [] => True
  | z, p::ps, r::rs => p.1=z ∧ p.2.1=r.length ∧ 0 < r.length ∧ Srt κ r ∧ PdL κ (z+r.length) ps rs
  | _, _, _ => False
theorem PdL.app : ∀ {p q : List (Nat × Nat × Nat)} {z : Nat} {rs : List (List Keyed)}, PdL κ z (p++q) rs → ∃ r1 r2, rs=r1++r2 ∧ r1.length=p.length ∧ PdL κ z p r1 ∧ PdL κ (z+r1.flatten.length) q r2
  | [], q, z, rs, h => ⟨[], rs, rfl, rfl, trivial, h⟩
  | _::_, q, z, [], h => h.elim
  | _::p, q, z, r::rs, h => by
    obtain ⟨a1, a2, a3, a4, a5⟩ := h
    obtain ⟨r1, r2, e, l, b1, b2⟩ := PdL.app a5
    refine ⟨r::r1, r2, by rw [e];rfl, by simp [l], ⟨a1, a2, a3, a4, b1⟩, ?_⟩
    rw [AC, zo, ← DA]
    exact b2
theorem PdL.join : ∀ {p q : List (Nat × Nat × Nat)} {z : Nat} {r1 r2 : List (List Keyed)}, PdL κ z p r1 → PdL κ (z+r1.flatten.length) q r2 → PdL κ z (p++q) (r1++r2)
  | [], q, z, [], r2, _, h => h
  | [], q, z, _::_, r2, h, _ => h.elim
  | _::_, q, z, [], r2, h, _ => h.elim
  | _::p, q, z, r::r1, r2, h, g => by
    obtain ⟨a1, a2, a3, a4, a5⟩ := h
    rw [AC, zo, ← DA] at g
    exact ⟨a1, a2, a3, a4, PdL.join a5 g⟩
theorem PdL.len : ∀ {p : List (Nat × Nat × Nat)} {z : Nat} {rs : List (List Keyed)}, PdL κ z p rs → p.length≤rs.flatten.length
  | [], z, [], _ => Ao _
  | [], z, _::_, h => h.elim
  | _::_, z, [], h => h.elim
  | _::p, z, r::rs, h => by
    obtain ⟨a1, a2, a3, a4, a5⟩ := h
    have := PdL.len a5
    rw [AC, zo, zY]
    omega
theorem PdL.same : ∀ {p q : List (Nat × Nat × Nat)} {z : Nat} {rs : List (List Keyed)}, PdL κ z p rs → q.map (fun t => (t.1, t.2.1))=p.map (fun t => (t.1, t.2.1)) → PdL κ z q rs
  | [], [], z, rs, h, _ => h
  | [], _::_, z, rs, _, e => by simp at e
  | _::_, [], z, rs, _, e => by simp at e
  | _::_, _::_, z, [], h, _ => h.elim
  | x::p, y::q, z, r::rs, h, e => by
    obtain ⟨a1, a2, a3, a4, a5⟩ := h
    simp only [z9, Dq, Prod.mk.injEq] at e
    exact ⟨e.1.1.trans a1, e.1.2.trans a2, a3, a4, PdL.same a5 e.2⟩
theorem mO {f : Nat × Nat × Nat → Nat × Nat × Nat}(hf : ∀ t, (f t).1=t.1 ∧ (f t).2.1=t.2.1) : ∀ (l : List (Nat × Nat × Nat)) (i : Nat), (l.modify i f).map (fun t => (t.1, t.2.1))=l.map (fun t => (t.1, t.2.1))
  | [], i => by cases i <;> rfl
  | x::l, 0 => by
    show ((f x).1, (f x).2.1)::_=_
    rw [(hf x).1, (hf x).2]
    rfl
  | x::l, i+1 => by
    show (x.1, x.2.1)::(l.modify i f).map _=_
    rw [mO hf l i]
    rfl
theorem mP {xs : Array Keyed}{i : Nat}{x : Keyed}(h : xs.toList[i]? = some x) : KK κ xs i=kof κ x := by
  rw [z8] at h
  unfold KK kof
  rw [h]
structure Iv (kd : SortKind) (κ : KeyKind) (a0 : Array Keyed) (st : SortSt) (lo : Nat) : Prop where
  tb : TB kd st
  pm : (arrOf st).Perm a0
  ex : ∃ rs T, (arrOf st).toList=rs.flatten++T ∧ rs.flatten.length=lo ∧ PdL κ 0 (pendingOf st).toList rs
theorem Iv.gd {a0 : Array Keyed}{st : SortSt}{lo : Nat}(I : Iv kd κ a0 st lo)(h0 : KeysOf κ a0) : ∀ x∈(arrOf st).toList, Gd κ x := fun x hx => h0 x ((A8.mp I.pm).mem_iff.mp hx)
theorem Iv.part {a0 : Array Keyed}{st st' : SortSt}{lo hi : Nat}(I : Iv kd κ a0 st lo)(R : Rs kd κ lo hi st st') : Iv kd κ a0 st' lo := by
  obtain ⟨rs, T, e, l, p⟩ := I.ex
  refine ⟨R.tb, R.rp.pm.trans I.pm, rs, (arrOf st').toList.drop lo, ?_, l, by rw [R.pd];exact p⟩
  have : (arrOf st').toList.take lo=rs.flatten := by
    have e2 : (arrOf st).toList.take lo=rs.flatten := by rw [e, ← l, List.take_left]
    rw [← e2]
    apply List.ext_getElem?
    intro k
    by_cases hk : k < lo
    · rw [Ag hk, Ag hk, z8, z8, R.rp.out k (.inl hk)]
    · rw [AA (by rw [zy];omega), AA (by rw [zy];omega)]
  rw [← this, zQ]
theorem Iv.mod {a0 : Array Keyed}{st : SortSt}{lo i : Nat}(I : Iv kd κ a0 st lo){f : Nat × Nat × Nat → Nat × Nat × Nat}(hf : ∀ t, (f t).1=t.1 ∧ (f t).2.1=t.2.1) : Iv kd κ a0 (setPending st ((pendingOf st).modify i f)) lo := by
  obtain ⟨rs, T, e, l, p⟩ := I.ex
  refine ⟨⟨I.tb.kind, I.tb.failed⟩, I.pm, rs, T, e, l, ?_⟩
  show PdL κ 0 ((pendingOf st).modify i f).toList rs
  rw [Array.toList_modify]
  exact p.same (mO hf _ _)
theorem Iv.push {a0 : Array Keyed}{st : SortSt}{lo n w : Nat}(I : Iv kd κ a0 st lo)(hn : 0 < n)(hz : lo+n≤(arrOf st).size)(hs : SrI κ (arrOf st) lo (lo+n)) : Iv kd κ a0 (setPending st ((pendingOf st).push (lo, n, w))) (lo+n) := by
  obtain ⟨rs, T, e, l, p⟩ := I.ex
  have lT : lo+T.length=(arrOf st).size := by rw [← zk, e, zo, l]
  have ln : (T.take n).length=n := by rw [zy];omega
  have at_ : ∀ i x, T[i]? = some x → KK κ (arrOf st) (lo+i)=kof κ x := fun i x hx => mP (by rw [e, zL (by omega), ← l, Bf];exact hx)
  refine ⟨⟨I.tb.kind, I.tb.failed⟩, I.pm, rs++[T.take n], T.drop n, ?_, ?_, ?_⟩
  · show (arrOf st).toList=_
    rw [e, Bg, B0, zw, zQ]
  · rw [Bg, B0, zo, l, ln]
  · show PdL κ 0 ((pendingOf st).push (lo, n, w)).toList _
    rw [Bc]
    refine PdL.join p ⟨by rw [l];omega, ln.symm, by omega, ?_, trivial⟩
    refine AQ.mpr fun i j hi hj hij => ?_
    rw [zy] at hi hj
    rw [List.getElem_take, List.getElem_take]
    have := hs (lo+i) (lo+j) (by omega) (by omega) (by omega)
    rw [at_ i _ (fu (by omega)), at_ j _ (fu (by omega))] at this
    exact this
theorem vg {l : List (Nat × Nat × Nat)}{i : Nat}(h : i+1 < l.length) : ∃ p x y q, l=p++x::y::q ∧ p.length=i := by
  refine ⟨l.take i, l[i], l[i+1], l.drop (i+2), ?_, by rw [zy];omega⟩
  conv => lhs;rw [← zQ i l]
  rw [Aq (by omega), Aq h]
section
variable {prog : Program} {w : World} {A : Around} {E : Value → Shared → Prop} {s : Shared}
theorem eJ {a0 : Array Keyed}{st : SortSt}{lo i : Nat}{Q : Bool → SortSt → Prop}(hO : Lt1 κ prog w A s kd)(h0 : KeysOf κ a0)(I : Iv kd κ a0 st lo)(hi : i+1 < (pendingOf st).size)
    (h : ∀ st', Iv kd κ a0 st' lo → (pendingOf st').size+1=(pendingOf st).size → (∀ k, lo≤k → (arrOf st')[k]? = (arrOf st)[k]?) → Q true st') : wpS (model prog w) A E s (mergeAt' i) Q st := by
  obtain ⟨rs, T, e, l, p⟩ := I.ex
  obtain ⟨p1, x, y, p2, ep, lp⟩ := vg (l := (pendingOf st).toList) (i := i) (by rw [zk];exact hi)
  rw [ep] at p
  obtain ⟨r1, r2, er, _, P1, P2⟩ := p.app
  match r2, P2, er with
  | A1::B1::r2, P2, er =>
    obtain ⟨x1, x2, x3, x4, y1, y2, y3, y4, P3⟩ := P2
    obtain ⟨xa, xb, xc⟩ := x
    obtain ⟨ya, yb, yc⟩ := y
    dsimp only at x1 x2 y1 y2
    subst er
    have ea : (arrOf st).toList=r1.flatten++(A1++(B1++(r2.flatten++T))) := by
      rw [e]
      simp only [Bg, AC, zw]
    have e1 : (pendingOf st)[i]? = some (r1.flatten.length, A1.length, xc) := by
      rw [← z8, ep, zL (by omega), lp, Ca, x1, x2, DF]
      rfl
    have e2 : (pendingOf st)[i+1]? = some (r1.flatten.length+A1.length, B1.length, yc) := by
      rw [← z8, ep, zL (by omega), lp, Bf, y1, y2, DF]
      rfl
    refine rX hO I.tb (I.gd h0) e1 e2 ea rfl rfl rfl x3 y3 x4 y4 fun st' R t1 t2 t3 M => ?_
    have lR : R.length=A1.length+B1.length := by rw [M.1.length_eq, zo]
    have ep' : (pendingOf st').toList=p1++(r1.flatten.length, A1.length+B1.length, xc)::p2 := by
      rw [t2, Array.toList_eraseIdxIfInBounds, CD, ep, List.set_append_right _ _ (by omega), List.eraseIdx_append_of_length_le (by omega), lp, Ca, Bf]
      rfl
    have eT : (arrOf st').toList=(r1++R::r2).flatten++T := by
      rw [t3]
      simp only [Bg, AC, zw]
    have lT : (r1++R::r2).flatten.length=lo := by
      rw [← l]
      simp only [Bg, AC, zo, lR]
      omega
    refine h st' ⟨t1, ?_, r1++R::r2, T, eT, lT, ?_⟩ ?_ fun k hk => ?_
    · refine Array.Perm.trans (A8.mpr ?_) I.pm
      rw [t3, ea, ← zw A1]
      exact AK _ (M.1.append_right _)
    · rw [ep']
      refine PdL.join P1 ⟨by omega, lR.symm, by omega, M.2, ?_⟩
      rw [lR, ← DA]
      exact P3
    · rw [← zk, ← zk, ep', ep]
      simp only [zo, zY]
      omega
    · rw [← z8, ← z8, eT, e, zL (by omega), zL (by omega), lT, l]
theorem Iv.done {a0 : Array Keyed}{st : SortSt}(I : Iv kd κ a0 st a0.size)(h : (pendingOf st).size≤1) : SortedToK κ (arrOf st) a0.size := by
  obtain ⟨rs, T, e, l, p⟩ := I.ex
  have hz : (arrOf st).toList.length=a0.size := by rw [zk];exact I.pm.size_eq
  have hT : T=[] := BW.mp (by rw [e, zo, l] at hz;omega)
  subst hT
  rw [Bq] at e
  rw [← zk] at h
  have sr : Srt κ (arrOf st).toList := by
    rw [e]
    match (pendingOf st).toList, rs, p, h with
    | [], [], _, _ => exact List.Pairwise.nil
    | [_], [r], p, _ => rw [B0];exact p.2.2.2.1
    | _::_::_, _, _, h => simp at h
  intro i j hij hj
  have e1 := fu (l := (arrOf st).toList) (i := i) (by omega)
  have e2 := fu (l := (arrOf st).toList) (i := j) (by omega)
  rw [mP e1, mP e2]
  exact sr.at hij e1 e2
structure SB (kd : SortKind) (a0 : Array Keyed) (st : SortSt) : Prop where
  perm : (arrOf st).Perm a0
  kind : kindOf st=kd
  failed : failedOf st=none
  pend : pendingOf st=#[]
theorem pj {a0 : Array Keyed}{st : SortSt}{Q : Unit → SortSt → Prop}(hO : Lt1 κ prog w A s kd)(h0 : KeysOf κ a0)(hB : SB kd a0 st)
    (h : ∀ st', (arrOf st').Perm a0 → failedOf st'=none → SortedToK κ (arrOf st') a0.size → Q () st') : wpS (model prog w) A E s sortRuns' Q st := by
  rw [sortRuns'_eq]
  refine zC (Cz ?_)
  dsimp only
  simp only [hB.perm.size_eq]
  refine zC (AX (Au
    (I := fun x c st' => ∃ lo, c=(none, lo) ∧ x≤lo ∧ lo≤a0.size ∧ Iv kd κ a0 st' lo)
    (Q := fun c st' => c=(none, a0.size) ∧ Iv kd κ a0 st' a0.size) ?step ?fin ⟨0, rfl, zA _, Ao _, ⟨hB.kind, hB.failed⟩, hB.perm, [], (arrOf st).toList, rfl, rfl, by rw [hB.pend];exact trivial⟩) ?post)
  case fin =>
    rintro c st' ⟨lo, rfl, h1, h2, I⟩
    have : lo=a0.size := by omega
    subst this
    exact ⟨rfl, I⟩
  case step =>
    rintro x c st' hx1 hx2 ⟨lo, rfl, h1, h2, I⟩
    have hz : (arrOf st').size=a0.size := I.pm.size_eq
    dsimp only
    by_cases hge : lo≥a0.size
    · refine ao hge ?_
      have : lo=a0.size := by omega
      subst this
      exact zF ⟨rfl, I⟩
    · refine aq hge ?_
      refine zC (o8 hO I.tb (I.gd h0) (by omega) (by omega) fun n st2 n1 n2 R s2 => ?_)
      have I2 := I.part R
      have hz2 : (arrOf st2).size=a0.size := I2.pm.size_eq
      dsimp only
      by_cases hm : n < minRun' a0.size a0.size 0
      · refine ao hm ?_
        refine zC (Du (Bk ⟨rfl, ?_⟩))
        refine zC (o9 hO I2.tb (I2.gd h0) (by omega) (by omega) s2 fun st3 R3 s3 => ?_)
        simp only [Ci, zP, AI]
        have M1 : 1≤(min (a0.size - lo) (minRun' a0.size a0.size 0)) := by omega
        have M2 : lo+(min (a0.size - lo) (minRun' a0.size a0.size 0))≤a0.size := by omega
        have IX := I2.part R3
        have S3 := s3
        refine zC (Cz ?_)
        cases (pendingOf st3).back? with
        | none => exact zC (BK (zF ⟨lo+(min (a0.size - lo) (minRun' a0.size a0.size 0)), rfl, by omega, M2, IX.push M1 (by rw [IX.pm.size_eq];exact M2) S3⟩))
        | some t =>
          obtain ⟨a, b, c⟩ := t
          dsimp only
          refine zC (AX (Au (I := fun _ c st3' => c=(none, ()) ∧ Iv kd κ a0 st3' lo ∧ ∀ k, lo≤k → (arrOf st3')[k]? = (arrOf st3)[k]?)
            (Q := fun c st3' => c=(none, ()) ∧ Iv kd κ a0 st3' lo ∧ ∀ k, lo≤k → (arrOf st3')[k]? = (arrOf st3)[k]?) ?step1 (fun _ _ h => h) ⟨rfl, IX, fun _ _ => rfl⟩) ?post1)
          case step1 =>
            rintro y c st3' _ _ ⟨rfl, Iw, kw⟩
            refine zC (Cz ?_)
            by_cases hz : (pendingOf st3').size > 1
            · rw [if_pos hz]
              cases e : (pendingOf st3')[(pendingOf st3').size - 2]? with
              | none => exact zF ⟨rfl, Iw, kw⟩
              | some t =>
                obtain ⟨a', b', c'⟩ := t
                dsimp only
                by_cases hp : c'≤power' a0.size (2*a+b) (2*a+b+b+(min (a0.size - lo) (minRun' a0.size a0.size 0))) a0.size
                · refine ao hp ?_
                  exact zF ⟨rfl, Iw, kw⟩
                · refine aq hp ?_
                  refine zC (eJ hO h0 Iw (by omega) fun stq Iq _ k2 => ?_)
                  simp only [Ci, zP, AI]
                  exact zF ⟨rfl, Iq, fun k hk => (k2 k hk).trans (kw k hk)⟩
            · rw [if_neg hz]
              exact zF ⟨rfl, Iw, kw⟩
          case post1 =>
            rintro c st3' ⟨rfl, Iw, kw⟩
            dsimp only
            refine zC (BK ?_)
            have J2 := Iw.mod (i := (pendingOf st3').size - 1) (f := fun t => (t.1, t.2.1, power' a0.size (2*a+b) (2*a+b+b+(min (a0.size - lo) (minRun' a0.size a0.size 0))) a0.size)) fun t => ⟨rfl, rfl⟩
            refine zC (BK (zF ⟨lo+(min (a0.size - lo) (minRun' a0.size a0.size 0)), rfl, by omega, M2, J2.push M1 (by rw [J2.pm.size_eq];exact M2) fun i j hi hij hj => ?_⟩))
            show κ.kle (KK κ (arrOf st3') i) (KK κ (arrOf st3') j)
            rw [KK_congr (kw i (by omega)), KK_congr (kw j (by omega))]
            exact S3 i j hi hij hj
      · refine aq hm ?_
        have M1 : 1≤n := by omega
        have M2 : lo+n≤a0.size := by omega
        have IX := I2
        have S3 := s2
        refine zC (Cz ?_)
        cases (pendingOf st2).back? with
        | none => exact zC (BK (zF ⟨lo+n, rfl, by omega, M2, IX.push M1 (by rw [IX.pm.size_eq];exact M2) S3⟩))
        | some t =>
          obtain ⟨a, b, c⟩ := t
          dsimp only
          refine zC (AX (Au (I := fun _ c st2' => c=(none, ()) ∧ Iv kd κ a0 st2' lo ∧ ∀ k, lo≤k → (arrOf st2')[k]? = (arrOf st2)[k]?)
            (Q := fun c st2' => c=(none, ()) ∧ Iv kd κ a0 st2' lo ∧ ∀ k, lo≤k → (arrOf st2')[k]? = (arrOf st2)[k]?) ?step2 (fun _ _ h => h) ⟨rfl, IX, fun _ _ => rfl⟩) ?post2)
          case step2 =>
            rintro y c st2' _ _ ⟨rfl, Iw, kw⟩
            refine zC (Cz ?_)
            by_cases hz : (pendingOf st2').size > 1
            · rw [if_pos hz]
              cases e : (pendingOf st2')[(pendingOf st2').size - 2]? with
              | none => exact zF ⟨rfl, Iw, kw⟩
              | some t =>
                obtain ⟨a', b', c'⟩ := t
                dsimp only
                by_cases hp : c'≤power' a0.size (2*a+b) (2*a+b+b+n) a0.size
                · refine ao hp ?_
                  exact zF ⟨rfl, Iw, kw⟩
                · refine aq hp ?_
                  refine zC (eJ hO h0 Iw (by omega) fun stq Iq _ k2 => ?_)
                  simp only [Ci, zP, AI]
                  exact zF ⟨rfl, Iq, fun k hk => (k2 k hk).trans (kw k hk)⟩
            · rw [if_neg hz]
              exact zF ⟨rfl, Iw, kw⟩
          case post2 =>
            rintro c st2' ⟨rfl, Iw, kw⟩
            dsimp only
            refine zC (BK ?_)
            have J2 := Iw.mod (i := (pendingOf st2').size - 1) (f := fun t => (t.1, t.2.1, power' a0.size (2*a+b) (2*a+b+b+n) a0.size)) fun t => ⟨rfl, rfl⟩
            refine zC (BK (zF ⟨lo+n, rfl, by omega, M2, J2.push M1 (by rw [J2.pm.size_eq];exact M2) fun i j hi hij hj => ?_⟩))
            show κ.kle (KK κ (arrOf st2') i) (KK κ (arrOf st2') j)
            rw [KK_congr (kw i (by omega)), KK_congr (kw j (by omega))]
            exact S3 i j hi hij hj
  case post =>
    rintro c st' ⟨rfl, I⟩
    dsimp only
    refine zC (AX (Au (I := fun x c st'' => c=(none, ()) ∧ Iv kd κ a0 st'' a0.size ∧ ((pendingOf st'').size+x≤a0.size ∨ (pendingOf st'').size≤1))
      (Q := fun c st'' => c=(none, ()) ∧ Iv kd κ a0 st'' a0.size ∧ (pendingOf st'').size≤1) ?_ ?_ ⟨rfl, I, ?_⟩) ?_)
    · rintro x c st'' _ hx ⟨rfl, I', hp⟩
      refine zC (Cz ?_)
      by_cases h1 : (pendingOf st'').size≤1
      · refine ao h1 ?_
        exact zF ⟨rfl, I', h1⟩
      · refine aq h1 ?_
        refine zC (eJ hO h0 I' (have pick : ∀ (b : Bool) (n : Nat), 1 < n → (if b=true then n - 2 - 1 else n - 2)+1 < n := (fun b n hn => by cases b <;> simp <;> omega);pick _ _ (by omega)) fun st2 I2 z2 _ => ?_)
        simp only [Ci, zP, AI]
        exact zF ⟨rfl, I2, .inl (by omega)⟩
    · rintro c st'' ⟨rfl, I', hp⟩
      exact ⟨rfl, I', by omega⟩
    · obtain ⟨rs, T, e, l, p⟩ := I.ex
      have := p.len
      rw [zk, l] at this
      exact .inl (by omega)
    · rintro c st'' ⟨rfl, I', hp⟩
      exact zF (h st'' I'.pm I'.tb.failed (I'.done hp))
end
end Tv
namespace Tv
open PySem PyProof.Rows
variable {κ : KeyKind} {kd : SortKind}
section
variable {prog : Program} {w : World} {A : Around} {E : Value → Shared → Prop} {s : Shared}
theorem pk {a : Addr}{its : List Value}{m : Nat}{P : Fin → Shared → Prop}(at_ : s.heap.get? a=some (seqObj "list" its.toArray m))(g : KeysOf κ (pairsOf its))
    (hO : Lt1 κ prog w A { s with heap := ((s.heap.update a (Obj.mapSeq fun _ => #[])).push (seqObj "tuple" its.toArray 0)).push (seqObj "list" #[] 0) } kd) (one : ∀ x y r, its=x::y::r → ∀ (Q : SortKind → Shared → Prop), Q kd { s with heap := ((s.heap.update a (Obj.mapSeq fun _ => #[])).push (seqObj "tuple" its.toArray 0)).push (seqObj "list" #[] 0) } → wpAny (model prog w) A (keyKind' (x::y::r).toArray) Q E { s with heap := ((s.heap.update a (Obj.mapSeq fun _ => #[])).push (seqObj "tuple" its.toArray 0)).push (seqObj "list" #[] 0) }) (lim : its.length≤sizeLine)
    (q : ∀ st : SortSt, (arrOf st).Perm (pairsOf its) → SortedToK κ (arrOf st) (pairsOf its).size → P (.done (.ret .none)) { s with heap := sortedHeap s.heap a its ((arrOf st).map (·.2)) }) :
    wpAny (model prog w) A (Builtin.«list.sort» ⟨[.ref a], []⟩) P E s := by
  have la := zM at_
  have lz : its.toArray.size=its.length := by simp
  rw [list_sort_plain]
  refine zl (Cb at_ rfl (zl (C6 at_ rfl ?_ (by rw [lz];exact lim))))
  obtain ⟨n1, at1⟩ : ∃ n1, (s.heap.update a (Obj.mapSeq fun _ => #[])).get? a=some (seqObj "list" #[] n1) := ⟨_, get?_update_seq at_ fun _ => #[]⟩
  refine zl (seqEpoch_at at1 rfl (zl (wpAny_newTuple (zl (Cg (BY ?_))))))
  have at2 : (((s.heap.update a (Obj.mapSeq fun _ => #[])).push (seqObj "tuple" its.toArray 0)).push (seqObj "list" #[] 0)).get? a=some (seqObj "list" #[] n1) :=
    zq _ (zq _ at1)
  show wpAny (model prog w) A _ P E { s with heap := ((s.heap.update a (Obj.mapSeq fun _ => #[])).push (seqObj "tuple" its.toArray 0)).push (seqObj "list" #[] 0) }
  dsimp only
  by_cases two : its.toArray.size < 2
  · rw [if_pos two, if_pos two]
    refine zl (zJ ?_)
    rw [StateT.run_pure]
    refine zl (zJ ?_)
    dsimp only
    have zz : ((its.toArray.zip its.toArray).map (·.2)).size≤sizeLine+1 := by
      rw [Array.size_map]
      show (pairsOf its).size≤_
      rw [pairsOf_size]
      omega
    refine zl (seqEpoch_at at2 rfl (zl (C6 at2 rfl ?_ (hsz2 := zz))))
    simp only [bne_self_eq_false, zP, AI]
    refine zJ (q (SortSt.mk' general' (its.toArray.zip its.toArray) #[] 7 none) (Ds _) fun i j hij hj => ?_)
    rw [pairsOf_size] at hj
    have : i=j := by omega
    subst this
    exact AG _
  · rw [if_neg two, if_neg two]
    obtain ⟨x, y, r, rfl⟩ : ∃ x y r, its=x::y::r := by
      match its, lz, two with
      | [], _, t => exact absurd (by simp) t
      | [_], _, t => exact absurd (by simp) t
      | x::y::r, _, _ => exact ⟨x, y, r, rfl⟩
    refine zl (one _ _ _ rfl _ (zl (A2 (pj (κ := κ) hO (a0 := pairsOf (x::y::r)) (st := SortSt.mk' kd ((x::y::r).toArray.zip (x::y::r).toArray) #[] 7 none)
      (Q := fun _ st => (arrOf st).Perm (pairsOf (x::y::r)) ∧ failedOf st=none ∧ SortedToK κ (arrOf st) (pairsOf (x::y::r)).size) g ⟨Ds _, rfl, rfl, rfl⟩ fun st c1 c2 c3 => ⟨c1, c2, c3⟩) ?_ fun _ _ e => e)))
    rintro ⟨⟨⟩, st⟩ s2 ⟨rfl, c1, c2, c3⟩
    dsimp only
    have zz : ((arrOf st).map (·.2)).size≤sizeLine+1 := by
      rw [Array.size_map, c1.size_eq, pairsOf_size]
      omega
    refine zl (seqEpoch_at at2 rfl (zl (C6 at2 rfl ?_ (hsz2 := zz))))
    rw [c2]
    simp only [bne_self_eq_false, zP, AI]
    exact zJ (q st c1 c3)
end
end Tv
namespace Ts
open PySem PyProof.Rows
section
variable {κ : KeyKind} {prog : Program} {w : World} {A : Around} {E : Value → Shared → Prop} {s : Shared}
end
end Ts
namespace Wd
section
variable {α : Type}
def Adj : List α → α → α → Prop
  | a::b::t, x, y => (x=a ∧ y=b) ∨ Adj (b::t) x y
  | _, _, _ => False
end
end Wd
namespace Wd
section
variable {α : Type}
end
def Row (u : List L)(C : List Nat)(g : Nat) : Prop := ∀ a b, Adj (C++[g]) a b → b=u5 u a
end Wd
namespace Wd
def J (u v : List L) : Prop := ∀ x y, u.getLast? = some x → v.head? = some y → y≠inv x
theorem bO : ∀ (u v : List L), Rd (u++v) ↔ Rd u ∧ Rd v ∧ J u v
  | [], v => by
    constructor
    · intro h
      exact ⟨trivial, h, fun x y hx => by simp at hx⟩
    · intro h
      exact h.2.1
  | [x], [] => by
    constructor
    · intro h
      exact ⟨trivial, trivial, fun x y _ hy => by simp at hy⟩
    · intro _
      exact trivial
  | [x], y::v => by
    constructor
    · intro h
      refine ⟨trivial, h.2, fun a b ha hb => ?_⟩
      have ha : x=a := by simpa using ha
      have hb : y=b := by simpa using hb
      subst ha hb
      exact h.1
    · intro h
      exact ⟨h.2.2 x y rfl rfl, h.2.1⟩
  | x::y::u, v => by
    have ih := bO (y::u) v
    constructor
    · intro h
      have h2 := ih.mp h.2
      refine ⟨⟨h.1, h2.1⟩, h2.2.1, fun a b ha hb => h2.2.2 a b ?_ hb⟩
      rw [C7] at ha
      exact ha
    · intro h
      refine ⟨h.1.1, ih.mpr ⟨h.1.2, h.2.1, fun a b ha hb => h.2.2 a b ?_ hb⟩⟩
      rw [C7]
      exact ha
theorem vh {x y : L}(h : y=inv x) : x=inv y := by rw [h, aX]
theorem jF : ∀ {w : List L}, Rd w → Rd w.reverse
  | [], _ => trivial
  | x::w, h => by
    rw [A3, bO]
    refine ⟨jF h.tail, trivial, fun a b ha hb => ?_⟩
    have hb : x=b := by simpa using hb
    subst hb
    cases w with
    | nil => simp at ha
    | cons y w =>
      have ha : y=a := by simpa using ha
      subst ha
      intro e
      exact h.1 (vh e)
theorem mQ {w : List L}(h : Rd w) : red w=w := by
  unfold red
  have := lF (jF h)
  rw [Bz] at this
  rw [this, Bz]
theorem vi (w : List L) : Rd (red w) := jF (lD w lH)
theorem xv {w : List L}(h : Rd w) : Rd (bk w) := by
  have q : ∀ w : List L, Rd w → Rd (w.map inv) := by
    intro w
    induction w with
    | nil => intro _;trivial
    | cons x w ih =>
      intro h
      cases w with
      | nil => trivial
      | cons y w => exact ⟨fun e => h.1 (by have e2 := zR inv e;rw [aX, aX] at e2;rw [e2]), ih h.2⟩
  exact jF (q w h)
structure Rnd (c : List L) : Prop where
  ne : c≠[]
  rd : Rd c
  jn : J c c
theorem px {r : List L}(h : r≠[])(n : Nat) : (rep (n+1) r).head? = r.head? := by
  show (rep n r++r).head? = _
  rw [fY]
  cases r with
  | nil => exact absurd rfl h
  | cons x r => rfl
theorem pA {r : List L}(h : r≠[])(n : Nat) : (rep (n+1) r).getLast? = r.getLast? := by
  show (rep n r++r).getLast? = _
  rw [List.getLast?_append]
  cases hr : r.getLast? with
  | none => exact absurd (List.getLast?_eq_none_iff.mp hr) h
  | some x => rfl
theorem jG {r : List L}{n : Nat}(h : Rnd (rep (n+1) r)) : Rnd r := by
  have hne : r≠[] := by
    intro e
    subst e
    have : rep (n+1) ([] : List L)=[] := by
      apply Aw
      rw [fe]
      rfl
    exact h.ne this
  have hr : Rd (rep n r++r) := h.rd
  rw [bO] at hr
  refine ⟨hne, hr.2.1, fun x y hx hy => ?_⟩
  exact h.jn x y (by rw [pA hne];exact hx) (by rw [px hne];exact hy)
theorem vj {q : List L}(R : Rnd q) : Rnd (bk q) := by
  refine ⟨fun e => R.ne (by have := zR bk e;rw [uW] at this;exact this), xv R.rd, fun x y hx hy => ?_⟩
  have hx : ∃ a, q.head? = some a ∧ x=inv a := by
    unfold bk at hx
    rw [List.getLast?_reverse, List.head?_map] at hx
    cases hq : q.head? with
    | none => rw [hq] at hx;simp at hx
    | some a => rw [hq] at hx;exact ⟨a, rfl, (zD hx).symm⟩
  have hy : ∃ a, q.getLast? = some a ∧ y=inv a := by
    unfold bk at hy
    rw [List.head?_reverse, List.getLast?_map] at hy
    cases hq : q.getLast? with
    | none => rw [hq] at hy;simp at hy
    | some a => rw [hq] at hy;exact ⟨a, rfl, (zD hy).symm⟩
  obtain ⟨a, ha, rfl⟩ := hx
  obtain ⟨b, hb, rfl⟩ := hy
  intro e
  have := zR inv e
  rw [aX, aX] at this
  exact R.jn b a hb ha (by rw [this, aX])
end Wd
namespace L2
open PySem PySem.Spec PyProof.Rows Wd
def rnd (w : List L)(t : Nat) : Nat := ((w.map cp)[t % w.length]?).getD 0
theorem rnd_at {w : List L}{t : Nat}{x : L}(h : (w++w)[t]? = some x) : rnd w t=cp x := by
  unfold rnd
  have hl := (zm.mp h).1
  rw [zo] at hl
  by_cases c : t < w.length
  · rw [A9 c, zW]
    rw [zU c] at h
    rw [h]
    rfl
  · have e : t % w.length=t - w.length := by
      rw [Nat.mod_eq_sub_mod (by omega), A9 (by omega)]
    rw [e, zW]
    rw [zL (by omega)] at h
    rw [h]
    rfl
end L2
namespace Wd
theorem pB {x : L}{r : List L}(h : Rnd (x::r)) : Rnd (r++[x]) := by
  obtain ⟨_, h2, h3⟩ := h
  refine ⟨by simp, ?_, ?_⟩
  · rw [bO]
    refine ⟨h2.tail, trivial, fun a b ha hb => ?_⟩
    have hb : x=b := zD hb
    subst hb
    refine h3 a x ?_ rfl
    rw [List.getLast?_cons, ha]
    rfl
  · intro a b ha hb
    have ha : x=a := by simpa using ha
    subst ha
    cases r with
    | nil =>
      have hb : x=b := zD hb
      subst hb
      exact fun e => g9 _ e.symm
    | cons y r =>
      have hb : y=b := zD hb
      subst hb
      exact h2.1
end Wd
namespace L2
open PySem PySem.Spec PyProof.Rows Wd
end L2
namespace Wd
def Gc (u : List L)(C : List Nat) : Prop := ∃ g r, C=g::r ∧ Row u C g
structure HI (u : List L) (i : Nat) (Cs : List (List Nat)) : Prop where
  s : (rM u i).1=Cs.flatten
  w : (rM u i).2=Cs.map (List.map (xp u))
  sn : Sn u Cs.flatten
  gc : ∀ C∈Cs, Gc u C
  al : ∀ g, g < i → g∈Cs.flatten
theorem jH {α β : Type}(f : α → β) : ∀ {l : List α}, l.Nodup → (∀ x∈l, ∀ y∈l, f x=f y → x=y) → (l.map f).Nodup
  | [], _, _ => A0
  | a::t, nd, h => by
    rw [z9, z7]
    obtain ⟨h1, h2⟩ := z7.mp nd
    refine ⟨fun q => ?_, jH f h2 fun x hx y hy => h x (zB _ hx) y (zB _ hy)⟩
    obtain ⟨b, hb, e⟩ := Ak.mp q
    have := h b (zB _ hb) a zK e
    exact h1 (this ▸ hb)
end Wd
namespace Wd
section
variable {α : Type}
end
end Wd
namespace Wd
section
variable {α : Type}
end
end Wd
namespace Wd
end Wd
namespace Wd
end Wd
namespace PySem
end PySem
namespace L2
open PySem PySem.Spec PyProof.Rows Wd
section
variable {X : Cx}
end
end L2
namespace L2
open PySem PySem.Spec PyProof.Rows Wd
section
variable {X : Cx}
end
end L2
namespace Wd
def img (ws : List (List L))(x : L) : List L := if x.val < 6 then ws.getD x.val [] else bk (ws.getD (x.val - 6) [])
def sub (ws : List (List L))(u : List L) : List L := u.flatMap (img ws)
theorem iJ (x : L) : (inv x).val=if x.val < 6 then x.val+6 else x.val - 6 := by unfold inv; split <;> rfl
def InM (n : Nat)(u : List L) : Prop := ∀ x∈u, x.val % 6 < n
theorem InM.bk {n : Nat}{u : List L}(h : InM n u) : InM n (bk u) := by
  intro x hx
  unfold Wd.bk at hx
  rw [Dh, Ak] at hx
  obtain ⟨y, hy, rfl⟩ := hx
  have h1 := h y hy
  have := y.isLt
  rw [iJ]
  split <;> omega
theorem mR : ∀ (u st : List L) (x : L), x∈act u st → x∈u ∨ x∈st
  | [], st, x, h => .inr h
  | y::u, st, x, h => by
    rw [fX] at h
    rcases mR u _ x h with h | h
    · exact .inl (zB _ h)
    · cases st with
      | nil =>
        have h : x∈[y] := h
        rw [zr] at h
        exact .inl (h ▸ zK)
      | cons z r =>
        have h : x∈(if z=inv y then r else y::z::r) := h
        split at h
        · exact .inr (zB _ h)
        · rcases zN.mp h with h | h
          · exact .inl (h ▸ zK)
          · exact .inr h
theorem rY {u : List L}{x : L}(h : x∈red u) : x∈u := by
  unfold red at h
  rw [Dh] at h
  rcases mR u [] x h with h | h
  · exact h
  · cases h
end Wd
namespace PySem
section
variable {prog : Program} {w : World} {A : Around} {E : Value → Shared → Prop}
end
end PySem
namespace L2
open PySem PySem.Spec PyProof.Rows Wd
section
variable {X : Cx} {pos : Pos}
inductive xw (x : V)(y : V)(H : Hp)(Q : VK) : Prop
  | mk : ∀ da db, (Dt H x da) → (Dt H y db) → (da.canLay0=true) → (db.canLay0=true) → (da.depth≤10) → (Q (.bl (!PyData.eqv da db)) H) → xw x y H Q
theorem c_ (hu : X.A.units+64 < cLine) : OpR X (compareOp .NotEq) xw := by
  intro pins s σ H x y v u Q I rx ry h
  obtain ⟨da, db, ha, hb, la, lb, dp, q⟩ := h
  obtain ⟨as, ra⟩ := ha.reads I.hok rx
  obtain ⟨bs, rb⟩ := hb.reads I.hok ry
  exact CV (SeqAt.rcNeAt_reads ra rb la lb (by omega)) ⟨.bl _, H, I, rfl, q⟩
end
end L2
namespace L2
open PySem PySem.Spec PyProof.Rows Wd
section
variable {X : Cx}
end
theorem vk : ∀ i : _root_.Fin 6, ("abcdef" : Str).cps[i.val]? = some (cp ⟨i.val, by omega⟩) := by decide +kernel
theorem sm_at {i c : Nat}(h : ("abcdef" : Str).cps[i]? = some c) : ∃ x : L, x.val=i ∧ i < 6 ∧ c=cp x := by
  have hl : i < 6 := by
    obtain ⟨h1, _⟩ := A7.mp h
    have : ("abcdef" : Str).cps.size=6 := by decide +kernel
    omega
  have := vk ⟨i, hl⟩
  rw [this] at h
  exact ⟨⟨i, by omega⟩, rfl, hl, (zD h).symm⟩
end L2
namespace Kx
open PySem PySem.Spec PyProof.Rows L2 Wd
inductive iK (vs : List V)(H : Hp)(Q : VK)(u3_ : XK) : Prop
  | mk : ∀ (d : Addr) (m n : Int), (vs=[.ref d, .int m, .int n]) → (Fd H d) → (1≤m) → (m≤6) → (0≤n) → (n≤60) → (∀ (u : List L) (H' : Hp), u.length≤n.toNat → InM m.toNat u → Fd H' d → bj d H H' → Q (tx u) H') → iK vs H Q u3_
theorem xx {m : Int}(h1 : 1≤m)(h2 : m≤6) : InM m.toNat (sg m) := by
  have : m=1 ∨ m=2 ∨ m=3 ∨ m=4 ∨ m=5 ∨ m=6 := by omega
  rcases this with rfl | rfl | rfl | rfl | rfl | rfl <;> (unfold InM;decide)
theorem InM.snoc {n : Nat}{u : List L}{x : L}(h : InM n u)(hx : x.val % 6 < n) : InM n (u++[x]) := fun y hy => by
  rcases Ac.mp hy with hy | hy
  · exact h y hy
  · rw [zr] at hy;exact hy ▸ hx
theorem InM.nil {n : Nat} : InM n [] := fun y hy => by cases hy
end Kx
namespace Wd
end Wd
namespace L2
open PySem PySem.Spec PyProof.Rows Wd
section
variable {X : Cx}
end
end L2
namespace Kx
open PySem PySem.Spec PyProof.Rows L2 Wd
end Kx
namespace L2
open PySem PySem.Spec PyProof.Rows Wd
section
variable {X : Cx}
end
end L2
namespace L2
open PySem PySem.Spec PyProof.Rows
section
variable {prog : Program} {w : World} {A : Around} {E : Value → Shared → Prop} {s : Shared}
end
section
variable {X : Cx}
end
end L2
namespace L2
open PySem PySem.Spec PyProof.Rows Wd
section
variable {X : Cx}
end
end L2
namespace Kx
open PySem PySem.Spec PyProof.Rows L2 Wd
end Kx
namespace Kx
open PySem PySem.Spec PyProof.Rows L2 Wd
end Kx
namespace L2
open PySem PySem.Spec PyProof.Rows Wd
section
variable {X : Cx}
end
end L2
namespace Wd
structure Ren (u : List L) (f : L → L) : Prop where
  iv : ∀ x, f (inv x)=inv (f x)
  inj : ∀ x∈u, ∀ y∈u, f x=f y → x=y
def nm (N : List L)(x : L) : L := if x.val < 6 then N.getD x.val 0 else inv (N.getD (x.val - 6) 0)
theorem mS (N : List L)(x : L) : nm N (inv x)=inv (nm N x) := by
  unfold nm
  have e := iJ x
  have := x.isLt
  by_cases h : x.val < 6
  · rw [if_pos h] at e
    rw [if_pos h, if_neg (by omega), e, Nat.add_sub_cancel]
  · rw [if_neg h] at e
    rw [if_neg h, if_pos (by omega), e, aX]
structure Nm (N : List L) (k : Nat) : Prop where
  pm : (N.map fun x : L => x.val % 6).Perm (List.range k)
  hi : k≤6
theorem Nm.len {N : List L}{k : Nat}(h : Nm N k) : N.length=k := by
  have := h.pm.length_eq
  simpa using this
theorem mT (N : List L)(x : L) : (nm N x).val % 6=(N.getD (x.val % 6) 0).val % 6 := by
  unfold nm
  have := x.isLt
  by_cases h : x.val < 6
  · rw [if_pos h, A9 h]
  · rw [if_neg h, gf, show x.val % 6=x.val - 6 by omega]
theorem mU {x y : L}(h : x.val % 6=y.val % 6) : x=y ∨ x=inv y := by
  have q : ∀ x y : L, x.val % 6=y.val % 6 → x=y ∨ x=inv y := by decide
  exact q x y h
theorem Nm.ren {N : List L}{k : Nat}(h : Nm N k){u : List L}(hu : ∀ x∈u, x.val % 6 < k) : Ren u (nm N) := by
  refine ⟨mS N, fun x hx y hy e => ?_⟩
  have e2 : (nm N x).val % 6=(nm N y).val % 6 := by rw [e]
  rw [mT, mT] at e2
  have hl := h.len
  have hx' := hu x hx
  have hy' := hu y hy
  have nd : (N.map fun x : L => x.val % 6).Nodup := h.pm.nodup_iff.mpr Di
  have g : ∀ i, i < k → (N.map fun x : L => x.val % 6)[i]? = some ((N.getD i 0).val % 6) := fun i hi => by
    rw [zW, fu (by omega), zx, fu (by omega)]
    rfl
  have g1 := g _ hx'
  have g2 := g _ hy'
  rw [e2] at g1
  have hm : x.val % 6=y.val % 6 := by
    obtain ⟨hi, e1⟩ := zm.mp g1
    obtain ⟨hj, e2⟩ := zm.mp g2
    have p := AQ.mp nd
    rcases Nat.lt_trichotomy (x.val % 6) (y.val % 6) with h | h | h
    · exact absurd (e1.trans e2.symm) (p _ _ hi hj h)
    · exact h
    · exact absurd (e2.trans e1.symm) (p _ _ hj hi h)
  rcases mU hm with h | h
  · exact h
  · rw [h, mS] at e
    exact absurd e (g9 _)
theorem Nm.lt {N : List L}{k : Nat}(h : Nm N k){x : L}(hx : x.val % 6 < k) : (nm N x).val % 6 < k := by
  rw [mT]
  have hl := h.len
  have : (N.getD (x.val % 6) 0).val % 6∈N.map fun x : L => x.val % 6 := by
    rw [zx, fu (by omega)]
    exact Ak.mpr ⟨_, Aj _, rfl⟩
  exact Ba.mp (h.pm.mem_iff.mp this)
end Wd
namespace L2
open PySem PySem.Spec PyProof.Rows Wd
theorem eK {α β : Type}(f : α → β){zs ys : List β}(p : ys.Perm zs) : ∀ W : List α, ys=W.map f → ∃ V : List α, V.Perm W ∧ zs=V.map f := by
  induction p with
  | nil =>
    intro W e
    exact ⟨W, .refl _, e⟩
  | cons x _ ih =>
    intro W e
    cases W with
    | nil => cases e
    | cons w W =>
      obtain ⟨e1, e2⟩ := Be e
      obtain ⟨V, h1, h2⟩ := ih W e2
      exact ⟨w::V, h1.cons w, by rw [h2, e1];rfl⟩
  | swap x y l =>
    intro W e
    match W, e with
    | a::b::W, e =>
      obtain ⟨e1, e2⟩ := Be e
      obtain ⟨e2, e3⟩ := Be e2
      exact ⟨b::a::W, List.Perm.swap a b W, by rw [e1, e2, e3];rfl⟩
  | trans _ _ ih1 ih2 =>
    intro W e
    obtain ⟨V, h1, h2⟩ := ih1 W e
    obtain ⟨V2, h3, h4⟩ := ih2 V h2
    exact ⟨V2, h3.trans h1, h4⟩
section
variable {X : Cx}
end
end L2
namespace Kx
open PySem PySem.Spec PyProof.Rows L2 Wd
structure kr (H : Hp) (a : Addr) (N : List L) (j : Nat) : Prop where
  ex : ∃ kvs : List (Key × V), H a=some (.dK kvs) ∧ kvs.length≤2*j ∧ ∀ x : L, x.val % 6 < j → cM kvs (Sum.inr (toS [x]))=some (tx [nm N x])
theorem kr.at_ {H H' : Hp}{a : Addr}{N : List L}{j : Nat}(h : kr H a N j)(e : ∀ o, H a=some o → H' a=some o) : kr H' a N j := by
  obtain ⟨kvs, h1, h2, h3⟩ := h.ex
  exact ⟨kvs, e _ h1, h2, h3⟩
theorem kr.same {H H' : Hp}{a : Addr}{N : List L}{j : Nat}(h : kr H a N j)(s : aA H H') : kr H' a N j := h.at_ fun o e => s _ _ e
inductive iL (vs : List V)(H : Hp)(Q : VK)(u3_ : XK) : Prop
  | mk : ∀ (a : Addr) (w N : List L) (k : Nat), (vs=[.ref a, tx w]) → (kr H a N k) → ((∀ x∈w, x.val % 6 < k)) → (w.length≤2000) → (∀ H', aA H H' → Q (tx (w.map (nm N))) H') → iL vs H Q u3_
end Kx
namespace L2
open PySem PySem.Spec PyProof.Rows
theorem eL (val : Nat → Str) : ∀ i, (ddp val i).Nodup
  | 0 => by unfold ddp;exact A0
  | i+1 => by
    unfold ddp
    split
    · exact eL val i
    · rename_i h
      exact List.nodup_append.mpr ⟨eL val i, z7.mpr ⟨zZ, A0⟩, fun a ha b hb e => h (by rw [zr] at hb;subst hb;subst e;exact ha)⟩
theorem mV (val : Nat → Str)(z : Str) : ∀ i, z∈ddp val i ↔ ∃ j, j < i ∧ val j=z
  | 0 => by unfold ddp;simp
  | i+1 => by
    have ih := mV val z i
    unfold ddp
    split
    · rename_i h
      rw [ih]
      constructor
      · rintro ⟨j, hj, e⟩;exact ⟨j, by omega, e⟩
      · rintro ⟨j, hj, e⟩
        by_cases q : j=i
        · subst q
          rw [← e]
          rw [e] at h ⊢
          exact ih.mp h
        · exact ⟨j, by omega, e⟩
    · rw [Ac, ih, zr]
      constructor
      · rintro (⟨j, hj, e⟩ | e)
        · exact ⟨j, by omega, e⟩
        · exact ⟨i, by omega, e.symm⟩
      · rintro ⟨j, hj, e⟩
        by_cases q : j=i
        · subst q;exact .inr e.symm
        · exact .inl ⟨j, by omega, e⟩
theorem cn : ∀ {dl zs : List Str}, dl.Nodup → (∀ k∈dl, k∈zs) → zs.length≤dl.length → zs.Perm dl
  | [], zs, _, _, h => by rw [BW.mp (Nat.le_zero.mp h)]
  | d::dl, zs, nd, m, h => by
    have hd := m d zK
    have p := List.perm_cons_erase hd
    refine p.trans (List.Perm.cons _ ?_)
    obtain ⟨n1, n2⟩ := z7.mp nd
    refine cn n2 (fun k hk => ?_) ?_
    · have := m k (zB _ hk)
      exact (Cf (fun e => n1 (by rw [← e];exact hk))).mpr this
    · rw [BL hd]
      simp at h
      omega
section
variable {prog : Program} {w : World} {A : Around} {E : Value → Shared → Prop} {s : Shared}
end
section
variable {X : Cx}
def StO (P : Program)(w : World)(a : Addr)(dl : List Str) : HO := .ext fun h => ve P w h a dl
theorem ve.lay {P : Program}{w : World}{H : Hp}{h : Heap}{a : Addr}{dl : List Str}(x : ve P w h a dl) : bG P w H h a (StO P w a dl) := by
  refine ⟨x, ?_, fun h1 h2 y k => y.at k⟩
  obtain ⟨o, _, _, _, e, _⟩ := x
  exact ⟨o, e⟩
end
section
variable {prog : Program} {w : World} {A : Around} {E : Value → Shared → Prop} {s : Shared}
end
section
variable {X : Cx}
end
end L2
namespace Ts
open PySem PyProof.Rows
def iOf : Value → Int
  | .int x _ => x
  | _ => 0
theorem jI : ∀ (vs : List Value), (∀ v, v∈vs → ∃ x t, v = .int x t) → IntsAre vs (vs.map iOf)
  | [], _ => .nil
  | v::vs, h => by
    obtain ⟨x, t, rfl⟩ := h v (zK ..)
    exact .cons x t (jI vs fun u hu => h u (zB _ hu))
end Ts
namespace L2
open PySem PySem.Spec PyProof.Rows Wd Ts
section
variable {prog : Program} {w : World} {A : Around} {E : Value → Shared → Prop} {s : Shared}
theorem iM {l : Addr}{vs : List Value}{Q : List Value → Shared → Prop}(hl : s.heap.IsTuple l vs.toArray)
    (h : Q vs { s with heap := (s.heap.push (seqObj "list" #[] 0)).update s.heap.objs.size (Obj.mapSeq (· ++ vs.toArray)) }) (hsz : vs.length≤sizeLine := by size_fits) :
    wpAny (model prog w) A (collect (.ref l)) Q E s := by
  obtain ⟨o, ho, hc, n, hd⟩ := id hl
  unfold collect
  refine zl (wpAny_runValue (Bv entry_proto_collect' ?_))
  show wpAny _ _ (do again (.builtin "list.__iadd__" ⟨[← newList [], .ref l], []⟩)) _ _ s
  refine zl (Cg (zJ ⟨Code.quiet_builtin _ (by decide +kernel), Bv entry_list_iadd' ?_⟩))
  show wpAny _ _ (Builtin.List.listExtendWith (.ref s.heap.objs.size) (.ref l) (.ref s.heap.objs.size)) _ _ { s with heap := s.heap.push (seqObj "list" #[] 0) }
  unfold Builtin.List.listExtendWith
  have ho' : (s.heap.push (seqObj "list" #[] 0)).get? l=some o := zq _ ho
  refine zl (wpAny_typeOf (T := "tuple") ⟨o, ho', hc⟩ ?_)
  have ht : (Value.type "tuple" == Value.type "tuple")=true := by rfl
  rw [if_pos (by rw [ht];simp)]
  refine zl (Cb ho' hd ?_)
  refine zl (Cb (xs := #[]) (n := 0) (zI _ rfl) rfl ?_)
  rw [if_neg (by simp)]
  refine zl (C6 (xs := #[]) (n := 0) (zI _ rfl) rfl ?_ (Ao _) (by show (#[]++vs.toArray).size≤sizeLine+1;simp only [Array.size_append, zO, Av];omega))
  refine zJ ?_
  show wpAny (model prog w) A (do
      let o ← load s.heap.objs.size
      match o.data with
      | .seq xs _ => pure xs.toList
      | _ => unsupported "internal:collect") Q E { s with heap := (s.heap.push (seqObj "list" #[] 0)).update s.heap.objs.size (Obj.mapSeq (· ++ vs.toArray)) }
  refine zl (wpAny_load (get?_update_seq (zI _ rfl) _) ?_)
  show wpAny _ _ (pure ((#[] : Array Value)++vs.toArray).toList) Q E _
  rw [show ((#[] : Array Value)++vs.toArray).toList=vs by simp]
  exact zJ h
end
section
variable {X : Cx}
end
end L2
namespace Tv
open PySem PyProof.Rows
def Pq (h : Heap)(v : Value)(i j : Int) : Prop := ∃ (a : Addr) (o : Obj) (t u : Tok) (n : Nat), v = .ref a ∧ h.get? a=some o ∧ o.cls = .type "tuple" ∧ o.data = .seq #[.int i t, .int j u] n
inductive Kn where
  | i
  | s
  | p
def Kn.R : Kn → Heap → Value → List Int → Prop
  | .i, _, v, a => ∃ i t, v = .int i t ∧ a=[i]
  | .s, _, v, a => ∃ (x : Str) (t : Tok), v = .str x t ∧ a=x.cps.toList.map Int.ofNat
  | .p, h, v, a => ∃ i j, Pq h v i j ∧ a=[i, j]
theorem mW {x y : List Nat}(h : x.map Int.ofNat=y.map Int.ofNat) : x=y := (List.map_inj_right (fun _ _ e => C8 e)).mp h
theorem Kn.one {k : Kn}{h : Heap}{v : Value}{a b : List Int}(x : k.R h v a)(y : k.R h v b) : a=b := by
  cases k with
  | i =>
    obtain ⟨i, t, rfl, rfl⟩ := x
    obtain ⟨j, u, e, rfl⟩ := y
    cases e
    rfl
  | s =>
    obtain ⟨i, t, rfl, rfl⟩ := x
    obtain ⟨j, u, e, rfl⟩ := y
    cases e
    rfl
  | p =>
    obtain ⟨i, j, ⟨c, o, t, u, n, rfl, e, _, d⟩, rfl⟩ := x
    obtain ⟨k, l, ⟨c', o', t', u', n', e0, e', _, d'⟩, rfl⟩ := y
    cases e0
    rw [e] at e'
    cases e'
    rw [d] at d'
    injection d' with d1 _
    have d1 := zR Array.toList d1
    simp only [Dq, Value.int.injEq, and_true] at d1
    rw [d1.1.1, d1.2.1]
structure kc (prog : Program) (w : World) (A : Around) (k : Kn) : Prop where
  eq : ∀ {s : Shared} {E : Value → Shared → Prop} {v u : Value} {a b : List Int} {Q : Bool → Shared → Prop}, k.R s.heap v a → k.R s.heap u b → Q (decide (a=b)) s → wpAny (model prog w) A (eqBool v u) Q E s
  lt : ∀ {s : Shared} {E : Value → Shared → Prop} {c : Bool} {v u : Value} {a b : List Int} {Q : Bool → Shared → Prop}, (c=true → k ≠ .p) → k.R s.heap v a → k.R s.heap u b → a≠b → Q (decide (a < b)) s → wpAny (model prog w) A (oneLt' c v u) Q E s
section
variable {prog : Program} {w : World} {A : Around} {E : Value → Shared → Prop} {s : Shared}
theorem yY : kc prog w A .i := by
  refine ⟨fun {s E v u a b Q} x y q => ?_, fun {s E c v u a b Q} _ x y ne q => ?_⟩
  · obtain ⟨i, t, rfl, rfl⟩ := x
    obtain ⟨j, t', rfl, rfl⟩ := y
    refine wpAny_eqBool_int ?_
    have : decide ([i]=[j])=(i == j) := by rw [Ad];simp
    rwa [this] at q
  · obtain ⟨i, t, rfl, rfl⟩ := x
    obtain ⟨j, t', rfl, rfl⟩ := y
    have : decide ([i] < [j])=decide (i < j) := by
      rw [Ad, zE, zE, AS]
      exact ⟨fun h => h.elim id fun h => absurd h.2 (Dw _), .inl⟩
    rw [this] at q
    cases c with
    | true => exact oneLt_int q
    | false =>
      rw [oneLt'_eq]
      simp only [zP, AI]
      show wpAny _ _ (compareOp .Lt (.int i t) (.int j t') >>= _) Q E s
      exact zl (wpAny_lt_int (AN q))
theorem qw : ∀ (x y : List Nat), x.map Int.ofNat < y.map Int.ofNat ↔ x < y
  | [], [] => by simp
  | [], _::_ => by simp
  | _::_, [] => by simp
  | a::x, b::y => by
    rw [z9, z9, AS, AS, qw x y]
    constructor
    · rintro (h | ⟨h, g⟩)
      · exact .inl (Int.ofNat_lt.mp h)
      · exact .inr ⟨C8 h, g⟩
    · rintro (h | ⟨h, g⟩)
      · exact .inl (Int.ofNat_lt.mpr h)
      · exact .inr ⟨zR _ h, g⟩
theorem yZ : kc prog w A .s := by
  refine ⟨fun {s E v u a b Q} x y q => ?_, fun {s E c v u a b Q} _ x y ne q => ?_⟩
  · obtain ⟨x, t, rfl, rfl⟩ := x
    obtain ⟨y, t', rfl, rfl⟩ := y
    refine wpAny_eqBool_str ?_
    have : decide (x.cps.toList.map Int.ofNat=y.cps.toList.map Int.ofNat)=decide (x=y) := by
      rw [Ad, zE, zE]
      refine ⟨fun h => ?_, fun h => by rw [h]⟩
      have := Array.toList_inj.mp (mW h)
      cases x;cases y;simp_all
    rwa [this] at q
  · obtain ⟨x, t, rfl, rfl⟩ := x
    obtain ⟨y, t', rfl, rfl⟩ := y
    have : decide (x.cps.toList.map Int.ofNat < y.cps.toList.map Int.ofNat)=decide (x.cps.toList < y.cps.toList) := by
      rw [Ad, zE, zE, qw]
    rw [this] at q
    cases c with
    | true => exact oneLt_str q
    | false =>
      rw [oneLt'_eq]
      simp only [zP, AI]
      show wpAny _ _ (compareOp .Lt (.str x t) (.str y t') >>= _) Q E s
      exact zl (PyProof.Rows.lt_str (AN q))
end
inductive FlR (h : Heap) : List Kn → List Value → List (List Int) → Prop
  | nil : FlR h [] [] []
  | cons {k : Kn} {ks : List Kn} {v : Value} {vs : List Value} {a : List Int} {as : List (List Int)} (x : k.R h v a) (r : FlR h ks vs as) : FlR h (k::ks) (v::vs) (a::as)
theorem FlR.one {h : Heap}{ks : List Kn}{vs : List Value}{as : List (List Int)}(x : FlR h ks vs as) : ∀ {bs : List (List Int)}, FlR h ks vs bs → as=bs := by
  induction x with
  | nil => intro bs y;cases y;rfl
  | cons x r ih => intro bs y;cases y with | cons y q => rw [Kn.one x y, ih q]
theorem FlR.len {h : Heap}{ks : List Kn}{vs us : List Value}{as bs : List (List Int)}(x : FlR h ks vs as) : FlR h ks us bs → vs.length=us.length := by
  induction x generalizing us bs with
  | nil => intro y;cases y;rfl
  | cons x r ih => intro y;cases y with | cons y q => rw [zY, zY, ih q]
theorem FlR.stay {h h' : Heap}(k : ∀ b o, h.get? b=some o → o.cls = .type "tuple" → h'.get? b=some o){ks : List Kn}{vs : List Value}{as : List (List Int)}(x : FlR h ks vs as) : FlR h' ks vs as := by
  induction x with
  | nil => exact .nil
  | @cons kn ks v vs a as x r ih =>
    refine .cons ?_ ih
    cases kn with
    | i => exact x
    | s => exact x
    | p =>
      obtain ⟨i, j, ⟨c, o, t, u, n, e0, e, hc, d⟩, ea⟩ := x
      exact ⟨i, j, ⟨c, o, t, u, n, e0, k _ _ e hc, hc, d⟩, ea⟩
abbrev cJ := List (List Int)
def Kd (f : Kn)(sh : List Int → List Kn)(h : Heap)(v : Value)(k : cJ) : Prop := ∃ (a : Addr) (o : Obj) (vs : List Value) (n : Nat), v = .ref a ∧ h.get? a=some o ∧ o.cls = .type "tuple" ∧ o.data = .seq vs.toArray n ∧ FlR h (f::sh (k.headD [])) vs k
theorem Kd.one {f : Kn}{sh : List Int → List Kn}{h : Heap}{v : Value}{k l : cJ}(x : Kd f sh h v k)(y : Kd f sh h v l) : k=l := by
  obtain ⟨a, o, vs, n, rfl, e, _, d, g⟩ := x
  obtain ⟨a', o', vs', n', e0, e', _, d', g'⟩ := y
  cases e0
  rw [e] at e'
  cases e'
  rw [d] at d'
  injection d' with d1 _
  have d1 := zR Array.toList d1
  simp only at d1
  subst d1
  cases g with
  | cons x r =>
    cases g' with
    | cons y q =>
      have e1 := Kn.one x y
      subst e1
      exact zR _ (FlR.one r q)
open Classical in
def tZ (f : Kn)(sh : List Int → List Kn)(h : Heap)(v : Value) : Option cJ := if hx : ∃ p : cJ, Kd f sh h v p then some (Classical.choose hx) else none
theorem Kd.of {f : Kn}{sh : List Int → List Kn}{h : Heap}{v : Value}{k : cJ}(x : Kd f sh h v k) : tZ f sh h v=some k := by
  unfold tZ
  rw [dif_pos ⟨k, x⟩]
  exact zR some ((Classical.choose_spec (⟨k, x⟩ : ∃ p : cJ, Kd f sh h v p)).one x)
theorem Kd.is {f : Kn}{sh : List Int → List Kn}{h : Heap}{v : Value}{k : cJ}(e : tZ f sh h v=some k) : Kd f sh h v k := by
  unfold tZ at e
  split at e
  · rename_i hx
    cases e
    exact Classical.choose_spec hx
  · cases e
theorem Kd.stay {f : Kn}{sh : List Int → List Kn}{h h' : Heap}{v : Value}{k : cJ}(kp : ∀ b o, h.get? b=some o → o.cls = .type "tuple" → h'.get? b=some o)(x : Kd f sh h v k) : Kd f sh h' v k := by
  obtain ⟨a, o, vs, n, e0, e, c, d, g⟩ := x
  exact ⟨a, o, vs, n, e0, kp _ _ e c, c, d, g.stay kp⟩
@[reducible] noncomputable def kdK (f : Kn) (sh : List Int → List Kn) (h : Heap) : KeyKind where
  α := cJ
  blt a b := decide (a < b)
  irrefl a := by simpa using Dw a
  trans a b c h1 h2 := by simp only [CW] at *;exact List.lt_trans h1 h2
  negTrans a b c h := by
    simp only [CW] at *
    by_cases hab : a < b
    · exact .inl hab
    · exact .inr (List.lt_of_le_of_lt (List.not_lt.mp hab) h)
  total a b h1 h2 := by simp only [C9] at *;exact List.le_antisymm (List.not_lt.mp h2) (List.not_lt.mp h1)
  keyOf v := tZ f sh h v
  dflt := []
def ke (b : Bool)(L : List ((Value × Value) × Nat))(z : Bool) : Sem Bool := do
  for ((p, q), i) in L do
    if !(← eqBool p q) then return ← oneLt' (b && i == 0) p q
  return z
theorem mX (b : Bool)(x y : Value) : keyLt' (tuples' b) x y=(do
    let xs ← Builtin.List.listItems x;let ys ← Builtin.List.listItems y
    ke b (xs.toList.zip ys.toList).zipIdx (decide (xs.size < ys.size))) := rfl
theorem mY (b z : Bool)(p q : Value)(i : Nat)(L : List ((Value × Value) × Nat)) : ke b (((p, q), i)::L) z=(eqBool p q >>= fun r => if r then ke b L z else oneLt' (b && i == 0) p q) := by
  unfold ke
  rw [List.forIn_cons]
  simp only [bind_assoc]
  congr 1
  funext r
  cases r <;> simp
theorem mZ {a b : List Int}{as bs : cJ} : decide (a::as < b::bs)=if a=b then decide (as < bs) else decide (a < b) := by
  rw [Ad, zE, AS]
  by_cases e : a=b
  · rw [if_pos e, zE]
    subst e
    exact ⟨fun h => h.elim (fun h => absurd h (Dw _)) fun h => h.2, fun h => .inr ⟨rfl, h⟩⟩
  · rw [if_neg e, zE]
    exact ⟨fun h => h.elim id fun h => absurd h.1 e, .inl⟩
section
variable {prog : Program} {w : World} {A : Around} {E : Value → Shared → Prop} {s : Shared}
theorem xy {b : Bool}{ks : List Kn}{vs : List Value}{as : cJ}(ok : ∀ k∈ks, kc prog w A k)(x : FlR s.heap ks vs as) : ∀ {us : List Value} {bs : cJ} {m : Nat} {Q : Bool → Shared → Prop}, (m=0 → b=true → ∀ k r, ks=k::r → k ≠ .p) → FlR s.heap ks us bs → Q (decide (as < bs)) s → wpAny (model prog w) A (ke b ((vs.zip us).zipIdx m) false) Q E s := by
  induction x with
  | nil =>
    intro us bs m Q _ y q
    cases y
    exact zJ (by simpa using q)
  | @cons k ks v vs a as x r ih =>
    intro us bs m Q hp y q
    cases y with
    | @cons _ _ u us c bs y r2 =>
    rw [AU, Dg, mY]
    have K := ok k zK
    rw [mZ] at q
    refine zl (K.eq x y ?_)
    by_cases e : a=c
    · rw [zH e, if_pos rfl]
      rw [if_pos e] at q
      exact ih (fun k hk => ok k (zB _ hk)) (fun z => by omega) r2 q
    · rw [zp e, if_neg (by decide)]
      rw [if_neg e] at q
      refine K.lt (fun z => ?_) x y e q
      have z : (b && (m == 0))=true := z
      rw [AV] at z
      exact hp (by simpa using z.2) z.1 _ _ rfl
theorem xA {f : Kn}{sh : List Int → List Kn}{b : Bool}{x y : Value}{k l : cJ}{Q : Bool → Shared → Prop}(hf : f ≠ .p)(okf : kc prog w A f)(ok : ∀ a, ∀ k∈sh a, kc prog w A k)(hx : Kd f sh s.heap x k)(hy : Kd f sh s.heap y l)(h : Q (decide (k < l)) s) :
    wpAny (model prog w) A (keyLt' (tuples' b) x y) Q E s := by
  obtain ⟨a, o, vs, n, rfl, e, _, d, g⟩ := hx
  obtain ⟨a', o', us, n', rfl, e', _, d', g'⟩ := hy
  rw [mX]
  refine zl (Cb e d (zl (Cb e' d' ?_)))
  cases g with
  | @cons _ _ v vs a as x r =>
  cases g' with
  | @cons _ _ u us c bs y r2 =>
  show wpAny _ _ (ke b ((v::vs).zip (u::us)).zipIdx _) Q E s
  rw [AU, Dg, mY]
  rw [mZ] at h
  refine zl (okf.eq x y ?_)
  by_cases e2 : a=c
  · subst e2
    rw [zH rfl, if_pos rfl]
    rw [if_pos rfl] at h
    have hz : decide ((v::vs).toArray.size < (u::us).toArray.size)=false := by
      have := r.len r2
      simp [this]
    rw [hz]
    exact xy (ok _) r (fun z => by omega) r2 h
  · rw [zp e2, if_neg (by decide)]
    rw [if_neg e2] at h
    exact okf.lt (fun _ => hf) x y e2 h
theorem m8 {α β : Type}{g : α → Sem β}{f : α → β} : ∀ {vs : List α} {Q : List β → Shared → Prop}, (∀ v∈vs, ∀ Q : β → Shared → Prop, Q (f v) s → wpAny (model prog w) A (g v) Q E s) → Q (vs.map f) s → wpAny (model prog w) A (vs.mapM g) Q E s
  | [], Q, _, h => by rw [List.mapM_nil];exact zJ h
  | v::vs, Q, hg, h => by
    rw [List.mapM_cons]
    refine zl (hg v zK _ (zl (m8 (fun u hu => hg u (zB _ hu)) (zJ ?_))))
    exact h
def kf (h : Heap) : Value → Option Value := fun v => match v with
  | .ref a => match h.get? a with
    | some o => match o.data with
      | .seq xs _ => xs[0]?
      | _ => none
    | none => none
  | _ => none
theorem rZ {f : Kn}{sh : List Int → List Kn}{vs : List Value}(hf : f ≠ .p)(hv : ∀ v∈vs, ∃ k, Kd f sh s.heap v k)(ne : vs≠[]){Q : SortKind → Shared → Prop}(h : Q (tuples' true) s) : wpAny (model prog w) A (keyKind' vs.toArray) Q E s := by
  rw [keyKind'_eq, List.mapM_toArray]
  show wpAny _ _ ((List.toArray <$> vs.mapM firstOfTuple') >>= _) Q E s
  have hq : ∀ v∈vs, ∃ a o xs n x c, v = .ref a ∧ s.heap.get? a=some o ∧ o.cls = .type "tuple" ∧ o.data = .seq (x::xs : List Value).toArray n ∧ kf s.heap v=some x ∧ f.R s.heap x c := fun v hv' => by
    obtain ⟨k, a, o, us, n, rfl, e, hc, d, g⟩ := hv v hv'
    cases g with
    | @cons _ _ x xs c as q r =>
      refine ⟨a, o, xs, n, x, c, rfl, e, hc, d, ?_, q⟩
      unfold kf
      dsimp only
      rw [e]
      dsimp only
      rw [d]
      rfl
  refine zl (wpAny_map (m8 (f := kf s.heap) (fun v hv' Q' q => ?_) ?_))
  · obtain ⟨a, o, xs, n, x, c, rfl, e, hc, d, ef, _⟩ := hq v hv'
    show wpAny _ _ (typeOf (.ref a) >>= fun ty => if (ty != Value.type "tuple")=true then pure none else (do let xs ← Builtin.List.listItems (.ref a);pure xs[0]?)) Q' E s
    refine zl (wpAny_typeOf (T := "tuple") ⟨o, e, hc⟩ ?_)
    have ht : (Value.type "tuple" != Value.type "tuple")=false := by rfl
    rw [ht]
    simp only [zP, AI]
    refine zl (Cb e d (zJ ?_))
    rw [ef] at q
    exact q
  · have h1 : ((vs.map (kf s.heap)).toArray.all (·.isSome))=true := by
      simp only [List.all_toArray, List.all_map, BE]
      intro v hv'
      obtain ⟨_, _, _, _, x, _, _, _, _, _, ef, _⟩ := hq v hv'
      show (kf s.heap v).isSome=true
      rw [ef]
      rfl
    rw [if_pos h1]
    refine zl (Bk ?_)
    obtain ⟨T, hTn, hT⟩ : ∃ T : Value, (T != Value.type "tuple")=true ∧ ((vs.map (kf s.heap)).filterMap id).mapM typeOf=pure (((vs.map (kf s.heap)).filterMap id).map fun _ => T) := by
      clear h1 ne hv h
      cases f with
      | p => exact absurd rfl hf
      | i =>
        refine ⟨.type "int", rfl, mapM_typeOf_ints (ns := ((vs.map (kf s.heap)).filterMap id).map Ts.iOf) ?_⟩
        refine Ts.jI _ fun x hx => ?_
        obtain ⟨y, hy, e⟩ := CF.mp hx
        obtain ⟨v, hv', rfl⟩ := Ak.mp hy
        obtain ⟨_, _, _, _, x', _, _, _, _, _, ef, i, t, rfl, _⟩ := hq v hv'
        rw [ef] at e
        cases e
        exact ⟨i, t, rfl⟩
      | s =>
        refine ⟨.type "str", rfl, ?_⟩
        obtain ⟨ns, hI⟩ : ∃ ns, StrsAre ((vs.map (kf s.heap)).filterMap id) ns := by
          induction vs with
          | nil => exact ⟨[], .nil⟩
          | cons v r ih =>
            obtain ⟨_, _, _, _, x', _, _, _, _, _, ef, i, t, rfl, _⟩ := hq v zK
            obtain ⟨ns, q⟩ := ih fun u hu => hq u (zB _ hu)
            refine ⟨i::ns, ?_⟩
            rw [z9, ef]
            exact .cons i t q
        exact mapM_typeOf_strs hI
    have e2 : (vs.map (kf s.heap)).toArray.filterMap id=((vs.map (kf s.heap)).filterMap id).toArray := by simp
    rw [e2, oneTypeOnly'_eq, List.mapM_toArray, hT]
    simp only [map_pure, pure_bind]
    have ne2 : (vs.map (kf s.heap)).filterMap id≠[] := by
      cases vs with
      | nil => exact absurd rfl ne
      | cons v r =>
        obtain ⟨_, _, _, _, x', _, _, _, _, _, ef, _⟩ := hq v zK
        rw [z9, ef]
        simp
    generalize (vs.map (kf s.heap)).filterMap id=fs at ne2
    cases fs with
    | nil => exact absurd rfl ne2
    | cons x r =>
      have h0 : (List.map (fun _ => T) (x::r)).toArray[0]? = some T := by simp
      have hall : ((List.map (fun _ => T) (x::r)).toArray.all fun y => y == T)=true := by
        simp only [List.all_toArray, List.all_map, BE]
        intro _ _
        exact Dc T
      rw [h0]
      simp only [hall, Bd, pure_bind]
      refine zJ ?_
      rw [show Option.any (fun x => x != Value.type "tuple") (some T)=true from hTn]
      exact h
end
end Tv
namespace Tv
open PySem PyProof.Rows
def qle (k l : cJ) : Prop := ¬ l < k
theorem eM {α : Type} : ∀ (l : List α), l.zip l=l.map fun x => (x, x)
  | [] => rfl
  | x::r => by rw [AU, eM r];rfl
section
variable {prog : Program} {w : World} {A : Around} {E : Value → Shared → Prop} {s : Shared}
end
end Tv
namespace L2
open PySem PySem.Spec PyProof.Rows Wd Tv
section
variable {X : Cx}
theorem dy : ∀ {as : List Addr} {us : List Value}, aU (as.map V.ref) us → us=as.map Value.ref
  | [], _, .nil => rfl
  | a::as, _, .cons r t => by cases r;rw [dy t];rfl
theorem fj : ∀ (as : List Addr), aU (as.map V.ref) (as.map Value.ref)
  | [] => .nil
  | a::as => .cons rfl (fj as)
inductive FlQ (H : Hp) : List Kn → List V → cJ → Prop
  | nil : FlQ H [] [] []
  | i {ks : List Kn} {xs : List V} {as : cJ} (i : Int) (r : FlQ H ks xs as) : FlQ H (.i::ks) (.int i::xs) ([i]::as)
  | s {ks : List Kn} {xs : List V} {as : cJ} (x : Str) (r : FlQ H ks xs as) : FlQ H (.s::ks) (.str x::xs) (x.cps.toList.map Int.ofNat::as)
  | p {ks : List Kn} {xs : List V} {as : cJ} {b : Addr} {i j : Int} (p : H b=some (.tup [.int i, .int j])) (r : FlQ H ks xs as) : FlQ H (.p::ks) (.ref b::xs) ([i, j]::as)
def KdQ (f : Kn)(sh : List Int → List Kn)(H : Hp)(a : Addr)(k : cJ) : Prop := ∃ xs, H a=some (.tup xs) ∧ FlQ H (f::sh (k.headD [])) xs k
theorem vm {pins : List (Addr × Obj)}{σ : St}{H : Hp}{s : Shared}(I : Inv X pins σ H s){ks : List Kn}{xs : List V}{as : cJ}(f : FlQ H ks xs as) : ∀ {us : List Value}, aU xs us → FlR s.heap ks us as := by
  induction f with
  | nil => intro us r;cases r;exact .nil
  | i i f ih =>
    intro us r
    cases r with
    | cons r1 r2 =>
      obtain ⟨t, rfl⟩ := r1
      exact .cons ⟨i, t, rfl, rfl⟩ (ih r2)
  | s x f ih =>
    intro us r
    cases r with
    | cons r1 r2 =>
      obtain ⟨t, rfl⟩ := r1
      exact .cons ⟨x, t, rfl, rfl⟩ (ih r2)
  | @p ks xs as b i j p f ih =>
    intro us r
    cases r with
    | cons r1 r2 =>
      cases r1
      obtain ⟨its, r, pl, _⟩ := I.tuple (SqT.of p)
      obtain ⟨u1, u2, rfl, ⟨t, rfl⟩, ⟨u, rfl⟩⟩ := qV r
      obtain ⟨o, e, c, n, d⟩ := pl
      exact .cons ⟨i, j, ⟨b, o, t, u, n, rfl, e, c, d⟩, rfl⟩ (ih r2)
theorem vn {pins : List (Addr × Obj)}{σ : St}{H : Hp}{s : Shared}(I : Inv X pins σ H s){f : Kn}{sh : List Int → List Kn}{a : Addr}{k : cJ}(h : KdQ f sh H a k) : Kd f sh s.heap (.ref a) k := by
  obtain ⟨xs, h1, h2⟩ := h
  obtain ⟨its, r, pl, _⟩ := I.tuple (SqT.of h1)
  obtain ⟨o, e, c, n, d⟩ := pl
  exact ⟨a, o, its, n, rfl, e, c, d, vm I h2 r⟩
end
end L2
namespace Tv
open PySem PyProof.Rows
section
variable {prog : Program} {w : World} {A : Around} {E : Value → Shared → Prop} {s : Shared}
theorem pD {f : Kn}{sh : List Int → List Kn}{zs0 : List (Addr × cJ)}{h : Heap}(hp : ∀ z∈zs0, Kd f sh h (.ref z.1) z.2){xs : Array Keyed}(pm : xs.Perm (pairsOf (zs0.map fun z => Value.ref z.1)))(hs : SortedToK (kdK f sh h) xs (pairsOf (zs0.map fun z => Value.ref z.1)).size) :
    ∃ zs : List (Addr × cJ), zs.Perm zs0 ∧ (xs.map (·.2)).toList=zs.map (fun z => Value.ref z.1) ∧ (zs.map (·.2)).Pairwise qle := by
  have hl : xs.toList.Perm (zs0.map fun z => (Value.ref z.1, Value.ref z.1)) := by
    have := A8.mp pm
    rw [pairsOf_toList, eM, AY] at this
    exact this
  obtain ⟨zs, h1, h2⟩ := L2.eK (fun z : Addr × cJ => ((Value.ref z.1, Value.ref z.1) : Keyed)) hl.symm zs0 rfl
  refine ⟨zs, h1, ?_, ?_⟩
  · rw [Array.toList_map, h2, AY]
    rfl
  · have hz : zs.length=xs.size := by rw [← zk, h2, zu]
    rw [AQ]
    intro i j hi hj hij
    rw [zu] at hi hj
    have q := hs i j (Dl hij) (by rw [← pm.size_eq];omega)
    have key : ∀ k (hk : k < zs.length), KK (kdK f sh h) xs k=zs[k].2 := fun k hk => by
      unfold KK
      have e : xs[k]? = some (Value.ref zs[k].1, Value.ref zs[k].1) := by
        rw [← z8, h2, zW, fu hk]
        rfl
      rw [e]
      show ((tZ f sh h (.ref zs[k].1)).getD [])=_
      rw [(hp _ (h1.mem_iff.mp (Aj hk))).of]
      rfl
    rw [key i hi, key j hj] at q
    rw [List.getElem_map, List.getElem_map]
    exact of_decide_eq_false q
theorem qx {f : Kn}{sh : List Int → List Kn}(hf : f ≠ .p)(okf : kc prog w A f)(ok : ∀ a, ∀ k∈sh a, kc prog w A k){a : Addr}{zs0 : List (Addr × cJ)}{m : Nat}{P : Fin → Shared → Prop}(at_ : s.heap.get? a=some (seqObj "list" (zs0.map fun z => Value.ref z.1).toArray m))(hp : ∀ z∈zs0, Kd f sh s.heap (.ref z.1) z.2)(lim : zs0.length≤sizeLine)
    (q : ∀ (out : Array Value) (zs : List (Addr × cJ)), zs.Perm zs0 → out.toList=zs.map (fun z => Value.ref z.1) → (zs.map (·.2)).Pairwise qle → P (.done (.ret .none)) { s with heap := sortedHeap s.heap a (zs0.map fun z => Value.ref z.1) out }) :
    wpAny (model prog w) A (Builtin.«list.sort» ⟨[.ref a], []⟩) P E s := by
  have la := zM at_
  -- the pairs stay while the list is empty
  have stay : ∀ z∈zs0, Kd f sh (((s.heap.update a (Obj.mapSeq fun _ => #[])).push (seqObj "tuple" (zs0.map fun z => Value.ref z.1).toArray 0)).push (seqObj "list" #[] 0)) (.ref z.1) z.2 := fun z hz => by
    refine Kd.stay (fun b o g c => ?_) (hp z hz)
    have hba : b≠a := fun x => by
      subst x
      rw [at_] at g
      rw [← zD g] at c
      simp [seqObj] at c
    exact zq _ (zq _ ((Az _ _ (Ne.symm hba)).trans g))
  refine pk (κ := kdK f sh (((s.heap.update a (Obj.mapSeq fun _ => #[])).push (seqObj "tuple" (zs0.map fun z => Value.ref z.1).toArray 0)).push (seqObj "list" #[] 0))) (kd := tuples' true) at_ ?_ ?_ ?_ (by rw [zu];exact lim) ?_
  · intro p hp'
    rw [pairsOf_toList, eM, AY] at hp'
    obtain ⟨z, hz, rfl⟩ := Ak.mp hp'
    exact ⟨_, (stay z hz).of⟩
  · intro E' x y ka kb Q' hx hy hq
    exact xA hf okf ok (Kd.is hx) (Kd.is hy) hq
  · intro x y r e Q' hq
    refine rZ (f := f) (sh := sh) hf (fun v hv => ?_) (by simp) hq
    rw [← e] at hv
    obtain ⟨z, hz, rfl⟩ := Ak.mp hv
    exact ⟨_, stay z hz⟩
  · intro st c1 c2
    obtain ⟨zs, h1, h2, h3⟩ := pD stay c1 c2
    exact q _ zs h1 h2 h3
theorem m9 {f : Kn}{sh : List Int → List Kn}(hf : f ≠ .p)(okf : ∀ A' : Around, A'.units≤A.units+8 → kc prog w A' f)(ok : ∀ A' : Around, A'.units≤A.units+8 → ∀ a, ∀ k∈sh a, kc prog w A' k){l : Addr}{zs0 : List (Addr × cJ)}{Q : Value → Shared → Prop}(hl : s.heap.IsList l (zs0.map fun z => Value.ref z.1).toArray ∨ s.heap.IsTuple l (zs0.map fun z => Value.ref z.1).toArray)(hp : ∀ z∈zs0, Kd f sh s.heap (.ref z.1) z.2)(lim : zs0.length≤sizeLine)
    (q : ∀ (out : Array Value) (zs : List (Addr × cJ)), zs.Perm zs0 → out.toList=zs.map (fun z => Value.ref z.1) → (zs.map (·.2)).Pairwise qle → Q (.ref (s.heap.objs.size+1)) { s with heap := sortedAll s.heap (zs0.map fun z => Value.ref z.1) out }) :
    wpAny (model prog w) A (call (.builtin "sorted") [.ref l]) Q E s := by
  have lim' : (zs0.map fun z => Value.ref z.1).length≤sizeLine := by rw [zu];exact lim
  refine Calls.call_function_entry kind_sorted plain_sorted entry_sorted (args_sorted1 _) ?_
  unfold Builtin.«sorted»
  rcases hl with hl | hl
  · refine zl (m := checkCount "sorted" 1 1 _) (zJ (zl (collect_list hl (zl (Cg ?_)) (hsz := lim'))))
    have z1 : ((s.heap.push (seqObj "list" #[] 0)).update s.heap.objs.size (Obj.mapSeq (· ++ (zs0.map fun z => Value.ref z.1).toArray))).objs.size=s.heap.objs.size+1 := (Heap.size_update ..).trans (size_push' ..)
    have g : (((s.heap.push (seqObj "list" #[] 0)).update s.heap.objs.size (Obj.mapSeq (· ++ (zs0.map fun z => Value.ref z.1).toArray))).push (seqObj "list" (zs0.map fun z => Value.ref z.1).toArray 0)).get? (s.heap.objs.size+1)=some (seqObj "list" (zs0.map fun z => Value.ref z.1).toArray 0) := z1 ▸ zI _ rfl
    have old : ∀ b o, s.heap.get? b=some o → (((s.heap.push (seqObj "list" #[] 0)).update s.heap.objs.size (Obj.mapSeq (· ++ (zs0.map fun z => Value.ref z.1).toArray))).push (seqObj "list" (zs0.map fun z => Value.ref z.1).toArray 0)).get? b=some o := fun b o e =>
      zq _ ((Az _ _ (DC (zM e))).trans (zq _ e))
    show wpAny _ _ _ _ _ { s with heap := ((s.heap.push (seqObj "list" #[] 0)).update s.heap.objs.size (Obj.mapSeq (· ++ (zs0.map fun z => Value.ref z.1).toArray))).push (seqObj "list" (zs0.map fun z => Value.ref z.1).toArray 0) }
    rw [z1]
    refine zl (BY (BG slot_list_sort ⟨_, g, rfl⟩ entry_list_sort (qx (f := f) (sh := sh) hf (okf _ (by show A.units+1+1≤_;omega)) (ok _ (by show A.units+1+1≤_;omega)) (zs0 := zs0) g (fun z hz => (hp z hz).stay fun b o e _ => old b o e) lim fun out zs h1 h2 h3 => ⟨_, rfl, ?_⟩) (args_list_sort _)))
    exact zJ ⟨_, rfl, q _ zs h1 h2 h3⟩
  · refine zl (m := checkCount "sorted" 1 1 _) (zJ (zl (L2.iM hl (zl (Cg ?_)) (hsz := lim'))))
    have z1 : ((s.heap.push (seqObj "list" #[] 0)).update s.heap.objs.size (Obj.mapSeq (· ++ (zs0.map fun z => Value.ref z.1).toArray))).objs.size=s.heap.objs.size+1 := (Heap.size_update ..).trans (size_push' ..)
    have g : (((s.heap.push (seqObj "list" #[] 0)).update s.heap.objs.size (Obj.mapSeq (· ++ (zs0.map fun z => Value.ref z.1).toArray))).push (seqObj "list" (zs0.map fun z => Value.ref z.1).toArray 0)).get? (s.heap.objs.size+1)=some (seqObj "list" (zs0.map fun z => Value.ref z.1).toArray 0) := z1 ▸ zI _ rfl
    have old : ∀ b o, s.heap.get? b=some o → (((s.heap.push (seqObj "list" #[] 0)).update s.heap.objs.size (Obj.mapSeq (· ++ (zs0.map fun z => Value.ref z.1).toArray))).push (seqObj "list" (zs0.map fun z => Value.ref z.1).toArray 0)).get? b=some o := fun b o e =>
      zq _ ((Az _ _ (DC (zM e))).trans (zq _ e))
    show wpAny _ _ _ _ _ { s with heap := ((s.heap.push (seqObj "list" #[] 0)).update s.heap.objs.size (Obj.mapSeq (· ++ (zs0.map fun z => Value.ref z.1).toArray))).push (seqObj "list" (zs0.map fun z => Value.ref z.1).toArray 0) }
    rw [z1]
    refine zl (BY (BG slot_list_sort ⟨_, g, rfl⟩ entry_list_sort (qx (f := f) (sh := sh) hf (okf _ (by show A.units+1+1≤_;omega)) (ok _ (by show A.units+1+1≤_;omega)) (zs0 := zs0) g (fun z hz => (hp z hz).stay fun b o e _ => old b o e) lim fun out zs h1 h2 h3 => ⟨_, rfl, ?_⟩) (args_list_sort _)))
    exact zJ ⟨_, rfl, q _ zs h1 h2 h3⟩
end
end Tv
namespace L2
open PySem PySem.Spec PyProof.Rows Wd Tv
section
variable {X : Cx}
inductive bF (f : Kn)(sh : List Int → List Kn)(K : PySem.W.Frag)(xs : List V)(H : Hp)(Q : VK) : Prop
  | mk : ∀ (l : Addr) (zs0 : List (Addr × cJ)), (xs=[.ref l]) → (SqL K H l ((zs0.map (·.1)).map V.ref) ∨ SqT K H l ((zs0.map (·.1)).map V.ref)) → (∀ z∈zs0, KdQ f sh H z.1 z.2) →
      (∀ (p : Addr) (zs : List (Addr × cJ)), H p=none → zs.Perm zs0 → (zs.map (·.2)).Pairwise qle → Q (.ref p) (upd H p (.lst ((zs.map (·.1)).map V.ref)))) → bF f sh K xs H Q
theorem gr {f : Kn}{sh : List Int → List Kn}{K : PySem.W.Frag}(hf : f ≠ .p)(okf : ∀ A : Around, A.units≤X.A.units+8 → kc X.prog X.w A f)(ok : ∀ A : Around, A.units≤X.A.units+8 → ∀ a, ∀ k∈sh a, kc X.prog X.w A k)(hK : X.K=K) : cV X (.builtin "sorted") (bF f sh K) := by
  subst hK
  intro pins s σ H xs us Q I r h
  obtain ⟨l, zs0, rfl, hq, hp, q⟩ := h
  obtain ⟨u, rfl, ru⟩ := cZ r
  cases ru
  have em : ∀ zs : List (Addr × cJ), (zs.map (·.1)).map Value.ref=zs.map fun z => Value.ref z.1 := fun zs => by rw [AY];rfl
  obtain ⟨pl, hz⟩ : (s.heap.IsList l (zs0.map fun z => Value.ref z.1).toArray ∨ s.heap.IsTuple l (zs0.map fun z => Value.ref z.1).toArray) ∧ ((zs0.map (·.1)).map V.ref).length≤sizeLine := by
    rcases hq with hq | hq
    · obtain ⟨its, rv, pl, hz⟩ := I.list hq
      rw [dy rv, em] at pl
      exact ⟨.inl pl.isList, hz⟩
    · obtain ⟨its, rv, pl, hz⟩ := I.tuple hq
      rw [dy rv, em] at pl
      exact ⟨.inr pl, hz⟩
  rw [zu, zu] at hz
  refine m9 hf okf ok pl (fun z hz' => vn I (hp z hz')) hz fun out zs h1 h2 h3 => ?_
  obtain ⟨e, he⟩ := sortedAll_at s.heap (zs0.map fun z => Value.ref z.1) out
  have I2 : Inv X pins σ (upd H (s.heap.objs.size+1) (.lst ((zs.map (·.1)).map V.ref))) { s with heap := sortedAll s.heap (zs0.map fun z => Value.ref z.1) out, toks := s.toks } :=
    I.laid (fun b o e => sortedAll_old e) (Cr _) ⟨by rw [zu, zu, h1.length_eq];exact hz, out.toList, e, by rw [h2, ← em];exact fj _, by simpa [seqObj] using he⟩
  exact ⟨.ref (s.heap.objs.size+1), _, I2, rfl, q _ zs (I.hok.fresh (Cr _)) h1 h3⟩
end
end L2
namespace Tv
open PySem PyProof.Rows
theorem y6 {prog : Program}{w : World}{A : Around}(hu : A.units+8 < cLine) : kc prog w A .p := by
  refine ⟨fun {s E v u a b Q} x y q => ?_, fun {s E c v u a b Q} hc x y ne q => ?_⟩
  · obtain ⟨i, j, ⟨a, o, t, t', n, rfl, e, hc, d⟩, rfl⟩ := x
    obtain ⟨k, l, ⟨a2, o2, t2, t2', n2, rfl, e2, hc2, d2⟩, rfl⟩ := y
    have rd : ∀ {a : Addr} {o : Obj} {t t' : Tok} {n : Nat} {i j : Int}, s.heap.get? a=some o → o.cls = .type "tuple" → o.data = .seq #[.int i t, .int j t'] n → Reads s.heap (.ref a) (.tuple [.int i, .int j]) [] := fun g1 g2 g3 => .tuple g1 g2 g3 (.cons (as := []) (bs := []) (.int _ _) (.cons (as := []) (bs := []) (.int _ _) .nil))
    refine SeqAt.eqAt_reads _ _ A s _ _ _ _ (rd e hc d) (rd e2 hc2 d2) rfl rfl (by show A.units+min 1 1 < cLine;omega) prog w E _ ?_
    have eq : PyData.eqv (.tuple [.int i, .int j]) (.tuple [.int k, .int l])=((i == k) && ((j == l) && true)) := rfl
    rw [eq]
    have : decide ([i, j]=[k, l])=((i == k) && ((j == l) && true)) := by
      rw [Ad]
      simp
    rwa [this] at q
  · obtain ⟨i, j, ⟨a, o, t, t', n, rfl, e, hc1, d⟩, rfl⟩ := x
    obtain ⟨k, l, ⟨a2, o2, t2, t2', n2, rfl, e2, hc2, d2⟩, rfl⟩ := y
    have hb : c=false := by
      cases c with
      | true => exact absurd rfl (hc rfl)
      | false => rfl
    rw [hb, oneLt'_eq]
    simp only [zP, AI]
    refine zl (HT.eX ⟨o, e, hc1, n, d⟩ ⟨o2, e2, hc2, n2, d2⟩ (.cons _ _ (.cons _ _ .nil)) (.cons _ _ (.cons _ _ .nil)) (by omega) (AN ?_))
    have : HT.bB [i, j] [k, l]=decide ([i, j] < [k, l]) := by
      rw [Ad, zE, AS, AS, HT.bC, HT.bC]
      by_cases c1 : i=k
      · have c2 : ¬ j=l := fun z => ne (by rw [c1, z])
        rw [if_pos c1, if_neg c2, zE]
        exact ⟨fun h => .inr ⟨c1, .inl h⟩, fun h => h.elim (fun h => by omega) fun h => h.2.elim id fun h => absurd h.1 c2⟩
      · rw [if_neg c1, zE]
        exact ⟨.inl, fun h => h.elim id fun h => absurd h.1 c1⟩
    rw [this]
    exact q
theorem qy {prog : Program}{w : World}{A : Around}(hu : A.units+8 < cLine) : ∀ k, kc prog w A k
  | .i => yY
  | .s => yZ
  | .p => y6 hu
end Tv
namespace L2
open PySem PySem.Spec PyProof.Rows Wd Tv
theorem eR {X : Cx}{f : Kn}{sh : List Int → List Kn}{K : PySem.W.Frag}(hf : f ≠ .p)(hu : X.A.units+64 < cLine)(hK : X.K=K) : cV X (.builtin "sorted") (bF f sh K) := gr hf (fun A h => qy (by omega) f) (fun A h _ k _ => qy (by omega) k) hK
end L2
namespace L2
open PySem PySem.Spec PyProof.Rows
section
variable {X : Cx}
open Classical in
end
end L2
namespace HT
open PySem PyProof.Rows
theorem pE (A : Around)(s : Shared)(a : Int)(t : Tok)(c : Int)(u : Tok)(prog : Program)(w : World)(E : Value → Shared → Prop)(Q : Value → Shared → Prop)(h : Q (.bool (decide (c < a))) s) :
    wpAny (model prog w) A (richCompare .Gt (.int a t) (.int c u)) Q E s :=
  (PyProof.Rows.gt_int (by exact h) : wpAny (model prog w) A (compareOp .Gt (.int a t) (.int c u)) Q E s)
section
open PySem.SeqAt
open PySem.AutoSeq1 (wpAny_loadPart')
open PySem.MeetsSeq PySem.MeetsSeq2 PySem.MeetsSeq3
theorem gs (l b : Addr)(items items2 : Array Value)(n n2 : Nat)(dd dd2 : Option Addr)(sl sl2 : Array (Option Value))(ns ms : List Int)(hi : IntsAre items.toList ns)(hj : IntsAre items2.toList ms) :
    Meets (Builtin.«tuple.__gt__» ⟨[.ref l, .ref b], []⟩)
      (fun _ R s => s.heap.get? l=some { cls := .type "tuple", dict := dd, data := .seq items n, slots := sl } ∧ s.heap.get? b=some { cls := .type "tuple", dict := dd2, data := .seq items2 n2, slots := sl2 } ∧
        R (.ok (.ret (.bool (bB ms ns)))) s) :=
  .of_wp fun prog w A R s h => by
    obtain ⟨hp, g, d, tk, os⟩ := s;obtain ⟨hl, hb, h⟩ := h
    have f2 := CQ
    have z1 : items.size=ns.length := by rw [← hi.length];simp
    have z2 : items2.size=ms.length := by rw [← hj.length];simp
    wp_walk using wpAny_loadPart' hl, wpAny_loadPart' hb, wpAny_forIn_list _ (fun rest b s' => b.1=none ∧ s'=⟨hp, g, d, tk, os⟩ ∧ ∃ (vs ws : List Value) (ns' ms' : List Int), rest=vs.zip ws ∧
      IntsAre vs ns' ∧ IntsAre ws ms' ∧ ns'.length+items2.size=ms'.length+items.size ∧ R (.ok (.ret (.bool (bB ms' ns')))) ⟨hp, g, d, tk, os⟩) _
    case turn =>
      rintro ⟨y, x⟩ rest b s' ⟨hb', rfl, vs, ws, ns', ms', hz, hvi, hwi, hlen, hR⟩
      cases hvi with
      | nil => rw [List.zip_nil_left] at hz;cases hz
      | cons a t hvi' =>
        cases hwi with
        | nil => rw [List.zip_nil_right] at hz;cases hz
        | cons c u hwi' =>
          rw [AU] at hz
          injection hz with hyx hrest
          injection hyx with hy hx
          subst hy hx
          rw [bC] at hR
          simp only [zY] at hlen
          obtain ⟨e, he, hiff⟩ := jh A.in1 ⟨hp, g, d, tk, os⟩ a t c u
          refine zl (he prog w _ _ ?_)
          cases e with
          | true =>
            rw [if_pos (hiff.mp rfl).symm] at hR
            wp_walk
            exact ⟨rfl, rfl, _, _, _, _, hrest, hvi', hwi', by omega, hR⟩
          | false =>
            rw [if_neg (fun q => absurd (hiff.mpr q.symm) zT)] at hR
            have hri := pE A.in1 ⟨hp, g, d, tk, os⟩ a t c u prog w
            wp_walk using hri
            exact ⟨_, rfl, by simpa using hR⟩
    case fin =>
      rintro ⟨b1, b2⟩ s' ⟨hb', rfl, vs, ws, ns', ms', hz, hvi, hwi, hlen, hR⟩
      simp only at hb'
      subst hb'
      have hv : bB ms' ns'=decide (items2.size < items.size) := by
        cases hvi with
        | nil =>
          cases hwi with
          | nil =>
            simp only [Av] at hlen
            rw [bQ]
            exact (zp (by omega)).symm
          | cons c u hw =>
            simp only [Av, zY] at hlen
            rw [cE]
            exact (zp (by omega)).symm
        | cons a t hv =>
          cases hwi with
          | nil =>
            simp only [Av, zY] at hlen
            rw [cD]
            exact (zH (by omega)).symm
          | cons c u hw =>
            rw [AU] at hz
            cases hz
      rw [hv] at hR
      wp_walk
      exact ⟨_, rfl, by simpa [Builtin.Tuple.tupleCompareSizes] using hR⟩
    case h =>
      exact ⟨rfl, rfl, items.toList, items2.toList, ns, ms, rfl, hi, hj, by omega, h⟩
end
section
variable {prog : Program} {w : World} {A : Around} {E : Value → Shared → Prop} {s : Shared}
theorem kg {l b : Addr}{items items2 : Array Value}{ns ms : List Int}{Q : Value → Shared → Prop}(hl : IsTup s.heap l items)(hb : IsTup s.heap b items2)(hi : IntsAre items.toList ns)(hj : IntsAre items2.toList ms)
    (hu : A.units < cLine) (h : Q (.bool (bB ms ns)) s) : wpAny (model prog w) A (richCompare .Gt (.ref l) (.ref b)) Q E s := by
  obtain ⟨⟨cls, dd, data, sl⟩, ho, hc, n, hd⟩ := id hl
  obtain ⟨⟨cls2, dd2, data2, sl2⟩, ho2, hc2, n2, hd2⟩ := id hb
  simp only at hc hd hc2 hd2
  subst hc hd hc2 hd2
  exact richCompare_meets_room (op := .Gt) ⟨_, ho, rfl⟩ ⟨_, ho2, rfl⟩ PySem.F.slot_tuple_gt PySem.F.entry_tuple_gt (PySem.F.args_tuple_gt_2 _ _) (gs l b items items2 n n2 dd dd2 sl sl2 ns ms hi hj)
    ⟨ho, ho2, show Value.bool (bB ms ns)≠Value.notImplemented ∧ Q (.bool (bB ms ns)) s from ⟨(fun x => nomatch x), h⟩⟩ hu
end
end HT
namespace L2
open PySem PySem.Spec PyProof.Rows
section
variable {X : Cx}
end
end L2
namespace PySem
open Sem (wp)
section
variable {K : Type} [DecidableEq K] {prog : Program} {w : World} {knd : KeyKind prog w K} {A : Around} {E : Value → Shared → Prop} {s : Shared}
set_option maxHeartbeats 3200000 in
theorem kh (dd : Nat → List K){z : Str}{zt : Tok}{val : Nat → K}{Q : Value → Shared → Prop}(hh : A.handled=none)(hl : z.cps.all (· < 128)=true)(d0 : dd 0=[])(d1 : ∀ i, val i∈dd i → dd (i+1)=dd i)(d2 : ∀ i, val i∉dd i → dd (i+1)=dd i++[val i])(dl : ∀ i, (dd i).length≤i)(hval : ∀ (i : Nat) (v : Value), (∃ c u, z.cps[i]? = some c ∧ v = .str ⟨#[c]⟩ u) → knd.is (val i) v=true ∧ v.scannable=true)(hb : z.cps.size+1 < scanBound)
    (h : ∀ (h' : Heap) (tk : Nat), j_ knd h' s.heap.objs.size (dd z.cps.size) → (∀ b o, b < s.heap.objs.size → s.heap.get? b=some o → h'.get? b=some o) → Q (.ref s.heap.objs.size) { s with heap := h', toks := tk }) :
    wpAny (model prog w) A (call (.type "set") [.str z zt]) Q E s := by
  obtain ⟨c, tl, hmro⟩ := F.called_set.mro
  have hmade := F.called_set.made
  have hsub := F.called_set.sub
  refine wpAny_call (codeAny_of_tree ?_)
  show wpAny _ _ (callAny (.type "set") _) _ _ _
  refine zJ ⟨Code.quiet_builtin _ (by decide +kernel), Bv F.entry_type_call ?_⟩
  rw [Around.under_plain (weight_type_call_type "set" [.str z zt] []) rfl]
  have x1 := F.called_set.notType
  have x2 := F.called_set.canCreate
  have x3 := F.typeCall_set_1 (.str z zt)
  repeat (any_goals (first | assumption | wp_step))
  refine CG (gp (.str z zt) (E := E) (Q₁ := fun ob s1 => ob = .ref s.heap.objs.size ∧ s1={ s with heap := s.heap.push (sob (ldr w)) }) ⟨rfl, rfl⟩) fun r s1 hr => ?_
  cases r with
  | error e => exact hr
  | ok fl =>
    cases fl with
    | ret ob =>
      obtain ⟨rfl, rfl⟩ := hr
      have gS : (s.heap.push (sob (ldr w))).get? s.heap.objs.size=some (sob (ldr w)) := zI _ rfl
      have hT : Shared.TypeIs { s with heap := s.heap.push (sob (ldr w)) } (.ref s.heap.objs.size) "set" := ⟨_, gS, rfl⟩
      have x4 := F.called_set.init.lookup
      have x5 := F.called_set.init.bind (.ref s.heap.objs.size)
      repeat (any_goals (first | assumption | wp_step))
      refine CG (codeAny_call_builtin (R := wants (fun r s2 => r = .none ∧ ∃ h' tk, s2={ s with heap := h', toks := tk } ∧ j_ knd h' s.heap.objs.size (dd z.cps.size) ∧ (∀ b o, b < s.heap.objs.size → s.heap.get? b=some o → h'.get? b=some o)) E) F.called_set.init.plain F.entry_set_init (check_set_init_1 hT ?_)) fun r2 s2 hr2 => ?_
      · have y1 := F.sub_str_set
        have y2 := F.sub_str_frozenset
        have y3 : (Value.type "str" == Value.type "dict")=false := by decide
        unfold Builtin.«set.__init__» noKeywords Builtin.Frozenset.updateFrom
        generalize hPI : pyIter=PI
        wp_walk
        subst hPI
        refine wpAny_pyIter_ascii hl (zl (wpAny_runValue ?_))
        have z1 : (s.heap.push (sob (ldr w))).objs.size=s.heap.objs.size+1 := CK ..
        have nf : s.heap.objs.size∉[(s.heap.push (sob (ldr w))).objs.size] := by
          rw [z1];simp only [zr]
          exact Ar (BF _)
        refine xu dd ((Walks.strAscii (by simp [hh]) _ z zt).toS) s.heap.objs.size nf val d1 d2 dl hval hb (z.cps.size - 0) 0 _ (by omega) (Ao _) ⟨_, zI _ rfl, rfl, rfl⟩ ?s0 ?rr
        case s0 => exact ⟨_, #[], 0, _, zq _ gS, ⟨rfl, rfl, rfl⟩, rfl, fun e he => by simp at he, fun k => by rw [d0];simp, by decide, by rfl, by rw [d0];rfl, ⟨rfl, pe⟩, rfl⟩
        case rr =>
          intro s' mv hS'
          obtain ⟨h', g', d', tk', os'⟩ := s'
          obtain rfl : g'=s.gens := mv.gens
          obtain rfl : d'=s.drawn := mv.drawn
          obtain rfl : os'=s.os := mv.os
          show wpAny _ _ _ _ _ _
          refine zJ ?_
          show wpAny _ _ (ret Value.none) _ _ _
          refine zJ ⟨rfl, h', tk', rfl, hS', fun b o hlt e => mv.heap b o ?_ (zq _ (zq _ e))⟩
          simp only [zN, zr, zZ, A6, not_or]
          exact ⟨Ar hlt, by rw [z1];exact Ar (B6 hlt)⟩
      · cases r2 with
        | error e => exact hr2
        | ok fl2 =>
          cases fl2 with
          | ret r =>
            obtain ⟨rfl, h', tk, rfl, hS', hk'⟩ := hr2
            repeat (any_goals (first | assumption | wp_step))
            exact h _ _ hS' hk'
          | _ => exact hr2.elim
    | _ => exact hr.elim
end
end PySem
namespace L2
open PySem PySem.Spec PyProof.Rows Wd
section
variable {X : Cx}
inductive de (P : PySem.Program)(w : PySem.World)(xs : List V)(H : Hp)(Q : VK) : Prop
  | mk : ∀ (a : Addr) (dl : List Str), (xs=[.ref a]) → (H a=some (StO P w a dl)) → (Q (.int (dl.length : Int)) H) → de P w xs H Q
theorem iN : cV X (.builtin "len") (de X.prog X.w) := by
  intro pins s σ H xs us Q I r h
  obtain ⟨a, dl, rfl, ha, q⟩ := h
  obtain ⟨u, rfl, ru⟩ := cZ r
  cases ru
  have hS : ve X.prog X.w s.heap a dl := (I.hok a _ ha).1
  obtain ⟨o, es, ep, t, ho, hex, hd, hel, hm, hb, hf, hn, hpl, hld⟩ := hS
  have hb : es.size < 4096 := hb
  refine call_len_set ho hex hd hf (by omega) ?_
  rw [hn]
  exact ⟨.int (dl.length : Int), H, (I.tok _).tok _, ⟨_, rfl⟩, q⟩
inductive dh (K : PySem.W.Frag)(xs : List V)(H : Hp)(Q : VK) : Prop
  | mk : ∀ p i j, (xs=[.ref p]) → (SqL K H p [.int i, .int j]) → (Q (.int (if j < i then j else i)) H) → dh K xs H Q
theorem iO (hc : X.calm=true) : cV X (.builtin "min") (dh X.K) := by
  intro pins s σ H xs us Q I r h
  obtain ⟨p, i, j, rfl, hq, q⟩ := h
  obtain ⟨u, rfl, ru⟩ := cZ r
  cases ru
  obtain ⟨its, rv, pl, _⟩ := I.list hq
  have ht := pl.isList
  obtain ⟨t, u, rfl⟩ := fh rv
  have hlt : p < s.heap.objs.size := by obtain ⟨_, e, _⟩ := ht;exact zM e
  refine call_min_walk (CO ht ?_)
  refine ⟨_, _, _, _, _, _, fun a b => decide (nAt i j a < nAt i j b), rfl, Walks.list (A := X.A.in1) (I.ok.hd hc) _ p (Ar hlt) _, ⟨⟨_, zI _ rfl, rfl, rfl⟩, ht.push _⟩, fun b hb => ?_, ?_, ?_, fun v h' tk hP hk => ?_⟩
  · show b < (s.heap.push _).objs.size
    rw [CK]
    rcases zN.mp hb with e | hb
    · rw [e];exact BF _
    · rw [zr.mp hb];exact B6 hlt
  · exact Nat.zero_lt_succ 1
  · refine CmpOf.ints_lt (nAt i j) fun a v hv => ?_
    match a, hv with
    | 0, hv => exact ⟨t, (zD hv).symm⟩
    | 1, hv => exact ⟨u, (zD hv).symm⟩
    | (a+2), hv => simp at hv
  · have old : ∀ b o, s.heap.get? b=some o → h'.get? b=some o := fun b o e => hk b o (fun z => by rw [zr.mp z] at e;exact absurd (zM e) (AL _)) (zq _ e)
    have hP : [Value.int i t, Value.int j u].toArray[if decide (j < i)=true then 1 else 0]? = some v := hP
    by_cases h : j < i
    · rw [if_pos (zH h)] at hP
      rw [if_pos h] at q
      exact ⟨.int j, H, I.kept old, ⟨u, (zD hP).symm⟩, q⟩
    · rw [zp h] at hP
      rw [if_neg h] at q
      exact ⟨.int i, H, I.kept old, ⟨t, (zD hP).symm⟩, q⟩
inductive di (K : PySem.W.Frag)(xs : List V)(H : Hp)(Q : VK) : Prop
  | mk : ∀ p i j, (xs=[.ref p]) → (SqL K H p [.int i, .int j]) → (Q (.int (if j > i then j else i)) H) → di K xs H Q
theorem iP (hc : X.calm=true) : cV X (.builtin "max") (di X.K) := by
  intro pins s σ H xs us Q I r h
  obtain ⟨p, i, j, rfl, hq, q⟩ := h
  obtain ⟨u, rfl, ru⟩ := cZ r
  cases ru
  obtain ⟨its, rv, pl, _⟩ := I.list hq
  have ht := pl.isList
  obtain ⟨t, u, rfl⟩ := fh rv
  have hlt : p < s.heap.objs.size := by obtain ⟨_, e, _⟩ := ht;exact zM e
  refine call_max_walk (CO ht ?_)
  refine ⟨_, _, _, _, _, _, fun a b => decide (nAt i j a > nAt i j b), rfl, Walks.list (A := X.A.in1) (I.ok.hd hc) _ p (Ar hlt) _, ⟨⟨_, zI _ rfl, rfl, rfl⟩, ht.push _⟩, fun b hb => ?_, ?_, ?_, fun v h' tk hP hk => ?_⟩
  · show b < (s.heap.push _).objs.size
    rw [CK]
    rcases zN.mp hb with e | hb
    · rw [e];exact BF _
    · rw [zr.mp hb];exact B6 hlt
  · exact Nat.zero_lt_succ 1
  · refine CmpOf.ints_gt (nAt i j) fun a v hv => ?_
    match a, hv with
    | 0, hv => exact ⟨t, (zD hv).symm⟩
    | 1, hv => exact ⟨u, (zD hv).symm⟩
    | (a+2), hv => simp at hv
  · have old : ∀ b o, s.heap.get? b=some o → h'.get? b=some o := fun b o e => hk b o (fun z => by rw [zr.mp z] at e;exact absurd (zM e) (AL _)) (zq _ e)
    have hP : [Value.int i t, Value.int j u].toArray[if decide (j > i)=true then 1 else 0]? = some v := hP
    by_cases h : j > i
    · rw [if_pos (zH h)] at hP
      rw [if_pos h] at q
      exact ⟨.int j, H, I.kept old, ⟨u, (zD hP).symm⟩, q⟩
    · rw [zp h] at hP
      rw [if_neg h] at q
      exact ⟨.int i, H, I.kept old, ⟨t, (zD hP).symm⟩, q⟩
inductive yy (K : PySem.W.Frag)(x : V)(y : V)(H : Hp)(Q : VK) : Prop
  | mk : ∀ a b ns ms, (x = .ref a) → (y = .ref b) → (SqT K H a (ns.map V.int)) → (SqT K H b (ms.map V.int)) → (Q (.bl (HT.bB ms ns)) H) → yy K x y H Q
theorem vo {K : PySem.W.Frag}(hK : X.K=K)(hu : X.A.units+64 < cLine) : OpR X (compareOp .Gt) (yy K) := by
  subst hK
  intro pins s σ H x y v u Q I rx ry h
  obtain ⟨a, b, ns, ms, rfl, rfl, ha, hb, q⟩ := h
  cases rx
  cases ry
  obtain ⟨its, r1, p1, _⟩ := I.tuple ha
  obtain ⟨its2, r2, p2, _⟩ := I.tuple hb
  have i1 : IntsAre its.toArray.toList ns := cv r1
  have i2 : IntsAre its2.toArray.toList ms := cv r2
  exact HT.kg p1 p2 i1 i2 (by omega) ⟨.bl (HT.bB ms ns), H, I, rfl, q⟩
inductive cq (P : PySem.Program)(w : PySem.World)(xs : List V)(H : Hp)(Q : VK) : Prop
  | mk : ∀ (u : List L), (xs=[tx u]) → (u.length≤4000) → (∀ (p : Addr) (dl : List Str), H p=none → dl.Nodup → (∀ z, z∈dl ↔ ∃ x∈u, z=toS [x]) → Q (.ref p) (upd H p (StO P w p dl))) → cq P w xs H Q
theorem gu (hc : X.calm=true) : cV X (.type "set") (cq X.prog X.w) := by
  intro pins s σ H xs us Q I r h
  obtain ⟨v, rfl, hz, q⟩ := h
  obtain ⟨u, rfl, ru⟩ := cZ r
  obtain ⟨zt, rfl⟩ := ru
  have hsz : (toS v).cps.size=v.length := ba v
  have hval : ∀ (i : Nat) (x : Value), (∃ c u, (toS v).cps[i]? = some c ∧ x = .str ⟨#[c]⟩ u) → ∃ t, x = .str (toS [v.getD i 0]) t := fun i x ⟨c, u, hc, e⟩ => by
    obtain ⟨y, hy, ey⟩ := b_ hc
    refine ⟨u, ?_⟩
    rw [e, ey, zx, hy]
    rfl
  refine kh (knd := strKind X.prog X.w) (val := fun i => toS [v.getD i 0]) (ddp fun i => toS [v.getD i 0]) (I.ok.hd hc) (Kx.asc v) (by unfold ddp;rfl) (fun i m => by rw [ddp, if_pos m]) (fun i m => by rw [ddp, if_neg m]) (mJ _) (fun i x e => by obtain ⟨t, rfl⟩ := hval i x e;exact ⟨strKind_is _ _ _ _, rfl⟩) (by rw [hsz];show _ < 4096;omega) fun h' tk hS k => ?_
  refine ⟨.ref s.heap.objs.size, _, I.laid (fun b o e => k b o (zM e) e) (zA _) (ve.lay hS), rfl, q _ _ (I.hok.fresh (zA _)) (eL _ _) fun z => ?_⟩
  rw [mV, hsz]
  constructor
  · rintro ⟨j, hj, rfl⟩
    refine ⟨v[j], Aj hj, ?_⟩
    show toS [v.getD j 0]=_
    rw [zx, fu hj]
    rfl
  · rintro ⟨x, hx, rfl⟩
    obtain ⟨j, hj, rfl⟩ := List.getElem_of_mem hx
    refine ⟨j, hj, ?_⟩
    show toS [v.getD j 0]=_
    rw [zx, fu hj]
    rfl
end
end L2
namespace L2
open PySem PySem.Spec PyProof.Rows
theorem r6 {X : Cx}{K : PySem.W.Frag}(hK : X.K=K)(hu : X.A.units < cLine) : OpR X (compareOp .Lt) (wN K) := by subst hK; exact uL hu
end L2
namespace Kx
open PySem PySem.Spec PyProof.Rows L2 Wd Tv
theorem xB : bootBuiltins "set" = some (.type "set") := by kernel_rfl
theorem bT {n : Nat}(h : n≤16777216) : n≤sizeLine := by rw [a6]; exact h
theorem vp {t u : TS}{D : iq}{σ : L2.St}{H : Hp}(h : t D σ H) : cK t u D σ true H := wX h
theorem ku {t u : TS}{D : iq}{σ : L2.St}{H : Hp}(h : u D σ H) : cK t u D σ false H := qh h
theorem y7 {u : TT}{σ : L2.St}{Q : Bool → Hp → Prop}{H : Hp}(h : u σ H Q) : p5 u σ Q false H := qh h
theorem xC {ta tb : TE}{σ : L2.St}{Q : VK}{H : Hp}(h : ta σ H Q) : kE ta tb σ Q true H := wX h
theorem xD {ta tb : TE}{σ : L2.St}{Q : VK}{H : Hp}(h : tb σ H Q) : kE ta tb σ Q false H := qh h
theorem nkT {Q : Bool → Hp → Prop}{H : Hp}(h : Q false H) : ft Q true H := h
theorem lt0 {n c : Nat}(h : n+64 < c) : n < c := by omega
def atZ (w : List L)(j : Int) : L := w.getD (j % (w.length : Int)).toNat 0
def sgZ (w : List L)(p wy k : Int) : L := if wy=1 then atZ w (p+wy*k) else inv (atZ w (p+wy*k))
theorem iQ {w : List L}(j : Int) : atZ w (j+(w.length : Int))=atZ w j := by
  unfold atZ
  rw [Int.add_emod_right]
theorem qz {w : List L}{wy : Int}(hw : wy=1 ∨ wy = -1)(p k : Int) : sgZ w p wy (k+(w.length : Int))=sgZ w p wy k := by
  unfold sgZ
  rcases hw with rfl | rfl
  · rw [if_pos rfl, if_pos rfl, ← iQ (p+1*k)]
    congr 1
    omega
  · rw [if_neg (by decide), if_neg (by decide), ← iQ (p + -1*(k+(w.length : Int)))]
    congr 2
    omega
theorem pH {f g : Int → L}{a b : Int}(ha : 0 < a)(hb : 0 < b)(pf : ∀ k, f (k+a)=f k)(pg : ∀ k, g (k+b)=g k)(h : ∀ k, 0≤k → k < a+b → f k=g k) : f (-1)=g (-1) := by
  have e1 := pf (-1)
  have e2 := h (-1+a) (by omega) (by omega)
  have e3 := pg (-1+a)
  have e4 := h (-1+a+b) (by omega) (by omega)
  have e5 := pf (-1+b)
  have e6 := h (-1+b) (by omega) (by omega)
  have e7 := pg (-1)
  rw [← e1, e2, ← e3, ← e4, show -1+a+b = -1+b+a by omega, e5, e6, e7]
def frN (f g : Int → L) : Nat → Nat → Nat
  | k, 0 => k
  | k, b+1 => if f k=g k then frN f g (k+1) b else k
theorem cP (f g : Int → L) : ∀ (b k : Nat), k≤frN f g k b ∧ frN f g k b≤k+b ∧ (∀ j : Nat, k≤j → j < frN f g k b → f j=g j) ∧ (frN f g k b < k+b → f (frN f g k b)≠g (frN f g k b))
  | 0, k => ⟨zA _, zA _, fun j h1 h2 => absurd h2 (by show ¬ j < k;omega), fun h => absurd h (by show ¬ k < k+0;omega)⟩
  | b+1, k => by
    unfold frN
    by_cases e : f k=g k
    · rw [if_pos e]
      obtain ⟨h1, h2, h3, h4⟩ := cP f g b (k+1)
      refine ⟨by omega, by omega, fun j hj hl => ?_, fun h => h4 (by omega)⟩
      by_cases hk : j=k
      · rw [hk];exact e
      · exact h3 j (by omega) hl
    · rw [if_neg e]
      exact ⟨zA _, by omega, fun j h1 h2 => by omega, fun _ => e⟩
def ptB (u : List L)(f g : Int → L)(n : Nat) : Bool := decide (0 < n) && (decide (f (-1)≠g (-1)) && (decide (f n≠g n) && (decide (rfI u (inv (f ((n : Int) - 1))) (f n) < rfI u (inv (f ((n : Int) - 1))) (g n)) == decide (rfI u (f 0) (inv (f (-1))) < rfI u (f 0) (inv (g (-1)))))))
theorem dZ {u : List L}{f g : Int → L}{n : Nat}(h : f (-1)=g (-1)) : ptB u f g n=false := by
  unfold ptB
  rw [zp (p := f (-1)≠g (-1)) (fun z => z h), Ab, CJ]
theorem qA {w v : List L}(hw : w≠[])(hv : v≠[]){p q wy : Int}(hy : wy=1 ∨ wy = -1)(h : sgZ w p 1 (-1)≠sgZ v q wy (-1)) : frN (sgZ w p 1) (sgZ v q wy) 0 (w.length+v.length) < w.length+v.length ∧ sgZ w p 1 (frN (sgZ w p 1) (sgZ v q wy) 0 (w.length+v.length))≠sgZ v q wy (frN (sgZ w p 1) (sgZ v q wy) 0 (w.length+v.length)) := by
  have l1 := Ai.mpr hw
  have l2 := Ai.mpr hv
  obtain ⟨_, h2, h3, h4⟩ := cP (sgZ w p 1) (sgZ v q wy) (w.length+v.length) 0
  generalize frN (sgZ w p 1) (sgZ v q wy) 0 (w.length+v.length)=n at h2 h3 h4 ⊢
  by_cases c : n < w.length+v.length
  · exact ⟨c, h4 (by omega)⟩
  · refine absurd (pH (f := sgZ w p 1) (g := sgZ v q wy) (a := (w.length : Int)) (b := (v.length : Int)) (by omega) (by omega) (qz (.inl rfl) p) (qz hy q) fun k hk hl => ?_) h
    obtain ⟨m, rfl⟩ := AD hk
    exact h3 m (Ao _) (by omega)
theorem r9 {w : List L}(h : Rd w){a : Nat}(ha : a+1 < w.length) : w[a+1]≠inv w[a] := by
  have e : w=w.take (a+1)++w.drop (a+1) := (zQ _ _).symm
  rw [e] at h
  obtain ⟨_, _, j⟩ := (bO _ _).mp h
  refine j _ _ ?_ ?_
  · rw [BD, zy, show min (a+1) w.length - 1=a by omega, Ag (by omega), fu (by omega)]
  · rw [B2, Al, fu (by omega)]
theorem rnd_at {w : List L}(R : Rnd w)(j : Int) : atZ w (j+1)≠inv (atZ w j) := by
  have l1 := Ai.mpr R.ne
  have e0 := Ap j (show (w.length : Int)≠0 by omega)
  have e1 := Af j (show (0 : Int) < (w.length : Int) by omega)
  obtain ⟨a, ha⟩ := AD e0
  have hal : a < w.length := by omega
  have ea : atZ w j=w[a] := by
    unfold atZ
    rw [ha, zx, Ah, fu hal]
    rfl
  rw [ea]
  by_cases c : a+1 < w.length
  · have e2 : (j+1) % (w.length : Int)=((a+1 : Nat) : Int) := by
      rw [Cc, ha, show (1 : Int) % (w.length : Int)=1 from Ax (by omega) (by omega)]
      exact Ax (by omega) (by omega)
    have e3 : atZ w (j+1)=w[a+1] := by
      unfold atZ
      rw [e2, zx, Ah, fu c]
      rfl
    rw [e3]
    exact r9 R.rd c
  · have e2 : (j+1) % (w.length : Int)=0 := by
      have : j+1=(w.length : Int)*(j / (w.length : Int))+(w.length : Int) := by
        have := Int.mul_ediv_add_emod j (w.length : Int)
        omega
      rw [this, Int.add_emod_right, Int.mul_emod_right]
    have e3 : atZ w (j+1)=w[0] := by
      unfold atZ
      rw [e2, zx, show (0 : Int).toNat=0 from rfl, fu l1]
      rfl
    rw [e3]
    have hl : w.getLast? = some w[a] := by
      rw [BD, show w.length - 1=a by omega, fu hal]
    have hh : w.head? = some w[0] := by rw [B2, fu l1]
    exact R.jn _ _ hl hh
theorem m_ {w : List L}(R : Rnd w){p q : Int}{n : Nat}(hn : 0 < n)(h : ∀ j : Nat, j < n → sgZ w p 1 j=sgZ w q (-1) j)(hq : (q - n+1) % (w.length : Int)=p % (w.length : Int)) : False := by
  have at_mod : ∀ {i j : Int}, i % (w.length : Int)=j % (w.length : Int) → atZ w i=atZ w j := fun e => by unfold atZ;rw [e]
  have key : ∀ j : Nat, j < n → atZ w (p+j)=inv (atZ w (p+(n : Int) - 1 - j)) := fun j hj => by
    have := h j hj
    unfold sgZ at this
    rw [if_pos rfl, if_neg (by decide)] at this
    rw [show p+(j : Int)=p+1*(j : Int) by omega, this]
    congr 1
    refine at_mod ?_
    have e : q + -1*(j : Int)=(q - n+1)+((n : Int) - 1 - j) := by omega
    rw [e, Cc, hq, ← Cc]
    congr 1
    omega
  by_cases c : n % 2=1
  · obtain ⟨r, hr⟩ : ∃ r, n=2*r+1 := ⟨n / 2, by omega⟩
    have := key r (by omega)
    rw [show p+(n : Int) - 1 - (r : Int)=p+r by omega] at this
    exact g9 _ this.symm
  · obtain ⟨r, hr⟩ : ∃ r, n=2*(r+1) := ⟨n / 2 - 1, by omega⟩
    have := key (r+1) (by omega)
    rw [show p+(n : Int) - 1 - ((r+1 : Nat) : Int)=p+r by omega, show p+((r+1 : Nat) : Int)=(p+r)+1 by omega] at this
    exact rnd_at R _ this
abbrev P2 := Int × Int
inductive Lk where
  | b (s t : P2)
  | a (s t : P2) (n : Nat)
  | g (s t : P2) (n : Nat)
def cB : List Int := ("beside" : Str).cps.toList.map Int.ofNat
def cA : List Int := ("along" : Str).cps.toList.map Int.ofNat
def cG : List Int := ("against" : Str).cps.toList.map Int.ofNat
theorem y8 : cB≠cA := by decide +kernel
theorem y9 : cB≠cG := by decide +kernel
def pZ (s : P2) : List Int := [s.1, s.2]
def Lk.key : Lk → cJ
  | .b s t => [cB, pZ s, pZ t]
  | .a s t n => [cA, pZ s, pZ t, [(n : Int)]]
  | .g s t n => [cG, pZ s, pZ t, [(n : Int)]]
def shL : List Int → List Kn := fun x => if x=cB then [.p, .p] else [.p, .p, .i]
abbrev Sp2 (H : Hp)(a : Addr)(s : P2) : Prop := H a=some (.tup [.int s.1, .int s.2])
def r_ (H : Hp)(r : Addr) : Lk → Prop
  | .b s t => ∃ a c, H r=some (.tup [.str "beside", .ref a, .ref c]) ∧ Sp2 H a s ∧ Sp2 H c t
  | .a s t n => ∃ a c, H r=some (.tup [.str "along", .ref a, .ref c, .int (n : Nat)]) ∧ Sp2 H a s ∧ Sp2 H c t
  | .g s t n => ∃ a c, H r=some (.tup [.str "against", .ref a, .ref c, .int (n : Nat)]) ∧ Sp2 H a s ∧ Sp2 H c t
theorem r_.to {H H' : Hp}{r : Addr}{k : Lk}(h : r_ H r k)(s : ∀ b ys, H b=some (.tup ys) → H' b=some (.tup ys)) : r_ H' r k := by
  cases k with
  | b _ _ => obtain ⟨a, c, h1, h2, h3⟩ := h;exact ⟨a, c, s _ _ h1, s _ _ h2, s _ _ h3⟩
  | a _ _ _ => obtain ⟨a, c, h1, h2, h3⟩ := h;exact ⟨a, c, s _ _ h1, s _ _ h2, s _ _ h3⟩
  | g _ _ _ => obtain ⟨a, c, h1, h2, h3⟩ := h;exact ⟨a, c, s _ _ h1, s _ _ h2, s _ _ h3⟩
theorem r_.kd {H : Hp}{r : Addr}{k : Lk}(h : r_ H r k) : KdQ .s shL H r k.key := by
  cases k with
  | b s t =>
    obtain ⟨a, c, h1, h2, h3⟩ := h
    refine ⟨_, h1, ?_⟩
    show FlQ H (.s::shL cB) _ [cB, pZ s, pZ t]
    unfold shL
    rw [if_pos rfl]
    exact .s _ (.p h2 (.p h3 .nil))
  | a s t n =>
    obtain ⟨a, c, h1, h2, h3⟩ := h
    refine ⟨_, h1, ?_⟩
    show FlQ H (.s::shL cA) _ [cA, pZ s, pZ t, [(n : Int)]]
    unfold shL
    rw [if_neg y8.symm]
    exact .s _ (.p h2 (.p h3 (.i _ .nil)))
  | g s t n =>
    obtain ⟨a, c, h1, h2, h3⟩ := h
    refine ⟨_, h1, ?_⟩
    show FlQ H (.s::shL cG) _ [cG, pZ s, pZ t, [(n : Int)]]
    unfold shL
    rw [if_neg y9.symm]
    exact .s _ (.p h2 (.p h3 (.i _ .nil)))
def LkA (H : Hp)(zs : List (Addr × Lk)) : Prop := ∀ z∈zs, r_ H z.1 z.2
theorem LkA.to {H H' : Hp}{zs : List (Addr × Lk)}(h : LkA H zs)(s : ∀ b ys, H b=some (.tup ys) → H' b=some (.tup ys)) : LkA H' zs := fun z hz => (h z hz).to s
theorem LkA.same {H H' : Hp}{zs : List (Addr × Lk)}(h : LkA H zs)(s : aA H H') : LkA H' zs := h.to fun _ _ e => s _ _ e
theorem LkA.app {H : Hp}{zs ys : List (Addr × Lk)}(h : LkA H zs)(g : LkA H ys) : LkA H (zs++ys) := fun z hz => (Ac.mp hz).elim (h z) (g z)
def ltP (s t : P2) : Bool := HT.bB [s.1, s.2] [t.1, t.2]
theorem gx {s t : P2} : ltP s t=true ↔ s.1 < t.1 ∨ (s.1=t.1 ∧ s.2 < t.2) := by
  unfold ltP
  rw [HT.bC, HT.bC, HT.bQ]
  by_cases e1 : s.1=t.1
  · rw [if_pos e1]
    by_cases e2 : s.2=t.2
    · rw [if_pos e2]
      simp only [zP, false_iff, not_or, not_and]
      omega
    · rw [if_neg e2, zE]
      omega
  · rw [if_neg e1, zE]
    omega
def bP (u : List L)(a b c d : L) : Bool := decide ([a, b, c, d].Nodup) && (decide (rfI u a c < rfI u a b) != decide (rfI u a d < rfI u a b))
def wyZ (W : List (List L))(i : Int) : List L := W.getD i.toNat []
def fZ (W : List (List L))(s : P2)(wy : Int) : Int → L := sgZ (wyZ W s.1) s.2 wy
def nZ (W : List (List L))(s t : P2)(wy : Int) : Nat := frN (fZ W s 1) (fZ W t wy) 0 ((wyZ W s.1).length+(wyZ W t.1).length)
def t_ (u : List L)(W : List (List L))(s t : P2) : List Lk := if ltP s t && bP u (inv (fZ W s 1 0)) (fZ W s 1 1) (inv (fZ W t 1 0)) (fZ W t 1 1) then [.b s t] else []
def ua (u : List L)(W : List (List L))(s t : P2) : List Lk := if ltP s t && ptB u (fZ W s 1) (fZ W t 1) (nZ W s t 1) then [.a s t (nZ W s t 1)] else []
def jJ (W : List (List L))(s t : P2)(n : Nat) : P2 := (t.1, (t.2 - (n : Int)+1) % ((wyZ W t.1).length : Int))
def ki (u : List L)(W : List (List L))(s t : P2) : List Lk := if ltP s (jJ W s t (nZ W s t (-1))) && ptB u (fZ W s 1) (fZ W t (-1)) (nZ W s t (-1)) then [.g s t (nZ W s t (-1))] else []
structure WyR (n : Nat) (W : List (List L)) : Prop where
  le : W.length≤4
  lo : 1≤W.length
  ws : ∀ w∈W, Rnd w ∧ w.length≤30 ∧ InM n w
structure WyA (n : Nat) (W : List (List L)) (H : Hp) (a : Addr) : Prop where
  at_ : H a=some (.tup (W.map tx))
  ok : WyR n W
theorem WyA.same {n : Nat}{W : List (List L)}{H H' : Hp}{a : Addr}(h : WyA n W H a)(s : aA H H') : WyA n W H' a := ⟨s _ _ h.at_, h.ok⟩
def okP (W : List (List L))(s : P2) : Prop := 0≤s.1 ∧ s.1 < (W.length : Int) ∧ 0≤s.2 ∧ s.2 < ((wyZ W s.1).length : Int)
theorem WyR.get {n : Nat}{W : List (List L)}(h : WyR n W){i : Int}(h0 : 0≤i)(h1 : i < (W.length : Int)) : wyZ W i∈W ∧ atI (W.map tx) i=some (tx (wyZ W i)) ∧ Rnd (wyZ W i) ∧ (wyZ W i).length≤30 ∧ 0 < (wyZ W i).length ∧ InM n (wyZ W i) := by
  obtain ⟨m, rfl⟩ := AD h0
  have hm : m < W.length := by omega
  have e : wyZ W (m : Int)=W[m] := by
    unfold wyZ
    rw [Ah, zx, fu hm]
    rfl
  rw [e]
  have hmem := Aj hm
  obtain ⟨a, b, c⟩ := h.ws _ hmem
  exact ⟨hmem, cL (j := m) (by rw [zW, fu hm];rfl), a, b, Ai.mpr a.ne, c⟩
theorem iR {w : List L}(h : 0 < w.length)(j : Int) : atZ w j∈w := by
  have e0 := Ap j (show (w.length : Int)≠0 by omega)
  have e1 := Af j (show (0 : Int) < (w.length : Int) by omega)
  unfold atZ
  rw [zx, fu (show (j % (w.length : Int)).toNat < w.length by omega)]
  exact Aj _
theorem iS {n : Nat}{w : List L}(h : 0 < w.length)(hi : InM n w)(p wy k : Int) : (sgZ w p wy k).val % 6 < n := by
  unfold sgZ
  have := hi _ (iR h (p+wy*k))
  split
  · exact this
  · rw [iJ]
    have := (atZ w (p+wy*k)).isLt
    split <;> omega
theorem pI {n : Nat}{u : List L}{W : List (List L)}(hW : WyR n W){s t : P2}(hs : okP W s)(ht : okP W t)(hb : fZ W s 1 (-1)≠fZ W t (-1) (-1)) : (if ltP (jJ W s t (nZ W s t (-1))) s then [] else if ptB u (fZ W s 1) (fZ W t (-1)) (nZ W s t (-1)) then [Lk.g s t (nZ W s t (-1))] else [])=ki u W s t := by
  unfold ki
  by_cases c1 : ltP (jJ W s t (nZ W s t (-1))) s=true
  · rw [if_pos c1]
    have : ltP s (jJ W s t (nZ W s t (-1)))=false := by
      rw [CY]
      intro z
      rw [gx] at c1 z
      omega
    rw [this, Ab, if_neg (by decide)]
  · rw [if_neg c1]
    by_cases c2 : ltP s (jJ W s t (nZ W s t (-1)))=true
    · rw [c2, AJ]
    · have e : s=jJ W s t (nZ W s t (-1)) := by
        have c1 : ¬ (ltP (jJ W s t (nZ W s t (-1))) s=true) := c1
        rw [gx] at c1 c2
        exact CI (by omega) (by omega)
      have : ptB u (fZ W s 1) (fZ W t (-1)) (nZ W s t (-1))=false := by
        rw [CY]
        intro z
        unfold ptB at z
        rw [AV, zE] at z
        obtain ⟨hn, _⟩ := z
        have e1 : s.1=t.1 := by
          have := zR Prod.fst e
          exact this
        have e2 : s.2=(t.2 - (nZ W s t (-1) : Nat)+1) % ((wyZ W t.1).length : Int) := zR Prod.snd e
        obtain ⟨_, _, R, _, lp, _⟩ := hW.get hs.1 hs.2.1
        refine m_ (w := wyZ W s.1) (p := s.2) (q := t.2) R hn (fun j hj => ?_) ?_
        · have := (cP (fZ W s 1) (fZ W t (-1)) ((wyZ W s.1).length+(wyZ W t.1).length) 0).2.2.1 j (Ao _) hj
          unfold fZ at this
          rw [← e1] at this
          exact this
        · rw [← e1] at e2
          rw [e2, Int.emod_emod_of_dvd _ (Int.dvd_refl _)]
      rw [this, CJ]
def lkZ (u : List L)(W : List (List L))(s t : P2) : List Lk := t_ u W s t++(ua u W s t++ki u W s t)
def nc (u : List L)(W : List (List L))(i j : Int)(p : Nat)(m : Nat) : List Lk := (List.range m).flatMap fun q : Nat => lkZ u W (i, (p : Int)) (j, (q : Int))
def eQ (u : List L)(W : List (List L))(i j : Int)(m : Nat) : List Lk := (List.range m).flatMap fun p : Nat => nc u W i j p (wyZ W j).length
theorem jK (u : List L)(W : List (List L))(i j : Int)(p m : Nat) : nc u W i j p (m+1)=nc u W i j p m++lkZ u W (i, (p : Int)) (j, (m : Int)) := by
  unfold nc
  rw [Dr, Cy]
  simp
theorem jL (u : List L)(W : List (List L))(i j : Int)(m : Nat) : eQ u W i j (m+1)=eQ u W i j m++nc u W i j m (wyZ W j).length := by
  unfold eQ
  rw [Dr, Cy]
  simp
theorem vq (u : List L)(W : List (List L))(s t : P2) : (lkZ u W s t).length≤3 := by
  unfold lkZ t_ ua ki
  rw [zo, zo]
  have h : ∀ (b : Bool) (x : Lk), (if b=true then [x] else []).length≤1 := fun b x => by cases b <;> simp
  have h1 := h (ltP s t && bP u (inv (fZ W s 1 0)) (fZ W s 1 1) (inv (fZ W t 1 0)) (fZ W t 1 1)) (.b s t)
  have h2 := h (ltP s t && ptB u (fZ W s 1) (fZ W t 1) (nZ W s t 1)) (.a s t (nZ W s t 1))
  have h3 := h (ltP s (jJ W s t (nZ W s t (-1))) && ptB u (fZ W s 1) (fZ W t (-1)) (nZ W s t (-1))) (.g s t (nZ W s t (-1)))
  omega
theorem iT (u : List L)(W : List (List L))(i j : Int)(p : Nat) : ∀ m, (nc u W i j p m).length≤3*m
  | 0 => zA _
  | m+1 => by
    have := iT u W i j p m
    have := vq u W (i, (p : Int)) (j, (m : Int))
    rw [jK, zo]
    omega
theorem ng (u : List L)(W : List (List L))(i j : Int){b : Nat}(hb : (wyZ W j).length≤b) : ∀ m, (eQ u W i j m).length≤3*b*m
  | 0 => zA _
  | m+1 => by
    have := ng u W i j hb m
    have := iT u W i j m (wyZ W j).length
    rw [jL, zo, Nat.mul_add, Nat.mul_one]
    omega
abbrev Wk3 (H : Hp)(x : Addr)(s : P2)(wy : Int) : Prop := H x=some (.tup [.int s.1, .int s.2, .int wy])
inductive xE (vs : List V)(H : Hp)(Q : VK)(u3_ : XK) : Prop
  | mk : ∀ (u : List L) (k : Nat) (a b : L), (vs=[tx u, tx [a], tx [b]]) → SK u k → a∈u → b∈u → Q (.int (rfI u a b)) H → xE vs H Q u3_
inductive se (vs : List V)(H : Hp)(Q : VK)(u3_ : XK) : Prop
  | mk : ∀ (u : List L) (k : Nat) (s a b : L), (vs=[tx u, tx [s], tx [a], tx [b]]) → SK u k → s∈u → a∈u → b∈u → (∀ H', aA H H' → Q (.bl (decide (rfI u s a < rfI u s b))) H') → se vs H Q u3_
inductive hZ (vs : List V)(H : Hp)(Q : VK)(u3_ : XK) : Prop
  | mk : ∀ (a x : Addr) (n : Nat) (W : List (List L)) (s : P2) (wy k : Int), (vs=[.ref a, .ref x, .int k]) → WyA n W H a → Wk3 H x s wy → 0≤s.1 → s.1 < (W.length : Int) → (wy=1 ∨ wy = -1) → (∀ H', aA H H' → Q (tx [fZ W s wy k]) H') → hZ vs H Q u3_
inductive jM (vs : List V)(H : Hp)(Q : VK)(u3_ : XK) : Prop
  | mk : ∀ (a x y : Addr) (n : Nat) (W : List (List L)) (s t : P2) (wy : Int), (vs=[.ref a, .ref x, .ref y]) → WyA n W H a → Wk3 H x s 1 → Wk3 H y t wy → okP W s → okP W t → (wy=1 ∨ wy = -1) → (∀ H', aA H H' → Q (.int ((if fZ W s 1 (-1)=fZ W t wy (-1) then 0 else nZ W s t wy : Nat) : Int)) H') → jM vs H Q u3_
def h_ (u : List L)(f g : Int → L)(n : Nat) : Bool := decide (0 < n) && (decide (rfI u (inv (f ((n : Int) - 1))) (f n) < rfI u (inv (f ((n : Int) - 1))) (g n)) == decide (rfI u (f 0) (inv (f (-1))) < rfI u (f 0) (inv (g (-1)))))
inductive jN (vs : List V)(H : Hp)(Q : VK)(u3_ : XK) : Prop
  | mk : ∀ (u : List L) (a x y : Addr) (n m : Nat) (W : List (List L)) (s t : P2) (wy : Int), (vs=[tx u, .ref a, .ref x, .ref y, .int (m : Nat)]) → SK u n → WyA n W H a → Wk3 H x s 1 → Wk3 H y t wy → okP W s → okP W t → (wy=1 ∨ wy = -1) → (∀ H', aA H H' → Q (.bl (h_ u (fZ W s 1) (fZ W t wy) m)) H') → jN vs H Q u3_
inductive xF (vs : List V)(H : Hp)(Q : VK)(u3_ : XK) : Prop
  | mk : ∀ (a x : Addr) (n : Nat) (W : List (List L)) (s : P2), (vs=[.ref a, .ref x]) → WyA n W H a → Sp2 H x s → okP W s → (∀ H', aA H H' → Q (tx [inv (fZ W s 1 0), fZ W s 1 1]) H') → xF vs H Q u3_
inductive pJ (r : List L → List (List L) → P2 → P2 → List Lk)(vs : List V)(H : Hp)(Q : VK)(u3_ : XK) : Prop
  | mk : ∀ (u : List L) (a x y : Addr) (n : Nat) (W : List (List L)) (s t : P2), (vs=[tx u, .ref a, .ref x, .ref y]) → SK u n → WyA n W H a → Sp2 H x s → Sp2 H y t → okP W s → okP W t →
    (∀ (l : Addr) (zs : List (Addr × Lk)) (H' : Hp), H l=none → aA H H' → H' l=some (.lst ((zs.map (·.1)).map V.ref)) → LkA H' zs → zs.map (·.2)=r u W s t → Q (.ref l) H') → pJ r vs H Q u3_
def vr (u : List L)(W : List (List L))(s t : P2) : List Lk := if bP u (inv (fZ W s 1 0)) (fZ W s 1 1) (inv (fZ W t 1 0)) (fZ W t 1 1) then [.b s t] else []
def sf (u : List L)(W : List (List L))(s t : P2) : List Lk := if ptB u (fZ W s 1) (fZ W t 1) (nZ W s t 1) then [.a s t (nZ W s t 1)] else []
def ub (u : List L)(W : List (List L))(s t : P2) : List Lk := ki u W s t++(if ltP s t then sf u W s t++vr u W s t else [])
theorem nh (u : List L)(W : List (List L))(s t : P2) : (ub u W s t).Perm (lkZ u W s t) := by
  unfold ub lkZ ua t_ sf vr
  cases ltP s t with
  | true =>
    rw [if_pos rfl, AJ, AJ]
    refine AB.trans ?_
    rw [← zw]
    exact (AB).append_right _
  | false =>
    rw [if_neg (by decide), Ab, Ab, if_neg (by decide), if_neg (by decide)]
    simp
inductive iU (vs : List V)(H : Hp)(Q : VK)(u3_ : XK) : Prop
  | mk : ∀ (u : List L) (a : Addr) (n : Nat) (W : List (List L)) (i j : Int), (vs=[tx u, .ref a, .int i, .int j]) → SK u n → WyA n W H a → 0≤i → i < (W.length : Int) → 0≤j → j < (W.length : Int) →
    (∀ (l : Addr) (zs : List (Addr × Lk)) (H' : Hp), H l=none → aA H H' → H' l=some (.lst ((zs.map (·.1)).map V.ref)) → LkA H' zs → (zs.map (·.2)).Perm (eQ u W i j (wyZ W i).length) → ((zs.map (·.2)).map Lk.key).Pairwise qle → Q (.ref l) H') → iU vs H Q u3_
theorem eS {n : Nat}{u : List L}(U : SK u n){W : List (List L)}(hW : WyR n W){s : P2}(os : okP W s)(wy k : Int) : fZ W s wy k∈u ∧ inv (fZ W s wy k)∈u := by
  obtain ⟨_, _, _, _, lp, hi⟩ := hW.get os.1 os.2.1
  have := iS lp hi s.2 wy k
  exact ⟨(U.mem _).mpr this, (U.mem _).mpr (by rw [gf];exact this)⟩
theorem si {u : List L}{f g : Int → L}{n : Nat}(h : f (-1)≠g (-1))(h' : f n≠g n) : h_ u f g n=ptB u f g n := by
  unfold h_ ptB
  rw [zH h, zH h', AJ, AJ]
theorem qB {u : List L}{f g : Int → L} : h_ u f g 0=false := rfl
theorem jO {n : Nat}{u : List L}{W : List (List L)}(hW : WyR n W){s t : P2}(os : okP W s)(ot : okP W t){wy : Int}(hwy : wy=1 ∨ wy = -1) : h_ u (fZ W s 1) (fZ W t wy) (if fZ W s 1 (-1)=fZ W t wy (-1) then 0 else nZ W s t wy)=ptB u (fZ W s 1) (fZ W t wy) (nZ W s t wy) := by
  by_cases e : fZ W s 1 (-1)=fZ W t wy (-1)
  · rw [if_pos e, qB, dZ e]
  · rw [if_neg e]
    obtain ⟨_, _, Rw, _⟩ := hW.get os.1 os.2.1
    obtain ⟨_, _, Rv, _⟩ := hW.get ot.1 ot.2.1
    exact si e (qA Rw.ne Rv.ne hwy e).2
theorem xG (a b : Bool) : (a == b)=decide (V.bl a=V.bl b) := by cases a <;> cases b <;> rfl
theorem ia {H H4 : Hp}{Q : VK}{r : List Lk}{l : Addr}(q : aA H H4)(hl : H4 l=none)(k : ∀ (l : Addr) (zs : List (Addr × Lk)) (H' : Hp), H l=none → aA H H' → H' l=some (.lst ((zs.map (·.1)).map V.ref)) → LkA H' zs → zs.map (·.2)=r → Q (.ref l) H')(e : r=[]) : Q (.ref l) (upd H4 l (.lst [])) :=
  k l [] _ (q.free hl) (q.trans (aA.new hl)) ah (fun _ h => absurd h (by simp)) e.symm
theorem iV {H H4 : Hp}{Q : VK}{r : List Lk}{m : Lk}{l c : Addr}{ys : List V}(q : aA H H4)(hc : H4 c=none)(hl : (upd H4 c (.tup ys)) l=none)(hm : r_ (upd H4 c (.tup ys)) c m)(k : ∀ (l : Addr) (zs : List (Addr × Lk)) (H' : Hp), H l=none → aA H H' → H' l=some (.lst ((zs.map (·.1)).map V.ref)) → LkA H' zs → zs.map (·.2)=r → Q (.ref l) H')(e : r=[m]) : Q (.ref l) (upd (upd H4 c (.tup ys)) l (.lst [.ref c])) := by
  have q1 := q.trans (aA.new (o := .tup ys) hc)
  refine k l [(c, m)] _ (q1.free hl) (q1.trans (aA.new hl)) ah (fun z h => ?_) e.symm
  rw [zr.mp h]
  exact hm.to fun _ _ e => aA.new hl _ _ e
theorem eN {H H2 : Hp}{l : Addr}{o : HO}(s : aA H H2)(h : H l=none) : aA H (upd H2 l o) := fun b u e => by rw [aG (aw e h)]; exact s b u e
theorem gC {H : Hp}{l : Addr}{xs : List V}{o : HO}(h : H l=some (.lst xs)) : ∀ b ys, H b=some (.tup ys) → (upd H l o) b=some (.tup ys) := fun b ys e => by
  have : b≠l := fun z => by rw [z, h] at e;cases e
  rw [aG this]
  exact e
theorem gD (xs ys : List (Addr × Lk)) : ((xs.map (·.1)).map V.ref)++((ys.map (·.1)).map V.ref)=((xs++ys).map (·.1)).map V.ref := by rw [AR, AR]
theorem y_ {w : List L}{j : Int}(h : 0 < (w.length : Int)) : atI (toS w).cps.toList (j % (w.length : Int))=some (cp (atZ w j)) := by
  have e0 := Ap j (show (w.length : Int)≠0 by omega)
  have e1 := Af j h
  refine cO (k := (j % (w.length : Int)).toNat) (by omega) ?_
  unfold atZ
  rw [zx, fu (show (j % (w.length : Int)).toNat < w.length by omega)]
  rfl
theorem xH {f g : Int → L}{N i : Nat}(h : ∀ j : Nat, j < i → f j=g j)(hi : i≤N)(he : i=N ∨ f i≠g i) : frN f g 0 N=i := by
  obtain ⟨_, h2, h3, h4⟩ := cP f g N 0
  generalize frN f g 0 N=n at h2 h3 h4 ⊢
  by_cases c : n < i
  · exact absurd (h n c) (h4 (by omega))
  · by_cases c2 : i < n
    · rcases he with rfl | he
      · omega
      · exact absurd (h3 i (Ao _) c2) he
    · omega
theorem zc {a b c d : L}{dl : List Str}(nd : dl.Nodup)(hm : ∀ z, z∈dl ↔ ∃ x∈[a, b, c, d], z=toS [x]) : decide ((dl.length : Int) < 4)=!decide ([a, b, c, d].Nodup) := by
  by_cases h : [a, b, c, d].Nodup
  · rw [zH h]
    refine zp ?_
    have nd2 : ([a, b, c, d].map fun x => toS [x]).Nodup := List.Pairwise.map _ (fun x y n e => n (Be (iC e)).1) h
    have p : ([a, b, c, d].map fun x => toS [x]).Perm dl := (List.perm_ext_iff_of_nodup nd2 nd).mpr fun z => by
      rw [hm, Ak]
      exact ⟨fun ⟨x, h1, h2⟩ => ⟨x, h1, h2.symm⟩, fun ⟨x, h1, h2⟩ => ⟨x, h1, h2.symm⟩⟩
    have := p.length_eq
    rw [zu] at this
    have : dl.length=4 := this.symm
    omega
  · rw [zp h]
    refine zH ?_
    have key : ∀ x y z : L, (∀ v∈[a, b, c, d], v∈[x, y, z]) → (dl.length : Int) < 4 := fun x y z hs => by
      apply Classical.byContradiction
      intro n
      have := (cn (zs := [toS [x], toS [y], toS [z]]) nd (fun k hk => by
        obtain ⟨v, hv, rfl⟩ := (hm k).mp hk
        have := hs v hv
        simp only [zN, zZ, A6] at this ⊢
        rcases this with rfl | rfl | rfl
        · exact .inl rfl
        · exact .inr (.inl rfl)
        · exact .inr (.inr rfl)) (by show 3≤_;omega)).length_eq
      have : 3=dl.length := this
      omega
    simp only [z7, zN, zZ, A6, CZ, A0, and_true, not_or] at h
    by_cases e1 : a=b
    · exact key b c d (by intro v hv;simp only [zN, zZ, A6] at hv ⊢;rw [e1] at hv;rcases hv with h | h | h | h <;> simp [h])
    by_cases e2 : a=c
    · exact key b c d (by intro v hv;simp only [zN, zZ, A6] at hv ⊢;rw [e2] at hv;rcases hv with h | h | h | h <;> simp [h])
    by_cases e3 : a=d
    · exact key b c d (by intro v hv;simp only [zN, zZ, A6] at hv ⊢;rw [e3] at hv;rcases hv with h | h | h | h <;> simp [h])
    by_cases e4 : b=c
    · exact key a c d (by intro v hv;simp only [zN, zZ, A6] at hv ⊢;rw [e4] at hv;rcases hv with h | h | h | h <;> simp [h])
    by_cases e5 : b=d
    · exact key a c d (by intro v hv;simp only [zN, zZ, A6] at hv ⊢;rw [e5] at hv;rcases hv with h | h | h | h <;> simp [h])
    by_cases e6 : c=d
    · exact key a b d (by intro v hv;simp only [zN, zZ, A6] at hv ⊢;rw [e6] at hv;rcases hv with h | h | h | h <;> simp [h])
    exact absurd ⟨⟨e1, e2, e3⟩, ⟨e4, e5⟩, e6⟩ h
end Kx
namespace Kx
open PySem PySem.Spec PyProof.Rows L2 Wd Tv
def Cyc (w : List L) : Prop := Wd.Rd w ∧ J w w
theorem Cyc.rnd {w : List L}(h : Cyc w)(n : w≠[]) : Rnd w := ⟨n, h.1, h.2⟩
theorem sj : Cyc [] := ⟨trivial, fun x y h => by simp at h⟩
theorem iX (x : L) : Rnd [x] := ⟨by simp, trivial, fun a b ha hb => by
  have ha : x=a := by simpa using ha
  have hb : x=b := by simpa using hb
  subst ha hb
  exact fun e => g9 _ e.symm⟩
theorem vt {x y : L}{mid : List L}(h : Wd.Rd (x::(mid++[y]))) : Wd.Rd mid := ((bO _ _).mp h.tail).1
theorem sk {x y : L}{mid : List L}(h : Wd.Rd (x::(mid++[y])))(g : x≠inv y) : Cyc (x::(mid++[y])) := ⟨h, fun a b ha hb => by
  have e : x::(mid++[y])=(x::mid)++[y] := rfl
  rw [e, List.getLast?_append, List.getLast?_singleton] at ha
  have ha : y=a := by simpa using ha
  have hb : x=b := by simpa using hb
  rw [← ha, ← hb]
  exact g⟩
theorem sq {w : List L}(h : ¬ 1 < w.length) : Cyc w := by
  match w, h with
  | [], _ => exact sj
  | [x], _ => exact ⟨(iX x).rd, (iX x).jn⟩
  | x::y::r, h => simp at h
theorem su {v : List L}{n : Nat}(h : Cyc (rep n v))(hn : rep n v≠[]) : Cyc v := by
  cases n with
  | zero => exact absurd rfl hn
  | succ n => exact ⟨(jG (h.rnd hn)).rd, (jG (h.rnd hn)).jn⟩
theorem ib {w : List L}(h : Rnd w) : ∀ a, Rnd (w.drop a++w.take a)
  | 0 => by rw [CM, Dx, Bq];exact h
  | a+1 => by
    have ih := ib h a
    by_cases c : a < w.length
    · have e1 : w.drop a=w[a]::w.drop (a+1) := Aq c
      have e2 : w.take (a+1)=w.take a++[w[a]] := by rw [CU, fu c];rfl
      rw [e1, Da] at ih
      rw [e2, ← zw]
      exact pB ih
    · rw [Bm (by omega), Am (by omega)] at ih ⊢
      exact ih
def GR (n b : Nat)(w : List L) : Prop := Rnd w ∧ w.length≤b ∧ InM n w
theorem GR.le {n b c : Nat}{w : List L}(h : GR n b w)(g : b≤c) : GR n c w := ⟨h.1, Ay h.2.1 g, h.2.2⟩
theorem vv {w : List L} : (∀ a (h : a+1 < w.length), w[a+1]≠inv w[a]) → Wd.Rd w := by
  induction w with
  | nil => intro _;trivial
  | cons x r ih =>
    intro h
    cases r with
    | nil => trivial
    | cons y r =>
      refine ⟨h 0 (by simp), ih fun a ha => ?_⟩
      exact h (a+1) (by simp at ha ⊢;omega)
theorem gE {w : List L}{a : Nat}(h : a < w.length) : atZ w (a : Int)=w[a] := by
  unfold atZ
  rw [Ax (by omega) (by omega), Ah, zx, fu h]
  rfl
theorem vw {w : List L}(hne : w≠[])(h : ∀ k : Nat, k < w.length → atZ w (k : Int)≠inv (atZ w ((k : Int) - 1))) : Rnd w := by
  have l1 := Ai.mpr hne
  refine ⟨hne, vv fun a ha => ?_, fun x y hx hy => ?_⟩
  · have := h (a+1) ha
    rw [gE ha, show ((a+1 : Nat) : Int) - 1=(a : Int) by omega, gE (by omega)] at this
    exact this
  · have := h 0 l1
    have e : atZ w (((0 : Nat) : Int) - 1)=w[w.length - 1] := by
      rw [← iQ, show ((0 : Nat) : Int) - 1+(w.length : Int)=((w.length - 1 : Nat) : Int) by omega]
      exact gE (by omega)
    rw [e, gE l1] at this
    rw [BD, fu (show w.length - 1 < w.length by omega)] at hx
    rw [B2, fu l1] at hy
    rw [← zD hx, ← zD hy]
    exact this
def sP (s : P2) : Prop := ∃ a b : Nat, a < 64 ∧ b < 64 ∧ s=((a : Int), (b : Int))
end Kx
namespace Kx
open PySem PySem.Spec PyProof.Rows L2 Wd Tv
structure Tl (u v : List L) (f : L → L) (b : Bool) : Prop where
  ren : Ren u f
  od : ∀ e∈u, ∀ x∈u, ∀ y∈u, e≠x → e≠y → x≠y → decide (rfI v (f e) (f x) < rfI v (f e) (f y))=(decide (rfI u e x < rfI u e y) != b)
theorem ni (u : List L) : Ren u id := ⟨fun _ => rfl, fun _ _ _ _ e => e⟩
theorem vx {u : List L}(nd : u.Nodup){p : Nat}(hp : p < u.length) : Tl u (rot u p) id false := ⟨ni u, fun e he x hx y hy _ _ _ => by
  show decide (rfI (rot u p) e x < rfI (rot u p) e y)=_
  rw [qv nd hp he hx, qv nd hp he hy, CN]⟩
theorem vy {u : List L}(nd : u.Nodup) : Tl u u.reverse id true := ⟨ni u, fun e he x hx y hy n1 n2 n3 => by
  show decide (rfI u.reverse e x < rfI u.reverse e y)=_
  have m : ∀ z, z∈u → z∈u.reverse := fun z h => Dh.mpr h
  have a1 := aQ he
  have a2 := aQ hx
  have a3 := aQ hy
  have b1 : u.idxOf e≠u.idxOf x := fun z => n1 (ck he hx z)
  have b2 : u.idxOf e≠u.idxOf y := fun z => n2 (ck he hy z)
  have b3 : u.idxOf x≠u.idxOf y := fun z => n3 (ck hx hy z)
  rw [a8 (m _ he) (m _ hx), a8 (m _ he) (m _ hy), a8 he hx, a8 he hy, iF nd he, iF nd hx, iF nd hy, List.length_reverse, Bool.bne_true, ← decide_not, BH]
  generalize u.idxOf e=a at *
  generalize u.idxOf x=b at *
  generalize u.idxOf y=c at *
  generalize u.length=n at *
  grind⟩
theorem nj {u : List L}{f : L → L}(R : Ren u f)(nd : u.Nodup){x : L}(h : x∈u) : (u.map f).idxOf (f x)=u.idxOf x := by
  refine cz (jH f nd R.inj) ?_
  rw [zW, du h]
  rfl
theorem qC {u : List L}{f : L → L}(R : Ren u f)(nd : u.Nodup){x y : L}(hx : x∈u)(hy : y∈u) : rfI (u.map f) (f x) (f y)=rfI u x y := by
  unfold rfI
  rw [nj R nd hx, nj R nd hy, zu]
theorem vz {u : List L}{f : L → L}(R : Ren u f)(nd : u.Nodup) : Tl u (u.map f) f false := ⟨R, fun e he x hx y hy _ _ _ => by
  rw [qC R nd he hx, qC R nd he hy, CN]⟩
theorem dz {x y : L}(n : x≠y) : inv x≠inv y := fun e => n (by have := zR inv e; rwa [aX, aX] at this)
theorem zd (a b c : Bool) : ((a != c) != (b != c))=(a != b) := by cases a <;> cases b <;> cases c <;> rfl
theorem ze (a b c : Bool) : ((a != c) == (b != c))=(a == b) := by cases a <;> cases b <;> cases c <;> rfl
theorem sv {u v : List L}{f : L → L}{k : Bool}(T : Tl u v f k){a b c d : L}(ha : a∈u)(hb : b∈u)(hc : c∈u)(hd : d∈u) : bP v (f a) (f b) (f c) (f d)=bP u a b c d := by
  unfold bP
  by_cases h : [a, b, c, d].Nodup
  · have h' : [f a, f b, f c, f d].Nodup := by
      have := jH f h (fun x hx y hy e => T.ren.inj x (by simp only [zN, zZ, A6] at hx;rcases hx with rfl | rfl | rfl | rfl <;> assumption) y (by simp only [zN, zZ, A6] at hy;rcases hy with rfl | rfl | rfl | rfl <;> assumption) e)
      exact this
    simp only [z7, zN, zZ, A6, not_or] at h
    obtain ⟨⟨n1, n2, n3⟩, ⟨n4, n5⟩, n6, _⟩ := h
    rw [zH h', T.od a ha c hc b hb n2 n1 (fun e => n4 e.symm), T.od a ha d hd b hb n3 n1 (fun e => n5 e.symm), zd]
    congr 1
    refine (zH ?_).symm
    simp only [z7, zN, zZ, A6, not_or]
    exact ⟨⟨n1, n2, n3⟩, ⟨n4, n5⟩, n6, not_false, A0⟩
  · have h' : ¬ [f a, f b, f c, f d].Nodup := fun z => h (by
      have : ([a, b, c, d].map f).Nodup := z
      exact List.Pairwise.of_map f (fun x y n e => n (by rw [e])) this)
    rw [zp h, zp h', Ab, Ab]
structure Wlk (u : List L) (f : Int → L) : Prop where
  m : ∀ k, f k∈u
  i : ∀ k, inv (f k)∈u
  st : ∀ k, f (k+1)≠inv (f k)
theorem Wlk.st' {u : List L}{f : Int → L}(h : Wlk u f)(k : Int) : f k≠inv (f (k - 1)) := by
  have := h.st (k - 1)
  rwa [show k - 1+1=k by omega] at this
theorem Wlk.s0 {u : List L}{f : Int → L}(h : Wlk u f) : f 0≠inv (f (-1)) := by
  have := h.st (-1)
  rwa [show (-1 : Int)+1=0 from rfl] at this
theorem bV {n : Nat}{u : List L}(U : SK u n){w : List L}(R : Rnd w)(hi : InM n w){wy : Int}(hw : wy=1 ∨ wy = -1)(p : Int) : Wlk u (sgZ w p wy) := by
  have lp := Ai.mpr R.ne
  refine ⟨fun k => (U.mem _).mpr (iS lp hi p wy k), fun k => (U.mem _).mpr (by rw [gf];exact iS lp hi p wy k), fun k => ?_⟩
  unfold sgZ
  rcases hw with rfl | rfl
  · rw [if_pos rfl, if_pos rfl, show p+1*(k+1)=(p+1*k)+1 by omega]
    exact rnd_at R _
  · rw [if_neg (by decide), if_neg (by decide), aX]
    have := rnd_at R (p + -1*(k+1))
    rw [show p + -1*(k+1)+1=p + -1*k by omega] at this
    exact this.symm
theorem xI {u v : List L}{f g : Int → L}{φ : L → L}{k : Bool}(T : Tl u v φ k)(F : Wlk u f)(G : Wlk u g){n : Nat}(h : ∀ j : Nat, j < n → f j=g j) : ptB v (fun i => φ (f i)) (fun i => φ (g i)) n=ptB u f g n := by
  unfold ptB
  by_cases hn : 0 < n
  · have e0 : f 0=g 0 := h 0 hn
    have e1 : f ((n : Int) - 1)=g ((n : Int) - 1) := by
      have := h (n - 1) (by omega)
      rwa [show ((n - 1 : Nat) : Int)=(n : Int) - 1 by omega] at this
    have q : ∀ x y, x∈u → y∈u → decide (φ x ≠ φ y)=decide (x≠y) := fun x y hx hy => by
      rw [BH]
      exact ⟨fun z e => z (by rw [e]), fun z e => z (T.ren.inj x hx y hy e)⟩
    rw [q _ _ (F.m _) (G.m _), q _ _ (F.m _) (G.m _)]
    by_cases c1 : f (-1)=g (-1)
    · rw [zp (p := f (-1)≠g (-1)) (fun z => z c1), Ab, Ab]
    by_cases c2 : f n=g n
    · rw [zp (p := f n≠g n) (fun z => z c2), Ab, Ab]
    dsimp only
    rw [← T.ren.iv, ← T.ren.iv, ← T.ren.iv,
      T.od _ (F.i _) _ (F.m _) _ (G.m _) (F.st' n).symm (by rw [e1];exact (G.st' n).symm) c2,
      T.od _ (F.m 0) _ (F.i _) _ (G.i _) F.s0 (by rw [e0];exact G.s0) (dz c1), ze]
  · rw [zp hn, Ab, Ab]
theorem qD {f g : Int → L}{φ : L → L}(h : ∀ i j, φ (f i) = φ (g j) → f i=g j) : ∀ (b k : Nat), frN (fun i => φ (f i)) (fun i => φ (g i)) k b=frN f g k b
  | 0, _ => rfl
  | b+1, k => by
    unfold frN
    by_cases e : f k=g k
    · rw [if_pos e, if_pos (by rw [e])]
      exact qD h b (k+1)
    · rw [if_neg e, if_neg (fun z => e (h _ _ z))]
theorem ie {f g : Int → L}{N : Nat} : ∀ j : Nat, j < frN f g 0 N → f j=g j := fun j hj => (cP f g N 0).2.2.1 j (Ao _) hj
theorem iY {w : List L}(h : 0 < w.length)(f : L → L)(j : Int) : atZ (w.map f) j=f (atZ w j) := by
  have e0 := Ap j (show (w.length : Int)≠0 by omega)
  have e1 := Af j (show (0 : Int) < (w.length : Int) by omega)
  unfold atZ
  rw [zu, zx, zx, zW, fu (show (j % (w.length : Int)).toNat < w.length by omega)]
  rfl
theorem qE {w : List L}(h : 0 < w.length){f : L → L}(iv : ∀ x, f (inv x)=inv (f x))(p wy : Int) : sgZ (w.map f) p wy=fun k => f (sgZ w p wy k) := by
  funext k
  unfold sgZ
  rw [iY h]
  split
  · rfl
  · rw [iv]
theorem eO {W : List (List L)}{f : L → L}{i : Int} : wyZ (W.map (List.map f)) i=(wyZ W i).map f := by
  unfold wyZ
  rw [zx, zx, zW]
  cases W[i.toNat]? <;> rfl
theorem xJ {n : Nat}{u v : List L}{f : L → L}{k : Bool}(U : SK u n)(T : Tl u v f k){W : List (List L)}(hW : WyR n W){s t : P2}(hs : okP W s)(ht : okP W t) : lkZ v (W.map (List.map f)) s t=lkZ u W s t := by
  obtain ⟨_, _, R1, _, l1, i1⟩ := hW.get hs.1 hs.2.1
  obtain ⟨_, _, R2, _, l2, i2⟩ := hW.get ht.1 ht.2.1
  have ef : ∀ wy, fZ (W.map (List.map f)) s wy=fun k => f (fZ W s wy k) := fun wy => by
    unfold fZ
    rw [eO, qE l1 T.ren.iv]
  have eg : ∀ wy, fZ (W.map (List.map f)) t wy=fun k => f (fZ W t wy k) := fun wy => by
    unfold fZ
    rw [eO, qE l2 T.ren.iv]
  have F : ∀ wy : Int, (wy=1 ∨ wy = -1) → Wlk u (fZ W s wy) := fun wy h => bV U R1 i1 h _
  have G : ∀ wy : Int, (wy=1 ∨ wy = -1) → Wlk u (fZ W t wy) := fun wy h => bV U R2 i2 h _
  have en : ∀ wy : Int, (wy=1 ∨ wy = -1) → nZ (W.map (List.map f)) s t wy=nZ W s t wy := fun wy h => by
    unfold nZ
    rw [ef, eg, eO, eO, zu, zu]
    exact qD (fun i j e => T.ren.inj _ ((F 1 (.inl rfl)).m _) _ ((G wy h).m _) e) _ _
  have ep : ∀ wy : Int, (wy=1 ∨ wy = -1) → ptB v (fZ (W.map (List.map f)) s 1) (fZ (W.map (List.map f)) t wy) (nZ W s t wy)=ptB u (fZ W s 1) (fZ W t wy) (nZ W s t wy) := fun wy h => by
    rw [ef, eg]
    exact xI T (F 1 (.inl rfl)) (G wy h) ie
  unfold lkZ t_ ua ki jJ
  rw [en 1 (.inl rfl), en (-1) (.inr rfl), ep 1 (.inl rfl), ep (-1) (.inr rfl), ef, eg, eO, zu]
  have F1 := F 1 (.inl rfl)
  have G1 := G 1 (.inl rfl)
  rw [show bP v (inv (f (fZ W s 1 0))) (f (fZ W s 1 1)) (inv (f (fZ W t 1 0))) (f (fZ W t 1 1))=bP u (inv (fZ W s 1 0)) (fZ W s 1 1) (inv (fZ W t 1 0)) (fZ W t 1 1) by
    rw [← T.ren.iv, ← T.ren.iv]
    exact sv T (F1.i _) (F1.m _) (G1.i _) (G1.m _)]
theorem d3 {α β : Type}{f g : α → List β} : ∀ {l : List α}, (∀ x∈l, f x=g x) → l.flatMap f=l.flatMap g
  | [], _ => rfl
  | x::l, h => by rw [B7, B7, h x zK, d3 fun y hy => h y (zB _ hy)]
theorem vA {n : Nat}{u v : List L}{f : L → L}{k : Bool}(U : SK u n)(T : Tl u v f k){W : List (List L)}(hW : WyR n W){i j : Int}(i0 : 0≤i)(i1 : i < (W.length : Int))(j0 : 0≤j)(j1 : j < (W.length : Int)) : eQ v (W.map (List.map f)) i j (wyZ (W.map (List.map f)) i).length=eQ u W i j (wyZ W i).length := by
  rw [eO, zu]
  unfold eQ
  refine d3 fun p hp => ?_
  unfold nc
  rw [eO, zu]
  rw [Ba] at hp
  refine d3 fun q hq => ?_
  rw [Ba] at hq
  exact xJ U T hW ⟨i0, i1, by show (0 : Int)≤(p : Int);omega, by show (p : Int) < ((wyZ W i).length : Int);omega⟩ ⟨j0, j1, by show (0 : Int)≤(q : Int);omega, by show (q : Int) < ((wyZ W j).length : Int);omega⟩
def prs (m n : Nat) : List P2 := (List.range m).flatMap fun p : Nat => (List.range n).map fun q : Nat => ((p : Int), (q : Int))
theorem bg {m n : Nat}{s : P2} : s∈prs m n ↔ 0≤s.1 ∧ s.1 < (m : Int) ∧ 0≤s.2 ∧ s.2 < (n : Int) := by
  unfold prs
  rw [List.mem_flatMap]
  constructor
  · rintro ⟨p, hp, h⟩
    obtain ⟨q, hq, rfl⟩ := Ak.mp h
    rw [Ba] at hp hq
    show 0≤(p : Int) ∧ (p : Int) < (m : Int) ∧ 0≤(q : Int) ∧ (q : Int) < (n : Int)
    omega
  · rintro ⟨h1, h2, h3, h4⟩
    refine ⟨s.1.toNat, Ba.mpr (by omega), Ak.mpr ⟨s.2.toNat, Ba.mpr (by omega), CI ?_ ?_⟩⟩
    · show ((s.1.toNat : Nat) : Int)=s.1
      omega
    · show ((s.2.toNat : Nat) : Int)=s.2
      omega
theorem nq {β : Type}{g : Nat → List β}(h1 : ∀ p, (g p).Nodup)(h2 : ∀ p q x, x∈g p → x∈g q → p=q) : ∀ {l : List Nat}, l.Nodup → (l.flatMap g).Nodup
  | [], _ => A0
  | p::l, h => by
    rw [z7] at h
    rw [B7, List.nodup_append]
    refine ⟨h1 p, nq h1 h2 h.2, fun x hx y hy e => ?_⟩
    subst e
    obtain ⟨q, hq, hy⟩ := List.mem_flatMap.mp hy
    exact h.1 (h2 p q x hx hy ▸ hq)
theorem bW (m n : Nat) : (prs m n).Nodup := by
  refine nq (fun p => ?_) (fun p q x h1 h2 => ?_) Di
  · refine List.Pairwise.map _ (fun a b h e => h ?_) Di
    exact C8 (zR Prod.snd e)
  · obtain ⟨a, _, rfl⟩ := Ak.mp h1
    obtain ⟨b, _, e⟩ := Ak.mp h2
    exact (C8 (zR Prod.fst e)).symm
theorem sC {l : List P2} : ∀ {k : List P2}, k.Nodup → (∀ x∈k, x∈l) → k.length≤l.length := by
  intro k
  induction k generalizing l with
  | nil => intro _ _;exact Ao _
  | cons x k ih =>
    intro nd h
    rw [z7] at nd
    have hx := h x zK
    have := ih (l := l.erase x) nd.2 fun y hy => (Cf (fun e => nd.1 (by rw [← e];exact hy))).mpr (h y (zB _ hy))
    rw [BL hx] at this
    have := List.length_pos_of_mem hx
    show k.length+1≤_
    omega
theorem fk {k l : List P2}{g h : P2 → Bool}(nd : k.Nodup)(a b : P2 → P2)(H : ∀ x∈k, g x=true → a x∈l ∧ h (a x)=true ∧ b (a x)=x) : k.countP g≤l.countP h := by
  rw [Cj, Cj, ← zu (f := a)]
  have q : ∀ x∈k.filter g, x∈k ∧ g x=true := fun x hx => Cn.mp hx
  refine sC ?_ fun y hy => ?_
  · have nf : (k.filter g).Nodup := List.Pairwise.filter _ nd
    revert nf q
    generalize k.filter g=z
    induction z with
    | nil => intro _ _;exact A0
    | cons x z ih =>
      intro q nf
      rw [z7] at nf
      rw [z9, z7]
      refine ⟨fun hm => ?_, ih (fun y hy => q y (zB _ hy)) nf.2⟩
      obtain ⟨y, hy, e⟩ := Ak.mp hm
      obtain ⟨h1, h2⟩ := q x zK
      obtain ⟨h3, h4⟩ := q y (zB _ hy)
      have e1 := (H x h1 h2).2.2
      have e2 := (H y h3 h4).2.2
      rw [← e, e2] at e1
      exact nf.1 (e1 ▸ hy)
  · obtain ⟨x, hx, rfl⟩ := Ak.mp hy
    obtain ⟨h1, h2⟩ := q x hx
    exact Cn.mpr ⟨(H x h1 h2).1, (H x h1 h2).2.1⟩
theorem iZ {g h1 h2 : P2 → Bool} : ∀ {l : List P2}, (∀ x∈l, g x=(h1 x || h2 x) ∧ ¬ (h1 x=true ∧ h2 x=true)) → l.countP g=l.countP h1+l.countP h2
  | [], _ => rfl
  | x::l, H => by
    have ih := iZ (l := l) fun y hy => H y (zB _ hy)
    obtain ⟨e, n⟩ := H x zK
    rw [Bj, Bj, Bj, ih, e]
    cases c1 : h1 x <;> cases c2 : h2 x
    · rfl
    · simp
      omega
    · simp
      omega
    · exact absurd ⟨c1, c2⟩ n
def hF (u w v : List L)(s : P2) : Bool := bP u (inv (sgZ w s.1 1 0)) (sgZ w s.1 1 1) (inv (sgZ v s.2 1 0)) (sgZ v s.2 1 1)
def nW (w v : List L)(wy : Int)(s : P2) : Nat := frN (sgZ w s.1 1) (sgZ v s.2 wy) 0 (w.length+v.length)
def hP (u w v : List L)(wy : Int)(s : P2) : Bool := ptB u (sgZ w s.1 1) (sgZ v s.2 wy) (nW w v wy s)
def NN (u w v : List L) : Nat := (prs w.length v.length).countP (hF u w v)+((prs w.length v.length).countP (hP u w v 1)+(prs w.length v.length).countP (hP u w v (-1)))
theorem nt (w : List L){p q : Int}(h : p % (w.length : Int)=q % (w.length : Int))(wy : Int) : sgZ w p wy=sgZ w q wy := by
  funext k
  have e : atZ w (p+wy*k)=atZ w (q+wy*k) := by
    unfold atZ
    rw [Cc, h, ← Cc]
  unfold sgZ
  rw [e]
theorem nu {u w v : List L}{s t : P2}(h1 : s.1 % (w.length : Int)=t.1 % (w.length : Int))(h2 : s.2 % (v.length : Int)=t.2 % (v.length : Int))(wy : Int) : hF u w v s=hF u w v t ∧ hP u w v wy s=hP u w v wy t ∧ nW w v wy s=nW w v wy t := by
  unfold hF hP nW
  rw [nt w h1 1, nt v h2 1, nt v h2 wy]
  exact ⟨rfl, rfl, rfl⟩
theorem vB {u : List L}{e x y : L}(he : e∈u)(hx : x∈u)(hy : y∈u)(h : rfI u e x=rfI u e y) : x=y := by
  refine ck hx hy ?_
  have a1 := aQ he
  have a2 := aQ hx
  have a3 := aQ hy
  rw [a8 he hx, a8 he hy] at h
  generalize u.idxOf e=a at *
  generalize u.idxOf x=b at *
  generalize u.idxOf y=c at *
  generalize u.length=n at *
  grind
theorem jP {u : List L}{e x y : L}(he : e∈u)(hx : x∈u)(hy : y∈u)(n : x≠y) : decide (rfI u e y < rfI u e x)=!decide (rfI u e x < rfI u e y) := by
  have : rfI u e x≠rfI u e y := fun z => n (vB he hx hy z)
  rw [← decide_not, BH]
  omega
theorem yz (a b : Bool) : ((!a) == !b)=(a == b) := by cases a <;> cases b <;> rfl
theorem qF {u : List L}{f g : Int → L}(F : Wlk u f)(G : Wlk u g){n : Nat}(h : ∀ j : Nat, j < n → f j=g j) : ptB u g f n=ptB u f g n := by
  unfold ptB
  by_cases hn : 0 < n
  · have e0 : f 0=g 0 := h 0 hn
    have e1 : f ((n : Int) - 1)=g ((n : Int) - 1) := by
      have := h (n - 1) (by omega)
      rwa [show ((n - 1 : Nat) : Int)=(n : Int) - 1 by omega] at this
    have q : ∀ x y : L, decide (y≠x)=decide (x≠y) := fun x y => by
      rw [BH]
      exact ⟨fun z e => z e.symm, fun z e => z e.symm⟩
    rw [q (f (-1)) (g (-1)), q (f n) (g n)]
    by_cases c1 : f (-1)=g (-1)
    · rw [zp (p := f (-1)≠g (-1)) (fun z => z c1), Ab, Ab]
    by_cases c2 : f n=g n
    · rw [zp (p := f n≠g n) (fun z => z c2), Ab, Ab]
    rw [← e0, ← e1, jP (F.i _) (F.m _) (G.m _) c2, jP (F.m _) (F.i _) (G.i _) (dz c1), yz]
  · rw [zp hn, Ab, Ab]
theorem nv (f g : Int → L) : ∀ b k, frN g f k b=frN f g k b
  | 0, _ => rfl
  | b+1, k => by
    unfold frN
    by_cases e : f k=g k
    · rw [if_pos e, if_pos e.symm]
      exact nv f g b _
    · rw [if_neg e, if_neg (fun z => e z.symm)]
theorem jQ {u : List L}(nd : u.Nodup){a b c d : L}(ha : a∈u)(hb : b∈u)(hc : c∈u)(hd : d∈u) : bP u c d a b=bP u a b c d ∧ bP u b a c d=bP u a b c d := by
  have i : ∀ {x y : L}, x∈u → y∈u → (x=y ↔ u.idxOf x=u.idxOf y) := fun hx hy => ⟨fun e => by rw [e], fun e => ck hx hy e⟩
  have a1 := aQ ha
  have a2 := aQ hb
  have a3 := aQ hc
  have a4 := aQ hd
  unfold bP
  simp only [z7, zN, zZ, A6, not_or, CZ, A0, and_true]
  simp only [i ha hb, i ha hc, i ha hd, i hb hc, i hb hd, i hc hd, i hc ha, i hd ha, i hc hb, i hd hb, i hb ha]
  rw [a8 ha hc, a8 ha hb, a8 ha hd, a8 hc ha, a8 hc hd, a8 hc hb, a8 hb hc, a8 hb ha, a8 hb hd]
  generalize u.idxOf a=x1 at *
  generalize u.idxOf b=x2 at *
  generalize u.idxOf c=x3 at *
  generalize u.idxOf d=x4 at *
  generalize u.length=n at *
  constructor <;> grind
structure Wo (n : Nat) (w : List L) : Prop where
  r : Rnd w
  i : InM n w
theorem Wo.lp {n : Nat}{w : List L}(h : Wo n w) : 0 < w.length := Ai.mpr h.r.ne
theorem ig {n : Nat}{u w v : List L}(U : SK u n)(A : Wo n w)(B : Wo n v)(p q : Int) : hP u v w 1 (q, p)=hP u w v 1 (p, q) := by
  unfold hP nW
  show ptB u (sgZ v q 1) (sgZ w p 1) (frN (sgZ v q 1) (sgZ w p 1) 0 (v.length+w.length))=ptB u (sgZ w p 1) (sgZ v q 1) (frN (sgZ w p 1) (sgZ v q 1) 0 (w.length+v.length))
  rw [Do v.length, nv]
  exact qF (bV U A.r A.i (.inl rfl) p) (bV U B.r B.i (.inl rfl) q) ie
theorem i3 {n : Nat}{u w v : List L}(U : SK u n)(A : Wo n w)(B : Wo n v){p q : Int}(h : hP u w v (-1) (p, q)=true) : hP u v w (-1) (q - (nW w v (-1) (p, q) : Nat)+1, p+(nW w v (-1) (p, q) : Nat) - 1)=true ∧ nW v w (-1) (q - (nW w v (-1) (p, q) : Nat)+1, p+(nW w v (-1) (p, q) : Nat) - 1)=nW w v (-1) (p, q) := by
  have F := bV U A.r A.i (.inl rfl) p
  have G := bV U B.r B.i (.inr rfl) q
  have hle : nW w v (-1) (p, q)≤w.length+v.length := by
    have := (cP (sgZ w p 1) (sgZ v q (-1)) (w.length+v.length) 0).2.1
    unfold nW
    show frN (sgZ w p 1) (sgZ v q (-1)) 0 (w.length+v.length)≤_
    omega
  have al : ∀ j : Nat, j < nW w v (-1) (p, q) → sgZ w p 1 j=sgZ v q (-1) j := fun j hj => ie (N := w.length+v.length) j hj
  have h : ptB u (sgZ w p 1) (sgZ v q (-1)) (nW w v (-1) (p, q))=true := h
  generalize hm : nW w v (-1) (p, q)=m at *
  have ef : ∀ k : Int, sgZ v (q - (m : Nat)+1) 1 k=inv (sgZ v q (-1) ((m : Int) - 1 - k)) := fun k => by
    unfold sgZ
    rw [if_pos rfl, if_neg (by decide), aX]
    congr 1
    omega
  have eg : ∀ k : Int, sgZ w (p+(m : Nat) - 1) (-1) k=inv (sgZ w p 1 ((m : Int) - 1 - k)) := fun k => by
    unfold sgZ
    rw [if_pos rfl, if_neg (by decide)]
    congr 2
    omega
  unfold ptB at h
  simp only [AV, zE] at h
  obtain ⟨h0, h1, h2, h3⟩ := h
  have e0 : sgZ w p 1 0=sgZ v q (-1) 0 := al 0 h0
  have e1 : sgZ w p 1 ((m : Int) - 1)=sgZ v q (-1) ((m : Int) - 1) := by
    have := al (m - 1) (by omega)
    rwa [show ((m - 1 : Nat) : Int)=(m : Int) - 1 by omega] at this
  have en : nW v w (-1) (q - (m : Nat)+1, p+(m : Nat) - 1)=m := by
    refine xH (fun j hj => ?_) (by omega) (.inr ?_)
    · show sgZ v (q - (m : Nat)+1) 1 j=sgZ w (p+(m : Nat) - 1) (-1) j
      rw [ef, eg]
      have := al (m - 1 - j) (by omega)
      rw [show ((m - 1 - j : Nat) : Int)=(m : Int) - 1 - j by omega] at this
      rw [this]
    · show sgZ v (q - (m : Nat)+1) 1 m≠sgZ w (p+(m : Nat) - 1) (-1) m
      rw [ef, eg, show (m : Int) - 1 - m = -1 by omega]
      exact (dz h1).symm
  refine ⟨?_, en⟩
  unfold hP
  rw [en]
  show ptB u (sgZ v (q - (m : Nat)+1) 1) (sgZ w (p+(m : Nat) - 1) (-1)) m=true
  unfold ptB
  rw [ef, ef, ef, ef, eg, eg, show (m : Int) - 1 - -1=m by omega, show (m : Int) - 1 - m = -1 by omega, show (m : Int) - 1 - ((m : Int) - 1)=0 by omega, show (m : Int) - 1 - 0=(m : Int) - 1 by omega, aX, aX, aX]
  rw [zH h0, zH (p := inv (sgZ v q (-1) m)≠inv (sgZ w p 1 m)) (dz h2).symm, zH (p := inv (sgZ v q (-1) (-1))≠inv (sgZ w p 1 (-1))) (dz h1).symm, AJ, AJ, AJ]
  rw [← e0, ← e1, jP (F.m 0) (F.i (-1)) (G.i (-1)) (dz h1), jP (F.i _) (F.m m) (G.m m) h2, yz]
  rw [DB] at h3 ⊢
  exact h3.symm
def oth (w v : List L)(s : P2) : P2 := ((s.2 - (nW w v (-1) s : Nat)+1) % (v.length : Int), (s.1+(nW w v (-1) s : Nat) - 1) % (w.length : Int))
theorem ny (a n : Int) : a % n % n=a % n := Int.emod_emod_of_dvd _ (Int.dvd_refl _)
theorem qG {w v : List L}(hw : 0 < w.length)(hv : 0 < v.length)(s : P2) : oth w v s∈prs v.length w.length := by
  refine bg.mpr ⟨Ap _ (by omega), Af _ (by omega), Ap _ (by omega), Af _ (by omega)⟩
theorem cQ {n : Nat}{u w v : List L}(U : SK u n)(A : Wo n w)(B : Wo n v){s : P2}(hs : s∈prs w.length v.length)(h : hP u w v (-1) s=true) : hP u v w (-1) (oth w v s)=true ∧ nW v w (-1) (oth w v s)=nW w v (-1) s ∧ oth v w (oth w v s)=s := by
  obtain ⟨p, q⟩ := s
  obtain ⟨h1, h2⟩ := i3 U A B h
  have hm := nu (u := u) (w := v) (v := w) (s := oth w v (p, q)) (t := (q - (nW w v (-1) (p, q) : Nat)+1, p+(nW w v (-1) (p, q) : Nat) - 1)) (ny _ _) (ny _ _) (-1)
  have en : nW v w (-1) (oth w v (p, q))=nW w v (-1) (p, q) := by rw [hm.2.2, h2]
  refine ⟨by rw [hm.2.1];exact h1, en, ?_⟩
  obtain ⟨a1, a2, a3, a4⟩ := bg.mp hs
  show ((((oth w v (p, q)).2 - (nW v w (-1) (oth w v (p, q)) : Nat)+1) % (w.length : Int)), (((oth w v (p, q)).1+(nW v w (-1) (oth w v (p, q)) : Nat) - 1) % (v.length : Int)))=(p, q)
  rw [en]
  unfold oth
  refine CI ?_ ?_
  · show (((p+(nW w v (-1) (p, q) : Nat) - 1) % (w.length : Int)) - (nW w v (-1) (p, q) : Nat)+1) % (w.length : Int)=p
    rw [show ((p+(nW w v (-1) (p, q) : Nat) - 1) % (w.length : Int)) - (nW w v (-1) (p, q) : Nat)+1=((p+(nW w v (-1) (p, q) : Nat) - 1) % (w.length : Int))+(1 - (nW w v (-1) (p, q) : Nat)) by omega, C0, show p+(nW w v (-1) (p, q) : Nat) - 1+(1 - (nW w v (-1) (p, q) : Nat))=p by omega]
    exact Ax a1 a2
  · show (((q - (nW w v (-1) (p, q) : Nat)+1) % (v.length : Int))+(nW w v (-1) (p, q) : Nat) - 1) % (v.length : Int)=q
    rw [show ((q - (nW w v (-1) (p, q) : Nat)+1) % (v.length : Int))+(nW w v (-1) (p, q) : Nat) - 1=((q - (nW w v (-1) (p, q) : Nat)+1) % (v.length : Int))+((nW w v (-1) (p, q) : Nat) - 1) by omega, C0, show q - (nW w v (-1) (p, q) : Nat)+1+((nW w v (-1) (p, q) : Nat) - 1)=q by omega]
    exact Ax a3 a4
def sw (s : P2) : P2 := (s.2, s.1)
theorem pK {m n : Nat}{s : P2}(h : s∈prs m n) : sw s∈prs n m := by
  obtain ⟨a1, a2, a3, a4⟩ := bg.mp h
  exact bg.mpr ⟨a3, a4, a1, a2⟩
theorem qH {n : Nat}{u w v : List L}(U : SK u n)(A : Wo n w)(B : Wo n v)(s : P2) : hF u v w (sw s)=hF u w v s := by
  have F := bV U A.r A.i (.inl rfl) s.1
  have G := bV U B.r B.i (.inl rfl) s.2
  exact (jQ U.srf.nd (F.i _) (F.m _) (G.i _) (G.m _)).1
theorem vC {n : Nat}{u w v : List L}(U : SK u n)(A : Wo n w)(B : Wo n v) : (prs w.length v.length).countP (hF u w v)≤(prs v.length w.length).countP (hF u v w) :=
  fk (bW _ _) sw sw fun s hs h => ⟨pK hs, by rw [qH U A B];exact h, rfl⟩
theorem vD {n : Nat}{u w v : List L}(U : SK u n)(A : Wo n w)(B : Wo n v) : (prs w.length v.length).countP (hP u w v 1)≤(prs v.length w.length).countP (hP u v w 1) :=
  fk (bW _ _) sw sw fun s hs h => ⟨pK hs, by show hP u v w 1 (s.2, s.1)=true;rw [ig U A B];exact h, rfl⟩
theorem pL {n : Nat}{u w v : List L}(U : SK u n)(A : Wo n w)(B : Wo n v) : (prs w.length v.length).countP (hP u w v (-1))≤(prs v.length w.length).countP (hP u v w (-1)) :=
  fk (bW _ _) (oth w v) (oth v w) fun s hs h => ⟨qG A.lp B.lp s, (cQ U A B hs h).1, (cQ U A B hs h).2.2⟩
theorem jR {n : Nat}{u w v : List L}(U : SK u n)(A : Wo n w)(B : Wo n v) : NN u w v=NN u v w := by
  have a1 := vC U A B
  have a2 := vC U B A
  have b1 := vD U A B
  have b2 := vD U B A
  have c1 := pL U A B
  have c2 := pL U B A
  unfold NN
  omega
end Kx
namespace Kx
open PySem PySem.Spec PyProof.Rows L2 Wd Tv
theorem gF {k l : List P2}{g h : P2 → Bool}(nk : k.Nodup)(nl : l.Nodup)(a b : P2 → P2)(H : ∀ x∈k, a x∈l ∧ b (a x)=x ∧ h (a x)=g x)(H' : ∀ y∈l, b y∈k ∧ a (b y)=y) : k.countP g=l.countP h := by
  refine Nat.le_antisymm (fk nk a b fun x hx e => ⟨(H x hx).1, by rw [(H x hx).2.2];exact e, (H x hx).2.1⟩) (fk nl b a fun y hy e => ?_)
  obtain ⟨h1, h2⟩ := H' y hy
  refine ⟨h1, ?_, h2⟩
  have := (H _ h1).2.2
  rw [h2] at this
  rw [← this]
  exact e
theorem cS (w : List L)(a : Nat) : (rot w a).length=w.length := (bS w a).length_eq
theorem sH {w : List L}{a : Nat}(ha : a≤w.length)(j : Int) : atZ (rot w a) j=atZ w (j+a) := by
  by_cases hw : w.length=0
  · have : w=[] := Aw hw
    subst this
    simp [rot, atZ]
  have e0 := Ap j (show (w.length : Int)≠0 by omega)
  have e1 := Af j (show (0 : Int) < (w.length : Int) by omega)
  unfold atZ
  rw [cS, zx, zx, mh ha (by omega)]
  congr 2
  have : (((j % (w.length : Int)).toNat+a) % w.length : Nat)=((j+a) % (w.length : Int)).toNat := by
    rw [Cc]
    have : (((j % (w.length : Int)).toNat+a : Nat) : Int)=j % (w.length : Int)+a := by omega
    have q : (((((j % (w.length : Int)).toNat+a) % w.length : Nat)) : Int)=(j % (w.length : Int)+a % (w.length : Int)) % (w.length : Int) := by
      rw [Int.natCast_emod, this]
      rw [Int.add_emod_emod]
    omega
  rw [this]
theorem qI {w : List L}{a : Nat}(ha : a≤w.length)(p wy : Int) : sgZ (rot w a) p wy=sgZ w (p+a) wy := by
  funext k
  unfold sgZ
  rw [sH ha, show p+wy*k+(a : Int)=p+a+wy*k by omega]
theorem nB {m : Nat}{p c : Int}(h0 : 0≤p)(h1 : p < (m : Int)) : ((p+c) % (m : Int) + -c) % (m : Int)=p := by
  rw [C0, show p+c + -c=p by omega]
  exact Ax h0 h1
theorem pM {m n : Nat}{s : P2}(hs : s∈prs m n)(p : Int) : (p % (m : Int), s.2)∈prs m n := by
  obtain ⟨a1, a2, a3, a4⟩ := bg.mp hs
  exact bg.mpr ⟨Ap _ (by omega), Af _ (by omega), a3, a4⟩
theorem qJ {u w v : List L}{a : Nat}(ha : a≤w.length) : NN u (rot w a) v=NN u w v := by
  have key : ∀ (g h : P2 → Bool), (∀ s, g s=h (s.1+a, s.2)) → (∀ s t : P2, s.1 % (w.length : Int)=t.1 % (w.length : Int) → s.2 % (v.length : Int)=t.2 % (v.length : Int) → h s=h t) → (prs w.length v.length).countP g=(prs w.length v.length).countP h := fun g h e hm => by
    refine gF (bW _ _) (bW _ _) (fun s => ((s.1+a) % (w.length : Int), s.2)) (fun s => ((s.1 + -a) % (w.length : Int), s.2)) (fun s hs => ⟨pM hs _, ?_, ?_⟩) (fun s hs => ⟨pM hs _, ?_⟩)
    · obtain ⟨a1, a2, a3, a4⟩ := bg.mp hs
      exact CI (nB a1 a2) rfl
    · rw [e]
      exact hm _ _ (ny _ _) rfl
    · obtain ⟨a1, a2, a3, a4⟩ := bg.mp hs
      refine CI ?_ rfl
      have := nB (c := -(a : Int)) a1 a2
      rw [Int.neg_neg] at this
      exact this
  unfold NN
  rw [cS]
  have e1 := key (hF u (rot w a) v) (hF u w v) (fun s => by unfold hF;rw [qI ha]) (fun s t h1 h2 => (nu h1 h2 1).1)
  have e2 : ∀ wy, (prs w.length v.length).countP (hP u (rot w a) v wy)=(prs w.length v.length).countP (hP u w v wy) := fun wy => key _ _ (fun s => by unfold hP nW;rw [qI ha, cS]) (fun s t h1 h2 => (nu h1 h2 wy).2.1)
  rw [e1, e2, e2]
theorem vE {w : List L}(hw : 0 < w.length)(j : Int) : atZ (bk w) j=inv (atZ w (-1 - j)) := by
  have e0 := Ap j (show (w.length : Int)≠0 by omega)
  have e1 := Af j (show (0 : Int) < (w.length : Int) by omega)
  have e2 : (-1 - j) % (w.length : Int)=(w.length : Int) - 1 - j % (w.length : Int) := by
    have : -1 - j=((w.length : Int) - 1 - j % (w.length : Int))+(w.length : Int)*(-1 - j / (w.length : Int)) := by
      have := Int.mul_ediv_add_emod j (w.length : Int)
      rw [Int.mul_sub]
      omega
    rw [this, CC]
    exact Ax (by omega) (by omega)
  unfold atZ
  rw [e2, bq]
  have hy : w[w.length - 1 - (j % (w.length : Int)).toNat]? = some (w.getD ((w.length : Int) - 1 - j % (w.length : Int)).toNat 0) := by
    rw [show w.length - 1 - (j % (w.length : Int)).toNat=((w.length : Int) - 1 - j % (w.length : Int)).toNat by omega]
    exact oV (by omega)
  rw [zx, qp w (by omega) hy]
  rfl
theorem vF {w : List L}(hw : 0 < w.length)(p : Int) : sgZ (bk w) p 1=sgZ w (-1 - p) (-1) := by
  funext k
  unfold sgZ
  rw [if_pos rfl, if_neg (by decide), vE hw]
  congr 2
  omega
theorem Wo.bk {n : Nat}{w : List L}(h : Wo n w) : Wo n (bk w) := ⟨vj h.r, InM.bk h.i⟩
theorem Wo.rot {n : Nat}{w : List L}(h : Wo n w)(a : Nat) : Wo n (Wd.rot w a) := ⟨ib h.r a, fun x hx => h.i x ((bS w a).mem_iff.mp hx)⟩
theorem d4 {m : Nat}{p c : Int}(h0 : 0≤p)(h1 : p < (m : Int)) : (c - (c - p) % (m : Int)) % (m : Int)=p := by
  rw [Int.sub_emod_emod, show c - (c - p)=p by omega]
  exact Ax h0 h1
theorem bkA {n : Nat}{u w v : List L}(U : SK u n)(A : Wo n w)(B : Wo n v) : (prs w.length v.length).countP (hP u (bk w) v 1)=(prs w.length v.length).countP (hP u w v (-1)) := by
  have e1 : (prs w.length v.length).countP (hP u (bk w) v 1)=(prs v.length w.length).countP (hP u v w (-1)) := by
    refine gF (bW _ _) (bW _ _) (fun s => (s.2, (-1 - s.1) % (w.length : Int))) (fun s => ((-1 - s.2) % (w.length : Int), s.1)) (fun s hs => ?_) (fun s hs => ?_)
    · obtain ⟨a1, a2, a3, a4⟩ := bg.mp hs
      refine ⟨bg.mpr ⟨a3, a4, Ap _ (by omega), Af _ (by omega)⟩, CI (d4 a1 a2) rfl, ?_⟩
      rw [(nu (u := u) (w := v) (v := w) (s := (s.2, (-1 - s.1) % (w.length : Int))) (t := (s.2, -1 - s.1)) rfl (ny _ _) (-1)).2.1]
      unfold hP nW
      show ptB u (sgZ v s.2 1) (sgZ w (-1 - s.1) (-1)) (frN (sgZ v s.2 1) (sgZ w (-1 - s.1) (-1)) 0 (v.length+w.length))=ptB u (sgZ (bk w) s.1 1) (sgZ v s.2 1) (frN (sgZ (bk w) s.1 1) (sgZ v s.2 1) 0 ((bk w).length+v.length))
      rw [vF A.lp, bq, Do v.length, nv]
      exact qF (bV U A.r A.i (.inr rfl) _) (bV U B.r B.i (.inl rfl) _) ie
    · obtain ⟨a1, a2, a3, a4⟩ := bg.mp hs
      exact ⟨bg.mpr ⟨Ap _ (by omega), Af _ (by omega), a1, a2⟩, CI rfl (d4 a3 a4)⟩
  rw [e1]
  exact Nat.le_antisymm (pL U B A) (pL U A B)
theorem xK {n : Nat}{u w v : List L}(U : SK u n)(A : Wo n w)(B : Wo n v) : NN u (bk w) v=NN u w v := by
  have e1 := bkA U A B
  have e2 := bkA U A.bk B
  rw [uW, bq] at e2
  have e3 : (prs w.length v.length).countP (hF u (bk w) v)=(prs w.length v.length).countP (hF u w v) := by
    refine gF (bW _ _) (bW _ _) (fun s => ((-2 - s.1) % (w.length : Int), s.2)) (fun s => ((-2 - s.1) % (w.length : Int), s.2)) (fun s hs => ⟨pM hs _, ?_, ?_⟩) (fun s hs => ⟨pM hs _, ?_⟩)
    · obtain ⟨a1, a2, a3, a4⟩ := bg.mp hs
      exact CI (d4 a1 a2) rfl
    · rw [(nu (u := u) (w := w) (v := v) (s := ((-2 - s.1) % (w.length : Int), s.2)) (t := (-2 - s.1, s.2)) (ny _ _) rfl (-1)).1]
      unfold hF
      have F := bV U A.r A.i (.inl rfl) (-2 - s.1)
      have G := bV U B.r B.i (.inl rfl) s.2
      rw [vF A.lp]
      have h1 : inv (sgZ w (-1 - s.1) (-1) 0)=sgZ w (-2 - s.1) 1 1 := by
        unfold sgZ
        rw [if_pos rfl, if_neg (by decide), aX]
        congr 1
        omega
      have h2 : sgZ w (-1 - s.1) (-1) 1=inv (sgZ w (-2 - s.1) 1 0) := by
        unfold sgZ
        rw [if_pos rfl, if_neg (by decide)]
        congr 2
        omega
      rw [h1, h2]
      exact ((jQ U.srf.nd (F.i _) (F.m _) (G.i _) (G.m _)).2).symm
    · obtain ⟨a1, a2, a3, a4⟩ := bg.mp hs
      exact CI (d4 a1 a2) rfl
  unfold NN
  rw [bq, e1, e3, ← e2]
  omega
theorem nC (u : List L)(W : List (List L))(i j : Int)(m : Nat) : eQ u W i j m=(prs m (wyZ W j).length).flatMap fun x => lkZ u W (i, x.1) (j, x.2) := by
  unfold eQ prs nc
  rw [List.flatMap_assoc]
  refine d3 fun p _ => ?_
  rw [List.flatMap_map]
theorem nD {F : P2 → List Lk}{h1 h2 h3 : P2 → Bool} : ∀ {l : List P2}, (∀ x∈l, (F x).length=(h1 x).toNat+((h2 x).toNat+(h3 x).toNat)) → (l.flatMap F).length=l.countP h1+(l.countP h2+l.countP h3)
  | [], _ => rfl
  | x::l, H => by
    have ih := nD (l := l) fun y hy => H y (zB _ hy)
    have := H x zK
    rw [B7, zo, ih, this, Bj, Bj, Bj]
    cases h1 x <;> cases h2 x <;> cases h3 x <;> simp <;> omega
theorem dA (b : Bool)(x : Lk) : (if b=true then [x] else []).length=b.toNat := by cases b <;> rfl
theorem nE {u : List L}{W : List (List L)}{i j : Int}(h : i < j) : (eQ u W i j (wyZ W i).length).length=NN u (wyZ W i) (wyZ W j) := by
  rw [nC]
  refine nD fun x _ => ?_
  have l1 : ∀ q r : Int, ltP (i, q) (j, r)=true := fun q r => gx.mpr (.inl h)
  unfold lkZ t_ ua ki jJ
  rw [l1, l1, AJ, AJ, AJ, zo, zo, dA, dA, dA]
  rfl
theorem vG {n : Nat}{g : P2 → Bool}(h0 : ∀ s : P2, s.1=s.2 → g s=false)(hs : ∀ s, g (sw s)=g s) : 2*(prs n n).countP (fun s => decide (s.1 < s.2) && g s)=(prs n n).countP g := by
  have e1 : (prs n n).countP g=(prs n n).countP (fun s => decide (s.1 < s.2) && g s)+(prs n n).countP (fun s => decide (s.2 < s.1) && g s) := iZ fun s _ => by
    rcases Int.lt_trichotomy s.1 s.2 with h | h | h
    · rw [zH h, zp (show ¬ s.2 < s.1 by omega)]
      simp
    · rw [h0 s h]
      simp
    · rw [zH h, zp (show ¬ s.1 < s.2 by omega)]
      simp
  have e2 : (prs n n).countP (fun s => decide (s.1 < s.2) && g s)=(prs n n).countP (fun s => decide (s.2 < s.1) && g s) := gF (bW _ _) (bW _ _) sw sw (fun s h => ⟨pK h, rfl, by show (decide (s.1 < s.2) && g (sw s))=_;rw [hs]⟩) (fun s h => ⟨pK h, rfl⟩)
  omega
theorem nF {n : Nat}{u : List L}(U : SK u n){W : List (List L)}{i : Int}(A : Wo n (wyZ W i)) : 2*(eQ u W i i (wyZ W i).length).length=NN u (wyZ W i) (wyZ W i) := by
  have e : (eQ u W i i (wyZ W i).length).length=(prs (wyZ W i).length (wyZ W i).length).countP (fun s => decide (s.1 < s.2) && hF u (wyZ W i) (wyZ W i) s)+((prs (wyZ W i).length (wyZ W i).length).countP (fun s => decide (s.1 < s.2) && hP u (wyZ W i) (wyZ W i) 1 s)+(prs (wyZ W i).length (wyZ W i).length).countP (fun s => decide (s.1 < (oth (wyZ W i) (wyZ W i) s).1) && hP u (wyZ W i) (wyZ W i) (-1) s)) := by
    rw [nC]
    refine nD fun x _ => ?_
    have l1 : ∀ q r : Int, ltP (i, q) (i, r)=decide (q < r) := fun q r => by
      rw [Ad, gx, zE]
      show i < i ∨ (i=i ∧ q < r) ↔ _
      omega
    unfold lkZ t_ ua ki jJ
    rw [l1, l1, zo, zo, dA, dA, dA]
    rfl
  generalize wyZ W i=w at *
  have f1 := vG (n := w.length) (g := hF u w w) (fun s h => by
    unfold hF bP
    rw [h]
    have : ¬ [inv (sgZ w s.2 1 0), sgZ w s.2 1 1, inv (sgZ w s.2 1 0), sgZ w s.2 1 1].Nodup := by simp
    rw [zp this, Ab]) (fun s => qH U A A s)
  have f2 := vG (n := w.length) (g := hP u w w 1) (fun s h => by
    unfold hP
    rw [h]
    exact dZ rfl) (fun s => ig U A A s.1 s.2)
  have f3 : (prs w.length w.length).countP (hP u w w (-1))=(prs w.length w.length).countP (fun s => decide (s.1 < (oth w w s).1) && hP u w w (-1) s)+(prs w.length w.length).countP (fun s => decide ((oth w w s).1 < s.1) && hP u w w (-1) s) := iZ fun s hs => by
    rcases Int.lt_trichotomy s.1 (oth w w s).1 with h | h | h
    · rw [zH h, zp (show ¬ (oth w w s).1 < s.1 by omega)]
      simp
    · have : hP u w w (-1) s=false := by
        rw [CY]
        intro z
        unfold hP ptB at z
        rw [AV, zE] at z
        refine m_ (w := w) (p := s.1) (q := s.2) A.r z.1 (fun j hj => ie (N := w.length+w.length) j hj) ?_
        have a := bg.mp hs
        rw [Ax a.1 a.2.1, h]
        rfl
      rw [this]
      simp
    · rw [zH h, zp (show ¬ s.1 < (oth w w s).1 by omega)]
      simp
  have f4 : ∀ (c d : Int → Int → Bool), (∀ a b, c a b=d b a) → (prs w.length w.length).countP (fun s => c s.1 (oth w w s).1 && hP u w w (-1) s)≤(prs w.length w.length).countP (fun s => d s.1 (oth w w s).1 && hP u w w (-1) s) := fun c d hcd => fk (bW _ _) (oth w w) (oth w w) fun s hs h => by
    rw [AV] at h
    obtain ⟨q1, q2, q3⟩ := cQ U A A hs h.2
    refine ⟨qG A.lp A.lp s, ?_, q3⟩
    rw [q3, q1, Bool.and_true, ← hcd]
    exact h.1
  have f5 := f4 (fun a b => decide (a < b)) (fun a b => decide (b < a)) fun _ _ => rfl
  have f6 := f4 (fun a b => decide (b < a)) (fun a b => decide (a < b)) fun _ _ => rfl
  rw [e]
  unfold NN
  omega
end Kx
namespace Kx
open PySem PySem.Spec PyProof.Rows L2 Wd Tv
theorem jS : ∀ {k l : List L}, k.Nodup → (∀ x∈k, x∈l) → l.length≤k.length → k.Perm l := by
  intro k
  induction k with
  | nil => intro l _ _ h;rw [Aw (Nat.le_zero.mp h)]
  | cons x k ih =>
    intro l nd h hl
    rw [z7] at nd
    have hx := h x zK
    have p := List.perm_cons_erase hx
    refine (List.Perm.cons x (ih nd.2 (fun y hy => (Cf (fun e => nd.1 (by rw [← e];exact hy))).mpr (h y (zB _ hy))) ?_)).trans p.symm
    rw [BL hx]
    have : l.length≤k.length+1 := hl
    omega
theorem SK.nm {u N : List L}{k : Nat}(U : SK u k)(h : Nm N k) : SK (u.map (Wd.nm N)) k := by
  have R := h.ren (u := u) fun x hx => (U.mem x).mp hx
  refine ⟨jS (jH _ U.srf.nd R.inj) (fun x hx => ?_) (by rw [zu, U.len, f_ U.hi];exact zA _), U.lo, U.hi⟩
  obtain ⟨y, hy, rfl⟩ := Ak.mp hx
  exact (iE ⟨k, by have := U.hi;omega⟩ _).mpr (h.lt ((U.mem y).mp hy))
theorem sL {u : List L}(U : Srf u){f : L → L}(R : Ren u f){w : List L}(hw : ∀ l∈w, l∈u)(h : Rnd w) : Rnd (w.map f) := by
  have lp := Ai.mpr h.ne
  refine vw (by simpa using h.ne) fun k _ => ?_
  rw [iY lp, iY lp, ← R.iv]
  have := rnd_at h ((k : Int) - 1)
  rw [show (k : Int) - 1+1=k by omega] at this
  intro e
  have m1 := hw _ (iR lp (k : Int))
  have m2 := hw _ (iR lp ((k : Int) - 1))
  exact this (R.inj _ m1 _ (U.iv _ m2) e)
theorem GR.nm {n b : Nat}{u N : List L}(U : SK u n)(h : Nm N n){w : List L}(g : GR n b w) : GR n b (w.map (Wd.nm N)) := by
  have R := h.ren (u := u) fun x hx => (U.mem x).mp hx
  refine ⟨sL U.srf R (fun l hl => (U.mem l).mpr (g.2.2 l hl)) g.1, by rw [zu];exact g.2.1, fun x hx => ?_⟩
  obtain ⟨y, hy, rfl⟩ := Ak.mp hx
  exact h.lt (g.2.2 y hy)
end Kx
namespace PySem
end PySem
namespace L2
open PySem PySem.Spec PyProof.Rows Wd
section
variable {X : Cx}
end
end L2
namespace HT
open PySem PySem.Spec PyProof.Rows
section
variable {prog : Program} {w : World} {A : Around} {E : Value → Shared → Prop} {s : Shared}
end
end HT
namespace L2
open PySem PySem.Spec PyProof.Rows Wd
section
variable {X : Cx}
end
end L2
namespace L2
open PySem PySem.Spec PyProof.Rows
end L2
namespace Kx
open PySem PySem.Spec PyProof.Rows L2 Wd Tv
theorem nH : ∀ x : Fin 6, lt6 x.val=⟨x.val, by omega⟩ := by decide
theorem fm {α : Type} : ∀ {xs : List α} {k : Nat} {x : α}, xs[k]? = some x → xs.Perm (x::xs.eraseIdx k)
  | [], k, x, h => by simp at h
  | y::r, 0, x, h => by simp at h;subst h;exact Bl _
  | y::r, k+1, x, h => by
    have := fm (xs := r) (k := k) (x := x) (by simpa using h)
    exact (List.Perm.cons y this).trans (List.Perm.swap _ _ _)
theorem kj (W : List L) : L2.iD (toS W)=cx W := by
  unfold L2.iD cx
  rw [bA, AY]
  rfl
theorem ij {α β : Type}(g : α → β) : ∀ (xs : List α) (k : Nat), (xs.map g).eraseIdx k=(xs.eraseIdx k).map g
  | [], k => by simp
  | x::r, 0 => by simp
  | x::r, k+1 => by
    rw [z9, BO, BO, z9, ij g r k]
theorem kl (W : List L)(k : Nat) : (cx W).eraseIdx k=cx (W.eraseIdx k) := ij _ W k
end Kx
namespace L2
open PySem PySem.Spec PyProof.Rows Wd
section
variable {X : Cx}
theorem nI (a b c : Value) : slicePick #[a, b, c] none none (some (-1))=#[c, b, a] := by
  have e : sliceRange (sliceBounds none none (some (-1)) 3).fst (sliceBounds none none (some (-1)) 3).snd.fst (sliceBounds none none (some (-1)) 3).snd.snd=[2, 1, 0] := by decide +kernel
  unfold slicePick
  rw [show (#[a, b, c] : Array Value).size=3 from rfl, e]
  rfl
def xM (te ts : TE) : TE := fun σ H Q => te σ H fun x H1 => ts σ H1 fun k H2 => ∃ a y1 y2 y3, x = .ref a ∧ k = .int (-1) ∧ H2 a=some (.lst [y1, y2, y3]) ∧ ∀ p, H2 p=none → Q (.ref p) (upd H2 p (.lst [y3, y2, y1]))
theorem sN {e st : Expr}{te ts : TE}{pos p2 : Pos}(he : PE X e te)(hs : PE X st ts) : PE X (.Subscript e (.Slice none none (some st) p2) pos) (xM te ts) := by
  intro pins s σ H Q I h
  refine CS (thn (he pins s σ H _ I h) fun v s1 zq1 => ?_)
  obtain ⟨x, H1, I1, r1, q1⟩ := zq1
  refine wpAny_Slice ?_
  rw [C2]
  refine zJ ?_
  refine zJ ?_
  rw [evalPart_some]
  refine thn (hs pins s1 σ H1 _ I1 q1) fun vs s3 zq2 => ?_
  obtain ⟨k, H3, I3, r3, a, y1, y2, y3, ez, ek, hx, q3⟩ := zq2
  subst ez ek
  cases r1
  obtain ⟨tk, rfl⟩ := r3
  have I4 : Inv X pins σ H3 { s3 with heap := s3.heap.push { cls := .type "slice", data := .fields #[.none, .none, .int (-1) tk] } } := I3.kept (t' := s3.toks) fun b ob q => zq _ q
  obtain ⟨its, r, ht, hz⟩ := I4.list (SqL.of (K := X.K) hx)
  obtain ⟨z1, z2, z3, rfl⟩ : ∃ z1 z2 z3, its=[z1, z2, z3] := by
    have := r.length
    match its, this with
    | [z1, z2, z3], _ => exact ⟨z1, z2, z3, rfl⟩
  show wpAny (model X.prog X.w) X.A (subscriptTail e (.Slice none none (some st) p2) (.ref a) (.ref s3.heap.objs.size)) (EP X pins σ Q) X.xe { s3 with heap := s3.heap.push { cls := .type "slice", data := .fields #[.none, .none, .int (-1) tk] } }
  refine tail_any (ops := [.ref a, .ref s3.heap.objs.size]) ht.isList.typeIs slot_list_getitem.lookup ?_ (by with_unfolding_all rfl)
  refine CT ht.isList ⟨_, zI _ rfl, rfl, rfl⟩ .none .none (.int (-1) tk) (by decide) ?_ (by show 3≤sizeLine;decide)
  rw [show ([z1, z2, z3] : List Value).toArray=#[z1, z2, z3] from rfl, nI]
  refine ⟨.ref _, _, I4.laid (t' := s3.toks) (o := .lst [y3, y2, y1]) (fun b ob q => zq _ q) (zA _) ?_, rfl, q3 _ (I4.hok.fresh (zA _))⟩
  have rr := r.reverse
  exact ⟨by show 3≤sizeLine;decide, _, 0, rr, zI _ rfl⟩
end
end L2
namespace Kx
open PySem PySem.Spec PyProof.Rows L2 Wd Tv
def ins (u : List L)(p : Nat)(z : L) : List L := u.take p++z::u.drop p
theorem bH (u : List L)(p : Nat)(z : L) : (ins u p z).Perm (z::u) := by
  unfold ins
  refine De.trans ?_
  rw [zQ]
theorem gG (u : List L)(p : Nat)(z : L) : (ins u p z).length=u.length+1 := (bH u p z).length_eq
structure Od (u v : List L) : Prop where
  m : ∀ x∈u, x∈v
  o : ∀ x∈u, ∀ y∈u, v.idxOf x < v.idxOf y ↔ u.idxOf x < u.idxOf y
theorem Od.trans {u v w : List L}(h : Od u v)(g : Od v w) : Od u w := ⟨fun x hx => g.m x (h.m x hx), fun x hx y hy => (g.o x (h.m x hx) y (h.m y hy)).trans (h.o x hx y hy)⟩
theorem nJ {u : List L}(nd : u.Nodup){z x : L}(hz : z∉u)(hx : x∈u){p : Nat}(hp : p≤u.length) : (ins u p z).idxOf x=if u.idxOf x < p then u.idxOf x else u.idxOf x+1 := by
  have ndi : (ins u p z).Nodup := (bH u p z).nodup_iff.mpr (z7.mpr ⟨hz, nd⟩)
  have hg := du hx
  have hl := aQ hx
  refine cz ndi ?_
  unfold ins
  split
  · rename_i h
    rw [zU (by rw [zy];omega), Ag h]
    exact hg
  · rename_i h
    rw [zL (by rw [zy];omega), zy, show u.idxOf x+1 - min p u.length=(u.idxOf x - p)+1 by omega, BX, Al, show p+(u.idxOf x - p)=u.idxOf x by omega]
    exact hg
theorem qK {u : List L}(nd : u.Nodup){z : L}(hz : z∉u){p : Nat}(hp : p≤u.length) : Od u (ins u p z) := ⟨fun x hx => (bH u p z).mem_iff.mpr (zB _ hx), fun x hx y hy => by
  rw [nJ nd hz hx hp, nJ nd hz hy hp]
  split <;> split <;> omega⟩
theorem xN {u v : List L}(h : Od u v) : Tl u v id false := ⟨ni u, fun e he x hx y hy n1 n2 n3 => by
  show decide (rfI v e x < rfI v e y)=_
  have o1 := h.o e he x hx
  have o2 := h.o x hx e he
  have o3 := h.o e he y hy
  have o4 := h.o y hy e he
  have o5 := h.o x hx y hy
  have o6 := h.o y hy x hx
  have b1 : u.idxOf e≠u.idxOf x := fun z => n1 (ck he hx z)
  have b2 : u.idxOf e≠u.idxOf y := fun z => n2 (ck he hy z)
  have b3 : u.idxOf x≠u.idxOf y := fun z => n3 (ck hx hy z)
  have a1 := aQ he
  have a2 := aQ hx
  have a3 := aQ hy
  have c1 := aQ (h.m e he)
  have c2 := aQ (h.m x hx)
  have c3 := aQ (h.m y hy)
  rw [a8 (h.m e he) (h.m x hx), a8 (h.m e he) (h.m y hy), a8 he hx, a8 he hy, CN, BH]
  generalize u.idxOf e=a at *
  generalize u.idxOf x=b at *
  generalize u.idxOf y=c at *
  generalize v.idxOf e=a' at *
  generalize v.idxOf x=b' at *
  generalize v.idxOf y=c' at *
  generalize u.length=n at *
  generalize v.length=n' at *
  split <;> split <;> split <;> split <;> omega⟩
def glu (u : List L)(n p q : Nat) : List L := ins (ins u p (lt6 n)) q (inv (lt6 n))
theorem vH {u : List L}{n : Nat}(U : SK u n)(hn : n < 6){p q : Nat}(hp : p≤u.length)(hq : q≤u.length+1) : SK (glu u n p q) (n+1) ∧ Od u (glu u n p q) := by
  have v6 := mj hn
  have z1 : lt6 n∉u := fun h => by have := (U.mem _).mp h;omega
  have i6 := ml (lt6 n) (by omega)
  have nd1 : (ins u p (lt6 n)).Nodup := (bH _ _ _).nodup_iff.mpr (z7.mpr ⟨z1, U.srf.nd⟩)
  have z2 : inv (lt6 n)∉ins u p (lt6 n) := fun h => by
    rcases zN.mp ((bH _ _ _).mem_iff.mp h) with h | h
    · exact g9 _ h
    · have := (U.mem _).mp h
      rw [i6] at this
      omega
  refine ⟨⟨jS ((bH _ _ _).nodup_iff.mpr (z7.mpr ⟨z2, nd1⟩)) (fun x hx => ?_) ?_, by omega, by omega⟩, (qK U.srf.nd z1 hp).trans (qK nd1 z2 (by rw [gG];exact hq))⟩
  · refine (iE ⟨n+1, by omega⟩ x).mpr ?_
    show x.val % 6 < n+1
    rcases zN.mp ((bH _ _ _).mem_iff.mp hx) with rfl | h
    · rw [i6];omega
    · rcases zN.mp ((bH _ _ _).mem_iff.mp h) with rfl | h
      · omega
      · have := (U.mem _).mp h
        omega
  · rw [f_ (by omega)]
    show _≤(ins (ins u p (lt6 n)) q (inv (lt6 n))).length
    rw [gG, gG, U.len]
    omega
theorem sR {n : Nat}{u v : List L}{f : L → L}{k : Bool}(U : SK u n)(T : Tl u v f k){w z : List L}(A : Wo n w)(B : Wo n z)(lw : w.length≤30)(lz : z.length≤30) : NN v (w.map f) (z.map f)=NN u w z := by
  have hR : WyR n [w, z] := ⟨by show 2≤4;decide, by show 1≤2;decide, fun x hx => by
    simp only [zN, zZ, A6] at hx
    rcases hx with rfl | rfl
    · exact ⟨A.r, lw, A.i⟩
    · exact ⟨B.r, lz, B.i⟩⟩
  have e := zR List.length (vA U T hR (i := 0) (j := 1) (by decide) (by show (0 : Int) < 2;decide) (by decide) (by show (1 : Int) < 2;decide))
  rw [nE (by decide), nE (by decide)] at e
  exact e
def TuW (w v : List L) : Prop := ∃ a, a≤w.length ∧ (v=rot w a ∨ v=bk (rot w a))
theorem TuW.wo {n : Nat}{w v : List L}(h : TuW w v)(A : Wo n w) : Wo n v := by
  obtain ⟨a, _, rfl | rfl⟩ := h
  · exact A.rot a
  · exact (A.rot a).bk
theorem TuW.len {w v : List L}(h : TuW w v) : v.length=w.length := by
  obtain ⟨a, _, rfl | rfl⟩ := h
  · exact cS _ _
  · rw [bq];exact cS _ _
theorem TuW.nn {n : Nat}{u w v z : List L}(U : SK u n)(A : Wo n w)(h : TuW w v)(B : Wo n z) : NN u v z=NN u w z := by
  obtain ⟨a, ha, rfl | rfl⟩ := h
  · exact qJ ha
  · rw [xK U (A.rot a) B]
    exact qJ ha
theorem TuW.nn2 {n : Nat}{u w v z x : List L}(U : SK u n)(A : Wo n w)(h : TuW w v)(B : Wo n z)(g : TuW z x) : NN u v x=NN u w z := by
  rw [h.nn U A (g.wo B), jR U A (g.wo B), g.nn U B A, jR U B A]
def cN (u w v : List L) : List Int := [((NN u w w / 2 : Nat) : Int), ((NN u w v : Nat) : Int), ((NN u v v / 2 : Nat) : Int)]
theorem xO {n : Nat}{u w v : List L}(U : SK u n)(A : Wo n w)(B : Wo n v) : ((eQ u [w, v] 0 0 (wyZ [w, v] 0).length).length=NN u w w / 2) ∧ ((eQ u [w, v] 0 1 (wyZ [w, v] 0).length).length=NN u w v) ∧ ((eQ u [w, v] 1 1 (wyZ [w, v] 1).length).length=NN u v v / 2) := by
  have e0 := nF (W := [w, v]) (i := 0) U A
  have e1 := nF (W := [w, v]) (i := 1) U B
  have e2 := nE (u := u) (W := [w, v]) (i := 0) (j := 1) (by decide)
  have e0 : 2*(eQ u [w, v] 0 0 (wyZ [w, v] 0).length).length=NN u w w := e0
  have e1 : 2*(eQ u [w, v] 1 1 (wyZ [w, v] 1).length).length=NN u v v := e1
  exact ⟨by omega, e2, by omega⟩
theorem sT {n : Nat}{u w : List L}(U : SK u n)(A : Wo n w) : 2*(NN u w w / 2)=NN u w w := by
  have e0 := nF (W := [w, w]) (i := 0) U A
  have e0 : 2*(eQ u [w, w] 0 0 (wyZ [w, w] 0).length).length=NN u w w := e0
  omega
def dJ (ns : List Int) : List PyData := ns.map .int
theorem sU {H : Hp} : ∀ ns : List Int, Dts H (ns.map V.int) (dJ ns)
  | [] => .nil
  | n::ns => .cons (.int n) (sU ns)
theorem vI : ∀ ns : List Int, PyData.canLayAll0 (dJ ns)=true
  | [] => rfl
  | n::ns => vI ns
theorem vJ : ∀ ns : List Int, PyData.depthAll (dJ ns)=0
  | [] => rfl
  | n::ns => by show max 0 (PyData.depthAll (dJ ns))=0;rw [vJ ns];rfl
theorem vK : ∀ a : List Int, PyData.eqvAll (dJ a) (dJ a)=true
  | [] => rfl
  | x::a => by
    show (PyData.eqv (.int x) (.int x) && PyData.eqvAll (dJ a) (dJ a))=_
    rw [vK a]
    show ((x == x) && true)=true
    rw [Dc]
    rfl
theorem qL (r : List Int) : (PyData.list (dJ r)).canLay0=true := by
  unfold PyData.canLay0
  exact vI r
theorem vL (r : List Int) : (PyData.list (dJ r)).depth≤10 := by
  show PyData.depthAll (dJ r)+1≤10
  rw [vJ]
  decide
theorem gH {H : Hp}{p q : Addr}{Q : VK}{r : List Int}(h1 : H p=some (.lst (r.map V.int)))(h2 : H q=some (.lst (r.map V.int)))(h : Q (.bl false) H) : xw (.ref p) (.ref q) H Q := by
  refine ⟨_, _, .lst h1 (sU r), .lst h2 (sU r), qL r, qL r, vL r, ?_⟩
  show Q (.bl (!PyData.eqvAll (dJ r) (dJ r))) H
  rw [vK]
  exact h
inductive i4 (vs : List V)(H : Hp)(Q : VK)(u3_ : XK) : Prop
  | mk : ∀ (u : List L) (p : Int) (z : L), (vs=[tx u, .int p, tx [z]]) → u.length≤60 → 0≤p → Q (tx (ins u p.toNat z)) H → i4 vs H Q u3_
inductive nK (vs : List V)(H : Hp)(Q : VK)(u3_ : XK) : Prop
  | mk : ∀ (u : List L) (n : Nat) (p q : Int), (vs=[tx u, .int p, .int q]) → SK u n → n≤5 → 0≤p → p≤(u.length : Int) → 0≤q → q≤(u.length : Int)+1 → (∀ H', aA H H' → Q (tx (glu u n p.toNat q.toNat)) H') → nK vs H Q u3_
inductive gI (vs : List V)(H : Hp)(Q : VK)(u3_ : XK) : Prop
  | mk : ∀ (d : Addr) (n : Nat), (vs=[.ref d, .int (n : Int)]) → Fd H d → 1≤n → n≤6 → (∀ (u : List L) (H' : Hp), SK u n → Fd H' d → bj d H H' → Q (tx u) H') → gI vs H Q u3_
inductive i5 (vs : List V)(H : Hp)(Q : VK)(u3_ : XK) : Prop
  | mk : ∀ (d : Addr) (m : Nat), (vs=[.ref d, .int (m : Int), .int 8]) → Fd H d → 1≤m → m≤6 → (∀ (v : List L) (H' : Hp), GR m 8 v → Fd H' d → bj d H H' → Q (tx v) H') → i5 vs H Q u3_
inductive i7 (vs : List V)(H : Hp)(Q : VK)(u3_ : XK) : Prop
  | mk : ∀ (u w v : List L) (n : Nat), (vs=[tx u, tx w, tx v]) → SK u n → GR n 8 w → GR n 8 v → (∀ (l : Addr) (H' : Hp), H l=none → aA H H' → H' l=some (.lst ((cN u w v).map V.int)) → Q (.ref l) H') → i7 vs H Q u3_
inductive eP (vs : List V)(H : Hp)(Q : VK)(u3_ : XK) : Prop
  | mk : ∀ (d : Addr) (k : Nat), (vs=[.ref d, .int (k : Int)]) → (Fd H d) → (1≤k) → (k≤6) → (∀ (a : Addr) (H' : Hp) (N : List L), H a=none → Nm N k → kr H' a N k → Fd H' d → bj d H H' → Q (.ref a) H') → eP vs H Q u3_
inductive gJ (vs : List V)(H : Hp)(Q : VK)(u3_ : XK) : Prop
  | mk : ∀ (d : Addr) (w : List L), (vs=[.ref d, tx w]) → (Fd H d) → w≠[] → w.length≤60 → (∀ (v : List L) (H' : Hp), TuW w v → Fd H' d → bj d H H' → Q (tx v) H') → gJ vs H Q u3_
theorem GR.wo {n b : Nat}{w : List L}(h : GR n b w) : Wo n w := ⟨h.1, h.2.2⟩
theorem GR.tu {n b : Nat}{w v : List L}(h : GR n b w)(t : TuW w v) : GR n b v := ⟨(t.wo h.wo).r, by rw [t.len]; exact h.2.1, (t.wo h.wo).i⟩
theorem sV {H : Hp}{d l : Addr}{z : Str}{o : HO}{xs : List V}(F : Fd H d)(h : H l=some (.lst xs))(n : l≠d)(hx : V.str z∈xs) : Fd (L2.upd H l o) d := by
  obtain ⟨c, i, ll, t, ns, h1, h2, h3, h4⟩ := F.ex
  have hc : c≠l := fun e => by
    subst e
    rw [h2] at h
    have h := HO.lst.inj (zD h)
    rw [← h] at hx
    obtain ⟨k, _, e⟩ := Ak.mp hx
    cases e
  exact ⟨c, i, ll, t, ns, by rw [aG (fun e => n e.symm)];exact h1, by rw [aG hc];exact h2, h3, h4⟩
theorem nN {H : Hp}{d a : Addr}{o : HO}{kvs : List (Key × V)}(F : Fd H d)(h : H a=some (.dK kvs))(n : a≠d) : Fd (L2.upd H a o) d := by
  obtain ⟨c, i, ll, t, ns, h1, h2, h3, h4⟩ := F.ex
  have hc : c≠a := fun e => by
    subst e
    rw [h2] at h
    cases h
  exact ⟨c, i, ll, t, ns, by rw [aG (fun e => n e.symm)];exact h1, by rw [aG hc];exact h2, h3, h4⟩
end Kx
namespace Kx
open PySem PySem.Spec PyProof.Rows L2 Wd
def top (i : Nat) : Stmt := PySem.Challenge.pw_ringwords_k97_whole_ways_turned_and_rena.main.body.getD i (.Pass ⟨0, 0, 0, 0⟩)
theorem vM {α : Type}{us : List α}(h : us.length=1) : ∃ a0, us=[a0] := by
  cases us with
  | nil => cases h
  | cons a0 us =>
    cases us with
    | nil => exact ⟨a0, rfl⟩
    | cons b us => cases h
theorem sW {α : Type}{us : List α}(h : us.length=2) : ∃ a0 a1, us=[a0, a1] := by
  cases us with
  | nil => cases h
  | cons a0 us =>
    cases us with
    | nil => cases h
    | cons a1 us =>
      cases us with
      | nil => exact ⟨a0, a1, rfl⟩
      | cons b us => cases h
theorem qM {α : Type}{us : List α}(h : us.length=3) : ∃ a0 a1 a2, us=[a0, a1, a2] := by
  cases us with
  | nil => cases h
  | cons a0 us =>
    cases us with
    | nil => cases h
    | cons a1 us =>
      cases us with
      | nil => cases h
      | cons a2 us =>
        cases us with
        | nil => exact ⟨a0, a1, a2, rfl⟩
        | cons b us => cases h
theorem uc {α : Type}{us : List α}(h : us.length=4) : ∃ a0 a1 a2 a3, us=[a0, a1, a2, a3] := by
  cases us with
  | nil => cases h
  | cons a0 us =>
    cases us with
    | nil => cases h
    | cons a1 us =>
      cases us with
      | nil => cases h
      | cons a2 us =>
        cases us with
        | nil => cases h
        | cons a3 us =>
          cases us with
          | nil => exact ⟨a0, a1, a2, a3, rfl⟩
          | cons b us => cases h
theorem zf {α : Type}{us : List α}(h : us.length=5) : ∃ a0 a1 a2 a3 a4, us=[a0, a1, a2, a3, a4] := by
  cases us with
  | nil => cases h
  | cons a0 us =>
    cases us with
    | nil => cases h
    | cons a1 us =>
      cases us with
      | nil => cases h
      | cons a2 us =>
        cases us with
        | nil => cases h
        | cons a3 us =>
          cases us with
          | nil => cases h
          | cons a4 us =>
            cases us with
            | nil => exact ⟨a0, a1, a2, a3, a4, rfl⟩
            | cons b us => cases h
end Kx
namespace Kx
open PySem PySem.Spec PyProof.Rows L2 Wd
section
variable {P : Program} {w : World} {K : PySem.W.Frag} {mg : Str → Option Value} {base : Heap} {aB : Addr}
abbrev nP : Stmt := top 30
theorem sX : aC ["_law_feed_here", "_law_many", "_law_cell", "_law_mixed", "_law_found"] ["_law_feed_here", "_law_many"] (ak nP) := ⟨rfl, rfl, rfl, by decide +kernel, rfl, by decide +kernel, by decide +kernel⟩
def _root_.DH {a b c d e}:=@ag a b c d e
def _root_.DJ {a b c d e f g h i}:=@dk a b c d e f g h i
def _root_.DK {a b c d e f g h}:=@aD a b c d e f g h
def _root_.DM {a b c d e f}:=@bD a b c d e f
def _root_.DN {a b c d e f g h}:=@bX a b c d e f g h
def _root_.DO {a b c d e f g h}:=@aL a b c d e f g h
def _root_.DP {a b} (c) {d e f g}:=@au a b c d e f g
def _root_.DQ {a b c d e f g}:=@aW a b c d e f g
def _root_.DR {a b c d e f g h i}:=@ax a b c d e f g h i
def _root_.DS {a b c d e}:=@aa a b c d e
def _root_.DT {a b c}:=@aj a b c
def _root_.DU {a b c d}:=@aH a b c d
theorem vN (D : Df K mg "_law_draw" nP)(T : Bt K w mg aB) : Fnc P w K mg base "_law_draw" ["_law_feed_here", "_law_many"] 1 dM := by
  have sc := sX
  refine D.ok sc (fun _ _ _ _ _ _ us hl => by obtain ⟨_, _, rfl⟩ := sW hl;rfl) (fun vs H Q E h => ?_) (fun f cdv A outer s H vs Q E hr h => ?_)
  · obtain ⟨d, m, rfl, _⟩ := h
    rfl
  · obtain ⟨d, m, rfl, F, m0, m1, k⟩ := h
    have hu := oI hr
    refine ⟨_, (DH (DJ hu (pv 0) aJ (DK bw (DM hu (pv 0) aJ (fun _ _ => rfl)) ai) rfl) (DH (DN (DO dj (DM hu (pv 0) aJ (fun _ _ => rfl)) ai (aR _)) (DH (DP (2) sc.nd rfl (Or.inl rfl) (DQ bI (DM hu (pv 0) aJ (fun _ _ => rfl)) (DK cY (DM hu (pv 0) aJ (fun _ _ => rfl)) (DR bh (by rfl) T.len zX (DS (DM hu (pv 0) aJ (fun _ _ => rfl)) af (by rfl)) (by decide) (by decide) (by rfl) (by rfl))) (fun _ _ => rfl)) (by rfl) (by first | exact .inl rfl | exact .inr rfl | assumption)) (DH (DJ hu (pv 0) aJ (DK bw (DM hu (pv 0) aJ (fun _ _ => rfl)) ai) rfl) (DH (DN (DO gN (pv 2) (DK uA ai ai) (aR _)) (DH (DP (3) sc.nd rfl (Or.inl rfl) (DK cY (DK cX (DK bw (DK cY (pv 2) ai) (DK cX ai (DM hu (pv 0) aJ (fun _ _ => rfl)))) ai) ai) (by rfl) (by first | exact .inl rfl | exact .inr rfl | assumption)) (DH (DP (3) sc.nd rfl (Or.inl rfl) (DK cY (DK cX (DK bw (DK d7 (pv 3) ai) (DK cX ai (DM hu (pv 0) aJ (fun _ _ => rfl)))) ai) ai) (by rfl) (by first | exact .inl rfl | exact .inr rfl | assumption)) (DT (DU (DK cY (DK d7 (pv 3) ai) (pv 1)))))) bb) (DT (DJ hu (pv 0) aJ (pv 2) rfl))))) bb) (DH (DP (4) sc.nd rfl (Or.inl rfl) (DK cY (DM hu (pv 0) aJ (fun _ _ => rfl)) (pv 1)) (by rfl) (by first | exact .inl rfl | exact .inr rfl | assumption)) (DH (DJ hu (pv 0) aJ (DK d7 (DM hu (pv 0) aJ (fun _ _ => rfl)) (pv 1)) rfl) (DT (DU (pv 4))))))), ?_⟩
    obtain ⟨c, i, l, t, ns, hd, hc, hne, h64⟩ := F.ex
    have dc : c≠d := qO hc hd (by intro z;cases z)
    have fin : ∀ (r i' l' t' : Int), 0≤r → r < m → Q (.int r) (upd H d (.dK (fkv c i' l' t'))) := fun r i' l' t' h0 h1 =>
      k r _ h0 h1 ⟨c, i', l', t', ns, ah, by rw [aG dc];exact hc, hne, h64⟩ bj.upd
    have c1 : ∀ o, (upd H d o) c=some (.lst (ns.map V.int)) := fun o => by rw [aG dc];exact hc
    have hl0 : (0 : Int) < ((ns.map V.int).length : Int) := by
      rw [zu]
      have := Ai.mpr hne
      omega
    refine ⟨_, rfl, d, _, rfl, dg hd (lV c i l t), _, _, rfl, rfl, _, rfl, d, _, rfl, dp hd (eE c i l t) (uY c i l t _), ?_⟩
    refine ⟨_, rfl, d, _, rfl, dg ah (hE c i l _), rfl, _, rfl, ?_⟩
    refine qi (fun _ => ?_) (fun _ => ?_)
    rotate_left
    · refine ⟨_, rfl, d, _, rfl, dg ah (hE c _ _ _), _, rfl, _, _, rfl, rfl, m0, ?_⟩
      refine ⟨_, rfl, d, _, rfl, dg ah (hE c _ _ _), _, rfl, _, _, rfl, rfl, ⟨m0, by omega⟩, _, rfl, d, _, rfl, dp ah (eE c _ _ _) (lX c _ _ _ _), ?_⟩
      refine ⟨_, rfl, ?_⟩
      rw [fo]
      exact fin _ _ _ _ (Ap _ (by omega)) (Af _ m0)
    obtain ⟨n, hn⟩ := rH hne i
    refine ⟨_, rfl, d, _, rfl, dg ah (lU c i l _), _, rfl, d, _, rfl, dg ah (yw c i l _), _, rfl, d, _, rfl, dg ah (lU c i l _), c, _, rfl, .inl (SqL.of (c1 _)), _, _, rfl, rfl, hl0, c, _, _, _, rfl, rfl, SqL.of (c1 _), hn, ?_⟩
    refine ⟨_, rfl, d, _, rfl, dg ah (yw c i l _), _, _, rfl, rfl, _, rfl, d, _, rfl, dp ah (eE c i l _) (yX c i l _ _), ?_⟩
    rw [fo]
    refine ⟨_, rfl, _, _, rfl, rfl, ⟨by decide, by decide, by decide⟩, _, _, rfl, rfl, _, rfl, ?_⟩
    refine qi (fun _ => ?_) (fun _ => ?_)
    · refine ⟨_, rfl, _, _, rfl, rfl, (by show (0 : Int) < 2147483629;decide), _, rfl, d, _, rfl, dg ah (lV c _ l _), _, _, rfl, rfl, .inl ⟨by decide, by decide⟩, _, _, rfl, rfl, _, _, rfl, rfl, .inr ⟨by decide, by decide⟩, _, _, rfl, rfl, (by show (0 : Int) < 2147483647;decide), ?_⟩
      refine ⟨_, rfl, _, _, rfl, rfl, ⟨by decide, by decide⟩, _, rfl, d, _, rfl, dg ah (lV c _ l _), _, _, rfl, rfl, .inl ⟨by decide, by decide⟩, _, _, rfl, rfl, _, _, rfl, rfl, .inr ⟨by decide, by decide⟩, _, _, rfl, rfl, (by show (0 : Int) < 2147483587;decide), ?_⟩
      refine ⟨_, rfl, _, _, rfl, rfl, ⟨by decide, by decide⟩, _, rfl, _, _, rfl, rfl, m0, ?_⟩
      exact fin _ _ _ _ (Ap _ (by omega)) (Af _ m0)
    · refine ⟨_, rfl, _, rfl, d, _, rfl, dp ah (eE c _ l _) (lX c _ l _ _), ?_⟩
      rw [fo]
      refine ⟨_, rfl, d, _, rfl, dg ah (hE c _ _ _), _, rfl, _, _, rfl, rfl, m0, ?_⟩
      refine ⟨_, rfl, d, _, rfl, dg ah (hE c _ _ _), _, rfl, _, _, rfl, rfl, ⟨m0, by omega⟩, _, rfl, d, _, rfl, dp ah (eE c _ _ _) (lX c _ _ _ _), ?_⟩
      refine ⟨_, rfl, ?_⟩
      rw [fo]
      exact fin _ _ _ _ (Ap _ (by omega)) (Af _ m0)
abbrev nQ : Stmt := top 29
theorem sY : aC ["_law_script"] ["_law_script"] (ak nQ) := ⟨rfl, rfl, rfl, by decide +kernel, rfl, by decide +kernel, by decide +kernel⟩
def _root_.DV {a b c d e f g h i j}:=@aI a b c d e f g h i j
def _root_.DW {a b c}:=@aO a b c
def _root_.DX {a b c d}:=@bx a b c d
theorem vO (D : Df K mg "_law_feed" nQ)(T : Bt K w mg aB) : Fnc P w K mg base "_law_feed" ["_law_script"] 1 (lY K) := by
  have sc := sY
  refine D.ok sc (fun _ _ _ _ _ _ us hl => by obtain ⟨_, rfl⟩ := vM hl;rfl) (fun vs H Q E h => ?_) (fun f cdv A outer s H vs Q E hr h => ?_)
  · obtain ⟨a, ns, rfl, _⟩ := h
    rfl
  · obtain ⟨a, ns, rfl, hS, hlen, k⟩ := h
    have hu := oI hr
    refine ⟨_, (DT (DU (@rm _ _ _ _ _ (@dQ _ _ _ _ _ _ _ _ _ aJ (DK uP (@c0 _ _ _ _ _ _ _ _ _ gU (by rfl) T.list qm (DS (DV ix (pv 0) aT (DW ai)) af (by rfl)) (by decide) (by decide) (by rfl) (by rfl)) (DK uQ (DX (DS ai af (by rfl))) (@c0 _ _ _ _ _ _ _ _ _ kP (by rfl) T.int xi (DS (@fy _ _ _ _ _ _ _ _ dj (DR bh (by rfl) T.len zX (DS (pv 0) af (by rfl)) (by decide) (by decide) (by rfl) (by rfl)) ai (aR _)) af (by rfl)) (by decide) (by decide) (by rfl) (by rfl)))) (@dQ _ _ _ _ _ _ _ _ _ aJ ai (@dQ _ _ _ _ _ _ _ _ _ aJ ai (@dQ _ _ _ _ _ _ _ _ _ aJ ai rj)))) rfl rfl (by simp) (by decide)))), ?_⟩
    intro p hp
    have s1 : aA H (upd H p (.dK [])) := aA.new hp
    have p1 : (upd H p (.dK [])) p=some (.dK []) := ah
    generalize upd H p (.dK [])=H1 at s1 p1
    refine ⟨_, rfl, _, rfl, a, _, rfl, s1.seq hS, fun q1 hq1 => ?_⟩
    rw [xk hlen]
    have s2 : aA H1 (upd H1 q1 (.lst (ns.map V.int))) := aA.new hq1
    have l2 : (upd H1 q1 (.lst (ns.map V.int))) q1=some (.lst (ns.map V.int)) := ah
    generalize upd H1 q1 (.lst (ns.map V.int))=H2 at s2 l2 ⊢
    refine ⟨q1, _, rfl, .inl (SqL.of l2), fun q2 hq2 => ?_⟩
    have s3 : aA H2 (upd H2 q2 (.lst (ns.map V.int))) := aA.new hq2
    have l3 : (upd H2 q2 (.lst (ns.map V.int))) q2=some (.lst (ns.map V.int)) := ah
    generalize upd H2 q2 (.lst (ns.map V.int))=H3 at s3 l3 ⊢
    refine ⟨(by show 1≤sizeLine;decide), fun q4 hq4 => ?_⟩
    have s4 : aA H3 (upd H3 q4 (.lst [V.int 0])) := aA.new hq4
    have l4 : (upd H3 q4 (.lst [V.int 0])) q4=some (.lst [V.int 0]) := ah
    generalize upd H3 q4 (.lst [V.int 0])=H4 at s4 l4 ⊢
    have s14 : aA H H4 := ((s1.trans s2).trans s3).trans s4
    refine ⟨_, rfl, a, _, rfl, .inl (s14.seq hS), rfl, .inr ⟨_, rfl, q4, _, _, rfl, rfl, l4, ?_, ?_, ?_, fun q5 hq5 => ?_⟩⟩
    · split <;> decide
    · split <;> decide
    · split <;> decide
    have s5 : aA H4 (upd H4 q5 (.lst (List.replicate ((if decide (V.int ((ns.map V.int).length : Int)=V.int 0)=true then 1 else 0 : Int)).toNat [V.int 0]).flatten)) := aA.new hq5
    have l5 : (upd H4 q5 (.lst (List.replicate ((if decide (V.int ((ns.map V.int).length : Int)=V.int 0)=true then 1 else 0 : Int)).toNat [V.int 0]).flatten)) q5=_ := ah
    generalize upd H4 q5 (.lst (List.replicate ((if decide (V.int ((ns.map V.int).length : Int)=V.int 0)=true then 1 else 0 : Int)).toNat [V.int 0]).flatten)=H5 at s5 l5 ⊢
    refine ⟨q2, q5, _, _, rfl, rfl, s5 _ _ (s4 _ _ l3), l5, ?_, fun q6 hq6 => ?_⟩
    · have e : (List.replicate ((if decide (V.int ((ns.map V.int).length : Int)=V.int 0)=true then 1 else 0 : Int)).toNat [V.int 0]).flatten.length≤1 := by split <;> decide
      have e2 : sizeLine=16777216 := Cq
      have e3 : (ns.map V.int).length=ns.length := zu ..
      omega
    have el : ns.map V.int++(List.replicate ((if decide (V.int ((ns.map V.int).length : Int)=V.int 0)=true then 1 else 0 : Int)).toNat [V.int 0]).flatten=(if ns=[] then [0] else ns).map V.int := by
      cases ns with
      | nil => rfl
      | cons n r =>
        have en : ¬ (decide (V.int (((n::r).map V.int).length : Int)=V.int 0)=true) := by
          rw [zu, zY]
          simp only [V.int.injEq, CW]
          omega
        rw [if_neg en, if_neg (by simp)]
        simp
    rw [el]
    have s6 : aA H5 (upd H5 q6 (.lst ((if ns=[] then [0] else ns).map V.int))) := aA.new hq6
    have l6 : (upd H5 q6 (.lst ((if ns=[] then [0] else ns).map V.int))) q6=_ := ah
    generalize upd H5 q6 (.lst ((if ns=[] then [0] else ns).map V.int))=H6 at s6 l6 ⊢
    have p6 : H6 p=some (.dK []) := s6 _ _ (s5 _ _ (s4 _ _ (s3 _ _ (s2 _ _ p1))))
    have pq : q6≠p := qO l6 p6 (by intro z;cases z)
    refine ⟨p6, fkv q6 0 0 0, rfl, (by show 4≤15;decide), ?_⟩
    rw [xh]
    refine k p _ hp ⟨q6, 0, 0, 0, (if ns=[] then [0] else ns), ah, by rw [aG pq];exact l6, ?_, ?_⟩ fun b o e => ?_
    · split
      · simp
      · assumption
    · split
      · decide
      · omega
    · rw [aG (aw e hp)]
      exact s6 _ _ (s5 _ _ (s14 _ _ e))
end
end Kx
namespace Kx
open PySem PySem.Spec PyProof.Rows L2 Wd
section
variable {P : Program} {w : World} {K : PySem.W.Frag} {mg : Str → Option Value} {base : Heap} {aB : Addr}
abbrev nR : Stmt := top 3
theorem sZ : aC ["word"] ["word"] (ak nR) := ⟨rfl, rfl, rfl, by decide +kernel, rfl, by decide +kernel, by decide +kernel⟩
def _root_.DY {a b c d e f g h i j k l}:=@dN a b c d e f g h i j k l
def _root_.DZ {a b} (c) {d}:=@bf a b c d
theorem vP (D : Df K mg "back" nR)(T : Bt K w mg aB) : Fnc P w K mg base "back" ["word"] 1 lZ := by
  have sc := sZ
  refine D.ok sc (fun _ _ _ _ _ _ us hl => by obtain ⟨_, rfl⟩ := vM hl;rfl) (fun vs H Q E h => ?_) (fun f cdv A outer s H vs Q E hr h => ?_)
  · obtain ⟨u, rfl, _⟩ := h
    rfl
  · obtain ⟨u, rfl, hu, k⟩ := h
    have l16 := a6
    refine ⟨_, (DT (DU (DY Ae Bw Bx fR aJ (DS (@fP _ _ _ _ _ _ _ (["letter"]) (["letter"]) ([]) _ _ _ _ (@e8 _ _ _ _ _ _ rfl (by kernel_rfl)) rfl (@rq _ _ _ _ _ _ rfl T.reversed j5 (DS (pv 0) af (by rfl)) (by rfl)) (fun _ _ _ _ => DZ (0) (show (["letter"] : List Str).Nodup from by decide +kernel) rfl (Or.inl rfl) (by first | exact .inl rfl | exact .inr rfl | assumption)) (fun _ _ _ _ => dR) (fun _ _ _ _ => by (exact (@ly _ _ _ _ _ _ _ _ _ T.dB rfl rfl rfl T.mgB (pv 0) (fun _ _ => rfl) (by decide)))) (by intro _ ;rfl)) af (by rfl)) (by rfl) (by rfl) (by rfl) (by rfl) (by rfl)))), ?_⟩
    refine ⟨rfl, _, rfl, _, rfl, (by rw [ae];omega), ?_⟩
    refine dm (own := ["letter"]) (cap := []) (J := wY (toS u)) u.length (fun i ys σ H' => H'=H ∧ ys=cx ((bk u).take i) ∧ ∃ v, σ = [v]) ⟨rfl, rfl, none, rfl⟩ (fun i ys σ H' hi ⟨_, e, _⟩ => ?_) (by omega) (fun i ys σ H' hi _ => ?_) (fun ys σ H' _ => ?_) ?_ ?_
    · rw [e, a7, zy];omega
    · show i < (toS u).cps.size;rw [ba];exact hi
    · show _=(toS u).cps.size;rw [ba]
    · rintro i ys σ H1 x H2 N hi ⟨rfl, rfl, v, rfl⟩ ⟨rfl, c, hc, rfl⟩ hN
      rw [ba] at hc
      obtain ⟨y, hy, e⟩ := b_ hc
      obtain ⟨t, ht⟩ := T.gB y
      refine ⟨_, rfl, toS [y], toS [inv y], t, by rw [e], ht, hN _ _ _ ⟨rfl, ?_, _, rfl⟩⟩
      rw [bM (qp u hi hy), ← cj]
      rfl
    · rintro ys σ H1 l ⟨rfl, rfl, v, rfl⟩ hl
      rw [Am (by rw [bq];exact zA _)]
      refine ⟨_, l, (bk u).map fun x => toS [x], rfl, rfl, SqL.of (by rw [ah, dW]), c8 _ (by rw [bq];omega), ?_⟩
      rw [c7]
      exact k _ (aA.new hl)
abbrev s_ : Stmt := top 4
theorem vQ : aC ["word", "left", "letter"] ["word"] (ak s_) := ⟨rfl, rfl, rfl, by decide +kernel, rfl, by decide +kernel, by decide +kernel⟩
def _root_.D0 {a b c d e f g h}:=@dC a b c d e f g h
def _root_.D1 {a b c d e f}:=@gM a b c d e f
def _root_.D2 {a b c d e f g h i}:=@eY a b c d e f g h i
theorem xP (D : Df K mg "reduced" s_)(T : Bt K w mg aB) : Fnc P w K mg base "reduced" ["word"] 1 l7 := by
  have sc := vQ
  refine D.ok sc (fun _ _ _ _ _ _ us hl => by obtain ⟨_, rfl⟩ := vM hl;rfl) (fun vs H Q E h => ?_) (fun f cdv A outer s H vs Q E hr h => ?_)
  · obtain ⟨u, rfl, _⟩ := h
    rfl
  · obtain ⟨u, rfl, hu, k⟩ := h
    have l16 := a6
    refine ⟨_, (DH (DP (1) sc.nd rfl (Or.inl rfl) (DX af) (by rfl) (by first | exact .inl rfl | exact .inr rfl | assumption)) (DH (D0 AH rfl (@e9 _ _ _ _ (pv 0)) (DZ (2) sc.nd rfl (Or.inl rfl) (by first | exact .inl rfl | exact .inr rfl | assumption)) (DT (DN (@PW.pt _ _ _ (@p7 _ _ _ _ _ _ _ (@dO _ _ _ (pv 1) (fun _ => rfl)) (@kD _ _ _ _ (DO dj (DQ bI (pv 1) (D1 dD ai) (fun _ _ => rfl)) (@ly _ _ _ _ _ _ _ _ _ T.dB rfl rfl rfl T.mgB (pv 2) (fun _ _ => rfl) (by decide)) (aR _))))) (DT (@d5 _ _ _ _ (D2 AM PySem.F.slot_list_pop PySem.F.type_list_pop uO (pv 1) (by rfl) (by rfl)) (by rfl))) (DT (@d5 _ _ _ _ (DY AM PySem.F.slot_list_append PySem.F.type_list_append kX (pv 1) (DS (pv 2) af (by rfl)) (by rfl) (by rfl) (by rfl) (by rfl) (by rfl)) (by rfl))))) (by intro _ ;rfl)) (DT (DU (DY Ae Bw Bx fR aJ (DS (pv 1) af (by rfl)) (by rfl) (by rfl) (by rfl) (by rfl) (by rfl)))))), ?_⟩
    refine ⟨(by show 0≤sizeLine;decide), fun l hl => ?_⟩
    refine ⟨_, rfl, _, rfl, fT (z := toS u) (fun i σ H' => ∃ v, σ = [some (tx u), some (.ref l), v] ∧ aA H H' ∧ H' l=some (.lst (cx (act (u.take i) []).reverse))) ⟨none, rfl, aA.new hl, by rw [ah];rfl⟩ ?_ ?_⟩
    · rintro i c σ H1 hc ⟨v, rfl, s1, l1⟩
      obtain ⟨x, hx, e⟩ := b_ hc
      obtain ⟨t, ht⟩ := T.gB x
      have hi : i < u.length := (zm.mp hx).1
      have step : act (u.take (i+1)) []=push (act (u.take i) []) x := by rw [bM hx, jr]
      have long : (act (u.take i) []).length≤u.length := by
        have := dq (u.take i) []
        rw [Av, zy] at this
        omega
      have nl : ∀ b o, H b=some o → b≠l := fun b o e => aw e hl
      have put : (act (u.take (i+1)) []=x::act (u.take i) []) → ∀ H2 : Hp, H2=upd H1 l (.lst (cx (act (u.take i) []).reverse++[tx [x]])) → ∃ v, [some (tx u), some (.ref l), some (V.str ⟨#[c]⟩)]=[some (tx u), some (.ref l), v] ∧ aA H H2 ∧ H2 l=some (.lst (cx (act (u.take (i+1)) []).reverse)) := fun e H2 eH => by
        subst eH
        refine ⟨_, rfl, fun b o q => by rw [aG (nl b o q)];exact s1 b o q, ?_⟩
        rw [ah, e, A3, cj]
      refine ⟨_, rfl, _, .inl ⟨_, SqL.of l1, rfl⟩, ?_⟩
      cases hq : act (u.take i) [] with
      | nil =>
        rw [hq] at l1 step
        refine qh (qh ?_)
        refine ⟨_, rfl, .inl ⟨rfl, _, SqL.of l1⟩, _, rfl, l, _, _, rfl, rfl, l1, (by show 0 < sizeLine;decide), ?_⟩
        rw [hq] at put
        exact put step _ (by rw [e];rfl)
      | cons y r =>
        rw [hq] at l1 step long put
        have long : r.length+1≤u.length := long
        have e1 : cx (y::r).reverse=cx r.reverse++[tx [y]] := by rw [A3, cj]
        have e0 : (!(cx (y::r).reverse).isEmpty)=true := by rw [e1];simp
        rw [e0]
        refine wX ?_
        refine ⟨_, rfl, _, rfl, l, _, _, _, rfl, rfl, SqL.of l1, (by rw [e1];exact oD _ _), _, rfl, toS [x], toS [inv x], t, by rw [e], ht, rfl, _, rfl, ?_⟩
        · show if decide (tx [y]=tx [inv x])=true then _ else _
          rw [ju]
          refine qi (fun h => ?_) (fun h => ?_)
          · have h : y=inv x := by simpa using h
            refine ⟨_, rfl, .inl ⟨rfl, _, SqL.of l1⟩, l, _, tx [y], rfl, rfl, l1, ?_, ?_⟩
            · rw [e1];simp
            · refine ⟨_, rfl, fun b o q => by rw [aG (nl b o q)];exact s1 b o q, ?_⟩
              rw [ah, e1, List.dropLast_concat, step]
              show _=some (HO.lst (cx (if y=inv x then r else x::y::r).reverse))
              rw [if_pos h]
          · have h : ¬ y=inv x := by simpa using h
            refine ⟨_, rfl, .inl ⟨rfl, _, SqL.of l1⟩, _, rfl, l, _, _, rfl, rfl, l1, (by rw [a7, List.length_reverse, zY];omega), ?_⟩
            refine put ?_ _ (by rw [e];rfl)
            rw [step]
            show (if y=inv x then r else x::y::r)=_
            rw [if_neg h]
    · rintro σ H1 ⟨v, rfl, s1, l1⟩
      rw [ba, Bh] at l1
      refine ⟨rfl, _, rfl, _, l, (red u).map fun x => toS [x], rfl, rfl, SqL.of (by rw [l1, ← dW];rfl), c8 _ ?_, ?_⟩
      · have := fc u;omega
      · rw [c7]
        exact k _ s1
end
end Kx
namespace Kx
open PySem PySem.Spec PyProof.Rows L2 Wd
section
variable {P : Program} {w : World} {K : PySem.W.Frag} {mg : Str → Option Value} {base : Heap} {aB : Addr}
abbrev i8 : Stmt := top 31
theorem pN : aC ["_law_word", "_law_found", "_law_sign"] ["_law_word"] (ak i8) := ⟨rfl, rfl, rfl, by decide +kernel, rfl, by decide +kernel, by decide +kernel⟩
def _root_.D3 {a b c d e f g h}:=@cT a b c d e f g h
theorem tf (D : Df K mg "_law_back" i8) : Fnc P w K mg base "_law_back" ["_law_word"] 1 lZ := by
  have sc := pN
  refine D.ok sc (fun _ _ _ _ _ _ us hl => by obtain ⟨_, rfl⟩ := vM hl;rfl) (fun vs H Q E h => ?_) (fun f cdv A outer s H vs Q E hr h => ?_)
  · obtain ⟨u, rfl, _⟩ := h
    rfl
  · obtain ⟨u, rfl, hu, k⟩ := h
    have l16 := a6
    refine ⟨_, (DH (DP (1) sc.nd rfl (Or.inl rfl) aJ (by rfl) (by first | exact .inl rfl | exact .inr rfl | assumption)) (DH (D0 AH rfl (@e9 _ _ _ _ (pv 0)) (DZ (2) sc.nd rfl (Or.inl rfl) (by first | exact .inl rfl | exact .inr rfl | assumption)) (DT (DP (1) sc.nd rfl (Or.inl rfl) (DK aP (D3 (DO kN (pv 2) aJ rfl) (D2 Ae Bn Bo dS (pv 2) (by rfl) (by rfl)) (D2 Ae PySem.F.slot_str_lower PySem.F.type_str_lower oJ (pv 2) (by rfl) (by rfl))) (pv 1)) (by rfl) (by first | exact .inl rfl | exact .inr rfl | assumption))) (by intro _ ;rfl)) (DT (DU (pv 1))))), ?_⟩
    refine ⟨_, rfl, _, rfl, fT (z := toS u) (fun i σ H' => ∃ v, σ = [some (tx u), some (tx (bk (u.take i))), v] ∧ H'=H) ⟨none, (by rw [Dx];show _=[some (tx u), some (tx []), none];rw [jt];rfl), rfl⟩ ?_ ?_⟩
    · rintro i c σ H1 hc ⟨v, rfl, rfl⟩
      obtain ⟨x, hx, e⟩ := b_ hc
      rw [e]
      have hi : i < u.length := (zm.mp hx).1
      have fin : ∀ z, z=toS [inv x] → ∃ v', [some (tx u), some (V.str (z++toS (bk (u.take i)))), some (V.str (toS [x]))]=[some (tx u), some (tx (bk (u.take (i+1)))), v'] ∧ H1=H1 := fun z ez => by
        refine ⟨some (V.str (toS [x])), ?_, rfl⟩
        rw [ez, bU, bM hx, lA]
        rfl
      have room : ∀ z, z=toS [inv x] → z.length+(toS (bk (u.take i))).length≤sizeLine := fun z ez => by
        rw [ez, ae, ae, bq, zy]
        simp only [A_]
        omega
      refine ⟨_, rfl, _, _, rfl, rfl, _, rfl, ?_⟩
      rw [oO]
      refine qi (fun h => ?_) (fun h => ?_)
      · have h : x.val < 6 := by simpa using h
        exact ⟨_, rfl, rfl, _, rfl, rfl, (by rw [ae];show 1≤5592405;decide), _, rfl, _, _, rfl, rfl, room _ (cg h), fin _ (cg h)⟩
      · have h : ¬ x.val < 6 := by simpa using h
        exact ⟨_, rfl, rfl, _, rfl, rfl, (by rw [ae];show 1≤5592405;decide), _, rfl, _, _, rfl, rfl, room _ (g_ h), fin _ (g_ h)⟩
    · rintro σ H1 ⟨v, rfl, rfl⟩
      rw [ba, Bh]
      exact ⟨_, rfl, k _ (aA.refl _)⟩
abbrev nT : Stmt := top 32
theorem tj : aC ["_law_word", "_law_at"] ["_law_word"] (ak nT) := ⟨rfl, rfl, rfl, by decide +kernel, rfl, by decide +kernel, by decide +kernel⟩
def _root_.D4 {a b c d e f g h i j k}:=@ay a b c d e f g h i j k
theorem vR (D : Df K mg "_law_reduced" nT)(T : Bt K w mg aB)(F_lback : Fnc P w K mg base "_law_back" ["_law_word"] 1 lZ) : Fnc P w K mg base "_law_reduced" ["_law_word"] 2 l7 := by
  have sc := tj
  refine D.ok sc (fun _ _ _ _ _ _ us hl => by obtain ⟨_, rfl⟩ := vM hl;rfl) (fun vs H Q E h => ?_) (fun f cdv A outer s H vs Q E hr h => ?_)
  · obtain ⟨u, rfl, _⟩ := h
    rfl
  · obtain ⟨u0, rfl, hu, k⟩ := h
    have l16 := a6
    refine ⟨_, (DH (DP (1) sc.nd rfl (Or.inl rfl) ai (by rfl) (by first | exact .inl rfl | exact .inr rfl | assumption)) (DH (@fx _ _ _ _ _ _ AH (DO gN (DK bw (pv 1) ai) (DR av (by rfl) T.len zX (DS (pv 0) af (by rfl)) (by decide) (by decide) (by rfl) (by rfl)) (aR _)) (DT (DN (DO dj (DQ dF (pv 0) (DK bw (pv 1) ai) (fun _ _ => rfl)) (D4 F_lback hr (by decide) rfl (DS (DQ dF (pv 0) (pv 1) (fun _ _ => rfl)) af (by rfl)) (by decide) (by rfl) (by rfl)) (aR _)) (DH (DP (0) sc.nd rfl (Or.inl rfl) (DK aP (DV br (pv 0) aT (DW (pv 1))) (DV br (pv 0) (DW (DK bw (pv 1) ai)) aT)) (by rfl) (by first | exact .inl rfl | exact .inr rfl | assumption)) (DT (DP (1) sc.nd rfl (Or.inl rfl) (DR (@kO _ rfl) (by rfl) T.max uZ (DS ai (DS (DK eU (pv 1) ai) af (by rfl)) (by rfl)) (by decide) (by decide) (by rfl) (by rfl)) (by rfl) (by first | exact .inl rfl | exact .inr rfl | assumption)))) (DT (DP (1) sc.nd rfl (Or.inl rfl) (DK bw (pv 1) ai) (by rfl) (by first | exact .inl rfl | exact .inr rfl | assumption)))))) (DT (DU (pv 0))))), ?_⟩
    refine ⟨fun m σ H' => ∃ (u : List L) (j : Nat), σ = [some (tx u), some (.int j)] ∧ aA H H' ∧ red u=red u0 ∧ ql (j+1) u ∧ u.length≤5000 ∧ m=2*u.length - j, ⟨_, u0, 0, rfl, aA.refl _, rfl, (fun i x y hi => by omega), hu, rfl⟩, ?_⟩
    rintro m σ H1 ⟨u, j, rfl, s1, hr0, hrd, hlu, rfl⟩
    refine ⟨_, rfl, _, _, rfl, rfl, _, rfl, _, rfl, (by rw [ae];omega), _, _, rfl, rfl, _, rfl, ?_⟩
    rw [ae]
    refine qi (fun h => ?_) (fun h => ?_)
    · have h : j+1 < u.length := by
        have h : (j : Int)+1 < (u.length : Int) := by simpa using h
        omega
      have hx : u[j]? = some u[j] := fu (by omega)
      have hy : u[j+1]? = some u[j+1] := fu h
      generalize u[j]=x at hx
      generalize u[j+1]=y at hy
      refine ⟨_, fun σ' H' q => q, ?_⟩
      refine ⟨_, rfl, _, rfl, _, _, rfl, rfl, _, _, cp y, rfl, rfl, (by rw [ae];omega), cO (k := j+1) (by omega) hy, ?_⟩
      refine ⟨_, rfl, _, rfl, _, _, cp x, rfl, rfl, (by rw [ae];omega), cO (k := j) rfl hx, [x], rfl, (by show 1≤5000;decide), fun H2 s2 => ?_⟩
      refine ⟨rfl, _, rfl, ?_⟩
      show if decide (tx [y]=tx (bk [x]))=true then _ else _
      rw [ju, dH]
      refine qi (fun h2 => ?_) (fun h2 => ?_)
      · have h2 : y=inv x := by simpa using h2
        subst h2
        refine ⟨_, rfl, _, rfl, _, rfl, _, rfl, (by rw [ae];omega), _, rfl, _, rfl, _, _, rfl, rfl, _, rfl, _, rfl, (by rw [ae];omega), _, _, rfl, rfl, ?_, ?_⟩
        · rw [aF, aF, ae, ae]
          have h1 := fg u none (some (j : Int))
          have h2 := fg u (some ((j : Int)+2)) none
          omega
        · refine ⟨_, rfl, _, _, rfl, rfl, _, _, rfl, ?_⟩
          have el : (u.take j++u.drop (j+2)).length=u.length - 2 := by rw [zo, zy, As];omega
          refine ⟨2*(u.take j++u.drop (j+2)).length - (j - 1), by omega, u.take j++u.drop (j+2), j - 1, ?_, s1.trans s2, by rw [rA hx hy];exact hr0, oN hrd, by omega, rfl⟩
          rw [aF, aF, cf u (by omega), c6 u (by omega), bU]
          have e1 : ((j : Int)).toNat=j := by omega
          have e2 : ((j : Int)+2).toNat=j+2 := by omega
          have e3 : (if ((j : Int) - 1) > 0 then ((j : Int) - 1) else 0)=((j - 1 : Nat) : Int) := by split <;> omega
          rw [e1, e2, e3]
          rfl
      · have h2 : ¬ y=inv x := by simpa using h2
        refine ⟨_, rfl, _, _, rfl, rfl, ?_⟩
        exact ⟨2*u.length - j - 1, by omega, u, j+1, rfl, s1.trans s2, hr0, lI hrd (fun a b ha hb => by rw [hx] at ha;rw [hy] at hb;cases ha;cases hb;exact h2), hlu, by omega⟩
    · have h : ¬ j+1 < u.length := by
        have h : ¬ (j : Int)+1 < (u.length : Int) := by simpa using h
        omega
      refine ⟨_, rfl, ?_⟩
      have e : red u0=u := by rw [← hr0, iB (by omega) hrd]
      rw [← e]
      exact k _ s1
end
end Kx
namespace Kx
open PySem PySem.Spec PyProof.Rows L2 Wd
section
variable {P : Program} {w : World} {K : PySem.W.Frag} {mg : Str → Option Value} {base : Heap} {aB : Addr}
abbrev nU : Stmt := top 6
theorem tm : aC ["ways", "walk", "step", "way", "letter"] ["ways", "walk", "step"] (ak nU) := ⟨rfl, rfl, rfl, by decide +kernel, rfl, by decide +kernel, by decide +kernel⟩
theorem vS (D : Df K mg "met" nU)(T : Bt K w mg aB)(F_back : Fnc P w K mg base "back" ["word"] 1 lZ) : Fnc P w K mg base "met" ["ways", "walk", "step"] 2 hZ := by
  have sc := tm
  refine D.ok sc (fun _ _ _ _ _ _ us hl => by obtain ⟨_, _, _, rfl⟩ := qM hl;rfl) (fun vs H Q E h => ?_) (fun f cdv A outer s H vs Q E hr h => ?_)
  · obtain ⟨a, x, n, W, s, wy, kk, rfl, _⟩ := h
    rfl
  · obtain ⟨a, x, n, W, s, wy, kk, rfl, hW, hp, i0, i1, hwy, k⟩ := h
    have l16 := a6
    obtain ⟨_, hat, _, l30, lp, _⟩ := hW.ok.get i0 i1
    have k : ∀ H', aA H H' → Q (tx [sgZ (wyZ W s.1) s.2 wy kk]) H' := k
    generalize wyZ W s.1=v at hat l30 lp k
    refine ⟨_, (DH (DP (3) sc.nd rfl (Or.inl rfl) (DQ a_ (pv 0) (DQ a_ (pv 1) ai (fun _ _ => rfl)) (fun _ _ => rfl)) (by rfl) (by first | exact .inl rfl | exact .inr rfl | assumption)) (DH (DP (4) sc.nd rfl (Or.inl rfl) (DQ dF (pv 3) (DK cY (DK bw (DQ a_ (pv 1) ai (fun _ _ => rfl)) (DK cX (DQ a_ (pv 1) ai (fun _ _ => rfl)) (pv 2))) (DR av (by rfl) T.len zX (DS (pv 3) af (by rfl)) (by decide) (by decide) (by rfl) (by rfl))) (fun _ _ => rfl)) (by rfl) (by first | exact .inl rfl | exact .inr rfl | assumption)) (DT (DU (D3 (DO dj (DQ a_ (pv 1) ai (fun _ _ => rfl)) ai (aR _)) (pv 4) (D4 F_back hr (by decide) rfl (DS (pv 4) af (by rfl)) (by decide) (by rfl) (by rfl))))))), ?_⟩
    refine ⟨_, rfl, _, rfl, x, _, _, _, rfl, rfl, SqT.of hp, rfl, a, _, _, _, rfl, rfl, SqT.of hW.at_, hat, ?_⟩
    have cm : uz wy kk := .inl ⟨by rcases hwy with rfl | rfl <;> decide, by rcases hwy with rfl | rfl <;> decide⟩
    refine ⟨_, rfl, _, rfl, x, _, _, _, rfl, rfl, SqT.of hp, rfl, _, rfl, x, _, _, _, rfl, rfl, SqT.of hp, rfl, _, rfl, _, _, rfl, rfl, cm, _, _, rfl, rfl, _, rfl, _, rfl, (by rw [ae];omega), _, _, rfl, rfl, (by rw [ae];omega), ?_⟩
    rw [ae]
    refine ⟨_, _, _, rfl, rfl, (by rw [ae];omega), y_ (by omega), ?_⟩
    refine ⟨_, rfl, x, _, _, _, rfl, rfl, SqT.of hp, rfl, ?_⟩
    refine ⟨rfl, _, rfl, ?_⟩
    rcases hwy with rfl | rfl
    · refine oh rfl ⟨_, rfl, ?_⟩
      have := k _ (aA.refl _)
      unfold sgZ at this
      rw [if_pos rfl] at this
      exact this
    · refine qq rfl ⟨_, rfl, [atZ v (s.2 + -1*kk)], rfl, (by show 1≤_;decide), fun H' s' => ?_⟩
      have := k _ s'
      unfold sgZ at this
      rw [if_neg (by decide)] at this
      exact this
abbrev xQ : Stmt := top 9
theorem xR : aC ["surface", "start", "end"] ["surface", "start", "end"] (ak xQ) := ⟨rfl, rfl, rfl, by decide +kernel, rfl, by decide +kernel, by decide +kernel⟩
theorem zg (D : Df K mg "round_from" xQ)(T : Bt K w mg aB) : Fnc P w K mg base "round_from" ["surface", "start", "end"] 1 xE := by
  have sc := xR
  refine D.ok sc (fun _ _ _ _ _ _ us hl => by obtain ⟨_, _, _, rfl⟩ := qM hl;rfl) (fun vs H Q E h => ?_) (fun f cdv A outer s H vs Q E hr h => ?_)
  · obtain ⟨u, k, a, b, rfl, _⟩ := h
    rfl
  · obtain ⟨u, k, a, b, rfl, U, ha, hb, q⟩ := h
    have l16 := a6
    have hl := U.len
    have h1 := U.lo
    have h6 := U.hi
    obtain ⟨r1, o1⟩ := mf ha
    obtain ⟨r2, o2⟩ := mf hb
    refine ⟨_, (DT (DU (DK cY (DK eU (DY Ae B3 B4 f9 (pv 0) (DS (pv 2) af (by rfl)) (by rfl) (by rfl) (by rfl) (by rfl) (by rfl)) (DY Ae B3 B4 f9 (pv 0) (DS (pv 1) af (by rfl)) (by rfl) (by rfl) (by rfl) (by rfl) (by rfl))) (DR av (by rfl) T.len zX (DS (pv 0) af (by rfl)) (by decide) (by decide) (by rfl) (by rfl))))), ?_⟩
    refine ⟨_, rfl, rfl, _, rfl, _, _, _, r2, rfl, rfl, o2, _, rfl, rfl, _, rfl, _, _, _, r1, rfl, rfl, o1, _, _, rfl, rfl, _, rfl, _, rfl, (by rw [ae];omega), _, _, rfl, rfl, (by rw [ae];omega), ?_⟩
    rw [ae]
    exact q
abbrev tp : Stmt := top 20
theorem vT : aC ["surface", "start", "end", "other"] ["surface", "start", "end", "other"] (ak tp) := ⟨rfl, rfl, rfl, by decide +kernel, rfl, by decide +kernel, by decide +kernel⟩
theorem xS (D : Df K mg "is_first" tp)(T : Bt K w mg aB)(F_rf : Fnc P w K mg base "round_from" ["surface", "start", "end"] 1 xE) : Fnc P w K mg base "is_first" ["surface", "start", "end", "other"] 2 se := by
  have sc := vT
  refine D.ok sc (fun _ _ _ _ _ _ us hl => by obtain ⟨_, _, _, _, rfl⟩ := uc hl;rfl) (fun vs H Q E h => ?_) (fun f cdv A outer s H vs Q E hr h => ?_)
  · obtain ⟨u, k, s, a, b, rfl, _⟩ := h
    rfl
  · obtain ⟨u, kk, s, a, b, rfl, U, hs, ha, hb, k⟩ := h
    refine ⟨_, (DT (DU (@fy _ _ _ _ _ _ _ _ gN (D4 F_rf hr (by decide) rfl (DS (pv 0) (DS (pv 1) (DS (pv 2) af (by rfl)) (by rfl)) (by rfl)) (by decide) (by rfl) (by rfl)) (D4 F_rf hr (by decide) rfl (DS (pv 0) (DS (pv 1) (DS (pv 3) af (by rfl)) (by rfl)) (by rfl)) (by decide) (by rfl) (by rfl)) (aR _)))), ?_⟩
    exact ⟨_, rfl, _, rfl, _, rfl, u, kk, s, a, rfl, U, hs, ha, _, rfl, _, rfl, _, rfl, u, kk, s, b, rfl, U, hs, hb, _, _, rfl, rfl, k _ (aA.refl _)⟩
abbrev xT : Stmt := top 15
theorem xU : aC ["ways", "strand", "walk"] ["ways", "strand"] (ak xT) := ⟨rfl, rfl, rfl, by decide +kernel, rfl, by decide +kernel, by decide +kernel⟩
def _root_.D5 {a b c d e}:=@bK a b c d e
theorem zh (D : Df K mg "chord_ends" xT)(T : Bt K w mg aB)(F_back : Fnc P w K mg base "back" ["word"] 1 lZ)(F_mets : Fnc P w K mg base "met" ["ways", "walk", "step"] 2 hZ) : Fnc P w K mg base "chord_ends" ["ways", "strand"] 3 xF := by
  have sc := xU
  refine D.ok sc (fun _ _ _ _ _ _ us hl => by obtain ⟨_, _, rfl⟩ := sW hl;rfl) (fun vs H Q E h => ?_) (fun f cdv A outer s H vs Q E hr h => ?_)
  · obtain ⟨a, x, n, W, s, rfl, _⟩ := h
    rfl
  · obtain ⟨a, x, n, W, s, rfl, hW, hx, ok, k⟩ := h
    have l16 := a6
    refine ⟨_, (DH (DP (2) sc.nd rfl (Or.inl rfl) (D5 (DS (DQ a_ (pv 1) ai (fun _ _ => rfl)) (DS (DQ a_ (pv 1) ai (fun _ _ => rfl)) (DS ai af (by rfl)) (by rfl)) (by rfl))) (by rfl) (by first | exact .inl rfl | exact .inr rfl | assumption)) (DT (DU (DK aP (D4 F_back hr (by decide) rfl (DS (D4 F_mets hr (by decide) rfl (DS (pv 0) (DS (pv 2) (DS ai af (by rfl)) (by rfl)) (by rfl)) (by decide) (by rfl) (by rfl)) af (by rfl)) (by decide) (by rfl) (by rfl)) (D4 F_mets hr (by decide) rfl (DS (pv 0) (DS (pv 2) (DS ai af (by rfl)) (by rfl)) (by rfl)) (by decide) (by rfl) (by rfl)))))), ?_⟩
    refine ⟨_, rfl, x, _, _, _, rfl, rfl, SqT.of hx, rfl, _, rfl, x, _, _, _, rfl, rfl, SqT.of hx, rfl, (bT (n := 3) (by decide)), fun p hp => ?_⟩
    have s1 : aA H (upd H p (.tup [.int s.1, .int s.2, .int 1])) := aA.new hp
    have f1 : (upd H p (.tup [.int s.1, .int s.2, .int 1])) p=some (.tup [.int s.1, .int s.2, .int 1]) := ah
    generalize upd H p (.tup [.int s.1, .int s.2, .int 1])=H1 at s1 f1 ⊢
    refine ⟨_, rfl, _, rfl, a, p, n, W, s, 1, 0, rfl, hW.same s1, f1, ok.1, ok.2.1, .inl rfl, fun H2 s2 => ⟨[fZ W s 1 0], rfl, (by show 1≤_;decide), fun H3 s3 => ?_⟩⟩
    have s13 := (s1.trans s2).trans s3
    refine ⟨_, rfl, _, rfl, a, p, n, W, s, 1, 1, rfl, hW.same s13, s3 _ _ (s2 _ _ f1), ok.1, ok.2.1, .inl rfl, fun H4 s4 => ⟨_, _, rfl, rfl, (by rw [ae, ae, bq];show 1+1≤_;omega), ?_⟩⟩
    rw [bU, dH]
    exact k _ (s13.trans s4)
abbrev tq : Stmt := top 18
theorem vU : aC ["ways", "one", "other", "many"] ["ways", "one", "other"] (ak tq) := ⟨rfl, rfl, rfl, by decide +kernel, rfl, by decide +kernel, by decide +kernel⟩
theorem xV (D : Df K mg "stretch" tq)(T : Bt K w mg aB)(F_mets : Fnc P w K mg base "met" ["ways", "walk", "step"] 2 hZ) : Fnc P w K mg base "stretch" ["ways", "one", "other"] 3 jM := by
  have sc := vU
  refine D.ok sc (fun _ _ _ _ _ _ us hl => by obtain ⟨_, _, _, rfl⟩ := qM hl;rfl) (fun vs H Q E h => ?_) (fun f cdv A outer s H vs Q E hr h => ?_)
  · obtain ⟨a, x, y, n, W, s, t, wy, rfl, _⟩ := h
    rfl
  · obtain ⟨a, x, y, n, W, s, t, wy, rfl, hW, hx, hy, os, ot, hwy, k⟩ := h
    have l16 := a6
    obtain ⟨_, _, Rw, lw30, lwp, _⟩ := hW.ok.get os.1 os.2.1
    obtain ⟨_, _, Rv, lv30, lvp, _⟩ := hW.ok.get ot.1 ot.2.1
    refine ⟨_, (DH (DN (DO dj (D4 F_mets hr (by decide) rfl (DS (pv 0) (DS (pv 1) (DS (D1 dD ai) af (by rfl)) (by rfl)) (by rfl)) (by decide) (by rfl) (by rfl)) (D4 F_mets hr (by decide) rfl (DS (pv 0) (DS (pv 2) (DS (D1 dD ai) af (by rfl)) (by rfl)) (by rfl)) (by decide) (by rfl) (by rfl)) (aR _)) (DT (DU ai)) bb) (DH (DP (3) sc.nd rfl (Or.inl rfl) ai (by rfl) (by first | exact .inl rfl | exact .inr rfl | assumption)) (DH (@fx _ _ _ _ _ _ AH (DO dj (D4 F_mets hr (by decide) rfl (DS (pv 0) (DS (pv 1) (DS (pv 3) af (by rfl)) (by rfl)) (by rfl)) (by decide) (by rfl) (by rfl)) (D4 F_mets hr (by decide) rfl (DS (pv 0) (DS (pv 2) (DS (pv 3) af (by rfl)) (by rfl)) (by rfl)) (by decide) (by rfl) (by rfl)) (aR _)) (DT (@uo _ _ (3) _ _ _ _ _ _ sc.nd rfl (Or.inl rfl) ai uq (by first | exact .inl rfl | exact .inr rfl | assumption)))) (DT (DU (pv 3)))))), ?_⟩
    refine ⟨_, rfl, _, rfl, _, rfl, a, x, n, W, s, 1, -1, rfl, hW, hx, os.1, os.2.1, .inl rfl, fun H1 s1 => ?_⟩
    refine ⟨_, rfl, _, rfl, _, rfl, a, y, n, W, t, wy, -1, rfl, hW.same s1, s1 _ _ hy, ot.1, ot.2.1, hwy, fun H2 s2 => ⟨rfl, _, rfl, ?_⟩⟩
    have s12 := s1.trans s2
    rw [ju]
    by_cases e : fZ W s 1 (-1)=fZ W t wy (-1)
    · rw [zH (by rw [e])]
      refine vp ?_
      have := k _ s12
      rw [if_pos e] at this
      exact this
    · rw [zp (fun z => e (Be z).1)]
      refine ku ?_
      rw [if_neg e] at k
      obtain ⟨hend, hne⟩ := qA Rw.ne Rv.ne hwy e
      obtain ⟨_, _, hal, _⟩ := cP (fZ W s 1) (fZ W t wy) ((wyZ W s.1).length+(wyZ W t.1).length) 0
      have hne : fZ W s 1 (nZ W s t wy)≠fZ W t wy (nZ W s t wy) := hne
      have hal : ∀ j : Nat, 0≤j → j < nZ W s t wy → fZ W s 1 j=fZ W t wy j := hal
      refine ⟨fun m σ H' => ∃ i : Nat, σ = [some (.ref a), some (.ref x), some (.ref y), some (.int (i : Int))] ∧ i≤nZ W s t wy ∧ m=nZ W s t wy - i ∧ aA H H', ⟨_, 0, rfl, Ao _, rfl, s12⟩, ?_⟩
      rintro m σ H3 ⟨i, rfl, hi, rfl, s3⟩
      refine ⟨_, rfl, _, rfl, _, rfl, a, x, n, W, s, 1, (i : Int), rfl, hW.same s3, s3 _ _ hx, os.1, os.2.1, .inl rfl, fun H4 s4 => ?_⟩
      refine ⟨_, rfl, _, rfl, _, rfl, a, y, n, W, t, wy, (i : Int), rfl, hW.same (s3.trans s4), (s3.trans s4) _ _ hy, ot.1, ot.2.1, hwy, fun H5 s5 => ⟨rfl, _, rfl, ?_⟩⟩
      have s35 := (s3.trans s4).trans s5
      rw [ju]
      by_cases c : i < nZ W s t wy
      · refine qi (fun _ => ?_) (fun z => ?_)
        · refine ⟨_, fun σ' H' q => q, ?_⟩
          refine ⟨_, rfl, _, _, rfl, rfl, ?_⟩
          exact ⟨_, Nat.sub_lt_sub_left c (BF i), i+1, (by rw [show (((i+1 : Nat) : Int))=(i : Int)+1 by omega];rfl), c, rfl, s35⟩
        · rw [hal i (Ao _) c] at z
          simp at z
      · obtain rfl : i=nZ W s t wy := by omega
        refine qi (fun z => ?_) (fun _ => ?_)
        · exact absurd (by simpa using z) hne
        · exact ⟨_, rfl, k _ s35⟩
end
end Kx
namespace Kx
open PySem PySem.Spec PyProof.Rows L2 Wd
section
variable {P : Program} {w : World} {K : PySem.W.Frag} {mg : Str → Option Value} {base : Heap} {aB : Addr}
abbrev nV : Stmt := top 19
theorem tw : aC ["surface", "ways", "one", "other", "many", "end", "ahead", "begin"] ["surface", "ways", "one", "other", "many"] (ak nV) := ⟨rfl, rfl, rfl, by decide +kernel, rfl, by decide +kernel, by decide +kernel⟩
theorem vV (D : Df K mg "is_parted" nV)(T : Bt K w mg aB)(F_back : Fnc P w K mg base "back" ["word"] 1 lZ)(F_mets : Fnc P w K mg base "met" ["ways", "walk", "step"] 2 hZ)(F_fst : Fnc P w K mg base "is_first" ["surface", "start", "end", "other"] 2 se) : Fnc P w K mg base "is_parted" ["surface", "ways", "one", "other", "many"] 3 jN := by
  have sc := tw
  refine D.ok sc (fun _ _ _ _ _ _ us hl => by obtain ⟨_, _, _, _, _, rfl⟩ := zf hl;rfl) (fun vs H Q E h => ?_) (fun f cdv A outer s H vs Q E hr h => ?_)
  · obtain ⟨u, a, x, y, n, m, W, s, t, wy, rfl, _⟩ := h
    rfl
  · obtain ⟨u, a, x, y, n, m, W, s, t, wy, rfl, U, hW, hx, hy, os, ot, hwy, k⟩ := h
    have one : 1≤100000 := by decide
    refine ⟨_, (DH (DN (DO dj (pv 4) ai (aR _)) (DT (DU jV)) bb) (DH (DP (5) sc.nd rfl (Or.inl rfl) (D4 F_back hr (by decide) rfl (DS (D4 F_mets hr (by decide) rfl (DS (pv 1) (DS (pv 2) (DS (DK eU (pv 4) ai) af (by rfl)) (by rfl)) (by rfl)) (by decide) (by rfl) (by rfl)) af (by rfl)) (by decide) (by rfl) (by rfl)) (by rfl) (by first | exact .inl rfl | exact .inr rfl | assumption)) (DH (DP (6) sc.nd rfl (Or.inl rfl) (D4 F_fst hr (by decide) rfl (DS (pv 0) (DS (pv 5) (DS (D4 F_mets hr (by decide) rfl (DS (pv 1) (DS (pv 2) (DS (pv 4) af (by rfl)) (by rfl)) (by rfl)) (by decide) (by rfl) (by rfl)) (DS (D4 F_mets hr (by decide) rfl (DS (pv 1) (DS (pv 3) (DS (pv 4) af (by rfl)) (by rfl)) (by rfl)) (by decide) (by rfl) (by rfl)) af (by rfl)) (by rfl)) (by rfl)) (by rfl)) (by decide) (by rfl) (by rfl)) (by rfl) (by first | exact .inl rfl | exact .inr rfl | assumption)) (DH (DP (7) sc.nd rfl (Or.inl rfl) (D4 F_mets hr (by decide) rfl (DS (pv 1) (DS (pv 2) (DS ai af (by rfl)) (by rfl)) (by rfl)) (by decide) (by rfl) (by rfl)) (by rfl) (by first | exact .inl rfl | exact .inr rfl | assumption)) (DT (DU (@fy _ _ _ _ _ _ _ _ dj (pv 6) (D4 F_fst hr (by decide) rfl (DS (pv 0) (DS (pv 7) (DS (D4 F_back hr (by decide) rfl (DS (D4 F_mets hr (by decide) rfl (DS (pv 1) (DS (pv 2) (DS (D1 dD ai) af (by rfl)) (by rfl)) (by rfl)) (by decide) (by rfl) (by rfl)) af (by rfl)) (by decide) (by rfl) (by rfl)) (DS (D4 F_back hr (by decide) rfl (DS (D4 F_mets hr (by decide) rfl (DS (pv 1) (DS (pv 3) (DS (D1 dD ai) af (by rfl)) (by rfl)) (by rfl)) (by decide) (by rfl) (by rfl)) af (by rfl)) (by decide) (by rfl) (by rfl)) af (by rfl)) (by rfl)) (by rfl)) (by rfl)) (by decide) (by rfl) (by rfl)) (aR _)))))))), ?_⟩
    refine ⟨_, rfl, rfl, _, rfl, ?_⟩
    by_cases e : m=0
    · subst e
      exact vp (k _ (aA.refl _))
    · have ez : decide (V.int (m : Int)=V.int 0)=false := zp (fun z => e (by injection z with z;omega))
      rw [ez]
      refine ku ?_
      have ws := fun {H'} (q : aA H H') => hW.same q
      refine ⟨_, rfl, _, rfl, _, rfl, _, _, rfl, rfl, a, x, n, W, s, 1, _, rfl, hW, hx, os.1, os.2.1, .inl rfl, fun H1 s1 => ?_⟩
      refine ⟨[fZ W s 1 ((m : Int) - 1)], rfl, (by show 1≤_;decide), fun H2 s2 => ?_⟩
      rw [dH]
      have q2 := s1.trans s2
      refine ⟨_, rfl, _, rfl, _, rfl, _, rfl, _, rfl, a, x, n, W, s, 1, _, rfl, ws q2, q2 _ _ hx, os.1, os.2.1, .inl rfl, fun H3 s3 => ?_⟩
      have q3 := q2.trans s3
      refine ⟨_, rfl, _, rfl, _, rfl, a, y, n, W, t, wy, _, rfl, ws q3, q3 _ _ hy, ot.1, ot.2.1, hwy, fun H4 s4 => ?_⟩
      have q4 := q3.trans s4
      refine ⟨u, n, _, _, _, rfl, U, (eS U hW.ok os 1 _).2, (eS U hW.ok os 1 _).1, (eS U hW.ok ot wy _).1, fun H5 s5 => ?_⟩
      have q5 := q4.trans s5
      refine ⟨_, rfl, _, rfl, a, x, n, W, s, 1, _, rfl, ws q5, q5 _ _ hx, os.1, os.2.1, .inl rfl, fun H6 s6 => ?_⟩
      have q6 := q5.trans s6
      refine ⟨_, rfl, _, rfl, _, rfl, _, rfl, _, rfl, _, rfl, a, x, n, W, s, 1, _, rfl, ws q6, q6 _ _ hx, os.1, os.2.1, .inl rfl, fun H7 s7 => ?_⟩
      refine ⟨[fZ W s 1 (-1)], rfl, (by show 1≤_;decide), fun H8 s8 => ?_⟩
      rw [dH]
      have q8 := (q6.trans s7).trans s8
      refine ⟨_, rfl, _, rfl, _, rfl, a, y, n, W, t, wy, _, rfl, ws q8, q8 _ _ hy, ot.1, ot.2.1, hwy, fun H9 s9 => ?_⟩
      refine ⟨[fZ W t wy (-1)], rfl, (by show 1≤_;decide), fun H10 s10 => ?_⟩
      rw [dH]
      have q10 := (q8.trans s9).trans s10
      refine ⟨u, n, _, _, _, rfl, U, (eS U hW.ok os 1 _).1, (eS U hW.ok os 1 _).2, (eS U hW.ok ot wy _).2, fun H11 s11 => ?_⟩
      have := k _ (q10.trans s11)
      unfold h_ at this
      rw [zH (show 0 < m by omega), AJ] at this
      refine ⟨rfl, ?_⟩
      refine cast (zR (fun b => Q (.bl b) H11) ?_) this
      exact xG _ _
abbrev tB : Stmt := top 16
theorem vW : aC ["surface", "ways", "one", "other", "mine", "theirs", "many"] ["surface", "ways", "one", "other"] (ak tB) := ⟨rfl, rfl, rfl, by decide +kernel, rfl, by decide +kernel, by decide +kernel⟩
def _root_.D6 {a b c d e}:=@oi a b c d e
theorem xW (D : Df K mg "along_at" tB)(T : Bt K w mg aB)(F_str : Fnc P w K mg base "stretch" ["ways", "one", "other"] 3 jM)(F_part : Fnc P w K mg base "is_parted" ["surface", "ways", "one", "other", "many"] 3 jN) : Fnc P w K mg base "along_at" ["surface", "ways", "one", "other"] 4 (pJ sf) := by
  have sc := vW
  refine D.ok sc (fun _ _ _ _ _ _ us hl => by obtain ⟨_, _, _, _, rfl⟩ := uc hl;rfl) (fun vs H Q E h => ?_) (fun f cdv A outer s H vs Q E hr h => ?_)
  · obtain ⟨u, a, x, y, n, W, s, t, rfl, _⟩ := h
    rfl
  · obtain ⟨u, a, x, y, n, W, s, t, rfl, U, hW, hx, hy, os, ot, k⟩ := h
    refine ⟨_, (DH (DP (4) sc.nd rfl (Or.inl rfl) (D5 (DS (DQ a_ (pv 2) ai (fun _ _ => rfl)) (DS (DQ a_ (pv 2) ai (fun _ _ => rfl)) (DS ai af (by rfl)) (by rfl)) (by rfl))) (by rfl) (by first | exact .inl rfl | exact .inr rfl | assumption)) (DH (DP (5) sc.nd rfl (Or.inl rfl) (D5 (DS (DQ a_ (pv 3) ai (fun _ _ => rfl)) (DS (DQ a_ (pv 3) ai (fun _ _ => rfl)) (DS ai af (by rfl)) (by rfl)) (by rfl))) (by rfl) (by first | exact .inl rfl | exact .inr rfl | assumption)) (DH (DP (6) sc.nd rfl (Or.inl rfl) (D4 F_str hr (by decide) rfl (DS (pv 1) (DS (pv 4) (DS (pv 5) af (by rfl)) (by rfl)) (by rfl)) (by decide) (by rfl) (by rfl)) (by rfl) (by first | exact .inl rfl | exact .inr rfl | assumption)) (DT (DU (D3 (@dO _ _ _ (D4 F_part hr (by decide) rfl (D6 (pv 0) (D6 (pv 1) (D6 (pv 4) (D6 (pv 5) (D6 (pv 6) af (by rfl)) (by rfl)) (by rfl)) (by rfl)) (by rfl)) (by decide) (by rfl) (by rfl)) (fun _ => rfl)) (DX (DS (D5 (DS aJ (DS (pv 2) (DS (pv 3) (DS (pv 6) af (by rfl)) (by rfl)) (by rfl)) (by rfl))) af (by rfl))) (DX af))))))), ?_⟩
    refine ⟨_, rfl, x, _, _, _, rfl, rfl, SqT.of hx, rfl, _, rfl, x, _, _, _, rfl, rfl, SqT.of hx, rfl, (by show 3≤_;decide), fun p hp => ?_⟩
    have s1 : aA H (upd H p (.tup [.int s.1, .int s.2, .int 1])) := aA.new hp
    have f1 : (upd H p (.tup [.int s.1, .int s.2, .int 1])) p=some (.tup [.int s.1, .int s.2, .int 1]) := ah
    generalize upd H p (.tup [.int s.1, .int s.2, .int 1])=H1 at s1 f1 ⊢
    refine ⟨_, rfl, y, _, _, _, rfl, rfl, SqT.of (s1 _ _ hy), rfl, _, rfl, y, _, _, _, rfl, rfl, SqT.of (s1 _ _ hy), rfl, (by show 3≤_;decide), fun q hq => ?_⟩
    have s2 : aA H1 (upd H1 q (.tup [.int t.1, .int t.2, .int 1])) := aA.new hq
    have f2 : (upd H1 q (.tup [.int t.1, .int t.2, .int 1])) q=some (.tup [.int t.1, .int t.2, .int 1]) := ah
    generalize upd H1 q (.tup [.int t.1, .int t.2, .int 1])=H2 at s2 f2 ⊢
    have q2 := s1.trans s2
    refine ⟨_, rfl, _, rfl, _, rfl, a, p, q, n, W, s, t, 1, rfl, hW.same q2, s2 _ _ f1, f2, os, ot, .inl rfl, fun H3 s3 => ?_⟩
    have q3 := q2.trans s3
    refine ⟨_, rfl, _, rfl, _, rfl, _, rfl, _, rfl, u, a, p, q, n, _, W, s, t, 1, rfl, U, hW.same q3, s3 _ _ (s2 _ _ f1), s3 _ _ f2, os, ot, .inl rfl, fun H4 s4 => ⟨_, rfl, ?_⟩⟩
    rw [jO hW.ok os ot (.inl rfl)]
    have q4 := q3.trans s4
    by_cases c : ptB u (fZ W s 1) (fZ W t 1) (nZ W s t 1)=true
    · have hb : ¬ fZ W s 1 (-1)=fZ W t 1 (-1) := fun z => by rw [dZ z] at c;cases c
      rw [c, if_neg hb]
      refine xC ⟨_, rfl, _, rfl, _, rfl, (by show 4≤_;decide), fun r hr' => ⟨(by show 1≤_;decide), fun l hl => ?_⟩⟩
      refine iV (m := .a s t (nZ W s t 1)) q4 hr' hl ⟨x, y, ah, (q4.trans (aA.new hr')) _ _ hx, (q4.trans (aA.new hr')) _ _ hy⟩ k ?_
      unfold sf
      rw [c]
      rfl
    · rw [BI] at c
      rw [c]
      refine xD ⟨(by show 0≤_;decide), fun l hl => ?_⟩
      refine ia q4 hl k ?_
      unfold sf
      rw [c]
      rfl
abbrev tD : Stmt := top 17
theorem vX : aC ["surface", "ways", "one", "other", "mine", "theirs", "many"] ["surface", "ways", "one", "other"] (ak tD) := ⟨rfl, rfl, rfl, by decide +kernel, rfl, by decide +kernel, by decide +kernel⟩
theorem xX (D : Df K mg "against_at" tD)(T : Bt K w mg aB)(F_str : Fnc P w K mg base "stretch" ["ways", "one", "other"] 3 jM)(F_part : Fnc P w K mg base "is_parted" ["surface", "ways", "one", "other", "many"] 3 jN) : Fnc P w K mg base "against_at" ["surface", "ways", "one", "other"] 4 (pJ ki) := by
  have sc := vX
  refine D.ok sc (fun _ _ _ _ _ _ us hl => by obtain ⟨_, _, _, _, rfl⟩ := uc hl;rfl) (fun vs H Q E h => ?_) (fun f cdv A outer s H vs Q E hr h => ?_)
  · obtain ⟨u, a, x, y, n, W, s, t, rfl, _⟩ := h
    rfl
  · obtain ⟨u, a, x, y, n, W, s, t, rfl, U, hW, hx, hy, os, ot, k⟩ := h
    have l16 := a6
    obtain ⟨_, hat, _, l30, lp, _⟩ := hW.ok.get ot.1 ot.2.1
    refine ⟨_, (DH (DP (4) sc.nd rfl (Or.inl rfl) (D5 (DS (DQ a_ (pv 2) ai (fun _ _ => rfl)) (DS (DQ a_ (pv 2) ai (fun _ _ => rfl)) (DS ai af (by rfl)) (by rfl)) (by rfl))) (by rfl) (by first | exact .inl rfl | exact .inr rfl | assumption)) (DH (DP (5) sc.nd rfl (Or.inl rfl) (D5 (DS (DQ a_ (pv 3) ai (fun _ _ => rfl)) (DS (DQ a_ (pv 3) ai (fun _ _ => rfl)) (DS (D1 dD ai) af (by rfl)) (by rfl)) (by rfl))) (by rfl) (by first | exact .inl rfl | exact .inr rfl | assumption)) (DH (DP (6) sc.nd rfl (Or.inl rfl) (D4 F_str hr (by decide) rfl (DS (pv 1) (DS (pv 4) (DS (pv 5) af (by rfl)) (by rfl)) (by rfl)) (by decide) (by rfl) (by rfl)) (by rfl) (by first | exact .inl rfl | exact .inr rfl | assumption)) (DH (DN (DO (@vo _ (K) rfl (by exact hr.units)) (pv 2) (D5 (DS (DQ a_ (pv 3) ai (fun _ _ => rfl)) (DS (DK cY (DK bw (DK eU (DQ a_ (pv 3) ai (fun _ _ => rfl)) (pv 6)) ai) (DR av (by rfl) T.len zX (DS (DQ a_ (pv 1) (DQ a_ (pv 3) ai (fun _ _ => rfl)) (fun _ _ => rfl)) af (by rfl)) (by decide) (by decide) (by rfl) (by rfl))) af (by rfl)) (by rfl))) (aR _)) (DT (DU (DX af))) bb) (DT (DU (D3 (@dO _ _ _ (D4 F_part hr (by decide) rfl (D6 (pv 0) (D6 (pv 1) (D6 (pv 4) (D6 (pv 5) (D6 (pv 6) af (by rfl)) (by rfl)) (by rfl)) (by rfl)) (by rfl)) (by decide) (by rfl) (by rfl)) (fun _ => rfl)) (DX (DS (D5 (DS aJ (DS (pv 2) (DS (pv 3) (DS (pv 6) af (by rfl)) (by rfl)) (by rfl)) (by rfl))) af (by rfl))) (DX af)))))))), ?_⟩
    refine ⟨_, rfl, x, _, _, _, rfl, rfl, SqT.of hx, rfl, _, rfl, x, _, _, _, rfl, rfl, SqT.of hx, rfl, (by show 3≤_;decide), fun p hp => ?_⟩
    have s1 : aA H (upd H p (.tup [.int s.1, .int s.2, .int 1])) := aA.new hp
    have f1 : (upd H p (.tup [.int s.1, .int s.2, .int 1])) p=some (.tup [.int s.1, .int s.2, .int 1]) := ah
    generalize upd H p (.tup [.int s.1, .int s.2, .int 1])=H1 at s1 f1 ⊢
    refine ⟨_, rfl, y, _, _, _, rfl, rfl, SqT.of (s1 _ _ hy), rfl, _, rfl, y, _, _, _, rfl, rfl, SqT.of (s1 _ _ hy), rfl, _, rfl, (by show 3≤_;decide), fun q hq => ?_⟩
    have s2 : aA H1 (upd H1 q (.tup [.int t.1, .int t.2, .int (-1)])) := aA.new hq
    have f2 : (upd H1 q (.tup [.int t.1, .int t.2, .int (-1)])) q=some (.tup [.int t.1, .int t.2, .int (-1)]) := ah
    generalize upd H1 q (.tup [.int t.1, .int t.2, .int (-1)])=H2 at s2 f2 ⊢
    have q2 := s1.trans s2
    refine ⟨_, rfl, _, rfl, _, rfl, a, p, q, n, W, s, t, -1, rfl, hW.same q2, s2 _ _ f1, f2, os, ot, .inr rfl, fun H3 s3 => ?_⟩
    have q3 := q2.trans s3
    have hy3 := q3 _ _ hy
    generalize hm : (if fZ W s 1 (-1)=fZ W t (-1) (-1) then 0 else nZ W s t (-1))=m
    refine ⟨_, rfl, _, rfl, y, _, _, _, rfl, rfl, SqT.of hy3, rfl, _, rfl, y, _, _, _, rfl, rfl, SqT.of hy3, rfl, _, rfl, _, _, rfl, rfl, _, _, rfl, rfl, _, rfl, _, rfl, y, _, _, _, rfl, rfl, SqT.of hy3, rfl, ?_⟩
    refine ⟨a, _, _, _, rfl, rfl, SqT.of (q3 _ _ hW.at_), hat, _, rfl, (by rw [ae];omega), _, _, rfl, rfl, (by rw [ae];omega), (by show 2≤_;decide), fun r hr' => ?_⟩
    rw [ae]
    have s4 : aA H3 (upd H3 r (.tup [.int t.1, .int ((t.2 - (m : Int)+1) % ((wyZ W t.1).length : Int))])) := aA.new hr'
    have f4 : (upd H3 r (.tup [.int t.1, .int ((t.2 - (m : Int)+1) % ((wyZ W t.1).length : Int))])) r=some (.tup [.int t.1, .int ((t.2 - (m : Int)+1) % ((wyZ W t.1).length : Int))]) := ah
    generalize upd H3 r (.tup [.int t.1, .int ((t.2 - (m : Int)+1) % ((wyZ W t.1).length : Int))])=H4 at s4 f4 ⊢
    have q4 := q3.trans s4
    refine ⟨x, r, [s.1, s.2], [t.1, (t.2 - (m : Int)+1) % ((wyZ W t.1).length : Int)], rfl, rfl, SqT.of (q4 _ _ hx), SqT.of f4, _, rfl, ?_⟩
    have he : ki u W s t=if ltP (jJ W s t m) s then [] else if h_ u (fZ W s 1) (fZ W t (-1)) m then [Lk.g s t m] else [] := by
      rw [← hm]
      by_cases e : fZ W s 1 (-1)=fZ W t (-1) (-1)
      · rw [if_pos e, qB]
        unfold ki
        rw [dZ e, CJ, if_neg (by decide)]
        split <;> rfl
      · rw [← pI hW.ok os ot e, jO hW.ok os ot (.inr rfl), if_neg e]
    show cK _ _ _ _ (ltP (jJ W s t m) s) _
    by_cases c : ltP (jJ W s t m) s=true
    · rw [c]
      rw [c] at he
      exact vp ⟨(by show 0≤_;decide), fun l hl => ia q4 hl k he⟩
    · rw [BI] at c
      rw [c]
      rw [c] at he
      refine ku ?_
      refine ⟨_, rfl, _, rfl, _, rfl, _, rfl, _, rfl, u, a, p, q, n, _, W, s, t, -1, rfl, U, hW.same q4, s4 _ _ (s3 _ _ (s2 _ _ f1)), s4 _ _ (s3 _ _ f2), os, ot, .inr rfl, fun H5 s5 => ⟨_, rfl, ?_⟩⟩
      have q5 := q4.trans s5
      by_cases c2 : h_ u (fZ W s 1) (fZ W t (-1)) m=true
      · rw [c2]
        rw [c2] at he
        refine xC ⟨_, rfl, _, rfl, _, rfl, (by show 4≤_;decide), fun r hr' => ⟨(by show 1≤_;decide), fun l hl => ?_⟩⟩
        exact iV (m := .g s t m) q5 hr' hl ⟨x, y, ah, (q5.trans (aA.new hr')) _ _ hx, (q5.trans (aA.new hr')) _ _ hy⟩ k he
      · rw [BI] at c2
        rw [c2]
        rw [c2] at he
        exact xD ⟨(by show 0≤_;decide), fun l hl => ia q5 hl k he⟩
end
end Kx
namespace Kx
open PySem PySem.Spec PyProof.Rows L2 Wd
section
variable {P : Program} {w : World} {K : PySem.W.Frag} {mg : Str → Option Value} {base : Heap} {aB : Addr}
theorem qN {u : List L}{a b c : L}(ha : a∈u)(hb : b∈u)(hc : c∈u)(ab : a≠b)(ac : a≠c)(bc : b≠c) : decide (rfI u a c < rfI u a b)=(decide (min (u.idxOf a) (u.idxOf b) < u.idxOf c ∧ u.idxOf c < max (u.idxOf a) (u.idxOf b)) != decide (u.idxOf b < u.idxOf a)) := by
  have inj : ∀ {x y : L}, x∈u → y∈u → x≠y → u.idxOf x≠u.idxOf y := fun hx hy n e => n (by
    have h1 := BS (aQ hx)
    have h2 := BS (aQ hy)
    rw [← h1, ← h2]
    simp only [e])
  have n1 := inj ha hb ab
  have n2 := inj ha hc ac
  have n3 := inj hb hc bc
  have l1 := aQ ha
  have l2 := aQ hb
  have l3 := aQ hc
  rw [a8 ha hc, a8 ha hb]
  by_cases o : u.idxOf b < u.idxOf a
  · rw [zH o, if_neg (show ¬ u.idxOf a≤u.idxOf b by omega), Ad, zE]
    rw [show ∀ x : Bool, (x != true)=!x by decide, Bool.not_eq_true', C9]
    split <;> omega
  · rw [zp o, if_pos (show u.idxOf a≤u.idxOf b by omega), CN, Ad, zE, zE]
    split <;> omega
theorem pO {u : List L}{a b c d : L}(ha : a∈u)(hb : b∈u)(hc : c∈u)(hd : d∈u)(h : [a, b, c, d].Nodup) : bP u a b c d=(decide (min (u.idxOf a) (u.idxOf b) < u.idxOf c ∧ u.idxOf c < max (u.idxOf a) (u.idxOf b)) != decide (min (u.idxOf a) (u.idxOf b) < u.idxOf d ∧ u.idxOf d < max (u.idxOf a) (u.idxOf b))) := by
  unfold bP
  rw [zH h, AJ]
  simp only [z7, zN, zZ, A6, CZ, A0, and_true, not_or] at h
  obtain ⟨⟨e1, e2, e3⟩, ⟨e4, e5⟩, e6⟩ := h
  rw [qN ha hb hc e1 e2 e4, qN ha hb hd e1 e3 e5]
  generalize decide (u.idxOf b < u.idxOf a)=z
  exact (show ∀ x y z : Bool, ((x != z) != (y != z))=(x != y) by decide) _ _ _
inductive tF (vs : List V)(H : Hp)(Q : VK)(u3_ : XK) : Prop
  | mk : ∀ (p q : Addr) (a b c d : Nat), (vs=[.ref p, .ref q]) → H p=some (.lst [.int a, .int b]) → H q=some (.lst [.int c, .int d]) → Q (.bl (decide (min a b < c ∧ c < max a b) != decide (min a b < d ∧ d < max a b))) H → tF vs H Q u3_
abbrev tG : Stmt := top 10
theorem vY : aC ["one", "other", "low", "high"] ["one", "other"] (ak tG) := ⟨rfl, rfl, rfl, by decide +kernel, rfl, by decide +kernel, by decide +kernel⟩
theorem xY (D : Df K mg "are_met_by_turns" tG)(T : Bt K w mg aB) : Fnc P w K mg base "are_met_by_turns" ["one", "other"] 1 tF := by
  have sc := vY
  refine D.ok sc (fun _ _ _ _ _ _ us hl => by obtain ⟨_, _, rfl⟩ := sW hl;rfl) (fun vs H Q E h => ?_) (fun f cdv A outer s H vs Q E hr h => ?_)
  · obtain ⟨p, q, a, b, c, d, rfl, _⟩ := h
    rfl
  · obtain ⟨p, q, a, b, c, d, rfl, hp, hq, k⟩ := h
    have l16 := a6
    refine ⟨_, (DH (DP (2) sc.nd rfl (Or.inl rfl) (DR (@iO _ rfl) (by rfl) T.min xj (DS (pv 0) af (by rfl)) (by decide) (by decide) (by rfl) (by rfl)) (by rfl) (by first | exact .inl rfl | exact .inr rfl | assumption)) (DH (DP (3) sc.nd rfl (Or.inl rfl) (DR (@iP _ rfl) (by rfl) T.max uZ (DS (pv 0) af (by rfl)) (by decide) (by decide) (by rfl) (by rfl)) (by rfl) (by first | exact .inl rfl | exact .inr rfl | assumption)) (DT (DU (@fy _ _ _ _ _ _ _ _ uB (@je _ _ _ _ _ _ _ _ _ _ _ _ gN gN (pv 2) (DQ bI (pv 1) ai (fun _ _ => rfl)) (pv 3) (by with_unfolding_all rfl)) (@je _ _ _ _ _ _ _ _ _ _ _ _ gN gN (pv 2) (DQ bI (pv 1) ai (fun _ _ => rfl)) (pv 3) (by with_unfolding_all rfl)) (aR _)))))), ?_⟩
    refine ⟨_, rfl, p, _, _, rfl, SqL.of hp, ?_⟩
    refine ⟨_, rfl, p, _, _, rfl, SqL.of hp, ?_⟩
    have e1 : (if (b : Int) < (a : Int) then (b : Int) else (a : Int))=((min a b : Nat) : Int) := by split <;> omega
    have e2 : (if (b : Int) > (a : Int) then (b : Int) else (a : Int))=((max a b : Nat) : Int) := by split <;> omega
    rw [e1, e2]
    have fin : ∀ v1 v2 : Bool, v1=decide (min a b < c ∧ c < max a b) → v2=decide (min a b < d ∧ d < max a b) → Q (.bl (!decide (V.bl v1=V.bl v2))) H := fun v1 v2 e1 e2 => by
      subst e1 e2
      have e : ∀ x y : Bool, (!decide (V.bl x=V.bl y))=(x != y) := by intro x y;cases x <;> cases y <;> rfl
      rw [e]
      exact k
    refine ⟨_, rfl, _, rfl, q, _, _, _, rfl, rfl, SqL.of hq, rfl, _, _, rfl, rfl, _, rfl, ?_⟩
    by_cases h1 : min a b < c
    · refine oh (zH (by omega)) ⟨_, rfl, _, _, rfl, rfl, ?_⟩
      refine ⟨_, rfl, _, rfl, q, _, _, _, rfl, rfl, SqL.of hq, rfl, _, _, rfl, rfl, _, rfl, ?_⟩
      by_cases h2 : min a b < d
      · exact oh (zH (by omega)) ⟨_, rfl, _, _, rfl, rfl, rfl, fin _ _ (by rw [Ad, zE, zE];omega) (by rw [Ad, zE, zE];omega)⟩
      · exact qq (zp (by omega)) ⟨rfl, fin _ _ (by rw [Ad, zE, zE];omega) (zp (by omega)).symm⟩
    · refine qq (zp (by omega)) ?_
      refine ⟨_, rfl, _, rfl, q, _, _, _, rfl, rfl, SqL.of hq, rfl, _, _, rfl, rfl, _, rfl, ?_⟩
      by_cases h2 : min a b < d
      · exact oh (zH (by omega)) ⟨_, rfl, _, _, rfl, rfl, rfl, fin _ _ (zp (by omega)).symm (by rw [Ad, zE, zE];omega)⟩
      · exact qq (zp (by omega)) ⟨rfl, fin _ _ (zp (by omega)).symm (zp (by omega)).symm⟩
abbrev tH : Stmt := top 14
theorem vZ : aC ["surface", "ways", "one", "other", "mine", "theirs", "places"] ["surface", "ways", "one", "other"] (ak tH) := ⟨rfl, rfl, rfl, by decide +kernel, rfl, by decide +kernel, by decide +kernel⟩
theorem xZ (D : Df K mg "beside_at" tH)(T : Bt K w mg aB)(Tset : mg "set" = none)(F_ce : Fnc P w K mg base "chord_ends" ["ways", "strand"] 3 xF)(F_met : Fnc P w K mg base "are_met_by_turns" ["one", "other"] 1 tF) : Fnc P w K mg base "beside_at" ["surface", "ways", "one", "other"] 4 (pJ vr) := by
  have sc := vZ
  refine D.ok sc (fun _ _ _ _ _ _ us hl => by obtain ⟨_, _, _, _, rfl⟩ := uc hl;rfl) (fun vs H Q E h => ?_) (fun f cdv A outer s H vs Q E hr h => ?_)
  · obtain ⟨u, a, x, y, n, W, s, t, rfl, _⟩ := h
    rfl
  · obtain ⟨u, a, x, y, n, W, s, t, rfl, U, hW, hx, hy, os, ot, k⟩ := h
    have l16 := a6
    have m1 := (eS U hW.ok os 1 0).2
    have m2 := (eS U hW.ok os 1 1).1
    have m3 := (eS U hW.ok ot 1 0).2
    have m4 := (eS U hW.ok ot 1 1).1
    have k : ∀ (l : Addr) (zs : List (Addr × Lk)) (H' : Hp), H l=none → aA H H' → H' l=some (.lst ((zs.map (·.1)).map V.ref)) → LkA H' zs → zs.map (·.2)=(if bP u (inv (fZ W s 1 0)) (fZ W s 1 1) (inv (fZ W t 1 0)) (fZ W t 1 1) then [.b s t] else []) → Q (.ref l) H' := k
    refine ⟨_, (DH (DP (4) sc.nd rfl (Or.inl rfl) (D4 F_ce hr (by decide) rfl (DS (pv 1) (DS (pv 2) af (by rfl)) (by rfl)) (by decide) (by rfl) (by rfl)) (by rfl) (by first | exact .inl rfl | exact .inr rfl | assumption)) (DH (DP (5) sc.nd rfl (Or.inl rfl) (D4 F_ce hr (by decide) rfl (DS (pv 1) (DS (pv 3) af (by rfl)) (by rfl)) (by decide) (by rfl) (by rfl)) (by rfl) (by first | exact .inl rfl | exact .inr rfl | assumption)) (DH (DN (DO gN (DR iN (by rfl) T.len zX (DS (@c0 _ _ _ _ _ _ _ _ _ (@gu _ rfl) (by rfl) Tset xB (DS (DK aP (pv 4) (pv 5)) af (by rfl)) (by decide) (by decide) (by rfl) (by rfl)) af (by rfl)) (by decide) (by decide) (by rfl) (by rfl)) ai (aR _)) (DT (DU (DX af))) bb) (DH (@ma _ (6) _ _ _ _ _ _ _ _ _ (["end", "surface"]) (["end"]) ([0]) _ _ _ _ sc.nd rfl (Or.inl rfl) (@e8 _ _ _ _ _ _ rfl (by kernel_rfl)) rfl (@e9 _ _ _ _ (DK aP (pv 4) (pv 5))) (fun _ _ _ _ => DZ (0) (show (["end", "surface"] : List Str).Nodup from by decide +kernel) rfl (Or.inl rfl) (by first | exact .inl rfl | exact .inr rfl | assumption)) (fun _ _ _ _ => dR) (fun _ _ _ _ => by (exact (@u3 _ _ _ _ _ _ _ _ _ _ _ _ (K) rfl Ae B3 B4 f9 (pv 1) (DS (pv 0) af (by rfl)) (by rfl) (by rfl) (by rfl) (by rfl) (by rfl)))) (by intro _ ;rfl) (by rfl) (by first | exact .inl rfl | exact .inr rfl | assumption)) (DT (DU (D3 (@dO _ _ _ (D4 F_met hr (by decide) rfl (DS (DV ix (pv 6) aT (DW ai)) (DS (DV ix (pv 6) (DW ai) aT) af (by rfl)) (by rfl)) (by decide) (by rfl) (by rfl)) (fun _ => rfl)) (DX (DS (D5 (DS aJ (DS (pv 2) (DS (pv 3) af (by rfl)) (by rfl)) (by rfl))) af (by rfl))) (DX af)))))))), ?_⟩
    refine ⟨_, rfl, _, rfl, a, x, n, W, s, rfl, hW, hx, os, fun H1 s1 => ?_⟩
    refine ⟨_, rfl, _, rfl, a, y, n, W, t, rfl, hW.same s1, s1 _ _ hy, ot, fun H2 s2 => ?_⟩
    have q2 := s1.trans s2
    generalize inv (fZ W s 1 0)=e1 at m1 k ⊢
    generalize fZ W s 1 1=e2 at m2 k ⊢
    generalize inv (fZ W t 1 0)=e3 at m3 k ⊢
    generalize fZ W t 1 1=e4 at m4 k ⊢
    refine ⟨_, rfl, _, rfl, _, _, rfl, rfl, (by rw [ae, ae];show 2+2≤_;omega), ?_⟩
    rw [bU]
    refine ⟨[e1, e2, e3, e4], rfl, (by show 4≤4000;decide), fun p dl hp nd hm => ?_⟩
    refine ⟨p, dl, rfl, ah, _, _, rfl, rfl, _, rfl, ?_⟩
    rw [zc nd hm]
    generalize hG : upd H2 p (StO _ _ p dl)=H3
    have q3 : aA H H3 := hG ▸ q2.trans (aA.new hp)
    by_cases c : [e1, e2, e3, e4].Nodup
    · rw [zH c]
      refine ku ?_
      have hall : ∀ x∈[e1, e2, e3, e4], x∈u := fun x hx => by
        simp only [zN, zZ, A6] at hx
        rcases hx with rfl | rfl | rfl | rfl <;> assumption
      have k4 := pO m1 m2 m3 m4 c
      refine ⟨_, rfl, _, rfl, _, _, rfl, rfl, (by rw [ae, ae];show 2+2≤_;omega), ?_⟩
      rw [bU]
      refine ⟨_, rfl, ?_⟩
      refine dm (own := ["end"]) (cap := [0]) (J := Its (toS [e1, e2, e3, e4])) 4 (fun i ys σ H' => ∃ v : Option V, σ = [v, some (tx u)] ∧ ys=(([e1, e2, e3, e4].take i).map fun x => V.int (u.idxOf x : Nat)) ∧ H'=H3) ⟨none, rfl, rfl, rfl⟩ (fun i ys σ H' hi ⟨v, _, e, _⟩ => ?_) (by omega) (fun i ys σ H' hi _ => ?_) (fun ys σ H' _ => ?_) ?_ ?_
      · rw [e, zu, zy];omega
      · show i < (toS _).cps.size;rw [ba];exact hi
      · show _=(toS _).cps.size;rw [ba];rfl
      · rintro i ys σ H4 y H5 N hi ⟨v, rfl, rfl, rfl⟩ ⟨rfl, cc, hcc, rfl⟩ hN
        obtain ⟨z, hz, ez⟩ := b_ hcc
        rw [ez]
        obtain ⟨r1, o1⟩ := mf (hall z (An hz))
        refine ⟨_, rfl, rfl, _, rfl, _, _, _, r1, rfl, rfl, o1, hN _ _ _ ⟨_, rfl, ?_, rfl⟩⟩
        rw [bM hz, AR]
        rfl
      · rintro ys σ H4 l ⟨v, rfl, rfl, rfl⟩ hl
        show fw _ _ _ _ (upd H4 l (.lst [.int (u.idxOf e1 : Nat), .int (u.idxOf e2 : Nat), .int (u.idxOf e3 : Nat), .int (u.idxOf e4 : Nat)]))
        have s4 : aA H4 (upd H4 l (.lst [.int (u.idxOf e1 : Nat), .int (u.idxOf e2 : Nat), .int (u.idxOf e3 : Nat), .int (u.idxOf e4 : Nat)])) := aA.new hl
        have f4 : (upd H4 l (.lst [.int (u.idxOf e1 : Nat), .int (u.idxOf e2 : Nat), .int (u.idxOf e3 : Nat), .int (u.idxOf e4 : Nat)])) l=some (.lst [.int (u.idxOf e1 : Nat), .int (u.idxOf e2 : Nat), .int (u.idxOf e3 : Nat), .int (u.idxOf e4 : Nat)]) := ah
        generalize upd H4 l (.lst [.int (u.idxOf e1 : Nat), .int (u.idxOf e2 : Nat), .int (u.idxOf e3 : Nat), .int (u.idxOf e4 : Nat)])=H5 at s4 f4 ⊢
        refine ⟨_, rfl, _, rfl, l, _, rfl, SqL.of f4, fun p1 hp1 => ?_⟩
        have s5 := aA.new (o := .lst (ko [.int (u.idxOf e1 : Nat), .int (u.idxOf e2 : Nat), .int (u.idxOf e3 : Nat), .int (u.idxOf e4 : Nat)] none (some 2))) hp1
        have f5 : (upd H5 p1 (.lst (ko [.int (u.idxOf e1 : Nat), .int (u.idxOf e2 : Nat), .int (u.idxOf e3 : Nat), .int (u.idxOf e4 : Nat)] none (some 2)))) p1=some (.lst [.int (u.idxOf e1 : Nat), .int (u.idxOf e2 : Nat)]) := ah
        generalize upd H5 p1 (.lst (ko [.int (u.idxOf e1 : Nat), .int (u.idxOf e2 : Nat), .int (u.idxOf e3 : Nat), .int (u.idxOf e4 : Nat)] none (some 2)))=H6 at s5 f5 ⊢
        refine ⟨_, rfl, _, rfl, l, _, rfl, SqL.of (s5 _ _ f4), fun p2 hp2 => ?_⟩
        have s6 := aA.new (o := .lst (ko [.int (u.idxOf e1 : Nat), .int (u.idxOf e2 : Nat), .int (u.idxOf e3 : Nat), .int (u.idxOf e4 : Nat)] (some 2) none)) hp2
        have f6 : (upd H6 p2 (.lst (ko [.int (u.idxOf e1 : Nat), .int (u.idxOf e2 : Nat), .int (u.idxOf e3 : Nat), .int (u.idxOf e4 : Nat)] (some 2) none))) p2=some (.lst [.int (u.idxOf e3 : Nat), .int (u.idxOf e4 : Nat)]) := ah
        generalize upd H6 p2 (.lst (ko [.int (u.idxOf e1 : Nat), .int (u.idxOf e2 : Nat), .int (u.idxOf e3 : Nat), .int (u.idxOf e4 : Nat)] (some 2) none))=H7 at s6 f6 ⊢
        refine ⟨p1, p2, _, _, _, _, rfl, s6 _ _ f5, f6, _, rfl, ?_⟩
        rw [← k4]
        have q7 := ((q3.trans s4).trans s5).trans s6
        by_cases c2 : bP u e1 e2 e3 e4=true
        · rw [c2]
          rw [c2] at k
          refine xC ⟨_, rfl, _, rfl, (by show 3≤_;decide), fun r hr' => ⟨(by show 1≤_;decide), fun l hl => ?_⟩⟩
          exact iV (m := .b s t) q7 hr' hl ⟨x, y, ah, (q7.trans (aA.new hr')) _ _ hx, (q7.trans (aA.new hr')) _ _ hy⟩ k rfl
        · rw [BI] at c2
          rw [c2]
          rw [c2] at k
          exact xD ⟨(by show 0≤_;decide), fun l hl => ia q7 hl k rfl⟩
    · rw [zp c]
      refine vp ⟨(by show 0≤_;decide), fun l hl => ia q3 hl k ?_⟩
      unfold bP
      rw [zp c]
      rfl
end
end Kx
namespace Kx
open PySem PySem.Spec PyProof.Rows L2 Wd
section
variable {P : Program} {w : World} {K : PySem.W.Frag} {mg : Str → Option Value} {base : Heap} {aB : Addr}
abbrev tI : Stmt := top 13
theorem v7 : aC ["surface", "ways", "one", "other", "told"] ["surface", "ways", "one", "other"] (ak tI) := ⟨rfl, rfl, rfl, by decide +kernel, rfl, by decide +kernel, by decide +kernel⟩
theorem x6 (D : Df K mg "links_at" tI)(T : Bt K w mg aB)(F_agn : Fnc P w K mg base "against_at" ["surface", "ways", "one", "other"] 4 (pJ ki))(F_alg : Fnc P w K mg base "along_at" ["surface", "ways", "one", "other"] 4 (pJ sf))(F_bes : Fnc P w K mg base "beside_at" ["surface", "ways", "one", "other"] 4 (pJ vr)) : Fnc P w K mg base "links_at" ["surface", "ways", "one", "other"] 5 (pJ ub) := by
  have sc := v7
  refine D.ok sc (fun _ _ _ _ _ _ us hl => by obtain ⟨_, _, _, _, rfl⟩ := uc hl;rfl) (fun vs H Q E h => ?_) (fun f cdv A outer s H vs Q E hr h => ?_)
  · obtain ⟨u, a, x, y, n, W, s, t, rfl, _⟩ := h
    rfl
  · obtain ⟨u, a, x, y, n, W, s, t, rfl, U, hW, hx, hy, os, ot, k⟩ := h
    have l16 := a6
    refine ⟨_, (DH (DP (4) sc.nd rfl (Or.inl rfl) (D4 F_agn hr (by decide) rfl (DS (pv 0) (DS (pv 1) (DS (pv 2) (DS (pv 3) af (by rfl)) (by rfl)) (by rfl)) (by rfl)) (by decide) (by rfl) (by rfl)) (by rfl) (by first | exact .inl rfl | exact .inr rfl | assumption)) (DH (DN (DO (r6 (K := K) rfl (by exact lt0 hr.units)) (pv 2) (pv 3) (aR _)) (DH (@d5 _ _ _ _ (DY AM BM BN eA (pv 4) (DS (D4 F_alg hr (by decide) rfl (DS (pv 0) (DS (pv 1) (DS (pv 2) (DS (pv 3) af (by rfl)) (by rfl)) (by rfl)) (by rfl)) (by decide) (by rfl) (by rfl)) af (by rfl)) (by rfl) (by rfl) (by rfl) (by rfl) (by rfl)) (by rfl)) (DT (@d5 _ _ _ _ (DY AM BM BN eA (pv 4) (DS (D4 F_bes hr (by decide) rfl (DS (pv 0) (DS (pv 1) (DS (pv 2) (DS (pv 3) af (by rfl)) (by rfl)) (by rfl)) (by rfl)) (by decide) (by rfl) (by rfl)) af (by rfl)) (by rfl) (by rfl) (by rfl) (by rfl) (by rfl)) (by rfl)))) bb) (DT (DU (pv 4))))), ?_⟩
    refine ⟨_, rfl, _, rfl, _, rfl, _, rfl, u, a, x, y, n, W, s, t, rfl, U, hW, hx, hy, os, ot, fun l1 z1 H1 n1 s1 f1 k1 e1 => ?_⟩
    refine ⟨_, rfl, _, rfl, x, y, [s.1, s.2], [t.1, t.2], rfl, rfl, SqT.of (s1 _ _ hx), SqT.of (s1 _ _ hy), _, rfl, ?_⟩
    show cK _ _ _ _ (ltP s t) _
    by_cases c : ltP s t=true
    · rw [c]
      refine vp ?_
      have len : ∀ {zs : List (Addr × Lk)} {r : List Lk} {m : Nat}, zs.map (·.2)=r → r.length≤m → zs.length≤m := fun e h => by rw [← e, zu] at h;exact h
      have la1 : z1.length≤1 := len e1 (by unfold ki;split <;> simp)
      refine ⟨_, rfl, .inl ⟨rfl, _, SqL.of f1⟩, _, rfl, _, rfl, _, rfl, _, rfl, u, a, x, y, n, W, s, t, rfl, U, hW.same s1, s1 _ _ hx, s1 _ _ hy, os, ot, fun l2 z2 H2 n2 s2 f2 k2 e2 => ?_⟩
      have la2 : z2.length≤1 := len e2 (by unfold sf;split <;> simp)
      have g1 := s2 _ _ f1
      refine ⟨l1, l2, _, _, rfl, rfl, g1, f2, (by simp only [zu];omega), ?_⟩
      rw [gD]
      have s3 : aA H (upd H2 l1 (.lst (((z1++z2).map (·.1)).map V.ref))) := eN (s1.trans s2) n1
      have f3 : (upd H2 l1 (.lst (((z1++z2).map (·.1)).map V.ref))) l1=some (.lst (((z1++z2).map (·.1)).map V.ref)) := ah
      have k3 : LkA (upd H2 l1 (.lst (((z1++z2).map (·.1)).map V.ref))) (z1++z2) := ((k1.same s2).app k2).to (gC g1)
      generalize upd H2 l1 (.lst (((z1++z2).map (·.1)).map V.ref))=H3 at s3 f3 k3 ⊢
      refine ⟨_, rfl, .inl ⟨rfl, _, SqL.of f3⟩, _, rfl, _, rfl, _, rfl, _, rfl, u, a, x, y, n, W, s, t, rfl, U, hW.same s3, s3 _ _ hx, s3 _ _ hy, os, ot, fun l4 z4 H4 n4 s4 f4 k4 e4 => ?_⟩
      have la4 : z4.length≤1 := len e4 (by unfold vr;split <;> simp)
      have g3 := s4 _ _ f3
      refine ⟨l1, l4, _, _, rfl, rfl, g3, f4, (by simp only [zu, zo];omega), ?_⟩
      rw [gD]
      refine ⟨_, rfl, k l1 (z1++z2++z4) _ n1 (eN (s3.trans s4) n1) ah (((k3.same s4).app k4).to (gC g3)) ?_⟩
      unfold ub
      rw [c, if_pos rfl, AR, AR, e1, e2, e4, zw]
    · rw [BI] at c
      rw [c]
      refine ku ⟨_, rfl, k l1 z1 H1 n1 s1 f1 k1 ?_⟩
      unfold ub
      rw [c, e1]
      simp
abbrev i9 : Stmt := top 12
theorem pQ : aC ["surface", "ways", "i", "j", "told", "p", "q"] ["surface", "ways", "i", "j"] (ak i9) := ⟨rfl, rfl, rfl, by decide +kernel, rfl, by decide +kernel, by decide +kernel⟩
theorem tJ (D : Df K mg "links" i9)(T : Bt K w mg aB)(F_lat : Fnc P w K mg base "links_at" ["surface", "ways", "one", "other"] 5 (pJ ub)) : Fnc P w K mg base "links" ["surface", "ways", "i", "j"] 6 iU := by
  have sc := pQ
  refine D.ok sc (fun _ _ _ _ _ _ us hl => by obtain ⟨_, _, _, _, rfl⟩ := uc hl;rfl) (fun vs H Q E h => ?_) (fun f cdv A outer s H vs Q E hr h => ?_)
  · obtain ⟨u, a, n, W, i, j, rfl, _⟩ := h
    rfl
  · obtain ⟨u, a, n, W, i, j, rfl, U, hW, i0, i1, j0, j1, k⟩ := h
    have l16 := a6
    obtain ⟨_, ati, _, li, _, _⟩ := hW.ok.get i0 i1
    obtain ⟨_, atj, _, lj, _, _⟩ := hW.ok.get j0 j1
    refine ⟨_, (DH (DP (4) sc.nd rfl (Or.inl rfl) (DX af) (by rfl) (by first | exact .inl rfl | exact .inr rfl | assumption)) (DH (D0 AH rfl (@cU _ _ _ _ _ _ rfl T.range (DS (DR av (by rfl) T.len zX (DS (DQ a_ (pv 1) (pv 2) (fun _ _ => rfl)) af (by rfl)) (by decide) (by decide) (by rfl) (by rfl)) af (by rfl)) (by rfl)) (DZ (5) sc.nd rfl (Or.inl rfl) (by first | exact .inl rfl | exact .inr rfl | assumption)) (DT (D0 AH rfl (@cU _ _ _ _ _ _ rfl T.range (DS (DR av (by rfl) T.len zX (DS (DQ a_ (pv 1) (pv 3) (fun _ _ => rfl)) af (by rfl)) (by decide) (by decide) (by rfl) (by rfl)) af (by rfl)) (by rfl)) (DZ (6) sc.nd rfl (Or.inl rfl) (by first | exact .inl rfl | exact .inr rfl | assumption)) (DT (@d5 _ _ _ _ (DY AM BM BN eA (pv 4) (DS (D4 F_lat hr (by decide) rfl (DS (pv 0) (DS (pv 1) (DS (D5 (DS (pv 2) (DS (pv 5) af (by rfl)) (by rfl))) (DS (D5 (DS (pv 3) (DS (pv 6) af (by rfl)) (by rfl))) af (by rfl)) (by rfl)) (by rfl)) (by rfl)) (by decide) (by rfl) (by rfl)) af (by rfl)) (by rfl) (by rfl) (by rfl) (by rfl) (by rfl)) (by rfl))) (by intro _ ;rfl))) (by intro _ ;rfl)) (DT (DU (DR (@eR _ (.s) (shL) _ (fun z => by cases z) (by exact hr.units) rfl) (by rfl) T.sorted oQ (DS (pv 4) af (by rfl)) (by decide) (by decide) (by rfl) (by rfl)))))), ?_⟩
    refine ⟨(by show 0≤_;decide), fun l hl => ?_⟩
    have s0 : aA H (upd H l (.lst [])) := aA.new hl
    have f0 : (upd H l (.lst [])) l=some (.lst []) := ah
    generalize upd H l (.lst [])=H0 at s0 f0 ⊢
    refine ⟨_, rfl, _, rfl, a, _, _, _, rfl, rfl, SqT.of (s0 _ _ hW.at_), ati, _, rfl, (by rw [ae];omega), _, rfl, ?_⟩
    rw [ae]
    refine ⟨by omega, by omega, ?_⟩
    refine d6 (lo := 0) (n := ((wyZ W i).length : Int).toNat) (fun m σ H' => ∃ (v1 v2 : Option V) (zs : List (Addr × Lk)), σ = [some (tx u), some (.ref a), some (.int i), some (.int j), some (.ref l), v1, v2] ∧ aA H H' ∧ H' l=some (.lst ((zs.map (·.1)).map V.ref)) ∧ LkA H' zs ∧ (zs.map (·.2)).Perm (eQ u W i j m)) ⟨none, none, [], rfl, s0, f0, (fun _ h => absurd h (by simp)), Bl _⟩ ?_ ?_
    · rintro p σ H1 hp ⟨v1, v2, zs, rfl, s1, f1, k1, e1⟩
      have hp' : p < (wyZ W i).length := by omega
      refine ⟨_, rfl, _, rfl, a, _, _, _, rfl, rfl, SqT.of (s1 _ _ hW.at_), atj, _, rfl, (by rw [ae];omega), _, rfl, ?_⟩
      rw [ae]
      refine ⟨by omega, by omega, ?_⟩
      rw [show ((0 : Int)+(p : Int))=(p : Int) by omega]
      refine d6 (lo := 0) (n := ((wyZ W j).length : Int).toNat) (fun m σ H' => ∃ (v2 : Option V) (zs : List (Addr × Lk)), σ = [some (tx u), some (.ref a), some (.int i), some (.int j), some (.ref l), some (.int (p : Int)), v2] ∧ aA H H' ∧ H' l=some (.lst ((zs.map (·.1)).map V.ref)) ∧ LkA H' zs ∧ (zs.map (·.2)).Perm (eQ u W i j p++nc u W i j p m)) ⟨v2, zs, rfl, s1, f1, k1, by rw [show nc u W i j p 0=[] from rfl, Bq];exact e1⟩ ?_ ?_
      · clear e1 k1 f1 s1 zs
        rintro q σ H2 hq ⟨v2, zs, rfl, s2, f2, k2, e2⟩
        have hq' : q < (wyZ W j).length := by omega
        rw [show ((0 : Int)+(q : Int))=(q : Int) by omega]
        refine ⟨_, rfl, .inl ⟨rfl, _, SqL.of f2⟩, _, rfl, _, rfl, _, rfl, _, rfl, (by show 2≤_;decide), fun x hx => ?_⟩
        have s3 : aA H2 (upd H2 x (.tup [.int i, .int (p : Int)])) := aA.new hx
        have f3 : (upd H2 x (.tup [.int i, .int (p : Int)])) x=some (.tup [.int i, .int (p : Int)]) := ah
        generalize upd H2 x (.tup [.int i, .int (p : Int)])=H3 at s3 f3 ⊢
        refine ⟨_, rfl, _, rfl, (by show 2≤_;decide), fun y hy => ?_⟩
        have s4 : aA H3 (upd H3 y (.tup [.int j, .int (q : Int)])) := aA.new hy
        have f4 : (upd H3 y (.tup [.int j, .int (q : Int)])) y=some (.tup [.int j, .int (q : Int)]) := ah
        generalize upd H3 y (.tup [.int j, .int (q : Int)])=H4 at s4 f4 ⊢
        have s24 := s3.trans s4
        refine ⟨u, a, x, y, n, W, (i, (p : Int)), (j, (q : Int)), rfl, U, hW.same (s2.trans s24), s4 _ _ f3, f4, ⟨i0, i1, by omega, by show (p : Int) < ((wyZ W i).length : Int);omega⟩, ⟨j0, j1, by omega, by show (q : Int) < ((wyZ W j).length : Int);omega⟩, fun l5 z5 H5 n5 s5 f5 k5 e5 => ?_⟩
        have s25 := s24.trans s5
        have g2 := s25 _ _ f2
        have ez : (z5.map (·.2)).Perm (lkZ u W (i, (p : Int)) (j, (q : Int))) := by rw [e5];exact nh _ _ _ _
        have en : ((zs++z5).map (·.2)).Perm (eQ u W i j p++nc u W i j p (q+1)) := by
          rw [AR, jK, ← zw]
          exact e2.append ez
        have hlen : zs.length+z5.length≤3*30*p+3*(q+1) := by
          have h1 := en.length_eq
          rw [zu, zo, zo] at h1
          have h2 := ng u W i j lj p
          have h3 := iT u W i j p (q+1)
          omega
        refine ⟨l, l5, _, _, rfl, rfl, g2, f5, (by simp only [zu];omega), ?_⟩
        rw [gD]
        exact ⟨_, zs++z5, rfl, eN (s2.trans s25) hl, ah, ((k2.same s25).app k5).to (gC g2), en⟩
      · clear e1 k1 f1 s1 zs
        rintro σ H2 ⟨v2, zs, rfl, s2, f2, k2, e2⟩
        refine ⟨_, _, zs, rfl, s2, f2, k2, ?_⟩
        rw [jL]
        exact e2
    · rintro σ H1 ⟨v1, v2, zs, rfl, s1, f1, k1, e1⟩
      have em : zs.map (·.1)=(zs.map fun z => (z.1, z.2.key)).map (·.1) := by rw [AY];rfl
      rw [em] at f1
      refine ⟨_, rfl, l, zs.map fun z => (z.1, z.2.key), rfl, .inl (SqL.of f1), fun z hz => ?_, fun p ks hp pm pw => ?_⟩
      · obtain ⟨y, hy, rfl⟩ := Ak.mp hz
        exact (k1 y hy).kd
      · obtain ⟨ys, h1, h2⟩ := eK (fun z : Addr × Lk => (z.1, z.2.key)) pm.symm zs rfl
        have e2 : ks.map (·.1)=ys.map (·.1) := by rw [h2, AY];rfl
        have e3 : ks.map (·.2)=(ys.map (·.2)).map Lk.key := by rw [h2, AY, AY];rfl
        rw [e2]
        rw [e3] at pw
        refine k p ys _ (s1.free hp) (s1.trans (aA.new hp)) ah (fun z hz => ?_) ((h1.map _).trans e1) pw
        exact (k1 z (h1.mem_iff.mp hz)).to fun b o e => aA.new hp _ _ e
end
end Kx
namespace Kx
open PySem PySem.Spec PyProof.Rows L2 Wd
section
variable {P : Program} {w : World} {K : PySem.W.Frag} {mg : Str → Option Value} {base : Heap} {aB : Addr}
abbrev nX : Stmt := top 33
theorem tK : aC ["_law_feed_here", "_law_many", "_law_most", "_law_signs"] ["_law_feed_here", "_law_many", "_law_most"] (ak nX) := ⟨rfl, rfl, rfl, by decide +kernel, rfl, by decide +kernel, by decide +kernel⟩
theorem v8 (D : Df K mg "_law_some" nX)(T : Bt K w mg aB)(F_draw : Fnc P w K mg base "_law_draw" ["_law_feed_here", "_law_many"] 1 dM) : Fnc P w K mg base "_law_some" ["_law_feed_here", "_law_many", "_law_most"] 2 iK := by
  have sc := tK
  refine D.ok sc (fun _ _ _ _ _ _ us hl => by obtain ⟨_, _, _, rfl⟩ := qM hl;rfl) (fun vs H Q E h => ?_) (fun f cdv A outer s H vs Q E hr h => ?_)
  · obtain ⟨d, m, n, rfl, _⟩ := h
    rfl
  · obtain ⟨d, m, n, rfl, F, m1, m2, n1, n2, k⟩ := h
    have l16 := a6
    refine ⟨_, (DH (DP (3) sc.nd rfl (Or.inr rfl) (DK aP (DV br aJ aT (DW (pv 1))) (DV br aJ aT (DW (pv 1)))) (by rfl) (by first | exact .inl rfl | exact .inr rfl | assumption)) (DT (DU (DY Ae Bw Bx fR aJ (DS (@fP _ _ _ _ _ _ _ (["_law_k", "_law_signs", "_law_feed_here", "_law_many"]) (["_law_k"]) ([3, 0, 1]) _ _ _ _ (@e8 _ _ _ _ _ _ rfl (by kernel_rfl)) rfl (@cU _ _ _ _ _ _ rfl T.range (DS (D4 F_draw hr (by decide) rfl (DS (pv 0) (DS (DK bw (pv 2) ai) af (by rfl)) (by rfl)) (by decide) (by rfl) (by rfl)) af (by rfl)) (by rfl)) (fun _ _ _ _ => DZ (0) (show (["_law_k", "_law_signs", "_law_feed_here", "_law_many"] : List Str).Nodup from by decide +kernel) rfl (Or.inl rfl) (by first | exact .inl rfl | exact .inr rfl | assumption)) (fun _ _ _ _ => dR) (fun _ _ _ _ => by (exact (DQ dF (pv 1) (D4 F_draw hr (by decide) rfl (DS (pv 2) (DS (DK cX ai (pv 3)) af (by rfl)) (by rfl)) (by decide) (by rfl) (by rfl)) (fun _ _ => rfl)))) (by intro _ ;rfl)) af (by rfl)) (by rfl) (by rfl) (by rfl) (by rfl) (by rfl))))), ?_⟩
    refine ⟨_, rfl, _, rfl, _, rfl, (by rw [jv];omega), _, rfl, _, rfl, _, rfl, (by rw [qo];omega), _, _, rfl, rfl, ?_, ?_⟩
    · have h1 := B8 ("abcdef" : Str) none (some m)
      have h2 := B8 ("ABCDEF" : Str) none (some m)
      rw [jv] at h1
      rw [qo] at h2
      omega
    rw [oR m1]
    refine ⟨rfl, _, rfl, _, rfl, _, _, rfl, rfl, d, _, rfl, F, by omega, by omega, fun r H1 r0 r1 F1 sb1 => ?_⟩
    refine ⟨_, rfl, by omega, by omega, ?_⟩
    refine dm (own := ["_law_k"]) (cap := [3, 0, 1]) (J := Itr 0 r.toNat) r.toNat (fun i ys σ H' => ∃ (v : Option V) (W : List L), σ = [v, some (tx (sg m)), some (.ref d), some (.int m)] ∧ ys=cx W ∧ W.length=i ∧ InM m.toNat W ∧ Fd H' d ∧ bj d H H')
      ⟨none, [], rfl, rfl, rfl, InM.nil, F1, sb1⟩ (fun i ys σ H' hi ⟨v, W, _, e, e2, _⟩ => by rw [e, a7, e2];exact zA _) (by omega) (fun i ys σ H' hi _ => hi) (fun ys σ H' _ => zA _) ?_ ?_
    · rintro i ys σ H2 x H3 N hi ⟨v, W, rfl, rfl, hW, hI, F2, sb2⟩ ⟨rfl, rfl⟩ hN
      refine ⟨_, rfl, _, rfl, _, rfl, _, _, rfl, rfl, .inl ⟨by decide, by decide⟩, d, _, rfl, F2, by omega, by omega, fun q H4 q0 q1 F4 sb4 => ?_⟩
      have hq : q.toNat < (sg m).length := by rw [hJ m1 m2];omega
      refine ⟨_, _, cp (sg m)[q.toNat], rfl, rfl, (by rw [ae, hJ m1 m2];omega), cO (k := q.toNat) (by omega) (fu hq), hN _ _ _ ⟨_, W++[(sg m)[q.toNat]], rfl, (cj _ _), by rw [zo, hW];rfl, InM.snoc hI (xx m1 m2 _ (Aj hq)), F4, sb2.trans sb4⟩⟩
    · rintro ys σ H2 l ⟨v, W, rfl, rfl, hW, hI, F2, sb2⟩ hl
      refine ⟨_, l, W.map fun x => toS [x], rfl, rfl, SqL.of (by rw [ah, dW]), c8 _ (by omega), ?_⟩
      rw [c7]
      exact k _ _ (by omega) hI (F2.new hl) (sb2.trans (aA.new hl).b)
end
end Kx
namespace Kx
open PySem PySem.Spec PyProof.Rows L2 Wd
section
variable {P : Program} {w : World} {K : PySem.W.Frag} {mg : Str → Option Value} {base : Heap} {aB : Addr}
abbrev tL : Stmt := top 27
theorem v9 : aC ["row", "place", "sign"] ["row", "place", "sign"] (ak tL) := ⟨rfl, rfl, rfl, by decide +kernel, rfl, by decide +kernel, by decide +kernel⟩
theorem x8 (D : Df K mg "put_in" tL)(T : Bt K w mg aB) : Fnc P w K mg base "put_in" ["row", "place", "sign"] 1 i4 := by
  have sc := v9
  refine D.ok sc (fun _ _ _ _ _ _ us hl => by obtain ⟨_, _, _, rfl⟩ := qM hl;rfl) (fun vs H Q E h => ?_) (fun f cdv A outer s H vs Q E hr h => ?_)
  · obtain ⟨u, p, z, rfl, _⟩ := h
    rfl
  · obtain ⟨u, p, z, rfl, hl, p0, k⟩ := h
    have l16 := a6
    have hll : (toS u).length≤sizeLine := by rw [ae];omega
    have c1 : Txt.slice (toS u) (some p) none=toS (u.drop p.toNat) := by rw [aF, c6 _ p0]
    have c2 : Txt.slice (toS u) none (some p)=toS (u.take p.toNat) := by rw [aF, cf _ p0]
    refine ⟨_, (DT (DU (DK aP (DK aP (DV br (pv 0) aT (DW (pv 1))) (pv 2)) (DV br (pv 0) (DW (pv 1)) aT)))), ?_⟩
    refine ⟨_, rfl, _, rfl, _, rfl, _, rfl, hll, ?_⟩
    rw [c2]
    refine ⟨_, rfl, _, _, rfl, rfl, (by rw [ae, ae, zy];show _+1≤_;omega), ?_⟩
    rw [bU]
    refine ⟨_, rfl, _, rfl, _, rfl, _, rfl, hll, ?_⟩
    rw [c1]
    refine ⟨_, _, rfl, rfl, (by rw [ae, ae, zo, zy, As];show _+1+_≤_;omega), ?_⟩
    rw [bU, zw]
    exact k
abbrev i_ : Stmt := top 26
theorem pR : aC ["surface", "place", "other", "letter"] ["surface", "place", "other"] (ak i_) := ⟨rfl, rfl, rfl, by decide +kernel, rfl, by decide +kernel, by decide +kernel⟩
theorem tM (D : Df K mg "glued" i_)(T : Bt K w mg aB)(S : ∃ t, mg "SMALL" = some (.str "abcdef" t))(ME : ∃ t, mg "MOST_ENDS" = some (.int 12 t))(F_back : Fnc P w K mg base "back" ["word"] 1 lZ)(F_put : Fnc P w K mg base "put_in" ["row", "place", "sign"] 1 i4) : Fnc P w K mg base "glued" ["surface", "place", "other"] 2 nK := by
  have sc := pR
  refine D.ok sc (fun _ _ _ _ _ _ us hl => by obtain ⟨_, _, _, rfl⟩ := qM hl;rfl) (fun vs H Q E h => ?_) (fun f cdv A outer s H vs Q E hr h => ?_)
  · obtain ⟨u, n, p, q, rfl, _⟩ := h
    rfl
  · obtain ⟨u, n, p, q, rfl, U, hn, p0, p1, q0, q1, k⟩ := h
    obtain ⟨tS, mgS⟩ := S
    obtain ⟨tE, mgE⟩ := ME
    have l16 := a6
    have hul := U.len
    have hll : (toS u).length≤sizeLine := by rw [ae];omega
    refine ⟨_, (DH (DN (DO dj (DR av (by rfl) T.len zX (DS (pv 0) af (by rfl)) (by decide) (by decide) (by rfl) (by rfl)) (@kC _ _ (.int 12) _ _ rfl mgE ⟨_, rfl⟩ (by decide)) (aR _)) (DT fv) bb) (DH (DN (@p8 _ _ _ _ (@jf _ _ _ _ _ _ _ _ _ _ _ _ ou ou ai (pv 1) (DR av (by rfl) T.len zX (DS (pv 0) af (by rfl)) (by decide) (by decide) (by rfl) (by rfl)) (by with_unfolding_all rfl))) (DT fv) bb) (DH (DN (@p8 _ _ _ _ (@jf _ _ _ _ _ _ _ _ _ _ _ _ ou ou ai (pv 2) (DK bw (DR av (by rfl) T.len zX (DS (pv 0) af (by rfl)) (by decide) (by decide) (by rfl) (by rfl)) ai) (by with_unfolding_all rfl))) (DT fv) bb) (DH (DP (3) sc.nd rfl (Or.inl rfl) (DQ dF (@kC _ _ (.str "abcdef") _ _ rfl mgS ⟨_, rfl⟩ (by decide)) (DK d7 (DR av (by rfl) T.len zX (DS (pv 0) af (by rfl)) (by decide) (by decide) (by rfl) (by rfl)) ai) (fun _ _ => rfl)) (by rfl) (by first | exact .inl rfl | exact .inr rfl | assumption)) (DT (DU (D4 F_put hr (by decide) rfl (DS (D4 F_put hr (by decide) rfl (DS (pv 0) (DS (pv 1) (DS (pv 3) af (by rfl)) (by rfl)) (by rfl)) (by decide) (by rfl) (by rfl)) (DS (pv 2) (DS (D4 F_back hr (by decide) rfl (DS (pv 3) af (by rfl)) (by decide) (by rfl) (by rfl)) af (by rfl)) (by rfl)) (by rfl)) (by decide) (by rfl) (by rfl)))))))), ?_⟩
    refine ⟨_, rfl, _, rfl, hll, rfl, _, rfl, ?_⟩
    have e12 : decide (V.int ((toS u).length : Int)=V.int 12)=false := zp (fun z => by have := V.int.inj z;rw [ae] at this;omega)
    refine (zR (fun b => cK _ _ _ _ b _) e12).mpr (ku ?_)
    refine ⟨_, rfl, _, _, rfl, rfl, _, rfl, ?_⟩
    refine oh (zH p0) ⟨_, rfl, _, rfl, hll, _, _, rfl, rfl, _, rfl, ?_⟩
    refine (zR (fun b => ft _ b _) (zH (show p≤((toS u).length : Int) by rw [ae];exact p1))).mpr (nkT (ku ?_))
    refine ⟨_, rfl, _, _, rfl, rfl, _, rfl, ?_⟩
    refine oh (zH q0) ⟨_, rfl, _, rfl, hll, _, _, rfl, rfl, _, _, rfl, rfl, _, rfl, ?_⟩
    refine (zR (fun b => ft _ b _) (zH (show q≤((toS u).length : Int)+1 by rw [ae];exact q1))).mpr (nkT (ku ?_))
    have e2 : ((toS u).length : Int) / 2=(n : Int) := by rw [ae];omega
    have e6 : lt6 n=(⟨n, by omega⟩ : L) := nH ⟨n, by omega⟩
    refine ⟨_, rfl, _, rfl, hll, _, _, rfl, rfl, ⟨by decide, by decide⟩, ?_⟩
    rw [e2]
    refine ⟨_, _, _, rfl, rfl, (by rw [jv];omega), sm_at (show n < 6 by omega), ?_⟩
    rw [← e6]
    refine ⟨_, rfl, _, rfl, _, rfl, u, p, lt6 n, rfl, by omega, p0, ?_⟩
    refine ⟨_, rfl, _, rfl, [lt6 n], rfl, (by show 1≤5000;decide), fun H1 s1 => ?_⟩
    rw [dH]
    exact ⟨ins u p.toNat (lt6 n), q, inv (lt6 n), rfl, by rw [gG];omega, q0, k _ s1⟩
end
end Kx
namespace Kx
open PySem PySem.Spec PyProof.Rows L2 Wd
section
variable {P : Program} {w : World} {K : PySem.W.Frag} {mg : Str → Option Value} {base : Heap} {aB : Addr}
theorem pS : ∀ (k : Fin 7) (i : Fin 6), i.val < k.val → (([0, 1, 2, 3, 4, 5] : List L).take k.val)[i.val]? = some ⟨i.val, by omega⟩ := by decide
theorem nY : ∀ i : Fin 6, inv (⟨i.val, by omega⟩ : L)=⟨i.val+6, by omega⟩ := by decide
abbrev n8 : Stmt := top 34
theorem tN : aC ["_law_feed_here", "_law_many", "_law_row", "_law_sign", "_law_end", "_law_at"] ["_law_feed_here", "_law_many"] (ak n8) := ⟨rfl, rfl, rfl, by decide +kernel, rfl, by decide +kernel, by decide +kernel⟩
theorem v_ (D : Df K mg "_law_surface" n8)(T : Bt K w mg aB)(F_draw : Fnc P w K mg base "_law_draw" ["_law_feed_here", "_law_many"] 1 dM) : Fnc P w K mg base "_law_surface" ["_law_feed_here", "_law_many"] 2 gI := by
  have sc := tN
  refine D.ok sc (fun _ _ _ _ _ _ us hl => by obtain ⟨_, _, rfl⟩ := sW hl;rfl) (fun vs H Q E h => ?_) (fun f cdv A outer s H vs Q E hr h => ?_)
  · obtain ⟨d, n, rfl, _⟩ := h
    rfl
  · obtain ⟨d, n, rfl, F, h1, h6, k⟩ := h
    have l16 := a6
    have e6 : ("abcdef" : Str).length=6 := by decide +kernel
    have ez : Txt.slice ("abcdef" : Str) none (some (n : Int))=toS (([0, 1, 2, 3, 4, 5] : List L).take n) := by
      rw [← lJ, aF, cf _ (by omega), Ah]
    refine ⟨_, (DH (DP (2) sc.nd rfl (Or.inl rfl) aJ (by rfl) (by first | exact .inl rfl | exact .inr rfl | assumption)) (DH (D0 AH rfl (@e9 _ _ _ _ (DV br aJ aT (DW (pv 1)))) (DZ (3) sc.nd rfl (Or.inl rfl) (by first | exact .inl rfl | exact .inr rfl | assumption)) (DT (D0 AH rfl (@uv _ _ _ _ (D5 (DS (pv 3) (DS (D2 Ae Bn Bo dS (pv 3) (by rfl) (by rfl)) af (by rfl)) (by rfl)))) (DZ (4) sc.nd rfl (Or.inl rfl) (by first | exact .inl rfl | exact .inr rfl | assumption)) (DH (DP (5) sc.nd rfl (Or.inl rfl) (D4 F_draw hr (by decide) rfl (DS (pv 0) (DS (DK bw (DR av (by rfl) T.len zX (DS (pv 2) af (by rfl)) (by decide) (by decide) (by rfl) (by rfl)) ai) af (by rfl)) (by rfl)) (by decide) (by rfl) (by rfl)) (by rfl) (by first | exact .inl rfl | exact .inr rfl | assumption)) (DT (DP (2) sc.nd rfl (Or.inl rfl) (DK aP (DK aP (DV br (pv 2) aT (DW (pv 5))) (pv 4)) (DV br (pv 2) (DW (pv 5)) aT)) (by rfl) (by first | exact .inl rfl | exact .inr rfl | assumption)))) (by intro _ ;rfl))) (by intro _ ;rfl)) (DT (DU (pv 2))))), ?_⟩
    refine ⟨_, rfl, _, rfl, _, rfl, by omega, ?_⟩
    rw [ez]
    refine ⟨_, rfl, fT (z := toS (([0, 1, 2, 3, 4, 5] : List L).take n)) (fun i σ H' => ∃ (v3 v4 v5 : Option V) (W : List L), σ = [some (.ref d), some (.int (n : Int)), some (tx W), v3, v4, v5] ∧ W.Perm (fam i) ∧ Fd H' d ∧ bj d H H') ⟨none, none, none, [], (by rw [jt];rfl), Bl _, F, bj.refl _ _⟩ ?_ ?_⟩
    · rintro i ch σ H1 hc ⟨v3, v4, v5, W, rfl, pW, F1, sb1⟩
      obtain ⟨x, hx, e⟩ := b_ hc
      rw [e]
      have hi : i < n := by
        have := (zm.mp hx).1
        rw [zy] at this
        simp at this
        omega
      have hxi : x=⟨i, by omega⟩ := by
        have := pS ⟨n, by omega⟩ ⟨i, by omega⟩ hi
        rw [hx] at this
        exact zD this
      refine ⟨_, rfl, _, rfl, rfl, _, rfl, rfl, (by rw [ae];show 1≤5592405;decide), ?_⟩
      rw [cg (by rw [hxi];show i < 6;omega)]
      refine ⟨(bT (n := 2) (by decide)), fun t ht => ?_⟩
      have htd : t≠d := F1.ne ht
      refine ⟨t, rfl, ⟨_, SqT.of ah⟩, qS (xs := [tx [x], tx [inv x]]) (fun j σ H' => ∃ (v4 v5 : Option V) (W : List L), σ = [some (.ref d), some (.int (n : Int)), some (tx W), some (tx [x]), v4, v5] ∧ W.Perm (fam i++[x, inv x].take j) ∧ Fd H' d ∧ bj d H H' ∧ H' t=some (.tup [tx [x], tx [inv x]])) ⟨v4, v5, W, rfl, by rw [Dx, Bq];exact pW, F1.new ht, sb1.trans (aA.new ht).b, ah⟩ (fun j σ H' hj ⟨_, _, _, _, _, _, _, q⟩ => SqT.of q) ?_ ?_⟩
      · rintro j z σ H3 hz ⟨v4, v5, W, rfl, pW, F3, sb3, h3⟩
        have hj : j < 2 := (zm.mp hz).1
        have lW : W.length≤14 := by
          have c := f_ (show i≤6 by omega)
          have := pW.length_eq
          rw [zo, zy, c] at this
          simp only [zY, Av] at this
          omega
        obtain ⟨z', ez, hz'⟩ : ∃ z', z=tx [z'] ∧ [x, inv x][j]? = some z' := by
          have : j=0 ∨ j=1 := by omega
          rcases this with rfl | rfl
          · exact ⟨x, (zD hz).symm, rfl⟩
          · exact ⟨inv x, (zD hz).symm, rfl⟩
        subst ez
        have hll : (toS W).length≤sizeLine := by rw [ae];omega
        refine ⟨_, rfl, _, rfl, _, rfl, hll, _, _, rfl, rfl, d, _, rfl, F3, by rw [ae];omega, by rw [ae];omega, fun q H4 q0 q1 F4 sb4 => ?_⟩
        have c1 : Txt.slice (toS W) (some q) none=toS (W.drop q.toNat) := by rw [aF, c6 _ q0]
        have c2 : Txt.slice (toS W) none (some q)=toS (W.take q.toNat) := by rw [aF, cf _ q0]
        refine ⟨_, rfl, _, rfl, _, rfl, _, rfl, hll, ?_⟩
        rw [c2]
        refine ⟨_, rfl, _, _, rfl, rfl, (by rw [ae, ae, zy];show _+1≤_;omega), ?_⟩
        rw [bU]
        refine ⟨_, rfl, _, rfl, _, rfl, _, rfl, hll, ?_⟩
        rw [c1]
        refine ⟨_, _, rfl, rfl, (by rw [ae, ae, zo, zy, As];show _+1+_≤_;omega), ?_⟩
        rw [bU, zw]
        refine ⟨_, _, W.take q.toNat++([z']++W.drop q.toNat), rfl, ?_, F4, sb3.trans sb4, sb4 _ _ htd h3⟩
        have e : [x, inv x].take (j+1)=[x, inv x].take j++[z'] := bM hz'
        rw [e, show fam i++([x, inv x].take j++[z'])=fam i++[x, inv x].take j++[z'] from (zw ..).symm]
        exact oU z' q.toNat pW
      · rintro σ H3 ⟨v4, v5, W, rfl, pW, F3, sb3, h3⟩
        refine ⟨_, _, _, W, rfl, ?_, F3, sb3⟩
        rw [oT (show i < 6 by omega)]
        have e : [x, inv x]=[(⟨i, by omega⟩ : L), ⟨i+6, by omega⟩] := by rw [hxi, nY ⟨i, by omega⟩]
        rw [← e]
        exact pW
    · rintro σ H1 ⟨v3, v4, v5, W, rfl, pW, F1, sb1⟩
      have ln : (toS (([0, 1, 2, 3, 4, 5] : List L).take n)).cps.size=n := by rw [ba, zy];simp;omega
      rw [ln] at pW
      exact ⟨_, rfl, k W _ ⟨pW, h1, h6⟩ F1 sb1⟩
end
end Kx
namespace Kx
open PySem PySem.Spec PyProof.Rows L2 Wd
section
variable {P : Program} {w : World} {K : PySem.W.Frag} {mg : Str → Option Value} {base : Heap} {aB : Addr}
theorem n9 {t u : TS}{D : iq}{σ : L2.St}{H : Hp}(R : L2.St → Hp → Prop)(h1 : ∀ nx : L2.St → Hp → Prop, (∀ σ2 H2, R σ2 H2 → nx σ2 H2) → t ⟨nx, D.rt, D.bk, D.ct⟩ σ H)(h2 : ∀ σ2 H2, R σ2 H2 → u D σ2 H2) : yf t u D σ H := h1 _ h2
theorem tO {nx : L2.St → Hp → Prop}{rt : VK}{bk ct : L2.St → Hp → Prop}{i : Nat}{σ : L2.St}{x : V}{H : Hp}(h : nx (σ.set i (some x)) H) : fw (kF i) ⟨nx, rt, bk, ct⟩ σ x H := h
theorem wa {r : Int}(h0 : 0≤r)(h1 : r < 6) : atI ("abcdef" : Str).cps.toList r=some (cp (lt6 r.toNat)) := by
  have e := sm_at (i := r.toNat) (by omega)
  rw [show ((r.toNat : Nat) : Int)=r by omega, ← nH ⟨r.toNat, by omega⟩] at e
  exact e
theorem pU (w : List L) : rep 1 w=w := rfl
abbrev tP : Stmt := top 35
theorem wb : aC ["_law_feed_here", "_law_many", "_law_most", "_law_short", "_law_sizes"] ["_law_feed_here", "_law_many", "_law_most"] (ak tP) := ⟨rfl, rfl, rfl, by decide +kernel, rfl, by decide +kernel, by decide +kernel⟩
theorem x9 (D : Df K mg "_law_way" tP)(T : Bt K w mg aB)(F_draw : Fnc P w K mg base "_law_draw" ["_law_feed_here", "_law_many"] 1 dM)(F_lback : Fnc P w K mg base "_law_back" ["_law_word"] 1 lZ)(F_lred : Fnc P w K mg base "_law_reduced" ["_law_word"] 2 l7)(F_some : Fnc P w K mg base "_law_some" ["_law_feed_here", "_law_many", "_law_most"] 2 iK) : Fnc P w K mg base "_law_way" ["_law_feed_here", "_law_many", "_law_most"] 3 i5 := by
  have sc := wb
  refine D.ok sc (fun _ _ _ _ _ _ us hl => by obtain ⟨_, _, _, rfl⟩ := qM hl;rfl) (fun vs H Q E h => ?_) (fun f cdv A outer s H vs Q E hr h => ?_)
  · obtain ⟨d, m, rfl, _⟩ := h
    rfl
  · obtain ⟨d, m, rfl, F, m1, m6, k⟩ := h
    have l16 := a6
    refine ⟨_, (DH (DP (3) sc.nd rfl (Or.inr rfl) (D4 F_lred hr (by decide) rfl (DS (D4 F_some hr (by decide) rfl (DS (pv 0) (DS (pv 1) (DS (pv 2) af (by rfl)) (by rfl)) (by rfl)) (by decide) (by rfl) (by rfl)) af (by rfl)) (by decide) (by rfl) (by rfl)) (by rfl) (by first | exact .inl rfl | exact .inr rfl | assumption)) (DH (@fx _ _ _ _ _ _ AH (@PW.pt _ _ _ (@p7 _ _ _ _ _ _ _ (DO wK (DR av (by rfl) T.len zX (DS (pv 3) af (by rfl)) (by decide) (by decide) (by rfl) (by rfl)) ai (aR _)) (@kD _ _ _ _ (DO dj (DQ dF (pv 3) ai (fun _ _ => rfl)) (D4 F_lback hr (by decide) rfl (DS (DQ dF (pv 3) (DK eU (DR av (by rfl) T.len zX (DS (pv 3) af (by rfl)) (by decide) (by decide) (by rfl) (by rfl)) ai) (fun _ _ => rfl)) af (by rfl)) (by decide) (by rfl) (by rfl)) (aR _))))) (DT (DP (3) sc.nd rfl (Or.inr rfl) (DV br (pv 3) (DW ai) (DW (DK eU (DR av (by rfl) T.len zX (DS (pv 3) af (by rfl)) (by decide) (by decide) (by rfl) (by rfl)) ai))) (by rfl) (by first | exact .inl rfl | exact .inr rfl | assumption)))) (DH (DN (DO dj (pv 3) aJ (aR _)) (DT (DP (3) sc.nd rfl (Or.inr rfl) (DQ dF aJ (D4 F_draw hr (by decide) rfl (DS (pv 0) (DS (pv 1) af (by rfl)) (by rfl)) (by decide) (by rfl) (by rfl)) (fun _ _ => rfl)) (by rfl) (by first | exact .inl rfl | exact .inr rfl | assumption))) bb) (DH (@ma _ (4) _ _ _ _ _ _ _ _ _ (["_law_k", "_law_short"]) (["_law_k"]) ([3]) _ _ _ _ sc.nd rfl (Or.inl rfl) (@e8 _ _ _ _ _ _ rfl (by kernel_rfl)) rfl (@kI _ _ _ _ _ _ _ rfl T.range (DS ai (DS (DK bw (DR av (by rfl) T.len zX (DS (pv 3) af (by rfl)) (by decide) (by decide) (by rfl) (by rfl)) ai) af (by rfl)) (by rfl)) (by rfl) (by rfl)) (fun _ _ _ _ => DZ (0) (show (["_law_k", "_law_short"] : List Str).Nodup from by decide +kernel) rfl (Or.inl rfl) (by first | exact .inl rfl | exact .inr rfl | assumption)) (fun _ _ _ _ => (@jo _ _ _ (by exact (DO dj (DK j3 (DV br (pv 1) aT (DW (pv 0))) (DK d7 (DR av (by rfl) T.len zX (DS (pv 1) af (by rfl)) (by decide) (by decide) (by rfl) (by rfl)) (pv 0))) (pv 1) (aR _))))) (fun _ _ _ _ => by (exact (pv 0))) (by intro _ ;rfl) (by rfl) (by first | exact .inl rfl | exact .inr rfl | assumption)) (DT (DU (DV br (pv 3) aT (DW (DQ bI (pv 4) ai (fun _ _ => rfl)))))))))), ?_⟩
    refine ⟨_, rfl, _, rfl, _, rfl, d, _, _, rfl, F, by omega, by omega, by decide, by decide, fun u0 H1 l0 i0 F1 sb1 => ?_⟩
    have l0 : u0.length≤8 := l0
    refine ⟨u0, rfl, by omega, fun H2 s2 => ?_⟩
    have F2 := F1.same s2
    have sb2 := sb1.trans s2.b
    have r0 := vi u0
    have n0 := fc u0
    have j0 : InM m (red u0) := fun x hx => by
      have := i0 x (rY hx)
      rwa [Ah] at this
    generalize red u0=w0 at r0 n0 j0 ⊢
    refine tO (n9 (fun σ H' => ∃ W : List L, σ = [some (.ref d), some (.int (m : Int)), some (.int 8), some (tx W), none] ∧ Cyc W ∧ W.length≤8 ∧ InM m W ∧ aA H2 H') ?_ ?_)
    · intro nx hn
      refine ⟨fun mm σ H' => ∃ W : List L, σ = [some (.ref d), some (.int (m : Int)), some (.int 8), some (tx W), none] ∧ Wd.Rd W ∧ W.length≤8 ∧ InM m W ∧ aA H2 H' ∧ mm=W.length, ⟨_, w0, rfl, r0, by omega, j0, aA.refl _, rfl⟩, ?_⟩
      rintro mm σ H3 ⟨W, rfl, rW, lW, iW, s3, rfl⟩
      have hll : (toS W).length≤sizeLine := by rw [ae];omega
      refine ⟨_, rfl, _, rfl, hll, _, _, rfl, rfl, _, rfl, ?_⟩
      rw [ae]
      by_cases g1 : 1 < W.length
      · refine oh (zH (by omega)) ?_
        obtain ⟨x, mid, y, rfl⟩ : ∃ x mid y, W=x::(mid++[y]) := by
          cases W with
          | nil => simp at g1
          | cons x r =>
            have hr : r≠[] := by
              intro e
              subst e
              simp at g1
            exact ⟨x, r.dropLast, r.getLast hr, by rw [List.dropLast_concat_getLast]⟩
        have hl2 : (x::(mid++[y])).length=mid.length+2 := by simp
        have a0 : atI (toS (x::(mid++[y]))).cps.toList 0=some (cp x) := cO (k := 0) rfl rfl
        have al : atI (toS (x::(mid++[y]))).cps.toList (((toS (x::(mid++[y]))).length : Int) - 1)=some (cp y) := by
          rw [ae, hl2]
          refine cO (k := mid.length+1) (by omega) ?_
          rw [BX, zL (zA _), Ca]
          rfl
        refine ⟨_, rfl, _, _, _, rfl, rfl, hll, a0, _, rfl, _, rfl, _, rfl, hll, _, _, rfl, rfl, _, _, _, rfl, rfl, hll, al, [y], rfl, (by show 1≤5000;decide), fun H4 s4 => ?_⟩
        refine ⟨rfl, _, rfl, ?_⟩
        rw [dH]
        by_cases hxy : x=inv y
        · refine oh (by rw [hxy];exact zH rfl) ⟨_, fun σ' H' q => q, ?_⟩
          refine ⟨_, rfl, _, rfl, _, rfl, _, rfl, hll, _, _, rfl, rfl, _, rfl, _, rfl, hll, ?_⟩
          have cm : Txt.slice (toS (x::(mid++[y]))) (some 1) (some (((toS (x::(mid++[y]))).length : Int) - 1))=toS mid := by rw [aF, ae, rK]
          rw [cm]
          exact ⟨mid.length, by omega, mid, rfl, vt rW, by omega, fun z hz => iW z (zB _ (z6 _ hz)), s3.trans s4, rfl⟩
        · refine qq (zp fun e => hxy (Be (js (show tx [x]=tx [inv y] from e))).1) ?_
          exact hn _ _ ⟨_, rfl, sk rW hxy, lW, iW, s3.trans s4⟩
      · refine qq (zp (by omega)) (qh ?_)
        exact hn _ _ ⟨_, rfl, sq g1, lW, iW, s3⟩
    · rintro σ H3 ⟨W, rfl, cW, lW, iW, s3⟩
      have F3 := F2.same s3
      have sb3 := sb2.trans s3.b
      refine n9 (fun σ H' => ∃ W : List L, σ = [some (.ref d), some (.int (m : Int)), some (.int 8), some (tx W), none] ∧ GR m 8 W ∧ Fd H' d ∧ bj d H H') ?_ ?_
      · intro nx hn
        refine ⟨_, rfl, rfl, _, rfl, ?_⟩
        by_cases w0 : W=[]
        · subst w0
          refine oh (zH (by rw [jt])) ?_
          refine ⟨_, rfl, _, rfl, d, _, rfl, F3, by omega, by omega, fun r H4 r0 r1 F4 sb4 => ?_⟩
          refine ⟨_, _, _, rfl, rfl, (by rw [jv];omega), wa r0 (show r < 6 by omega), ?_⟩
          refine hn _ _ ⟨[lt6 r.toNat], rfl, ⟨iX _, by show 1≤8;decide, fun x hx => ?_⟩, F4, sb3.trans sb4⟩
          rw [zr.mp hx, mj (by omega)]
          omega
        · refine qq (zp (fun e => w0 (js (by rw [jt];exact e)))) (hn _ _ ⟨W, rfl, ⟨cW.rnd w0, lW, iW⟩, F3, sb3⟩)
      · clear iW lW cW W
        rintro σ H4 ⟨W, rfl, gW, F4, sb4⟩
        have lW := gW.2.1
        have pW : 0 < W.length := Ai.mpr gW.1.ne
        have hll : (toS W).length≤sizeLine := by rw [ae];omega
        refine ⟨_, rfl, _, rfl, hll, _, _, rfl, rfl, _, _, rfl, ?_, ?_⟩
        · rw [ae]
          omega
        rw [ae, show ((W.length : Int)+1 - 1).toNat=W.length by omega]
        refine dm (own := ["_law_k"]) (cap := [3]) (J := Itr 1 W.length) W.length (fun i ys σ H' => ∃ (v : Option V) (zs : List Nat), σ = [v, some (tx W)] ∧ ys=zs.map (fun z : Nat => V.int (z : Int)) ∧ zs.length≤i ∧ (∀ z∈zs, 1≤z ∧ z≤W.length ∧ rep (W.length / z) (W.take z)=W) ∧ (W.length≤i → zs≠[]) ∧ H'=H4)
          ⟨none, [], rfl, rfl, zA _, (fun z hz => by cases hz), (fun h => absurd h (by omega)), rfl⟩ (fun i ys σ H' hi ⟨_, zs, _, e, e2, _⟩ => by rw [e, zu];exact e2) (by omega) (fun i ys σ H' hi _ => hi) (fun ys σ H' _ => zA _) ?_ ?_
        · rintro i ys σ H5 x H6 N hi ⟨v, zs, rfl, rfl, hz, gz, nz, rfl⟩ ⟨rfl, rfl⟩ hN
          have e1 : (1 : Int)+(i : Int)=((i+1 : Nat) : Int) := by omega
          rw [e1]
          have c1 : Txt.slice (toS W) none (some ((i+1 : Nat) : Int))=toS (W.take (i+1)) := by rw [aF, cf _ (by omega)];rfl
          have dv : ((toS W).length : Int) / ((i+1 : Nat) : Int)=((W.length / (i+1) : Nat) : Int) := by rw [ae];rfl
          have db : W.length / (i+1)≤W.length := Nat.div_le_self _ _
          refine ⟨_, rfl, _, rfl, _, rfl, _, rfl, hll, ?_⟩
          rw [c1]
          refine ⟨_, rfl, _, rfl, hll, _, rfl, _, _, rfl, rfl, ⟨by omega, by omega⟩, ?_⟩
          refine ⟨_, ((W.length / (i+1) : Nat) : Int), rfl, zR V.int dv, lQ _ (Int.le_trans (by decide) (Int.natCast_nonneg _)) (Int.ofNat_le.mpr (show W.length / (i+1)≤1000 by omega)) (by rw [zy];omega), ?_⟩
          rw [rG, Ah]
          refine ⟨_, rfl, rfl, _, rfl, ?_⟩
          by_cases he : rep (W.length / (i+1)) (W.take (i+1))=W
          · refine oh (by rw [he];exact zH rfl) ⟨_, rfl, ?_⟩
            refine hN _ _ _ ⟨_, zs++[i+1], rfl, by rw [AR];rfl, by rw [zo];show _+1≤_;omega, fun z hz => ?_, fun _ => by simp, rfl⟩
            rcases Ac.mp hz with hz | hz
            · exact gz z hz
            · rw [zr.mp hz];exact ⟨by omega, by omega, he⟩
          · refine qq (zp fun e => he (js e)) (hN _ _ _ ⟨_, zs, rfl, rfl, by omega, gz, fun h => ?_, rfl⟩)
            exfalso
            apply he
            have : i+1=W.length := by omega
            rw [this, Nat.div_self pW, Bh]
            exact pU W
        · rintro ys σ H5 p ⟨v, zs, rfl, rfl, hz, gz, nz, rfl⟩ hp
          obtain ⟨z, r, rfl⟩ : ∃ z r, zs=z::r := by
            cases zs with
            | nil => exact absurd rfl (nz (zA _))
            | cons z r => exact ⟨z, r, rfl⟩
          obtain ⟨z1, z2, z3⟩ := gz z zK
          have c1 : Txt.slice (toS W) none (some (z : Int))=toS (W.take z) := by rw [aF, cf _ (by omega), Ah]
          refine ⟨_, rfl, _, rfl, p, _, _, _, rfl, rfl, SqL.of ah, cL (j := 0) rfl, _, rfl, _, rfl, hll, ?_⟩
          rw [c1]
          have cy : Cyc (W.take z) := su (n := W.length / z) (by rw [z3];exact ⟨gW.1.rd, gW.1.jn⟩) (by rw [z3];exact gW.1.ne)
          exact k _ _ ⟨cy.rnd (Ai.mp (by rw [zy];omega)), by rw [zy];omega, fun x hx => gW.2.2 x (BB hx)⟩ (F4.new hp) (sb4.trans (aA.new hp).b)
end
end Kx
namespace Kx
open PySem PySem.Spec PyProof.Rows L2 Wd
section
variable {P : Program} {w : World} {K : PySem.W.Frag} {mg : Str → Option Value} {base : Heap} {aB : Addr}
abbrev tQ : Stmt := top 36
theorem wc : aC ["_law_surface_here", "_law_one", "_law_other", "_law_ways"] ["_law_surface_here", "_law_one", "_law_other"] (ak tQ) := ⟨rfl, rfl, rfl, by decide +kernel, rfl, by decide +kernel, by decide +kernel⟩
theorem x_ (D : Df K mg "_law_counts" tQ)(T : Bt K w mg aB)(F_links : Fnc P w K mg base "links" ["surface", "ways", "i", "j"] 6 iU) : Fnc P w K mg base "_law_counts" ["_law_surface_here", "_law_one", "_law_other"] 7 i7 := by
  have sc := wc
  refine D.ok sc (fun _ _ _ _ _ _ us hl => by obtain ⟨_, _, _, rfl⟩ := qM hl;rfl) (fun vs H Q E h => ?_) (fun f cdv A outer s H vs Q E hr h => ?_)
  · obtain ⟨u, w1, v1, n, rfl, _⟩ := h
    rfl
  · obtain ⟨u, w1, v1, n, rfl, U, gw, gv, k⟩ := h
    have l16 := a6
    obtain ⟨z0, z1, z2⟩ := xO U gw.wo gv.wo
    have hR : WyR n [w1, v1] := ⟨by show 2≤4;decide, by show 1≤2;decide, fun x hx => by
      simp only [zN, zZ, A6] at hx
      rcases hx with rfl | rfl
      · exact gw.le (by decide)
      · exact gv.le (by decide)⟩
    refine ⟨_, (DH (DP (3) sc.nd rfl (Or.inl rfl) (D5 (DS (pv 1) (DS (pv 2) af (by rfl)) (by rfl))) (by rfl) (by first | exact .inl rfl | exact .inr rfl | assumption)) (DT (DU (DX (DS (DR bh (by rfl) T.len zX (DS (D4 F_links hr (by decide) rfl (DS (pv 0) (DS (pv 3) (DS ai (DS ai af (by rfl)) (by rfl)) (by rfl)) (by rfl)) (by decide) (by rfl) (by rfl)) af (by rfl)) (by decide) (by decide) (by rfl) (by rfl)) (DS (DR bh (by rfl) T.len zX (DS (D4 F_links hr (by decide) rfl (DS (pv 0) (DS (pv 3) (DS ai (DS ai af (by rfl)) (by rfl)) (by rfl)) (by rfl)) (by decide) (by rfl) (by rfl)) af (by rfl)) (by decide) (by decide) (by rfl) (by rfl)) (DS (DR bh (by rfl) T.len zX (DS (D4 F_links hr (by decide) rfl (DS (pv 0) (DS (pv 3) (DS ai (DS ai af (by rfl)) (by rfl)) (by rfl)) (by rfl)) (by decide) (by rfl) (by rfl)) af (by rfl)) (by decide) (by decide) (by rfl) (by rfl)) af (by rfl)) (by rfl)) (by rfl)))))), ?_⟩
    refine ⟨_, rfl, _, rfl, (bT (n := 2) (by decide)), fun a ha => ?_⟩
    have s1 : aA H (upd H a (.tup [tx w1, tx v1])) := aA.new ha
    have f1 : (upd H a (.tup [tx w1, tx v1])) a=some (.tup ([w1, v1].map tx)) := ah
    generalize upd H a (.tup [tx w1, tx v1])=H1 at s1 f1 ⊢
    have ll : ∀ {zs : List (Addr × Lk)} {ks : List Lk} {m : Nat}, (zs.map (·.2)).Perm ks → ks.length=m → (((zs.map (·.1)).map V.ref).length : Int)=(m : Int) := fun h e => by
      have := h.length_eq
      simp only [zu] at this ⊢
      omega
    refine ⟨_, rfl, _, rfl, u, a, n, [w1, v1], 0, 0, rfl, U, ⟨f1, hR⟩, by decide, (by show (0 : Int) < 2;decide), by decide, (by show (0 : Int) < 2;decide), fun l2 y2 H2 n2 s2 f2 k2 e2 w2 => ⟨l2, _, rfl, .inl (SqL.of f2), ?_⟩⟩
    rw [ll e2 z0]
    refine ⟨_, rfl, _, rfl, u, a, n, [w1, v1], 0, 1, rfl, U, ⟨s2 _ _ f1, hR⟩, by decide, (by show (0 : Int) < 2;decide), by decide, (by show (1 : Int) < 2;decide), fun l3 y3 H3 n3 s3 f3 k3 e3 w3 => ⟨l3, _, rfl, .inl (SqL.of f3), ?_⟩⟩
    rw [ll e3 z1]
    refine ⟨_, rfl, _, rfl, u, a, n, [w1, v1], 1, 1, rfl, U, ⟨s3 _ _ (s2 _ _ f1), hR⟩, by decide, (by show (1 : Int) < 2;decide), by decide, (by show (1 : Int) < 2;decide), fun l4 y4 H4 n4 s4 f4 k4 e4 w4 => ⟨l4, _, rfl, .inl (SqL.of f4), ?_⟩⟩
    rw [ll e4 z2]
    have s04 := ((s1.trans s2).trans s3).trans s4
    exact ⟨(bT (n := 3) (by decide)), fun p hp => k p _ (s04.free hp) (s04.then hp) ah⟩
end
end Kx
namespace Kx
open PySem PySem.Spec PyProof.Rows L2 Wd
section
variable {P : Program} {w : World} {K : PySem.W.Frag} {mg : Str → Option Value} {base : Heap} {aB : Addr}
theorem km : ∀ k : Fin 7, (([0, 1, 2, 3, 4, 5] : List L).take k.val).map (fun x : L => x.val)=List.range k.val := by decide
theorem tR : ∀ (k : Fin 7) (i : Fin 6), i.val < k.val → (([0, 1, 2, 3, 4, 5] : List L).take k.val)[i.val]? = some ⟨i.val, by omega⟩ := by decide
theorem tT {N : List L}{z w : L}(h : w.val % 6 < N.length) : nm (N++[z]) w=nm N w := by
  have := w.isLt
  unfold nm
  by_cases hw : w.val < 6
  · rw [if_pos hw, if_pos hw, zx, zx, zU (by omega)]
  · rw [if_neg hw, if_neg hw, zx, zx, zU (by omega)]
theorem tU {N : List L}{z x : L}(h : x.val=N.length)(h6 : x.val < 6) : nm (N++[z]) x=z := by
  unfold nm
  rw [if_pos h6, zx, h, zL (zA _), Ca]
  rfl
theorem jT {x y : L}(h : toS [x]=toS [y]) : x=y := (Be (iC h)).1
abbrev ja : Stmt := top 37
theorem pV : aC ["_law_feed_here", "_law_many", "_law_left", "_law_found", "_law_sign", "_law_name"] ["_law_feed_here", "_law_many"] (ak ja) := ⟨rfl, rfl, rfl, by decide +kernel, rfl, by decide +kernel, by decide +kernel⟩
theorem tV (D : Df K mg "_law_names" ja)(T : Bt K w mg aB)(F_draw : Fnc P w K mg base "_law_draw" ["_law_feed_here", "_law_many"] 1 dM)(F_lback : Fnc P w K mg base "_law_back" ["_law_word"] 1 lZ) : Fnc P w K mg base "_law_names" ["_law_feed_here", "_law_many"] 2 eP := by
  have sc := pV
  refine D.ok sc (fun _ _ _ _ _ _ us hl => by obtain ⟨_, _, rfl⟩ := sW hl;rfl) (fun vs H Q E h => ?_) (fun f cdv A outer s H vs Q E hr h => ?_)
  · obtain ⟨d, n, rfl, _⟩ := h
    rfl
  · obtain ⟨d, n, rfl, F, h1, h6, k⟩ := h
    have hu := oI hr
    have l16 := a6
    have e6 : ("abcdef" : Str).length=6 := by decide +kernel
    have ez : Txt.slice ("abcdef" : Str) none (some (n : Int))=toS (([0, 1, 2, 3, 4, 5] : List L).take n) := by
      rw [← lJ, aF, cf _ (by omega), Ah]
    refine ⟨_, (DH (DP (2) sc.nd rfl (Or.inl rfl) (@c0 _ _ _ _ _ _ _ _ _ (@eF _ rfl) (by rfl) T.list qm (DS (DV br aJ aT (DW (pv 1))) af (by rfl)) (by decide) (by decide) (by rfl) (by rfl)) (by rfl) (by first | exact .inl rfl | exact .inr rfl | assumption)) (DH (DP (3) sc.nd rfl (Or.inl rfl) oG (by rfl) (by first | exact .inl rfl | exact .inr rfl | assumption)) (DH (D0 AH rfl (@e9 _ _ _ _ (DV br aJ aT (DW (pv 1)))) (DZ (4) sc.nd rfl (Or.inl rfl) (by first | exact .inl rfl | exact .inr rfl | assumption)) (DH (DP (5) sc.nd rfl (Or.inl rfl) (DY AM PySem.F.slot_list_pop PySem.F.type_list_pop oE (pv 2) (DS (D4 F_draw hr (by decide) rfl (DS (pv 0) (DS (DR bh (by rfl) T.len zX (DS (pv 2) af (by rfl)) (by decide) (by decide) (by rfl) (by rfl)) af (by rfl)) (by rfl)) (by decide) (by rfl) (by rfl)) af (by rfl)) (by rfl) (by rfl) (by rfl) (by rfl) (by rfl)) (by rfl) (by first | exact .inl rfl | exact .inr rfl | assumption)) (DH (DP (5) sc.nd rfl (Or.inl rfl) (DQ bI (DX (DS (pv 5) (DS (D2 Ae Bn Bo dS (pv 5) (by rfl) (by rfl)) af (by rfl)) (by rfl))) (D4 F_draw hr (by decide) rfl (DS (pv 0) (DS ai af (by rfl)) (by rfl)) (by decide) (by rfl) (by rfl)) (fun _ _ => rfl)) (by rfl) (by first | exact .inl rfl | exact .inr rfl | assumption)) (DH (DJ hu (pv 3) (pv 4) (pv 5) rfl) (DT (DJ hu (pv 3) (D2 Ae Bn Bo dS (pv 4) (by rfl) (by rfl)) (D4 F_lback hr (by decide) rfl (DS (pv 5) af (by rfl)) (by decide) (by rfl) (by rfl)) rfl))))) (by intro _ ;rfl)) (DT (DU (pv 3)))))), ?_⟩
    refine ⟨_, rfl, _, rfl, _, rfl, by omega, ?_⟩
    rw [ez]
    refine ⟨_, rfl, (by rw [ae, zy];simp;omega), fun l hl => ?_⟩
    rw [kj]
    have s1 : aA H (upd H l (.lst (cx (([0, 1, 2, 3, 4, 5] : List L).take n)))) := aA.new hl
    have f1 : (upd H l (.lst (cx (([0, 1, 2, 3, 4, 5] : List L).take n)))) l=some (.lst (cx (([0, 1, 2, 3, 4, 5] : List L).take n))) := ah
    generalize upd H l (.lst (cx (([0, 1, 2, 3, 4, 5] : List L).take n)))=H1 at s1 f1 ⊢
    intro a ha
    have la : a≠l := (aw f1 ha).symm
    have s2 : aA H1 (upd H1 a (.dK [])) := aA.new ha
    have f2 : (upd H1 a (.dK [])) a=some (.dK []) := ah
    have g2 := s2 _ _ f1
    have ha0 := none_of s1 ha
    have s2 := s1.trans s2
    generalize upd H1 a (.dK [])=H2 at s2 f2 g2 ⊢
    have ld : l≠d := F.ne hl
    have ad : a≠d := F.ne ha0
    refine ⟨_, rfl, _, rfl, _, rfl, by omega, ?_⟩
    rw [ez]
    refine ⟨_, rfl, fT (z := toS (([0, 1, 2, 3, 4, 5] : List L).take n)) (fun i σ H' => ∃ (v nme : Option V) (N left : List L), σ = [some (.ref d), some (.int (n : Int)), some (.ref l), some (.ref a), v, nme] ∧ H' l=some (.lst (cx left)) ∧ kr H' a N i ∧ N.length=i ∧ ((N.map fun x : L => x.val % 6)++left.map fun x : L => x.val).Perm (List.range n) ∧ Fd H' d ∧ bj d H H')
      ⟨none, none, [], ([0, 1, 2, 3, 4, 5] : List L).take n, rfl, g2, ⟨[], f2, zA _, fun x hx => absurd hx (by omega)⟩, rfl, (by rw [BJ, List.nil_append];rw [km ⟨n, by omega⟩]), F.same s2, s2.b⟩ ?_ ?_⟩
    · rintro i ch σ H3 hc ⟨v, nme, N, left, rfl, f3, m3, hN, pm, F3, sb3⟩
      obtain ⟨x, hx, e⟩ := b_ hc
      rw [e]
      have hi : i < n := by
        have := (zm.mp hx).1
        rw [zy] at this
        simp at this
        omega
      have hxi : x=⟨i, by omega⟩ := by
        have := tR ⟨n, by omega⟩ ⟨i, by omega⟩ hi
        rw [hx] at this
        exact zD this
      have hll : left.length=n - i := by
        have := pm.length_eq
        rw [zo, zu, zu, List.length_range] at this
        omega
      refine ⟨_, rfl, .inl ⟨rfl, _, SqL.of f3⟩, _, rfl, _, rfl, l, _, rfl, .inl (SqL.of f3), d, _, rfl, F3, by rw [a7];omega, by rw [a7];omega, fun r H4 r0 r1 F4 sb4 => ?_⟩
      rw [a7] at r1
      have f4 := sb4 _ _ ld f3
      have hrk : r.toNat < left.length := by omega
      have gy : left[r.toNat]? = some left[r.toNat] := fu hrk
      generalize left[r.toNat]=y at gy
      refine ⟨l, _, r, r.toNat, tx [y], rfl, rfl, f4, by omega, by omega, (kT (by unfold ixN;rw [if_pos r0, if_pos (by rw [a7];omega)])).1, (by unfold cx;rw [zW, gy];rfl), ?_⟩
      rw [kl]
      have hyo : V.str (toS [y])∈cx left := by
        unfold cx
        exact Ak.mpr ⟨y, An gy, rfl⟩
      have s5 : bj l H4 (upd H4 l (.lst (cx (left.eraseIdx r.toNat)))) := bj.upd
      have f5 : (upd H4 l (.lst (cx (left.eraseIdx r.toNat)))) l=some (.lst (cx (left.eraseIdx r.toNat))) := ah
      have F5 : Fd (upd H4 l (.lst (cx (left.eraseIdx r.toNat)))) d := sV F4 f4 ld hyo
      generalize upd H4 l (.lst (cx (left.eraseIdx r.toNat)))=H5 at s5 f5 F5 ⊢
      have m5 : kr H5 a N i := (m3.at_ fun o e => sb4 _ _ ad e).at_ fun o e => s5 _ _ la e
      have sb5 : bj d H H5 := fun b o n e => s5 _ _ (aw e hl) (sb4 _ _ n (sb3 _ _ n e))
      have hy6 : y.val < 6 := by
        have : y.val∈(N.map fun x : L => x.val % 6)++left.map fun x : L => x.val := Ac.mpr (.inr (Ak.mpr ⟨y, An gy, rfl⟩))
        have := Ba.mp (pm.mem_iff.mp this)
        omega
      refine ⟨_, rfl, _, rfl, rfl, _, rfl, rfl, (by rw [ae];show 1≤5592405;decide), ?_⟩
      rw [cg hy6]
      refine ⟨(bT (n := 2) (by decide)), fun pz hpz => ?_⟩
      have s6 : aA H5 (upd H5 pz (.lst [tx [y], V.str (toS [inv y])])) := aA.new hpz
      have fz6 : (upd H5 pz (.lst [tx [y], V.str (toS [inv y])])) pz=some (.lst [tx [y], V.str (toS [inv y])]) := ah
      have F6 := F5.new (o := .lst [tx [y], V.str (toS [inv y])]) hpz
      have pzd := F5.ne hpz
      have f6 := s6 _ _ f5
      have m6 := m5.same s6
      have sb6 := sb5.trans s6.b
      generalize upd H5 pz (.lst [tx [y], V.str (toS [inv y])])=H6 at s6 fz6 F6 f6 m6 sb6 ⊢
      refine ⟨_, rfl, d, _, rfl, F6, by decide, by decide, fun t H7 t0 t1 F7 sb7 => ?_⟩
      have f7 := sb7 _ _ ld f6
      have m7 : kr H7 a N i := m6.at_ fun o e => sb7 _ _ ad e
      have fz7 := sb7 _ _ pzd fz6
      have sb7 := sb6.trans sb7
      have le := fm gy
      obtain ⟨kvs, k1, k2, k3⟩ := m7.ex
      obtain ⟨z, hz, az⟩ : ∃ z : L, z.val % 6=y.val ∧ atI [tx [y], tx [inv y]] t=some (tx [z]) := by
        have : t=0 ∨ t=1 := by omega
        rcases this with rfl | rfl
        · exact ⟨y, by omega, cL (j := 0) rfl⟩
        · exact ⟨inv y, by rw [gf];omega, cL (j := 1) rfl⟩
      refine ⟨pz, _, _, _, rfl, rfl, SqL.of fz7, az, ?_⟩
      refine ⟨_, rfl, _, rfl, _, rfl, a, _, rfl, qe.k (k := Sum.inr (toS [x])) k1 (by omega), ?_⟩
      have u1 : bj a H7 (upd H7 a (.dK (bY kvs (Sum.inr (toS [x])) (tx [z])))) := bj.upd
      have F8 : Fd (upd H7 a (.dK (bY kvs (Sum.inr (toS [x])) (tx [z])))) d := nN F7 k1 ad
      have g8 : (upd H7 a (.dK (bY kvs (Sum.inr (toS [x])) (tx [z])))) a=some (.dK (bY kvs (Sum.inr (toS [x])) (tx [z]))) := ah
      generalize upd H7 a (.dK (bY kvs (Sum.inr (toS [x])) (tx [z])))=H8 at u1 F8 g8 ⊢
      refine ⟨_, rfl, [z], rfl, (by show 1≤5000;decide), fun H9 s9 => ?_⟩
      rw [dH]
      refine ⟨_, rfl, _, rfl, rfl, _, rfl, rfl, (by rw [ae];show 1≤5592405;decide), ?_⟩
      rw [cg (by rw [hxi];show i < 6;omega)]
      refine ⟨a, _, rfl, qe.k (k := Sum.inr (toS [inv x])) (s9 _ _ g8) (Nat.lt_of_le_of_lt (bt _ _ _) (by omega)), ?_⟩
      have u2 : bj a H9 (upd H9 a (.dK (bY (bY kvs (Sum.inr (toS [x])) (tx [z])) (Sum.inr (toS [inv x])) (tx [inv z])))) := bj.upd
      have FA : Fd (upd H9 a (.dK (bY (bY kvs (Sum.inr (toS [x])) (tx [z])) (Sum.inr (toS [inv x])) (tx [inv z])))) d := nN (F8.same s9) (s9 _ _ g8) ad
      refine ⟨_, _, N++[z], left.eraseIdx r.toNat, rfl, u2 _ _ la.symm (s9 _ _ (u1 _ _ la.symm f7)), ⟨_, ah, ?_, fun w hw => ?_⟩, by rw [zo, hN];rfl, ?_, FA, fun b o n e => ?_⟩
      · have h1 := bt kvs (Sum.inr (toS [x]) : Key) (tx [z])
        have h2 := bt (bY kvs (Sum.inr (toS [x]) : Key) (tx [z])) (Sum.inr (toS [inv x]) : Key) (tx [inv z])
        omega
      · rw [jk, jk]
        have hl : nm (N++[z]) x=z := tU (by rw [hxi, hN]) (by rw [hxi];show i < 6;omega)
        by_cases e1 : w=inv x
        · subst e1
          rw [if_pos rfl, mS, hl]
        · rw [if_neg (fun e => e1 (jT (Sum.inr.inj e)))]
          by_cases e2 : w=x
          · subst e2
            rw [if_pos rfl, hl]
          · rw [if_neg (fun e => e2 (jT (Sum.inr.inj e)))]
            have hwi : w.val % 6 < i := by
              have : w.val % 6≠i := fun q => by
                have hx6 : x.val % 6=i := by rw [hxi];show i % 6=i;omega
                rcases mU (q.trans hx6.symm) with h | h
                · exact e2 h
                · exact e1 h
              omega
            rw [k3 w hwi, tT (by omega)]
      · rw [AR, zw]
        refine List.Perm.trans ?_ pm
        refine AK _ ?_
        have := (le.map fun x : L => x.val).symm
        rw [z9, ← hz] at this
        exact this
      · exact u2 _ _ (aw e ha0) (s9 _ _ (u1 _ _ (aw e ha0) (sb7 _ _ n e)))
    · rintro σ H3 ⟨v, nme, N, left, rfl, f3, m3, hN, pm, F3, sb3⟩
      have ln : (toS (([0, 1, 2, 3, 4, 5] : List L).take n)).cps.size=n := by rw [ba, zy];simp;omega
      rw [ln] at m3 hN
      have : left=[] := by
        have := pm.length_eq
        rw [zo, zu, zu, List.length_range] at this
        exact Aw (by omega)
      subst this
      rw [BJ, Bq] at pm
      exact ⟨_, rfl, k a _ N ha0 ⟨pm, h6⟩ m3 F3 sb3⟩
abbrev jb : Stmt := top 38
theorem pX : aC ["_law_names_here", "_law_word"] ["_law_names_here", "_law_word"] (ak jb) := ⟨rfl, rfl, rfl, by decide +kernel, rfl, by decide +kernel, by decide +kernel⟩
theorem tW (D : Df K mg "_law_named" jb)(T : Bt K w mg aB) : Fnc P w K mg base "_law_named" ["_law_names_here", "_law_word"] 1 iL := by
  have sc := pX
  refine D.ok sc (fun _ _ _ _ _ _ us hl => by obtain ⟨_, _, rfl⟩ := sW hl;rfl) (fun vs H Q E h => ?_) (fun f cdv A outer s H vs Q E hr h => ?_)
  · obtain ⟨a, u, N, k, rfl, _⟩ := h
    rfl
  · obtain ⟨a, u, N, n, rfl, m, hin, hlen, k⟩ := h
    have hu := oI hr
    have l16 := a6
    obtain ⟨kvs, k1, k2, k3⟩ := m.ex
    refine ⟨_, (DT (DU (DY Ae Bw Bx fR aJ (DS (@fP _ _ _ _ _ _ _ (["_law_sign", "_law_names_here"]) (["_law_sign"]) ([0]) _ _ _ _ (@e8 _ _ _ _ _ _ rfl (by kernel_rfl)) rfl (@e9 _ _ _ _ (pv 1)) (fun _ _ _ _ => DZ (0) (show (["_law_sign", "_law_names_here"] : List Str).Nodup from by decide +kernel) rfl (Or.inl rfl) (by first | exact .inl rfl | exact .inr rfl | assumption)) (fun _ _ _ _ => dR) (fun _ _ _ _ => by (exact (DM hu (pv 1) (pv 0) (fun _ _ => rfl)))) (by intro _ ;rfl)) af (by rfl)) (by rfl) (by rfl) (by rfl) (by rfl) (by rfl)))), ?_⟩
    refine ⟨rfl, _, rfl, _, rfl, ?_⟩
    refine dm (own := ["_law_sign"]) (cap := [0]) (J := Its (toS u)) u.length (fun i ys σ H' => H'=H ∧ ys=cx ((u.map (nm N)).take i) ∧ ∃ v, σ = [v, some (.ref a)]) ⟨rfl, rfl, none, rfl⟩ (fun i ys σ H' hi ⟨_, e, _⟩ => ?_) (by omega) (fun i ys σ H' hi _ => ?_) (fun ys σ H' _ => ?_) ?_ ?_
    · rw [e, a7, zy];omega
    · show i < (toS u).cps.size;rw [ba];exact hi
    · show _=(toS u).cps.size;rw [ba]
    · rintro i ys σ H1 x H2 M hi ⟨rfl, rfl, v, rfl⟩ ⟨rfl, c, hc, rfl⟩ hN
      obtain ⟨y, hy, e⟩ := b_ hc
      rw [e]
      have hb : (u.map (nm N))[i]? = some (nm N y) := by rw [zW, hy];rfl
      have g := qd.k (k := Sum.inr (toS [y])) k1
      rw [k3 y (hin y (An hy))] at g
      exact ⟨_, rfl, _, rfl, a, _, rfl, g, hN _ _ _ ⟨rfl, by rw [bM hb, ← cj], _, rfl⟩⟩
    · rintro ys σ H1 l ⟨rfl, rfl, v, rfl⟩ hl
      rw [Am (by rw [zu];exact zA _)]
      refine ⟨_, l, (u.map (nm N)).map fun x => toS [x], rfl, rfl, SqL.of (by rw [ah, dW]), c8 _ (by rw [zu];omega), ?_⟩
      rw [c7]
      exact k _ (aA.new hl)
end
end Kx
namespace Kx
open PySem PySem.Spec PyProof.Rows L2 Wd
section
variable {P : Program} {w : World} {K : PySem.W.Frag} {mg : Str → Option Value} {base : Heap} {aB : Addr}
abbrev n_ : Stmt := top 39
theorem tX : aC ["_law_feed_here", "_law_way_here", "_law_at"] ["_law_feed_here", "_law_way_here"] (ak n_) := ⟨rfl, rfl, rfl, by decide +kernel, rfl, by decide +kernel, by decide +kernel⟩
theorem wd (D : Df K mg "_law_turned" n_)(T : Bt K w mg aB)(F_draw : Fnc P w K mg base "_law_draw" ["_law_feed_here", "_law_many"] 1 dM)(F_lback : Fnc P w K mg base "_law_back" ["_law_word"] 1 lZ) : Fnc P w K mg base "_law_turned" ["_law_feed_here", "_law_way_here"] 2 gJ := by
  have sc := tX
  refine D.ok sc (fun _ _ _ _ _ _ us hl => by obtain ⟨_, _, rfl⟩ := sW hl;rfl) (fun vs H Q E h => ?_) (fun f cdv A outer s H vs Q E hr h => ?_)
  · obtain ⟨d, w1, rfl, _⟩ := h
    rfl
  · obtain ⟨d, w1, rfl, F, ne, hl, k⟩ := h
    have l16 := a6
    have lp := Ai.mpr ne
    have hll : (toS w1).length≤sizeLine := by rw [ae];omega
    refine ⟨_, (DH (DP (2) sc.nd rfl (Or.inl rfl) (D4 F_draw hr (by decide) rfl (DS (pv 0) (DS (DR av (by rfl) T.len zX (DS (pv 1) af (by rfl)) (by decide) (by decide) (by rfl) (by rfl)) af (by rfl)) (by rfl)) (by decide) (by rfl) (by rfl)) (by rfl) (by first | exact .inl rfl | exact .inr rfl | assumption)) (DH (DP (1) sc.nd rfl (Or.inl rfl) (DK aP (DV br (pv 1) (DW (pv 2)) aT) (DV br (pv 1) aT (DW (pv 2)))) (by rfl) (by first | exact .inl rfl | exact .inr rfl | assumption)) (DT (DU (DQ bI (DX (DS (pv 1) (DS (D4 F_lback hr (by decide) rfl (DS (pv 1) af (by rfl)) (by decide) (by rfl) (by rfl)) af (by rfl)) (by rfl))) (D4 F_draw hr (by decide) rfl (DS (pv 0) (DS ai af (by rfl)) (by rfl)) (by decide) (by rfl) (by rfl)) (fun _ _ => rfl)))))), ?_⟩
    refine ⟨_, rfl, _, rfl, _, rfl, hll, d, _, rfl, F, by rw [ae];omega, by rw [ae];omega, fun y H1 y0 y1 F1 sb1 => ?_⟩
    rw [ae] at y1
    have c1 : Txt.slice (toS w1) (some y) none=toS (w1.drop y.toNat) := by rw [aF, c6 _ y0]
    have c2 : Txt.slice (toS w1) none (some y)=toS (w1.take y.toNat) := by rw [aF, cf _ y0]
    refine ⟨_, rfl, _, rfl, _, rfl, _, rfl, hll, ?_⟩
    rw [c1]
    refine ⟨_, rfl, _, rfl, _, rfl, _, rfl, hll, ?_⟩
    rw [c2]
    refine ⟨_, _, rfl, rfl, (by rw [ae, ae, As, zy];omega), ?_⟩
    rw [bU, show w1.drop y.toNat++w1.take y.toNat=rot w1 y.toNat from rfl]
    have rl := cS w1 y.toNat
    refine ⟨_, rfl, _, rfl, rot w1 y.toNat, rfl, by omega, fun H2 s2 => ⟨(bT (n := 2) (by decide)), fun p hp => ?_⟩⟩
    have s3 := s2.then (o := .lst [tx (rot w1 y.toNat), tx (bk (rot w1 y.toNat))]) hp
    have F3 := F1.same s3
    have hpd := (F1.same s2).ne hp
    refine ⟨_, rfl, d, _, rfl, F3, by decide, by decide, fun b H4 b0 b1 F4 sb4 => ?_⟩
    have g4 := sb4 _ _ hpd (ah (o := .lst [tx (rot w1 y.toNat), tx (bk (rot w1 y.toNat))]))
    have sb04 : bj d H H4 := (sb1.trans s3.b).trans sb4
    have : b=0 ∨ b=1 := by omega
    rcases this with rfl | rfl
    · exact ⟨p, _, _, _, rfl, rfl, SqL.of g4, cL (j := 0) rfl, k _ _ ⟨y.toNat, by omega, .inl rfl⟩ F4 sb04⟩
    · exact ⟨p, _, _, _, rfl, rfl, SqL.of g4, cL (j := 1) rfl, k _ _ ⟨y.toNat, by omega, .inr rfl⟩ F4 sb04⟩
end
end Kx
namespace Kx
open PySem PySem.Spec PyProof.Rows L2 Wd
inductive oa (K : PySem.W.Frag)(vs : List V)(H : Hp)(Q : VK)(u3_ : XK) : Prop
  | mk : ∀ (a : Addr) (ns : List Int), (vs=[.ref a]) → (SqL K H a (ns.map V.int)) → (ns.length≤63) → (∀ H', Q (.bl true) H') → oa K vs H Q u3_
section
variable {P : Program} {w : World} {K : PySem.W.Frag} {mg : Str → Option Value} {base : Heap} {aB : Addr}
theorem we {n : Nat}{u v : List L}{f : L → L}{k : Bool}(U : SK u n)(T : Tl u v f k){w z : List L}(A : GR n 8 w)(B : GR n 8 z) : cN v (w.map f) (z.map f)=cN u w z := by
  have a := A.2.1
  have b := B.2.1
  unfold cN
  rw [sR U T A.wo A.wo (by omega) (by omega), sR U T A.wo B.wo (by omega) (by omega), sR U T B.wo B.wo (by omega) (by omega)]
theorem tY {n : Nat}{u v : List L}{k : Bool}(U : SK u n)(T : Tl u v id k){w z : List L}(A : GR n 8 w)(B : GR n 8 z) : cN v w z=cN u w z := by
  have := we U T A B
  rwa [List.map_id, List.map_id] at this
abbrev ik : Stmt := top 40
theorem wg : aC ["_law_script", "_law_feed_here", "_law_k", "_law_many", "_law_surface_here", "_law_one", "_law_other", "_law_due", "_law_first", "_law_second", "_law_at", "_law_row", "_law_names_here", "_law_rows"] ["_law_script"] (ak ik) := ⟨rfl, rfl, rfl, by decide +kernel, rfl, by decide +kernel, by decide +kernel⟩
theorem yd {f : Addr}{fd : FuncData}(D : Fun K "law" "law" ik f fd)(T : Bt K w mg aB)(F_feed : Fnc P w K mg base "_law_feed" ["_law_script"] 1 (lY K))(F_draw : Fnc P w K mg base "_law_draw" ["_law_feed_here", "_law_many"] 1 dM)(F_surf : Fnc P w K mg base "_law_surface" ["_law_feed_here", "_law_many"] 2 gI)(F_way : Fnc P w K mg base "_law_way" ["_law_feed_here", "_law_many", "_law_most"] 3 i5)(F_cnt : Fnc P w K mg base "_law_counts" ["_law_surface_here", "_law_one", "_law_other"] 7 i7)
    (F_turn : Fnc P w K mg base "_law_turned" ["_law_feed_here", "_law_way_here"] 2 gJ) (F_names : Fnc P w K mg base "_law_names" ["_law_feed_here", "_law_many"] 2 eP) (F_named : Fnc P w K mg base "_law_named" ["_law_names_here", "_law_word"] 1 iL) (F_glued : Fnc P w K mg base "glued" ["surface", "place", "other"] 2 nK) (F_red : Fnc P w K mg base "reduced" ["word"] 1 l7) : og P w K mg base CX0 9 f fd ["_law_script"] (oa K) := by
  have sc := wg
  refine D.ok sc (fun vs H Q E h => ?_) (fun cdv A outer s H vs Q E hr h => ?_)
  · obtain ⟨a, ns, rfl, _⟩ := h
    rfl
  · obtain ⟨a, ns, rfl, hS, hlen, q⟩ := h
    have l16 := a6
    refine ⟨_, (@ag _ _ _ _ _ (@au _ _ (1) _ _ _ _ sc.nd rfl (Or.inl rfl) (@ay _ _ _ _ _ _ _ _ _ _ _ F_feed hr (by decide) rfl (@aa _ _ _ _ _ (pv 0) af (by rfl)) (by decide) (by rfl) (by rfl)) (by rfl) (by first | exact .inl rfl | exact .inr rfl | assumption)) (@ag _ _ _ _ _ (@dC _ _ _ _ _ _ _ _ AH rfl (@cU _ _ _ _ _ _ rfl T.range (@aa _ _ _ _ _ ai af (by rfl)) (by rfl)) (@bf _ _ (2) _ sc.nd rfl (Or.inl rfl) (by first | exact .inl rfl | exact .inr rfl | assumption)) (@ag _ _ _ _ _ (@au _ _ (3) _ _ _ _ sc.nd rfl (Or.inl rfl) (@aD _ _ _ _ _ _ _ _ bw ai (@ay _ _ _ _ _ _ _ _ _ _ _ F_draw hr (by decide) rfl (@aa _ _ _ _ _ (pv 1) (@aa _ _ _ _ _ ai af (by rfl)) (by rfl)) (by decide) (by rfl) (by rfl))) (by rfl) (by first | exact .inl rfl | exact .inr rfl | assumption)) (@ag _ _ _ _ _ (@au _ _ (4) _ _ _ _ sc.nd rfl (Or.inl rfl) (@ay _ _ _ _ _ _ _ _ _ _ _ F_surf hr (by decide) rfl (@aa _ _ _ _ _ (pv 1) (@aa _ _ _ _ _ (pv 3) af (by rfl)) (by rfl)) (by decide) (by rfl) (by rfl)) (by rfl) (by first | exact .inl rfl | exact .inr rfl | assumption)) (@ag _ _ _ _ _ (@au _ _ (5) _ _ _ _ sc.nd rfl (Or.inl rfl) (@ay _ _ _ _ _ _ _ _ _ _ _ F_way hr (by decide) rfl (@aa _ _ _ _ _ (pv 1) (@aa _ _ _ _ _ (pv 3) (@aa _ _ _ _ _ ai af (by rfl)) (by rfl)) (by rfl)) (by decide) (by rfl) (by rfl)) (by rfl) (by first | exact .inl rfl | exact .inr rfl | assumption)) (@ag _ _ _ _ _ (@au _ _ (6) _ _ _ _ sc.nd rfl (Or.inl rfl) (@ay _ _ _ _ _ _ _ _ _ _ _ F_way hr (by decide) rfl (@aa _ _ _ _ _ (pv 1) (@aa _ _ _ _ _ (pv 3) (@aa _ _ _ _ _ ai af (by rfl)) (by rfl)) (by rfl)) (by decide) (by rfl) (by rfl)) (by rfl) (by first | exact .inl rfl | exact .inr rfl | assumption)) (@ag _ _ _ _ _ (@au _ _ (7) _ _ _ _ sc.nd rfl (Or.inr rfl) (@ay _ _ _ _ _ _ _ _ _ _ _ F_cnt hr (by decide) rfl (@aa _ _ _ _ _ (pv 4) (@aa _ _ _ _ _ (pv 5) (@aa _ _ _ _ _ (pv 6) af (by rfl)) (by rfl)) (by rfl)) (by decide) (by rfl) (by rfl)) (by rfl) (by first | exact .inl rfl | exact .inr rfl | assumption)) (@ag _ _ _ _ _ (@au _ _ (8) _ _ _ _ sc.nd rfl (Or.inr rfl) (@ay _ _ _ _ _ _ _ _ _ _ _ F_turn hr (by decide) rfl (@aa _ _ _ _ _ (pv 1) (@aa _ _ _ _ _ (pv 5) af (by rfl)) (by rfl)) (by decide) (by rfl) (by rfl)) (by rfl) (by first | exact .inl rfl | exact .inr rfl | assumption)) (@ag _ _ _ _ _ (@au _ _ (9) _ _ _ _ sc.nd rfl (Or.inr rfl) (@ay _ _ _ _ _ _ _ _ _ _ _ F_turn hr (by decide) rfl (@aa _ _ _ _ _ (pv 1) (@aa _ _ _ _ _ (pv 6) af (by rfl)) (by rfl)) (by decide) (by rfl) (by rfl)) (by rfl) (by first | exact .inl rfl | exact .inr rfl | assumption)) (@ag _ _ _ _ _ (@au _ _ (10) _ _ _ _ sc.nd rfl (Or.inl rfl) (@ay _ _ _ _ _ _ _ _ _ _ _ F_draw hr (by decide) rfl (@aa _ _ _ _ _ (pv 1) (@aa _ _ _ _ _ (@ax _ _ _ _ _ _ _ _ _ av (by rfl) T.len zX (@aa _ _ _ _ _ (pv 4) af (by rfl)) (by decide) (by decide) (by rfl) (by rfl)) af (by rfl)) (by rfl)) (by decide) (by rfl) (by rfl)) (by rfl) (by first | exact .inl rfl | exact .inr rfl | assumption)) (@ag _ _ _ _ _ (@au _ _ (11) _ _ _ _ sc.nd rfl (Or.inl rfl) (@aD _ _ _ _ _ _ _ _ aP (@aI _ _ _ _ _ _ _ _ _ _ br (pv 4) (@aO _ _ _ (pv 10)) aT) (@aI _ _ _ _ _ _ _ _ _ _ br (pv 4) aT (@aO _ _ _ (pv 10)))) (by rfl) (by first | exact .inl rfl | exact .inr rfl | assumption)) (@ag _ _ _ _ _ (@au _ _ (12) _ _ _ _ sc.nd rfl (Or.inl rfl) (@ay _ _ _ _ _ _ _ _ _ _ _ F_names hr (by decide) rfl (@aa _ _ _ _ _ (pv 1) (@aa _ _ _ _ _ (pv 3) af (by rfl)) (by rfl)) (by decide) (by rfl) (by rfl)) (by rfl) (by first | exact .inl rfl | exact .inr rfl | assumption)) (@ag _ _ _ _ _ (@au _ _ (13) _ _ _ _ sc.nd rfl (Or.inl rfl) (@bx _ _ _ _ (@aa _ _ _ _ _ (pv 4) (@aa _ _ _ _ _ (pv 11) (@aa _ _ _ _ _ (@rL _ _ _ _ _ _ _ (pv 11) (@gM _ _ _ _ _ _ dD ai)) (@aa _ _ _ _ _ (@ay _ _ _ _ _ _ _ _ _ _ _ F_glued hr (by decide) rfl (@aa _ _ _ _ _ (pv 4) (@aa _ _ _ _ _ (@ay _ _ _ _ _ _ _ _ _ _ _ F_draw hr (by decide) rfl (@aa _ _ _ _ _ (pv 1) (@aa _ _ _ _ _ (@aD _ _ _ _ _ _ _ _ bw (@aD _ _ _ _ _ _ _ _ cX ai (pv 3)) ai) af (by rfl)) (by rfl)) (by decide) (by rfl) (by rfl)) (@aa _ _ _ _ _ (@ay _ _ _ _ _ _ _ _ _ _ _ F_draw hr (by decide) rfl (@aa _ _ _ _ _ (pv 1) (@aa _ _ _ _ _ (@aD _ _ _ _ _ _ _ _ bw (@aD _ _ _ _ _ _ _ _ cX ai (pv 3)) ai) af (by rfl)) (by rfl)) (by decide) (by rfl) (by rfl)) af (by rfl)) (by rfl)) (by rfl)) (by decide) (by rfl) (by rfl)) af (by rfl)) (by rfl)) (by rfl)) (by rfl))) (by rfl) (by first | exact .inl rfl | exact .inr rfl | assumption)) (@ag _ _ _ _ _ (@bX _ _ _ _ _ _ _ _ (@aL _ _ _ _ _ _ _ _ (@l9 _ (by exact hr.units)) (@fP _ _ _ _ _ _ _ (["_law_one_row", "_law_due", "_law_first", "_law_second"]) (["_law_one_row"]) ([7, 8, 9]) _ _ _ _ (@e8 _ _ _ _ _ _ rfl (by kernel_rfl)) rfl (@qR _ _ _ _ (pv 13)) (fun _ _ _ _ => @bf _ _ (0) _ (show (["_law_one_row", "_law_due", "_law_first", "_law_second"] : List Str).Nodup from by decide +kernel) rfl (Or.inl rfl) (by first | exact .inl rfl | exact .inr rfl | assumption)) (fun _ _ _ _ => (@jo _ _ _ (by exact (@aL _ _ _ _ _ _ _ _ (@c_ _ (by exact hr.units)) (@ay _ _ _ _ _ _ _ _ _ _ _ F_cnt hr (by decide) rfl (@aa _ _ _ _ _ (pv 0) (@aa _ _ _ _ _ (pv 2) (@aa _ _ _ _ _ (pv 3) af (by rfl)) (by rfl)) (by rfl)) (by decide) (by rfl) (by rfl)) (pv 1) (aR _))))) (fun _ _ _ _ => by (exact (pv 0))) (by intro _ ;rfl)) (@bx _ _ _ _ af) (aR _)) (@aj _ _ _ (@aH _ _ _ _ jV)) bb) (@ag _ _ _ _ _ (@bX _ _ _ _ _ _ _ _ (@aL _ _ _ _ _ _ _ _ (@c_ _ (by exact hr.units)) (@ay _ _ _ _ _ _ _ _ _ _ _ F_cnt hr (by decide) rfl (@aa _ _ _ _ _ (@ay _ _ _ _ _ _ _ _ _ _ _ F_named hr (by decide) rfl (@aa _ _ _ _ _ (pv 12) (@aa _ _ _ _ _ (pv 11) af (by rfl)) (by rfl)) (by decide) (by rfl) (by rfl)) (@aa _ _ _ _ _ (@ay _ _ _ _ _ _ _ _ _ _ _ F_named hr (by decide) rfl (@aa _ _ _ _ _ (pv 12) (@aa _ _ _ _ _ (pv 8) af (by rfl)) (by rfl)) (by decide) (by rfl) (by rfl)) (@aa _ _ _ _ _ (@ay _ _ _ _ _ _ _ _ _ _ _ F_named hr (by decide) rfl (@aa _ _ _ _ _ (pv 12) (@aa _ _ _ _ _ (pv 9) af (by rfl)) (by rfl)) (by decide) (by rfl) (by rfl)) af (by rfl)) (by rfl)) (by rfl)) (by decide) (by rfl) (by rfl)) (pv 7) (aR _)) (@aj _ _ _ (@aH _ _ _ _ jV)) bb) (@ag _ _ _ _ _ (@bX _ _ _ _ _ _ _ _ (@PW.pt _ _ _ (@wB _ _ _ _ _ _ _ (@aL _ _ _ _ _ _ _ _ (@c_ _ (by exact hr.units)) (@ay _ _ _ _ _ _ _ _ _ _ _ F_cnt hr (by decide) rfl (@aa _ _ _ _ _ (pv 4) (@aa _ _ _ _ _ (pv 9) (@aa _ _ _ _ _ (pv 8) af (by rfl)) (by rfl)) (by rfl)) (by decide) (by rfl) (by rfl)) (@sN _ _ _ _ _ _ _ (pv 7) (@gM _ _ _ _ _ _ dD ai)) (aR _)) (@uk _ _ _ _ (@aL _ _ _ _ _ _ _ _ uB (@ay _ _ _ _ _ _ _ _ _ _ _ F_red hr (by decide) rfl (@aa _ _ _ _ _ (pv 5) af (by rfl)) (by decide) (by rfl) (by rfl)) (pv 5) (aR _))))) (@aj _ _ _ (@aH _ _ _ _ jV)) bb) (@aj _ _ _ (@bX _ _ _ _ _ _ _ _ (@aL _ _ _ _ _ _ _ _ (@c_ _ (by exact hr.units)) (@ay _ _ _ _ _ _ _ _ _ _ _ F_cnt hr (by decide) rfl (@aa _ _ _ _ _ (pv 4) (@aa _ _ _ _ _ (pv 5) (@aa _ _ _ _ _ (pv 8) af (by rfl)) (by rfl)) (by rfl)) (by decide) (by rfl) (by rfl)) (@bx _ _ _ _ (@aa _ _ _ _ _ (@aW _ _ _ _ _ _ _ bI (pv 7) ai (fun _ _ => rfl)) (@aa _ _ _ _ _ (@aD _ _ _ _ _ _ _ _ cX ai (@aW _ _ _ _ _ _ _ bI (pv 7) ai (fun _ _ => rfl))) (@aa _ _ _ _ _ (@aW _ _ _ _ _ _ _ bI (pv 7) ai (fun _ _ => rfl)) af (by rfl)) (by rfl)) (by rfl))) (aR _)) (@aj _ _ _ (@aH _ _ _ _ jV)) bb)))))))))))))))) (by intro _ ;rfl)) (@aj _ _ _ (@aH _ _ _ _ jV)))), ?_⟩
    refine ⟨_, rfl, a, ns, rfl, hS, hlen, fun d H1 _ F1 _ => ?_⟩
    refine ⟨_, rfl, by decide, by decide, d6 (lo := 0) (n := 3) (fun i σ H' => ∃ (b2 b3 b4 b5 b6 b7 b8 b9 b10 b11 b12 b13 : Option V), σ = [some (.ref a), some (.ref d), b2, b3, b4, b5, b6, b7, b8, b9, b10, b11, b12, b13] ∧ Fd H' d) ⟨none, none, none, none, none, none, none, none, none, none, none, none, rfl, F1⟩ ?_ ?_⟩
    · rintro i σ H1 hi ⟨b2, b3, b4, b5, b6, b7, b8, b9, b10, b11, b12, b13, rfl, F1⟩
      refine ⟨_, rfl, d, _, rfl, F1, by decide, by decide, fun r H2 r0 r1 F2 _ => ?_⟩
      refine ⟨_, _, rfl, rfl, ?_⟩
      obtain ⟨n, en, n1, n4⟩ : ∃ n : Nat, (1 : Int)+r=(n : Int) ∧ 1≤n ∧ n≤4 := ⟨(1+r).toNat, by omega, by omega, by omega⟩
      rw [en]
      refine ⟨_, rfl, _, rfl, d, n, rfl, F2, n1, by omega, fun u H3 U F3 _ => ?_⟩
      have hul := U.len
      have hll : (toS u).length≤sizeLine := by rw [ae];omega
      refine ⟨_, rfl, _, rfl, d, n, rfl, F3, n1, by omega, fun w1 H4 g1 F4 _ => ?_⟩
      refine ⟨_, rfl, _, rfl, d, n, rfl, F4, n1, by omega, fun w2 H5 g2 F5 _ => ?_⟩
      refine ⟨_, rfl, _, rfl, _, rfl, u, w1, w2, n, rfl, U, g1, g2, fun l6 H6 nl6 s6 f6 => ?_⟩
      have F6 := F5.same s6
      have hld : l6≠d := F5.ne nl6
      refine ⟨_, rfl, _, rfl, d, w1, rfl, F6, g1.1.ne, by have := g1.2.1;omega, fun v1 H7 t1 F7 sb7 => ?_⟩
      refine ⟨_, rfl, _, rfl, d, w2, rfl, F7, g2.1.ne, by have := g2.2.1;omega, fun v2 H8 t2 F8 sb8 => ?_⟩
      have f8 := sb8 _ _ hld (sb7 _ _ hld f6)
      have e1 := g1.tu t1
      have e2 := g2.tu t2
      refine ⟨_, rfl, _, rfl, _, rfl, hll, d, _, rfl, F8, by rw [ae];omega, by rw [ae];omega, fun y H9 y0 y1 F9 sb9 => ?_⟩
      rw [ae] at y1
      have c1 : Txt.slice (toS u) (some y) none=toS (u.drop y.toNat) := by rw [aF, c6 _ y0]
      have c2 : Txt.slice (toS u) none (some y)=toS (u.take y.toNat) := by rw [aF, cf _ y0]
      refine ⟨_, rfl, _, rfl, _, rfl, _, rfl, hll, ?_⟩
      rw [c1]
      refine ⟨_, rfl, _, rfl, _, rfl, _, rfl, hll, ?_⟩
      rw [c2]
      refine ⟨_, _, rfl, rfl, (by rw [ae, ae, As, zy];omega), ?_⟩
      rw [bU, show u.drop y.toNat++u.take y.toNat=rot u y.toNat from rfl]
      refine ⟨_, rfl, _, rfl, d, n, rfl, F9, n1, by omega, fun aN HA N nA hN mA FA sbA => ?_⟩
      have hNd : aN≠d := F9.ne nA
      have fA := sbA _ _ hld (sb9 _ _ hld f8)
      have UR := U.rot y.toNat
      have lR := cS u y.toNat
      have hlR : (toS (rot u y.toNat)).length≤sizeLine := by rw [ae];omega
      have cm : uz 2 (n : Int) := .inl ⟨by decide, by decide⟩
      refine ⟨_, rfl, _, rfl, _, rfl, _, rfl, toS (rot u y.toNat), rfl, rfl, hlR, ?_⟩
      rw [oS]
      refine ⟨_, rfl, _, rfl, _, rfl, _, _, rfl, rfl, cm, _, _, rfl, rfl, ?_⟩
      refine ⟨d, _, rfl, FA, by omega, by omega, fun p HB p0 p1 FB sbB => ?_⟩
      refine ⟨_, rfl, _, rfl, _, _, rfl, rfl, cm, _, _, rfl, rfl, ?_⟩
      refine ⟨d, _, rfl, FB, by omega, by omega, fun q2 HC q0 q1 FC sbC => ?_⟩
      refine ⟨u, n, p, q2, rfl, U, by omega, p0, by omega, q0, by omega, fun HD sD => ?_⟩
      obtain ⟨UG, OG⟩ := vH U (show n < 6 by omega) (p := p.toNat) (q := q2.toNat) (by omega) (by omega)
      have FD := FC.same sD
      have fD := sD _ _ (sbC _ _ hld (sbB _ _ hld fA))
      have mD : kr HD aN N n := ((mA.at_ fun o e => sbB _ _ hNd e).at_ fun o e => sbC _ _ hNd e).same sD
      refine ⟨(bT (n := 4) (by decide)), fun lL hL => ?_⟩
      have sE : aA HD (upd HD lL (.lst ([u, rot u y.toNat, (rot u y.toNat).reverse, glu u n p.toNat q2.toNat].map tx))) := aA.new hL
      have fL : (upd HD lL (.lst ([u, rot u y.toNat, (rot u y.toNat).reverse, glu u n p.toNat q2.toNat].map tx))) lL=some (.lst ([u, rot u y.toNat, (rot u y.toNat).reverse, glu u n p.toNat q2.toNat].map tx)) := ah
      change fw (kF 13) _ _ _ (upd HD lL (.lst ([u, rot u y.toNat, (rot u y.toNat).reverse, glu u n p.toNat q2.toNat].map tx)))
      generalize upd HD lL (.lst ([u, rot u y.toNat, (rot u y.toNat).reverse, glu u n p.toNat q2.toNat].map tx))=HE at sE fL ⊢
      have FE := FD.same sE
      have fE := sE _ _ fD
      have mE := mD.same sE
      have cb : cN u v1 v2=cN u w1 w2 := by
        unfold cN
        rw [t1.nn2 U g1.wo g1.wo t1, t1.nn2 U g1.wo g2.wo t2, t2.nn2 U g2.wo g2.wo t2]
      have k1 : cN (rot u y.toNat) v1 v2=cN u v1 v2 := tY U (vx U.srf.nd (by omega)) e1 e2
      have k2 : cN (rot u y.toNat).reverse v1 v2=cN u v1 v2 := (tY UR (vy UR.srf.nd) e1 e2).trans k1
      have k3 : cN (glu u n p.toNat q2.toNat) v1 v2=cN u v1 v2 := tY U (xN OG) e1 e2
      have up : ∀ {z : List L}, GR n 8 z → GR (n+1) 8 z := fun h => ⟨h.1, h.2.1, fun x hx => B6 (h.2.2 x hx)⟩
      have rows : ∀ x∈[u, rot u y.toNat, (rot u y.toNat).reverse, glu u n p.toNat q2.toNat], ∃ n', SK x n' ∧ GR n' 8 v1 ∧ GR n' 8 v2 ∧ cN x v1 v2=cN u w1 w2 := fun x hx => by
        simp only [zN, zZ, A6] at hx
        rcases hx with rfl | rfl | rfl | rfl
        · exact ⟨n, U, e1, e2, cb⟩
        · exact ⟨n, UR, e1, e2, k1.trans cb⟩
        · exact ⟨n, UR.rev, e1, e2, k2.trans cb⟩
        · exact ⟨n+1, UG, up e1, up e2, k3.trans cb⟩
      have hRl : ([u, rot u y.toNat, (rot u y.toNat).reverse, glu u n p.toNat q2.toNat] : List (List L)).length≤4 := zA _
      generalize [u, rot u y.toNat, (rot u y.toNat).reverse, glu u n p.toNat q2.toNat]=R at rows fL hRl
      refine ⟨_, rfl, lL, rfl, ⟨_, SqL.of fL⟩, ?_⟩
      have cR : R.length≤4 := hRl
      refine l_ (xs := R.map tx) (own := ["_law_one_row"]) (cap := [7, 8, 9]) (fun i ys σ H' => ys=[] ∧ (∃ (b : Option V), σ = [b, some (.ref l6), some (tx v1), some (tx v2)]) ∧ aA HE H') ⟨rfl, ⟨none, rfl⟩, aA.refl _⟩ (fun i ys σ H' hi ⟨e, _⟩ => by rw [e];exact Ao _) (by rw [zu];omega) (fun i ys σ H' ⟨_, _, q⟩ => SqL.of (q _ _ fL)) ?_ ?_
      · rintro j ys σ HF x M hx ⟨rfl, ⟨b, rfl⟩, sF⟩ hM
        obtain ⟨v, hv, rfl⟩ : ∃ v, v∈R ∧ x=tx v := by
          obtain ⟨v, hv, e⟩ := Ak.mp (An hx)
          exact ⟨v, hv, e.symm⟩
        obtain ⟨n', U', a1, a2, a3⟩ := rows v hv
        refine ⟨_, rfl, _, rfl, _, rfl, v, v1, v2, n', rfl, U', a1, a2, fun lG HG nG sG fG => ?_⟩
        rw [a3] at fG
        exact ⟨_, rfl, gH fG (sG _ _ (sF _ _ fE)) ⟨_, rfl, qh (hM _ _ _ ⟨rfl, ⟨_, rfl⟩, sF.trans sG⟩)⟩⟩
      rintro ys σ HF pF ⟨rfl, ⟨b, rfl⟩, sF⟩ hpF
      have sF2 : aA HE (upd HF pF (.lst [])) := sF.then hpF
      have fF : (upd HF pF (.lst [])) pF=some (.lst []) := ah
      generalize upd HF pF (.lst [])=HG at sF2 fF ⊢
      refine ⟨(bT (n := 0) (by decide)), fun pG hpG => ⟨pF, pG, _, rfl, rfl, aA.new hpG _ _ fF, ah, _, rfl, ku ?_⟩⟩
      have sG := sF2.then (o := .lst []) hpG
      generalize upd HG pG (.lst [])=HH at sG ⊢
      have fH := sG _ _ fE
      have mH := mE.same sG
      have FH := FE.same sG
      have inR : ∀ x∈rot u y.toNat, x.val % 6 < n := fun x hx => (UR.mem x).mp hx
      refine ⟨_, rfl, _, rfl, aN, rot u y.toNat, N, n, rfl, mH, inR, by omega, fun HI sI => ?_⟩
      refine ⟨_, rfl, _, rfl, aN, v1, N, n, rfl, mH.same sI, e1.2.2, by have := e1.2.1;omega, fun HJ sJ => ?_⟩
      refine ⟨_, rfl, _, rfl, aN, v2, N, n, rfl, (mH.same sI).same sJ, e2.2.2, by have := e2.2.1;omega, fun HK sK => ?_⟩
      have sHK := (sI.trans sJ).trans sK
      have RN := hN.ren (u := rot u y.toNat) inR
      refine ⟨_, _, _, n, rfl, SK.nm UR hN, e1.nm UR hN, e2.nm UR hN, fun lM HM nM sM fM => ?_⟩
      rw [we UR (vz RN UR.srf.nd) e1 e2, k1, cb] at fM
      have sHM := sHK.trans sM
      refine ⟨_, rfl, gH fM (sHM _ _ fH) ⟨_, rfl, ku ?_⟩⟩
      have fM' := sHM _ _ fH
      refine ⟨_, rfl, _, rfl, _, rfl, u, v2, v1, n, rfl, U, e2, e1, fun lO HO' nO sO fO => ?_⟩
      have fO' := sO _ _ fM'
      refine ⟨_, rfl, _, rfl, l6, _, _, _, rfl, rfl, fO', fun pP hpP => ?_⟩
      have rv : cN u v2 v1=[((NN u w2 w2 / 2 : Nat) : Int), ((NN u w1 w2 : Nat) : Int), ((NN u w1 w1 / 2 : Nat) : Int)] := by
        unfold cN
        rw [t2.nn2 U g2.wo g2.wo t2, t2.nn2 U g2.wo g1.wo t1, t1.nn2 U g1.wo g1.wo t1, jR U g2.wo g1.wo]
      rw [rv] at fO
      have sP : aA HO' (upd HO' pP (.lst [V.int ((NN u w2 w2 / 2 : Nat) : Int), V.int ((NN u w1 w2 : Nat) : Int), V.int ((NN u w1 w1 / 2 : Nat) : Int)])) := aA.new hpP
      refine gH (sP _ _ fO) ah ⟨_, rfl, y7 ?_⟩
      have fQ := sP _ _ fO'
      have sHP := (sHM.trans sO).trans sP
      refine ⟨_, rfl, w1, rfl, by have := g1.2.1;omega, fun HQ sQ => ⟨_, rfl, rfl, _, rfl, ?_⟩⟩
      have rd1 : red w1=w1 := mQ g1.1.rd
      rw [rd1]
      refine (zR (fun b => cK _ _ _ _ b _) (show (!decide (tx w1=tx w1))=false by rw [zH rfl];rfl)).mpr (ku ?_)
      have fQ' := sQ _ _ fQ
      refine ⟨_, rfl, _, rfl, _, rfl, u, w1, v1, n, rfl, U, g1, e1, fun lS HS nS sS fS => ?_⟩
      have fS' := sS _ _ fQ'
      have a0 : atI ((cN u w1 w2).map V.int) 0=some (V.int ((NN u w1 w1 / 2 : Nat) : Int)) := cL (j := 0) rfl
      refine ⟨_, rfl, l6, _, _, _, rfl, rfl, SqL.of fS', a0, _, rfl, l6, _, _, _, rfl, rfl, SqL.of fS', a0, _, _, rfl, rfl, .inl ⟨by decide, by decide⟩, _, rfl, l6, _, _, _, rfl, rfl, SqL.of fS', a0, (bT (n := 3) (by decide)), fun pT hpT => ?_⟩
      have ev := sT U g1.wo
      have ls : cN u w1 v1=[((NN u w1 w1 / 2 : Nat) : Int), 2*((NN u w1 w1 / 2 : Nat) : Int), ((NN u w1 w1 / 2 : Nat) : Int)] := by
        unfold cN
        rw [jR U g1.wo e1.wo, t1.nn U g1.wo g1.wo, t1.nn2 U g1.wo g1.wo t1, show ((NN u w1 w1 : Nat) : Int)=2*((NN u w1 w1 / 2 : Nat) : Int) by omega]
      rw [ls] at fS
      refine gH (aA.new hpT _ _ fS) ah ⟨_, rfl, ku ?_⟩
      exact ⟨_, _, _, _, _, _, _, _, _, _, _, _, rfl, (((FH.same sHP).same sQ).same sS).new hpT⟩
    · rintro σ H1 ⟨b2, b3, b4, b5, b6, b7, b8, b9, b10, b11, b12, b13, rfl, F1⟩
      exact q _
end
end Kx
namespace Kx
open PySem PySem.Spec PyProof.Rows L2 Wd
theorem ye {K : PySem.W.Frag}{h : Heap}{mg : Str → Option Value}{x : Str}{st : Stmt}{f : Addr}{oc : Value}{od an : Option Addr}{osl : Array (Option Value)}{kV doc pm cdv ct : Value}(X : K.In h)(G : h.Ns mainGlobals mg)(a : PySem.W.nsIn K mainGlobals x=some (some (.ref f)))
    (l : K.lookup f=some ⟨oc, od, .func (PySem.W.fnOf x x (bJ st) (bz st) (ak st) .none kV doc pm an cdv ct), osl⟩) (c : PySem.W.codeIn K cdv x=true) (k : PySem.W.keepIn K (.ref f)=true) : Df K mg x st := ⟨f, _, BP X G a, qg l c k⟩
inductive DI (K : PySem.W.Frag)(x : Str)(st : Stmt) : Prop
  | mk {f : Addr} {oc : Value} {od an : Option Addr} {osl : Array (Option Value)} {kV doc pm cdv ct : Value} (a : PySem.W.nsIn K mainGlobals x=some (some (.ref f))) (l : K.lookup f=some ⟨oc, od, .func (PySem.W.fnOf x x (bJ st) (bz st) (ak st) .none kV doc pm an cdv ct), osl⟩) (c : PySem.W.codeIn K cdv x=true) (k : PySem.W.keepIn K (.ref f)=true) : DI K x st
theorem DI.df {K : PySem.W.Frag}{h : Heap}{mg : Str → Option Value}{x : Str}{st : Stmt}(d : DI K x st)(X : K.In h)(G : h.Ns mainGlobals mg) : Df K mg x st := by
  cases d with
  | mk a l c k => exact ye X G a l c k
inductive DL where
  | n
  | c (x : Str) (st : Stmt) (r : DL)
def DIs (K : PySem.W.Frag) : DL → Prop
  | .n => True
  | .c x st r => DI K x st ∧ DIs K r
theorem DIs.on {K : PySem.W.Frag}{x : Str}{st : Stmt}{r : DL}{f : Addr}{oc : Value}{od an : Option Addr}{osl : Array (Option Value)}{kV doc pm cdv ct : Value}(a : PySem.W.nsIn K mainGlobals x=some (some (.ref f)))(l : K.lookup f=some ⟨oc, od, .func (PySem.W.fnOf x x (bJ st) (bz st) (ak st) .none kV doc pm an cdv ct), osl⟩)(c : PySem.W.codeIn K cdv x=true)(k : PySem.W.keepIn K (.ref f)=true)(hr : DIs K r) : DIs K (.c x st r) := ⟨.mk a l c k, hr⟩
theorem wj {l : PySem.W.OpenLaw}{w : World}{K : PySem.W.Frag}{h : Heap}{mg : Str → Option Value}{fa : Addr}(X : K.In h)(G : h.Ns mainGlobals mg)(hfa : mg "law" = some (.ref fa))
    {f27 : Addr} {od27 an27 : Option Addr} {sl27 : Array (Option Value)} {oc27 kV27 dc27 pm27 cd27 ct27 : Value} {aB : Addr} {es : Array DictEntry} {en : Nat} {tS : Tok}  {tE : Tok} {t0 t1 t2 t3 t4 t5 t6 t7 t8 t9 t10 t11 : Tok}
    (hs : DIs K (.c "back" nR <| .c "reduced" s_ <| .c "met" nU <| .c "round_from" xQ <| .c "are_met_by_turns" tG <| .c "links" i9 <| .c "links_at" tI <| .c "beside_at" tH <| .c "chord_ends" xT <| .c "along_at" tB <| .c "against_at" tD <| .c "stretch" tq <| .c "is_parted" nV <| .c "is_first" tp <| .c "glued" i_ <| .c "put_in" tL <| .c "_law_feed" nQ <| .c "_law_draw" nP <| .c "_law_back" i8 <| .c "_law_reduced" nT <| .c "_law_some" nX <| .c "_law_surface" n8 <| .c "_law_way" tP <| .c "_law_counts" tQ <| .c "_law_names" ja <| .c "_law_named" jb <| .c "_law_turned" n_ <| .n))
    (a27 : PySem.W.nsIn K mainGlobals "law" = some (some (.ref f27)))
    (l27 : K.lookup f27=some ⟨oc27, od27, .func (PySem.W.fnOf "law" "law" (bJ ik) (bz ik) (ak ik) .none kV27 dc27 pm27 an27 cd27 ct27), sl27⟩)
    (c27 : PySem.W.codeIn K cd27 "law" = true)
    (k27 : PySem.W.keepIn K (.ref f27)=true)
    (z_len : PySem.W.nsIn K mainGlobals "len" = some none)
    (z_repr : PySem.W.nsIn K mainGlobals "repr" = some none)
    (z_abs : PySem.W.nsIn K mainGlobals "abs" = some none)
    (z_max : PySem.W.nsIn K mainGlobals "max" = some none)
    (z_int : PySem.W.nsIn K mainGlobals "int" = some none)
    (z_list : PySem.W.nsIn K mainGlobals "list" = some none)
    (z_range : PySem.W.nsIn K mainGlobals "range" = some none)
    (z_reversed : PySem.W.nsIn K mainGlobals "reversed" = some none)
    (z_min : PySem.W.nsIn K mainGlobals "min" = some none)
    (z_sorted : PySem.W.nsIn K mainGlobals "sorted" = some none)
    (z_tuple : PySem.W.nsIn K mainGlobals "tuple" = some none)
    (z_isinstance : PySem.W.nsIn K mainGlobals "isinstance" = some none)
    (z_all : PySem.W.nsIn K mainGlobals "all" = some none)
    (z_str : PySem.W.nsIn K mainGlobals "str" = some none)
    (z_zip : PySem.W.nsIn K mainGlobals "zip" = some none)
    (aBk : PySem.W.nsIn K mainGlobals "BACKS" = some (some (.ref aB)))
    (lB : K.lookup aB=some ⟨.type "dict", none, .dict es en, #[]⟩)
    (kB : PySem.W.KeysLit w.params es.toList)
    (aS : PySem.W.nsIn K mainGlobals "SMALL" = some (some (.str "abcdef" tS)))
    (zS : PySem.W.nsIn K mainGlobals "set" = some none)
    (aE : PySem.W.nsIn K mainGlobals "MOST_ENDS" = some (some (.int 12 tE)))
    (gl0 : PySem.W.nsIn K aB "a" = some (some (.str "A" t0)))
    (gl1 : PySem.W.nsIn K aB "b" = some (some (.str "B" t1)))
    (gl2 : PySem.W.nsIn K aB "c" = some (some (.str "C" t2)))
    (gl3 : PySem.W.nsIn K aB "d" = some (some (.str "D" t3)))
    (gl4 : PySem.W.nsIn K aB "e" = some (some (.str "E" t4)))
    (gl5 : PySem.W.nsIn K aB "f" = some (some (.str "F" t5)))
    (gl6 : PySem.W.nsIn K aB "A" = some (some (.str "a" t6)))
    (gl7 : PySem.W.nsIn K aB "B" = some (some (.str "b" t7)))
    (gl8 : PySem.W.nsIn K aB "C" = some (some (.str "c" t8)))
    (gl9 : PySem.W.nsIn K aB "D" = some (some (.str "d" t9)))
    (gl10 : PySem.W.nsIn K aB "E" = some (some (.str "e" t10)))
    (gl11 : PySem.W.nsIn K aB "F" = some (some (.str "f" t11))) :
    ∃ fd : FuncData, (∀ (s : Shared) (v : Value), BindsTo s fd ⟨[v], []⟩ [("_law_script", v)]) ∧ ∀ base : Heap, K.In base → base.Ns mainGlobals mg → og l.prog w K mg base CX0 9 fa fd ["_law_script"] (oa K) := by
  have e := hfa.symm.trans (BP X G a27)
  cases e
  have gB : ∀ x : L, ∃ t, PySem.W.nsIn K aB (toS [x])=some (some (.str (toS [inv x]) t)) := by
    have q : ∀ (x : L) (u v : Str) (t : Tok), PySem.W.nsIn K aB u=some (some (.str v t)) → toS [x]=u → toS [inv x]=v → ∃ t, PySem.W.nsIn K aB (toS [x])=some (some (.str (toS [inv x]) t)) := fun x u v t g e1 e2 => ⟨t, by rw [e1, e2];exact g⟩
    intro x
    match x with
    | ⟨0, _⟩ => exact q 0 "a" "A" _ gl0 (by decide +kernel) (by decide +kernel)
    | ⟨1, _⟩ => exact q 1 "b" "B" _ gl1 (by decide +kernel) (by decide +kernel)
    | ⟨2, _⟩ => exact q 2 "c" "C" _ gl2 (by decide +kernel) (by decide +kernel)
    | ⟨3, _⟩ => exact q 3 "d" "D" _ gl3 (by decide +kernel) (by decide +kernel)
    | ⟨4, _⟩ => exact q 4 "e" "E" _ gl4 (by decide +kernel) (by decide +kernel)
    | ⟨5, _⟩ => exact q 5 "f" "F" _ gl5 (by decide +kernel) (by decide +kernel)
    | ⟨6, _⟩ => exact q 6 "A" "a" _ gl6 (by decide +kernel) (by decide +kernel)
    | ⟨7, _⟩ => exact q 7 "B" "b" _ gl7 (by decide +kernel) (by decide +kernel)
    | ⟨8, _⟩ => exact q 8 "C" "c" _ gl8 (by decide +kernel) (by decide +kernel)
    | ⟨9, _⟩ => exact q 9 "D" "d" _ gl9 (by decide +kernel) (by decide +kernel)
    | ⟨10, _⟩ => exact q 10 "E" "e" _ gl10 (by decide +kernel) (by decide +kernel)
    | ⟨11, _⟩ => exact q 11 "F" "f" _ gl11 (by decide +kernel) (by decide +kernel)
  have T : Bt K w mg aB := ⟨z_ X G z_len, z_ X G z_repr, z_ X G z_abs, z_ X G z_max, z_ X G z_int, z_ X G z_list, z_ X G z_range, z_ X G z_reversed, z_ X G z_min, z_ X G z_sorted, z_ X G z_tuple, z_ X G z_isinstance, z_ X G z_all, z_ X G z_str, z_ X G z_zip, BP X G aBk, ⟨es, en, lB, kB⟩, gB⟩
  have S : ∃ t, mg "SMALL" = some (.str "abcdef" t) := ⟨_, BP X G aS⟩
  have Tset : mg "set" = none := z_ X G zS
  have ME : ∃ t, mg "MOST_ENDS" = some (.int 12 t) := ⟨_, BP X G aE⟩
  refine ⟨PySem.W.fnOf "law" "law" (bJ ik) (bz ik) (ak ik) .none kV27 dc27 pm27 an27 cd27 ct27, fun s v => .of_eq rfl, fun base _ _ => ?_⟩
  obtain ⟨h0, h1, h2, h3, h4, h5, h6, h7, h8, h9, h10, h11, h12, h13, h14, h15, h16, h17, h18, h19, h20, h21, h22, h23, h24, h25, h26, _⟩ := hs
  have F_feed := vO (P := l.prog) (w := w) (base := base) (h16.df X G) T
  have F_draw := vN (P := l.prog) (w := w) (base := base) (h17.df X G) T
  have F_back := vP (P := l.prog) (w := w) (base := base) (h0.df X G) T
  have F_red := xP (P := l.prog) (w := w) (base := base) (h1.df X G) T
  have F_lback := tf (P := l.prog) (w := w) (base := base) (h18.df X G) 
  have F_lred := vR (P := l.prog) (w := w) (base := base) (h19.df X G) T F_lback
  have F_mets := vS (P := l.prog) (w := w) (base := base) (h2.df X G) T F_back
  have F_rf := zg (P := l.prog) (w := w) (base := base) (h3.df X G) T
  have F_fst := xS (P := l.prog) (w := w) (base := base) (h13.df X G) T F_rf
  have F_ce := zh (P := l.prog) (w := w) (base := base) (h8.df X G) T F_back F_mets
  have F_str := xV (P := l.prog) (w := w) (base := base) (h11.df X G) T F_mets
  have F_part := vV (P := l.prog) (w := w) (base := base) (h12.df X G) T F_back F_mets F_fst
  have F_alg := xW (P := l.prog) (w := w) (base := base) (h9.df X G) T F_str F_part
  have F_agn := xX (P := l.prog) (w := w) (base := base) (h10.df X G) T F_str F_part
  have F_met := xY (P := l.prog) (w := w) (base := base) (h4.df X G) T
  have F_bes := xZ (P := l.prog) (w := w) (base := base) (h7.df X G) T Tset F_ce F_met
  have F_lat := x6 (P := l.prog) (w := w) (base := base) (h6.df X G) T F_agn F_alg F_bes
  have F_links := tJ (P := l.prog) (w := w) (base := base) (h5.df X G) T F_lat
  have F_put := x8 (P := l.prog) (w := w) (base := base) (h15.df X G) T
  have F_glued := tM (P := l.prog) (w := w) (base := base) (h14.df X G) T S ME F_back F_put
  have F_some := v8 (P := l.prog) (w := w) (base := base) (h20.df X G) T F_draw
  have F_surf := v_ (P := l.prog) (w := w) (base := base) (h21.df X G) T F_draw
  have F_way := x9 (P := l.prog) (w := w) (base := base) (h22.df X G) T F_draw F_lback F_lred F_some
  have F_cnt := x_ (P := l.prog) (w := w) (base := base) (h23.df X G) T F_links
  have F_names := tV (P := l.prog) (w := w) (base := base) (h24.df X G) T F_draw F_lback
  have F_named := tW (P := l.prog) (w := w) (base := base) (h25.df X G) T
  have F_turn := wd (P := l.prog) (w := w) (base := base) (h26.df X G) T F_draw F_lback
  exact yd (qg l27 c27 k27) T F_feed F_draw F_surf F_way F_cnt F_turn F_names F_named F_glued F_red
theorem zi {l : PySem.W.OpenLaw}{q : Program}{loose : List Str}{XP : (Str → Option Value) → Heap → Prop}{YP : World → Heap → Prop}{d : DefRec}{K : Params → PySem.W.Frag}(hn : l.most=some 63)(hdf : d.params.defaults=[])
    (hY : ∀ (w : World) (h : Heap), YP w h → (K w.params).In h)
    (F : ∀ (w : World) (mg : Str → Option Value) (fa : Addr) (h : Heap), (K w.params).In h → h.Ns mainGlobals mg → mg d.name=some (.ref fa) →
      ∃ fd : FuncData, (∀ (s : Shared) (u : Value), BindsTo s fd ⟨[u], []⟩ [("_law_script", u)]) ∧ ∀ base : Heap, (K w.params).In base → base.Ns mainGlobals mg → og l.prog w (K w.params) mg base CX0 9 fa fd ["_law_script"] (oa (K w.params))) :
    PySem.W.WalkO q loose XP YP l.row.toRowW d [] (fun f vs => PySem.call f vs) :=
  L2.k_ (n := 63) (k := 9) (x := "_law_script") (CX := fun _ => CX0) (sp := fun w => oa (K w.params)) hn (by decide) hdf ⟨rfl, by decide, by decide, rfl⟩ hY F (fun _ _ a ns hl _ hS => ⟨a, ns, rfl, hS, hl, fun _ => rfl⟩) fun _ _ _ _ _ z => z
end Kx
namespace Kx
open PySem
def wm (s : String) : Str := ⟨⟨PySem.W.R.mapR Char.toNat (PySem.W.S.toListS s)⟩⟩
theorem pY : Str.ofString=wm := by
  funext s
  rw [Str.ofString_eq_toList, PySem.W.S.toListS_eq]
  show _=(⟨⟨PySem.W.R.mapR Char.toNat (PySem.W.S.toListS s)⟩⟩ : Str)
  rw [← PySem.W.R.mapR_eq]
def apG (G : (String → Str) → Program)(x : String → Str) : Program := G x
def Gs : { G : (String → Str) → Program // apG G Str.ofString=PySem.Challenge.pw_ringwords_k97_whole_ways_turned_and_rena } := by
  refine ⟨?G, ?h⟩
  case h =>
    delta PySem.Challenge.pw_ringwords_k97_whole_ways_turned_and_rena
    generalize Str.ofString=x
    exact rfl
end Kx
def PySem.W.Fast.tw2572718430870898682 : PySem.Program := Kx.Gs.1 Kx.wm
theorem PySem.W.Fast.te2572718430870898682 : PySem.Challenge.pw_ringwords_k97_whole_ways_turned_and_rena=PySem.W.Fast.tw2572718430870898682 := Kx.Gs.2.symm.trans (zR (Kx.apG Kx.Gs.1) Kx.pY)
theorem PySem.W.Fast.te17572834669874134318 : True := trivial
theorem PySem.W.Fast.tw6154153922857754336 : True := trivial
theorem PySem.W.Fast.tw9961527540449565156 : True := trivial
theorem PySem.W.Fast.tw3858721927728817942 : True := trivial
theorem PySem.W.Fast.tw2709697579626111428 : True := trivial
theorem PySem.W.Fast.tw10803920892657392376 : True := trivial
theorem PySem.W.Fast.tw3441452220128424495 : True := trivial
theorem PySem.W.Fast.tw14599266001331804472 : True := trivial
theorem PySem.W.Fast.tw3660798572932500312 : True := trivial
theorem PySem.W.Fast.tw13939534941452141842 : True := trivial
theorem PySem.W.Fast.tw7114588645168106533 : True := trivial
theorem PySem.W.Fast.tw12146243043942875893 : True := trivial
theorem PySem.W.Fast.tw2065237953152684973 : True := trivial
theorem PySem.W.Fast.tw263172126141822130 : True := trivial
theorem PySem.W.Fast.tw17031280281600453496 : True := trivial
theorem PySem.W.Fast.tw377620112241955176 : True := trivial
theorem PySem.W.Fast.tw17914741686230796753 : True := trivial
theorem PySem.W.Fast.tw2319309759995504153 : True := trivial
theorem PySem.W.Fast.tw5869083450627496322 : True := trivial
theorem PySem.W.Fast.tw11537101861331814383 : True := trivial
theorem PySem.W.Fast.tw1503652489078312294 : True := trivial
theorem PySem.W.Fast.tw16614261889971952962 : True := trivial
theorem PySem.W.Fast.tw8351182515751577404 : True := trivial
theorem PySem.W.Fast.tw16190844266584897333 : True := trivial
theorem PySem.W.Fast.tw6901272594878037768 : True := trivial
theorem PySem.W.Fast.tw15032405764167364238 : True := trivial
theorem PySem.W.Fast.tw17142807835506540067 : True := trivial
theorem PySem.W.Fast.tw10996674756288393777 : True := trivial
theorem PySem.W.Fast.tw5259481122067317157 : True := trivial
theorem PySem.W.Fast.tw16049511545382057118 : True := trivial
theorem PySem.W.Fast.tw14123373860866837929 : True := trivial
theorem PySem.W.Fast.tw14741540454915941365 : True := trivial
theorem PySem.W.Fast.tw11522193946767016408 : True := trivial
theorem PySem.W.Fast.tw7389329660262969040 : True := trivial
theorem PySem.W.Fast.tw8257759815766538970 : True := trivial
theorem PySem.W.Fast.tw13336939125305826851 : True := trivial
theorem PySem.W.Fast.tw12093866861865748694 : True := trivial
theorem PySem.W.Fast.tw2125439409655069903 : True := trivial
theorem PySem.W.Fast.tw1368446028546624193 : True := trivial
theorem PySem.W.Fast.tw10955607654000497033 : True := trivial
theorem PySem.W.Fast.tw8175930060890646689 : True := trivial
theorem PySem.W.Fast.tw2340042416711544690 : True := trivial
theorem PySem.W.Fast.tw13141234960419506548 : True := trivial
theorem PySem.W.Fast.tw3548541361548509434 : True := trivial
theorem PySem.W.Fast.tw4808024027163856222 : True := trivial
theorem PySem.W.Fast.tw15424740739349795126 : True := trivial
theorem PySem.W.Fast.tw14389335535255785793 : True := trivial
theorem PySem.W.Fast.tw14199321421514457389 : True := trivial
theorem PySem.W.Fast.tw8280318043653245166 : True := trivial
theorem PySem.W.Fast.tw2090977647621581439 : True := trivial
theorem PySem.W.Fast.tw9429488527656445382 : True := trivial
theorem PySem.W.Fast.tw6659561378386826136 : True := trivial
theorem PySem.W.Fast.tw16442884175796823829 : True := trivial
theorem PySem.W.Fast.tw2376827150455129205 : True := trivial
theorem PySem.W.Fast.tw12405322589642903563 : True := trivial
theorem PySem.W.Fast.tw2084044989681082556 : True := trivial
theorem PySem.W.Fast.tw7613601778897368514 : True := trivial
theorem PySem.W.Fast.tw11915350474031766198 : True := trivial
theorem PySem.W.Fast.tw4925578207587156480 : True := trivial
theorem PySem.W.Fast.tw6498903137606774516 : True := trivial
theorem PySem.W.Fast.tw2172434188234216987 : True := trivial
theorem PySem.W.Fast.tw12742307250847296522 : True := trivial
theorem PySem.W.Fast.tw11785354409740711486 : True := trivial
theorem PySem.W.Fast.tw11878215681949876241 : True := trivial
theorem PySem.W.Fast.tw4253449315361064722 : True := trivial
theorem PySem.W.Fast.tw3231853319544050882 : True := trivial
theorem PySem.W.Fast.tw17712025760182382826 : True := trivial
theorem PySem.W.Fast.tw2941380370866470607 : True := trivial
theorem PySem.W.Fast.tw10486111801227274165 : True := trivial
theorem PySem.W.Fast.tw3202438656945010800 : True := trivial
theorem PySem.W.Fast.tw12714353318931846252 : True := trivial
theorem PySem.W.Fast.tw13539484436758531857 : True := trivial
theorem PySem.W.Fast.tw5327377985675727867 : True := trivial
theorem PySem.W.Fast.tw4263757645236594674 : True := trivial
theorem PySem.W.Fast.tw867381994247051092 : True := trivial
theorem PySem.W.Fast.tw6292149836711224752 : True := trivial
theorem PySem.W.Fast.tw6221287307789935098 : True := trivial
theorem PySem.W.Fast.tw6935628394013806035 : True := trivial
theorem PySem.W.Fast.tw6968943804378056302 : True := trivial
theorem PySem.W.Fast.tw1351617410090873677 : True := trivial
theorem PySem.W.Fast.tw4682257301099942667 : True := trivial
theorem PySem.W.Fast.tw3193159641211256035 : True := trivial
theorem PySem.W.Fast.tw15714621320309123548 : True := trivial
theorem PySem.W.Fast.tw5122167081526964577 : True := trivial
theorem PySem.W.Fast.tw5820215228068069743 : True := trivial
theorem PySem.W.Fast.tw15958293898803313136 : True := trivial
theorem PySem.W.Fast.tw7798769385016338380 : True := trivial
theorem PySem.W.Fast.tw8256002398192170972 : True := trivial
theorem PySem.W.Fast.tw6234827936447357545 : True := trivial
theorem PySem.W.Fast.tw14663520921557535409 : True := trivial
theorem PySem.W.Fast.tw2940644505334991556 : True := trivial
theorem PySem.W.Fast.tw11004961823081794546 : True := trivial
theorem PySem.W.Fast.tw11182876087900411167 : True := trivial
theorem PySem.W.Fast.tw2886831438543936883 : True := trivial
theorem PySem.W.Fast.tw13688883543726818324 : True := trivial
theorem PySem.W.Fast.tw13493500304617597621 : True := trivial
theorem PySem.W.Fast.tw14804524385576299018 : True := trivial
theorem PySem.W.Fast.tw16503710683690837602 : True := trivial
theorem PySem.W.Fast.tw10020185879354792488 : True := trivial
theorem PySem.W.Fast.tw11511706184892137743 : True := trivial
theorem PySem.W.Fast.tw13951497668080223024 : True := trivial
theorem PySem.W.Fast.tw4933422847930011965 : True := trivial
theorem PySem.W.Fast.tw14543869412275719353 : True := trivial
theorem PySem.W.Fast.tw9760887634307093787 : True := trivial
theorem PySem.W.Fast.tw10281372413014434251 : True := trivial
theorem PySem.W.Fast.tw13755610329533671448 : True := trivial
open PySem PySem.W PyProof.Rows
set_option maxRecDepth 100000 in
set_option maxHeartbeats 0 in
theorem PySem.Challenge.cw_ringwords_k97_whole_ways_turned_and_rena_holds : PySem.Challenge.rw_ringwords_k97_whole_ways_turned_and_rena.Holds := by
  w_on; o_law; k_head; (case hw => w_witness2)
  k_fill
  refine Kx.zi (l := PySem.Challenge.rw_ringwords_k97_whole_ways_turned_and_rena) rfl rfl (fun w h Y => PySem.W.kIn_of Y) ?F
  case F =>
    intro w mg fa h KX G hmg
    refine' Kx.wj KX G hmg ?hs ?a27 ?l27 ?c27 ?k27 ?z_len ?z_repr ?z_abs ?z_max ?z_int ?z_list ?z_range ?z_reversed ?z_min ?z_sorted ?z_tuple ?z_isinstance ?z_all ?z_str ?z_zip ?aBk ?lB ?kB ?aS ?zS ?aE ?gl0 ?gl1 ?gl2 ?gl3 ?gl4 ?gl5 ?gl6 ?gl7 ?gl8 ?gl9 ?gl10 ?gl11
    (case hs => (iterate 27 (refine' Kx.DIs.on ?_ ?_ ?_ ?_ ?_; rotate_left 10; k_is; k_is; k_is; k_is)); exact trivial)
    (case a27 | l27 | c27 | k27 | z_len | z_repr | z_abs | z_max | z_int | z_list | z_range | z_reversed | z_min | z_sorted | z_tuple | z_isinstance | z_all | z_str | z_zip | aBk | lB => k_is)
    (case kB => exact ⟨⟨_, _, rfl, rfl⟩, ⟨_, _, rfl, rfl⟩, ⟨_, _, rfl, rfl⟩, ⟨_, _, rfl, rfl⟩, ⟨_, _, rfl, rfl⟩, ⟨_, _, rfl, rfl⟩, ⟨_, _, rfl, rfl⟩, ⟨_, _, rfl, rfl⟩, ⟨_, _, rfl, rfl⟩, ⟨_, _, rfl, rfl⟩, ⟨_, _, rfl, rfl⟩, ⟨_, _, rfl, rfl⟩, trivial⟩)
    (case aS | zS | aE | gl0 | gl1 | gl2 | gl3 | gl4 | gl5 | gl6 | gl7 | gl8 | gl9 | gl10 | gl11 => k_is)
end
