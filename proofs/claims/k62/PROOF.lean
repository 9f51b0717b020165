import PyProof.Rows.All
import Wide.All
import OpenK.AllK
import Wide.FinOn
import Lean
import PyProof.EqAt
import PyProof.EqKinds
import PyProof.TupleCall
import KE.KRevIter
import PyProof.ExcInit
import PyProof.InstStoreFacts
import PyProof.NsDelKeeps
import KE.KLam
import PyProof.FString5
import PyProof.NeData
import PyProof.TupleOfStr
import PyProof.IsRules
import PyProof.Rows.SortShellK
import PyProof.ListRange
import PyProof.FactsAll.tuple_3
import PyProof.Rows.StrStrike
import PySem.Challenge.RW_ringwords_k62_slides
set_option Elab.async false
set_option linter.all false
set_option maxRecDepth 100000
set_option maxHeartbeats 0
noncomputable section
def fu:=@PySem.Heap.get?_push_of_some
def q8:=@PySem.wpAny_bind
def q9:=@PySem.Heap.lt_size
def q_:=@Nat.lt_of_lt_of_le
def rb:=@List.getElem?_eq_some_iff
def rf:=@decide_eq_false
def rg:=@Bool.false_ne_true
def rh:=@Nat.le_refl
def ri:=@PySem.Heap.get?_push_size
def rj:=@List.size_toArray
def rl:=@Option.some.inj
def rm:=@PySem.wpAny_pure
def rn:=@List.length_map
def ro:=@List.mem_append_right
def rp:=@decide_eq_true
def rq:=@List.mem_cons_of_mem
def rA:=@PySem.W.mg_none_of
def rB:=@List.length_append
def rC:=@Nat.ne_of_lt
def rD:=@PySem.Heap.get?_update_other
def rE:=@Int.toNat_natCast
def rF:=@List.mem_cons_self
def rG:=@Nat.lt_irrefl
def rH:=@PySem.W.mg_of
def rJ:=@Nat.le_trans
def rK:=@List.map_cons
def rL:=@List.length_take
def rM:=@List.mem_of_getElem?
def rN:=@List.mem_cons
def rO:=@PySem.wpAny_mono
def rP:=@List.getElem?_eq_getElem
def rQ:=@PySem.W.kia_one
def rR:=@PySem.mem_of_lookup
def rS:=@List.length_cons
def rT:=@congrArg
def rV:=@List.getElem?_map
def rW:=@PySem.wpAny_loadPart_at
def rX:=@Array.getElem?_eq_some_iff
def rY:=@List.mem_append_left
def rZ:=@List.mem_singleton
def r6:=@PySem.F.plainAttrs_str
def r9:=@List.nodup_cons
def r_:=@PySem.boot_len
def se:=@Array.length_toList
def sf:=@PySem.Heap.get?_update_self
def si:=@PySem.Calls.spliced_cons
def sj:=@PySem.Obj.data_mapFields
def sk:=@List.lookup_cons
def sm:=@List.getD_eq_getElem?_getD
def so:=@PySem.Obj.isFreed_of_fields
def sq:=@PySem.sizeLine_eq
def sr:=@List.eq_nil_of_length_eq_zero
def su:=@List.getElem?_set_ne
def sv:=@PySem.wpAny_truthy_bool
def sx:=@Nat.zero_le
def sy:=@List.append_nil
def sC:=@List.getElem?_set_self
def sD:=@Bool.and_eq_true
def sE:=@beq_self_eq_true
def sF:=@PySem.wpAny_Call_Name_kw
def sG:=@PySem.wpAny_loadName_local
def sH:=@Int.emod_nonneg
def sI:=@Array.getElem?_setIfInBounds_ne
def sJ:=@List.replicate_succ
def sL:=@PySem.wpAny_getItem_str_slice
def sM:=@PySem.wpAny_field
def sN:=@Int.eq_ofNat_of_zero_le
def sO:=@List.length_pos_iff
def sP:=@PySem.wpAny_isSubtype_exc
def sQ:=@PySem.wpAny_setField
def sR:=@Int.emod_lt_of_pos
def sS:=@PyProof.Rows.callWith_type1
def sT:=@Bool.eq_iff_iff
def sU:=@List.find?_cons
def sV:=@PySem.builtinLookup_eq_fast
def sW:=@PySem.Calls.spliced_nil
def sX:=@List.getElem?_append_right
def sY:=@PySem.W.looks_findIn
def sZ:=@PySem.wpAny_execs_cons
def s_:=@List.take_length
def tj:=@List.flatMap_append
def tm:=@List.mem_append
def tq:=@PySem.wpAny_execs_nil
def tu:=@PySem.wpAny_passesOwn
def tw:=@List.contains_cons
def tB:=@PySem.PassesOwn.never
def tD:=@PySem.W.cellsFrom_some
def tF:=@PyProof.Rows.subscriptTail_builtinR
def tG:=@PySem.Calls.callWith_builtin
def tH:=@List.take_of_length_le
def tI:=@PySem.wpAny_Name
def tJ:=@PySem.wpAny_Assign_Name
def tK:=@PySem.wpAny_call
def tL:=@PySem.typeIs_str
def tM:=@List.flatten_cons
def tN:=@List.flatMap_cons
def tO:=@Bool.false_and
def tP:=@Nat.le_of_lt
def tQ:=@PySem.codeAny_mono
def tR:=@PyProof.Rows.callWith_builtin1
def tT:=@PySem.Txt.slice_le
def tU:=@List.mem_map
def tV:=@List.length_singleton
def tW:=@List.length_drop
def tX:=@PySem.wpAny_call_entry
def tY:=@PySem.codeAny_call_builtin
def tZ:=@List.any_cons
def t_:=@PySem.wpAny_attempt
def ua:=@PySem.wpAny_holding
def ub:=@beq_eq_false_iff_ne
def ud:=@List.filterMap_cons
def ue:=@PySem.wpAny_loadName_cell
def uf:=@List.of_mem_zip
def ug:=@if_true
def uh:=@List.length_nil
def uk:=@PySem.post_val_or_str
def um:=@PySem.typeLookup_type
def uo:=@PySem.Calls.Name_function_global
def uq:=@PySem.wpAny_newFunctionEnv_cells
def ur:=@PySem.F.excBase_ValueError
def uu:=@PySem.W.callWith_K
def uv:=@List.map_nil
def ux:=@Bool.false_eq_true
def uy:=@decide_eq_true_iff
def uA:=@List.map_map
def uB:=@Nat.le_of_eq
def uC:=@List.getElem?_append_left
def uD:=@PySem.Heap.size_push
def uE:=@PySem.isSubtype_type
def uF:=@Array.getElem?_eq_getElem
def uG:=@List.drop_eq_getElem_cons
def uH:=@Option.isSome_iff_exists
def uI:=@List.getElem?_take_of_lt
def uJ:=@PyProof.Rows.Subscript_
def uK:=@PySem.Obj.cls_mapFields
def uL:=@PySem.wpAny_newObj_type
def uM:=@PySem.F.store_ValueError
def uN:=@PySem.Paired.length
def uO:=@PySem.wpAny_of_eq
def uP:=@List.filter_cons_of_neg
def uQ:=@List.eraseIdx_cons_succ
def uR:=@List.all_eq_true
def uS:=@List.perm_middle
def uT:=@PySem.F.slot_str_lower
def uU:=@PySem.F.type_str_lower
def uV:=@PySem.F.slot_str_index
def uW:=@PySem.F.type_str_index
def uX:=@List.mem_filter
def uY:=@PySem.wpAny_specialOf
def uZ:=@Bool.or_true
def u3:=@beq_iff_eq
def u4:=@List.drop_zero
def u5:=@Bool.or_false
def u6:=@if_false
def u7:=@List.all_cons
def u9:=@PySem.call_meets
def u_:=@Nat.ne_of_gt
namespace L2
open PySem PySem.Spec PyProof.Rows
abbrev Key := Sum Int Str
def fY : Key → Value → Bool
  | .inl k, v => Value.isInt k v
  | .inr x, v => Value.isStrOf x v
def qv (w : World) : Key → Int
  | .inl k => hashInt k
  | .inr x => hashStr w x
theorem aH : ∀ {k : Key} {v : Value}, fY k v=true → (∃ i t, k=Sum.inl i ∧ v=Value.int i t) ∨ (∃ x t, k=Sum.inr x ∧ v=Value.str x t)
  | .inl i, v, h => by
    obtain ⟨t, e⟩ := Value.isInt_shape (k := i) (v := v) h
    exact .inl ⟨i, t, rfl, e⟩
  | .inr x, v, h => by
    obtain ⟨t, e⟩ := Value.isStrOf_shape (x := x) (v := v) h
    exact .inr ⟨x, t, rfl, e⟩
theorem gu (i : Int)(t : Tok) : fY (.inl i) (.int i t)=true := by simp [fY, Value.isInt]
theorem gv (x : Str)(t : Tok) : fY (.inr x) (.str x t)=true := by simp [fY, Value.isStrOf]
theorem mQ (a b : Int) : decide ((Sum.inl a : Key)=Sum.inl b)=(a == b) := by
  by_cases e : a=b
  · subst e;simp
  · have h : ¬ (Sum.inl a : Key)=Sum.inl b := fun q => e (Sum.inl.inj q)
    rw [rf h]
    exact (ub.mpr e).symm
theorem mR (a b : Str) : decide ((Sum.inr a : Key)=Sum.inr b)=decide (a=b) := by
  by_cases e : a=b
  · subst e;simp
  · have h : ¬ (Sum.inr a : Key)=Sum.inr b := fun q => e (Sum.inr.inj q)
    rw [rf h, rf e]
theorem mS (a : Int)(b : Str) : decide ((Sum.inl a : Key)=Sum.inr b)=false := rf (fun q => nomatch q)
theorem mT (a : Str)(b : Int) : decide ((Sum.inr a : Key)=Sum.inl b)=false := rf (fun q => nomatch q)
def aO (prog : Program)(w : World) : PySem.KeyKind prog w Key where
  is := fY
  hash := qv w
  inj := fun v a b ha hb => by
    rcases aH ha with ⟨i, t, rfl, rfl⟩ | ⟨x, t, rfl, rfl⟩
    · rcases aH hb with ⟨j, u, rfl, e⟩ | ⟨y, u, rfl, e⟩
      · injection e with e1 _;rw [e1]
      · exact nomatch e
    · rcases aH hb with ⟨j, u, rfl, e⟩ | ⟨y, u, rfl, e⟩
      · exact nomatch e
      · injection e with e1 _;rw [e1]
  byValue := fun k v h => by
    rcases aH h with ⟨i, t, rfl, rfl⟩ | ⟨x, t, rfl, rfl⟩ <;> rfl
  pyHash := fun hv h => by
    rcases aH hv with ⟨i, t, rfl, rfl⟩ | ⟨x, t, rfl, rfl⟩
    · exact wpAny_pyHash_int h
    · exact wpAny_pyHash_str h
  eqBool := fun hu hv h => by
    rcases aH hu with ⟨i, t, rfl, rfl⟩ | ⟨x, t, rfl, rfl⟩
    · rcases aH hv with ⟨j, u, rfl, rfl⟩ | ⟨y, u, rfl, rfl⟩
      · rw [mQ] at h;exact wpAny_eqBool_int h
      · rw [mS] at h;exact SeqAt.EqAt.int_str i t y u _ _ _ _ h
    · rcases aH hv with ⟨j, u, rfl, rfl⟩ | ⟨y, u, rfl, rfl⟩
      · rw [mT] at h;exact SeqAt.EqAt.str_int x t j u _ _ _ _ h
      · rw [mR] at h;exact wpAny_eqBool_str h
  «strs» := fun k x t v h => by
    rcases aH h with ⟨i, u, rfl, e⟩ | ⟨y, u, rfl, e⟩
    · exact nomatch e
    · injection e with e1 _
      subst e1
      cases v <;> rfl
theorem eR (prog : Program)(w : World)(i : Int)(t : Tok) : (aO prog w).is (.inl i) (.int i t)=true := gu i t
theorem eT (prog : Program)(w : World)(x : Str)(t : Tok) : (aO prog w).is (.inr x) (.str x t)=true := gv x t
inductive V where
  | non | bl (b : Bool) | int (i : Int) | str (x : Str) | byt (b : Array UInt8) | flt (b : UInt64) | ref (a : Addr) | ty (n : String)
  deriving DecidableEq
def aL : V → Value → Prop
  | .non, u => u=Value.none
  | .bl b, u => u=Value.bool b
  | .int i, u => ∃ t, u=Value.int i t
  | .str x, u => ∃ t, u=Value.str x t
  | .byt b, u => ∃ t, u=Value.bytes b t
  | .flt b, u => ∃ t, u=Value.float b t
  | .ref a, u => u=Value.ref a
  | .ty n, u => u=Value.type n
abbrev aI : List V → List Value → Prop := Paired aL
theorem aI.length {xs : List V}{us : List Value}(r : aI xs us) : xs.length=us.length := uN r
theorem aI.get : ∀ {xs : List V} {us : List Value} {i : Nat} {x : V}, aI xs us → xs[i]? = some x → ∃ u, us[i]? = some u ∧ aL x u
  | _, _, _, _, .nil, e => by simp at e
  | _, _, 0, _, .cons r _, e => by simp at e;subst e;exact ⟨_, rfl, r⟩
  | _, _, i+1, x, .cons _ t, e => by
    obtain ⟨u, h1, h2⟩ := aI.get (i := i) (x := x) t (by simpa using e)
    exact ⟨u, by simpa using h1, h2⟩
theorem aI.append : ∀ {xs ys : List V} {us ws : List Value}, aI xs us → aI ys ws → aI (xs++ys) (us++ws)
  | _, _, _, _, .nil, s => s
  | _, _, _, _, .cons r t, s => .cons r (aI.append t s)
theorem aI.take : ∀ {xs : List V} {us : List Value} (n : Nat), aI xs us → aI (xs.take n) (us.take n)
  | _, _, 0, _ => .nil
  | _, _, _+1, .nil => .nil
  | _, _, n+1, .cons r t => .cons r (aI.take n t)
theorem aI.drop : ∀ {xs : List V} {us : List Value} (n : Nat), aI xs us → aI (xs.drop n) (us.drop n)
  | _, _, 0, r => r
  | _, _, _+1, .nil => .nil
  | _, _, n+1, .cons _ t => aI.drop n t
def eU : Option V → Option Value → Prop
  | some v, some u => aL v u
  | none, none => True
  | _, _ => False
def KV {κ : Type} : List (κ × V) → List (κ × Value) → Prop := Paired fun (p : κ × V) (q : κ × Value) => p.1=q.1 ∧ aL p.2 q.2
def kV : Key → V
  | .inl i => .int i
  | .inr x => .str x
inductive HO where
  | lst (xs : List V)
  | tup (xs : List V)
  | dK (kvs : List (Key × V)) | dT (kvs : List (List Key × V))
  | set (S : Int → Bool) (n : Nat)
  | ins (C dx : Addr) (fs : List (Str × V))
  | own (x : Addr)
  | xd (fs : List (Str × V))
  | met (f x : Addr)
  | rng (lo hi : Int)
  | frz (o : Obj) (u : HO)
  | tbl (ps : Array Value)
  | ext (φ : Heap → Prop)
abbrev Hp := Addr → Option HO
def upd (H : Hp)(a : Addr)(o : HO) : Hp := fun b => if b=a then some o else H b
theorem ag {H : Hp}{a : Addr}{o : HO} : upd H a o a=some o := by unfold upd; rw [if_pos rfl]
theorem ak {H : Hp}{a b : Addr}{o : HO}(h : b≠a) : upd H a o b=H b := by unfold upd; rw [if_neg h]
theorem cu {H : Hp}{a : Addr}{o u : HO} : upd (upd H a o) a u=upd H a u := by
  funext b;unfold upd;split <;> rfl
theorem gw {H : Hp}{a b : Addr}{o u : HO}(h : H a=some o)(h' : H b=some u)(d : o≠u) : a≠b := by
  intro e;subst e;rw [h] at h';exact d (rl h')
theorem av {H : Hp}{a b : Addr}{o : HO}(h : H a=some o)(h' : H b=none) : a≠b := by
  intro e;subst e;rw [h] at h';cases h'
section
variable (P : Program) (w : World)
def NoD (h : Heap)(a : Addr) : Prop := ∃ o, h.get? a=some o ∧ o.dict=none
theorem NoD.new (h : Heap)(o : Obj)(e : o.dict=none)(hf : o.isFreed=false := by rfl) : NoD (h.push o) h.objs.size := ⟨o, ri _ hf, e⟩
def aP (H : Hp)(h : Heap)(a : Addr) : HO → Prop
  | .lst xs => xs.length≤sizeLine ∧ ∃ (its : List Value) (n : Nat), aI xs its ∧ h.get? a=some { cls := .type "list", data := .seq its.toArray n }
  | .tup xs => xs.length≤sizeLine ∧ ∃ its : List Value, aI xs its ∧ IsTup h a its.toArray ∧ NoD h a
  | .dK kvs => kvs.length≤sizeLine ∧ (a == sysModules)=false ∧ ∃ vs, KV kvs vs ∧ h.DictOf (aO P w) a vs
  | .dT kvs => kvs.length≤sizeLine ∧ (a == sysModules)=false ∧ ∃ xs : List (List Key × Addr × Value),
      Paired (fun (p : List Key × V) (q : List Key × Addr × Value) => p.1=q.1 ∧ H q.2.1=some (.tup (p.1.map kV)) ∧ aL p.2 q.2.2) kvs xs ∧
      ∃ o es ep, h.get? a=some o ∧ o.ExactDict ∧ o.data = .dict es ep ∧ es.toList=xs.map (entryOfKey (tupleKind (aO P w))) ∧ (xs.map (·.1)).Nodup
  | .set S n => h.SetOf (intKind P w) a S n
  | .ins C dx fs => H dx=some (.own a) ∧ fs.length≤1000 ∧ dx≠a ∧ h.get? a=some (PySem.W.instObj C dx) ∧
      ∃ mA, h.Ns1 dx mA ∧ (∀ f, eU (fs.lookup f) (mA f)) ∧ PySem.Within mA (fs.map (·.1))
  | .own _ => ∃ o, h.get? a=some o
  | .xd fs => ∃ mA, h.Ns1 a mA ∧ ∀ f, eU (fs.lookup f) (mA f)
  | .rng lo hi => ∃ t u v, h.get? a=some { cls := .type "range", data := .fields #[.int lo t, .int hi u, .int 1 v] }
  | .frz o u => h.get? a=some o ∧ aP H h a u
  | .tbl ps => h.get? a=some { cls := .none, data := .fields ps }
  | .met f x => h.get? a=some (PySem.W.methodObj (.ref f) (.ref x))
  | .ext φ => φ h ∧ (∃ o, h.get? a=some o) ∧ ∀ h1 h2 : Heap, φ h1 → (∀ o, h1.get? a=some o → h2.get? a=some o) → φ h2
def HOk (H : Hp)(h : Heap) : Prop := ∀ a o, H a=some o → aP P w H h a o
end
section
variable {P : Program} {w : World} {H H' : Hp} {h h' : Heap} {a : Addr} {o : HO}
theorem aP.lt (x : aP P w H h a o) : a < h.objs.size := by
  cases o with
  | lst xs => obtain ⟨_, _, _, _, e⟩ := x;exact q9 e
  | tup xs => obtain ⟨_, _, _, p, _⟩ := x;exact p.lt
  | dK kvs => obtain ⟨_, _, _, _, o, _, _, e, _⟩ := x;exact q9 e
  | dT kvs => obtain ⟨_, _, _, _, o, _, _, e, _⟩ := x;exact q9 e
  | set S n => obtain ⟨o, _, _, _, e, _⟩ := x;exact q9 e
  | ins C dx fs => obtain ⟨_, _, _, e, _⟩ := x;exact q9 e
  | own y => obtain ⟨_, e⟩ := x;exact q9 e
  | xd fs => obtain ⟨_, ⟨_, _, _, e, _⟩, _⟩ := x;exact q9 e
  | rng lo hi => obtain ⟨_, _, _, e⟩ := x;exact q9 e
  | frz ob u => obtain ⟨e, _⟩ := x;exact q9 e
  | tbl ps => exact q9 (show h.get? a=some _ from x)
  | met f y => exact q9 (show h.get? a=some _ from x)
  | ext φ => obtain ⟨_, ⟨_, e⟩, _⟩ := x;exact q9 e
theorem Paired.mapP {α β : Type}{F G : α → β → Prop} : ∀ {l₁ : List α} {l₂ : List β}, Paired F l₁ l₂ → (∀ a b, F a b → G a b) → Paired G l₁ l₂
  | _, _, .nil, _ => .nil
  | _, _, .cons r t, f => .cons (f _ _ r) (Paired.mapP t f)
theorem aP.stay (x : aP P w H h a o)(k : ∀ b u, (b=a ∨ H b=some (.own a)) → h.get? b=some u → h'.get? b=some u)
    (ho : ∀ b, H b=some (.own a) → H' b=some (.own a)) (ht : ∀ b xs, H b=some (.tup xs) → H' b=some (.tup xs)) : aP P w H' h' a o := by
  induction o with
  | lst xs => obtain ⟨z, its, n, r, e⟩ := x;exact ⟨z, its, n, r, k _ _ (.inl rfl) e⟩
  | tup xs => obtain ⟨z, its, r, ⟨ob, e, c⟩, o2, e2, c2⟩ := x;exact ⟨z, its, r, ⟨ob, k _ _ (.inl rfl) e, c⟩, o2, k _ _ (.inl rfl) e2, c2⟩
  | dK kvs => obtain ⟨z, y, vs, r, ob, es, ep, e, c⟩ := x;exact ⟨z, y, vs, r, ob, es, ep, k _ _ (.inl rfl) e, c⟩
  | dT kvs =>
    obtain ⟨z, y, xs, r, ob, es, ep, e, c⟩ := x
    exact ⟨z, y, xs, Paired.mapP r fun p q z => ⟨z.1, ht _ _ z.2.1, z.2.2⟩, ob, es, ep, k _ _ (.inl rfl) e, c⟩
  | set S n => obtain ⟨ob, es, ep, t, e, c⟩ := x;exact ⟨ob, es, ep, t, k _ _ (.inl rfl) e, c⟩
  | ins C dx fs =>
    obtain ⟨d, z, ne, e, mA, ⟨od, es, ep, e2, c⟩, r⟩ := x
    exact ⟨ho _ d, z, ne, k _ _ (.inl rfl) e, mA, ⟨od, es, ep, k _ _ (.inr d) e2, c⟩, r⟩
  | own y => obtain ⟨ob, e⟩ := x;exact ⟨ob, k _ _ (.inl rfl) e⟩
  | xd fs => obtain ⟨mA, ⟨od, es, ep, e, c⟩, r⟩ := x;exact ⟨mA, ⟨od, es, ep, k _ _ (.inl rfl) e, c⟩, r⟩
  | rng lo hi => obtain ⟨t, u, v, e⟩ := x;exact ⟨t, u, v, k _ _ (.inl rfl) e⟩
  | frz ob u ih => obtain ⟨e, q⟩ := x;exact ⟨k _ _ (.inl rfl) e, ih q⟩
  | tbl ps =>
    have e : h.get? a=some { cls := .none, data := .fields ps } := x
    show h'.get? a=some { cls := .none, data := .fields ps }
    exact k a _ (.inl rfl) e
  | met f y =>
    have e : h.get? a=some (PySem.W.methodObj (.ref f) (.ref y)) := x
    show h'.get? a=some (PySem.W.methodObj (.ref f) (.ref y))
    exact k a _ (.inl rfl) e
  | ext φ => obtain ⟨p, ⟨o, e⟩, st⟩ := x;exact ⟨st _ _ p fun o q => k _ _ (.inl rfl) q, ⟨o, k _ _ (.inl rfl) e⟩, st⟩
theorem HOk.lt (x : HOk P w H h)(e : H a=some o) : a < h.objs.size := (x a o e).lt
theorem HOk.fresh (x : HOk P w H h)(e : h.objs.size≤a) : H a=none := by
  cases q : H a with
  | none => rfl
  | some u => exact absurd (q_ (x.lt q) e) (rG _)
theorem HOk.kept (x : HOk P w H h)(k : ∀ b u, h.get? b=some u → h'.get? b=some u) : HOk P w H h' := fun a o e =>
  (x a o e).stay (fun b u _ q => k b u q) (fun _ q => q) fun _ _ q => q
theorem HOk.laid (x : HOk P w H h)(k : ∀ b u, h.get? b=some u → h'.get? b=some u)(hp : h.objs.size≤a)(new : aP P w (upd H a o) h' a o) : HOk P w (upd H a o) h' := fun b u e => by
  have hn := x.fresh hp
  by_cases hb : b=a
  · subst hb;rw [ag] at e;cases e;exact new
  · rw [ak hb] at e
    exact (x b u e).stay (fun c v _ q => k c v q) (fun c q => by rw [ak (av q hn)];exact q) fun c xs q => by rw [ak (av q hn)];exact q
end
def Rd (H : Hp)(a : Addr)(u : HO) : Prop := H a=some u ∨ ∃ o, H a=some (.frz o u)
theorem Rd.ok {P : Program}{w : World}{H : Hp}{h : Heap}{a : Addr}{u : HO}(r : Rd H a u)(x : HOk P w H h) : aP P w H h a u := by
  rcases r with r | ⟨o, r⟩
  · exact x a u r
  · obtain ⟨_, q⟩ := x a _ r
    exact q
def Mut : Option HO → Prop
  | some (.lst _) => True
  | some (.dK _) => True
  | some (.dT _) => True
  | some (.set _ _) => True
  | some (.ins _ _ _) => True
  | some (.ext _) => True
  | _ => False
section
variable {P : Program} {w : World} {H : Hp} {h h' : Heap} {x e : Addr} {o' : HO}
theorem HOk.write (ok : HOk P w H h)(mu : Mut (H x))(he : e=x ∨ H e=some (.own x))(k : ∀ b u, b≠e → h.get? b=some u → h'.get? b=some u)(heo : ∃ u, h'.get? e=some u)
    (new : aP P w (upd H x o') h' x o') : HOk P w (upd H x o') h' := fun b u q => by
  have nown : ∀ c y, H c=some (.own y) → c≠x := fun c y r z => by subst z;rw [r] at mu;exact mu
  have ntup : ∀ c xs, H c=some (.tup xs) → c≠x := fun c xs r z => by subst z;rw [r] at mu;exact mu
  by_cases hb : b=x
  · subst hb;rw [ag] at q;cases q;exact new
  · rw [ak hb] at q
    by_cases hbe : b=e
    · have q' : H b=some (.own x) := by
        rcases he with z | z
        · exact absurd (hbe.trans z) hb
        · rw [hbe];exact z
      rw [q] at q';cases q'
      obtain ⟨v, hv⟩ := heo
      exact ⟨v, by rw [hbe];exact hv⟩
    · refine (ok b u q).stay (fun c v hc r => k c v ?_ r) (fun c r => by rw [ak (nown c b r)];exact r) fun c xs r => by rw [ak (ntup c xs r)];exact r
      rcases hc with rfl | hc
      · exact hbe
      · rintro rfl
        rcases he with z | z
        · exact nown c b hc z
        · rw [hc] at z;cases z;exact hb rfl
end
structure Un (fs ex : List Addr) (H H' : Hp) (h h' : Heap) : Prop where
  keep : ∀ b o, h.get? b=some o → H b=none → b∉fs → b∉ex → h'.get? b=some o
  slot : ∀ b o, h.get? b=some o → H b=none → b∈fs → b∉ex → ∃ sl, h'.get? b=some { o with slots := sl }
  free : ∀ b o, h.get? b=some o → H b=none → b∉ex → H' b=none
  there : ∀ b o, h.get? b=some o → b∉ex → ∃ o', h'.get? b=some o'
  tups : ∀ b xs, H b=some (.tup xs) → H' b=some (.tup xs)
  frzs : ∀ b o u, H b=some (.frz o u) → H' b=some (.frz o u)
  tbls : ∀ b ps, H b=some (.tbl ps) → ∃ more, H' b=some (.tbl (ps++more))
section
variable {fs fs' ex ex' : List Addr} {H H1 H2 : Hp} {h h1 h2 h' : Heap} {a x e : Addr} {o : HO}
theorem Un.any (u : Un fs ex H H1 h h1){b : Addr}{ob : Obj}(q : h.get? b=some ob)(n : H b=none)(hx : b∉ex) : ∃ sl, h1.get? b=some { ob with slots := sl } := by
  by_cases hb : b∈fs
  · exact u.slot b ob q n hb hx
  · exact ⟨ob.slots, u.keep b ob q n hb hx⟩
theorem Un.kept (k : ∀ b u, h.get? b=some u → h'.get? b=some u) : Un fs ex H H h h' :=
  ⟨fun b ob q _ _ _ => k b ob q, fun b ob q _ _ _ => ⟨ob.slots, k b ob q⟩, fun _ _ _ n _ => n, fun b ob q _ => ⟨ob, k b ob q⟩, fun _ _ q => q, fun _ _ _ q => q, fun _ ps q => ⟨#[], by rw [q];simp⟩⟩
theorem Un.refl : Un fs ex H H h h := Un.kept fun _ _ q => q
theorem Un.laid (k : ∀ b u, h.get? b=some u → h'.get? b=some u)(hp : h.objs.size≤a)(hn : H a=none) : Un fs ex H (upd H a o) h h' where
  keep := fun b u q _ _ _ => k b u q
  slot := fun b u q _ _ _ => ⟨u.slots, k b u q⟩
  free := fun b u q n _ => by rw [ak (rC (q_ (q9 q) hp))];exact n
  there := fun b u q _ => ⟨u, k b u q⟩
  tups := fun b xs q => by rw [ak (av q hn)];exact q
  frzs := fun b u xs q => by rw [ak (av q hn)];exact q
  tbls := fun b ps q => ⟨#[], by rw [ak (av q hn), q];simp⟩
theorem Un.write (mu : Mut (H x))(he : e=x ∨ H e=some (.own x))(k : ∀ b u, b≠e → h.get? b=some u → h'.get? b=some u)(heo : ∃ u, h'.get? e=some u) : Un fs ex H (upd H x o) h h' := by
  have hx : ∀ b, H b=none → b≠x := fun b n z => by subst z;rw [n] at mu;exact mu
  have hb : ∀ b, H b=none → b≠e := fun b n z => by
    subst z
    rcases he with r | r
    · exact hx b n r
    · rw [n] at r;cases r
  have hm : ∀ b u, H b=some u → ¬ Mut (some u) → b≠x := fun b u q nm z => by subst z;rw [q] at mu;exact nm mu
  refine ⟨fun b u q n _ _ => k b u (hb b n) q, fun b u q n _ _ => ⟨u.slots, k b u (hb b n) q⟩, fun b u q n _ => by rw [ak (hx b n)];exact n, fun b u q _ => ?_,
    fun b xs q => by rw [ak (hm b _ q fun z => z)];exact q, fun b u xs q => by rw [ak (hm b _ q fun z => z)];exact q, fun b ps q => ⟨#[], by rw [ak (hm b _ q fun z => z), q];simp⟩⟩
  by_cases hbe : b=e
  · subst hbe;exact heo
  · exact ⟨u, k b u hbe q⟩
end
def trk (h : Heap)(H : Hp) : List Addr := (List.range h.objs.size).filter fun a => (H a).isSome
def i_ (h : Heap)(H : Hp) : Heap := PySem.W.hideAll h (trk h H)
theorem gx (h : Heap)(H : Hp) : (i_ h H).objs.size=h.objs.size := PySem.W.hideAll_size _ _
theorem jd {h : Heap}{H : Hp}{b : Addr}{o : Obj}(e : h.get? b=some o)(n : H b=none) : (i_ h H).get? b=some o :=
  PySem.W.hideAll_get _ e fun hm => by
    have q : (H b).isSome=true := (uX.mp hm).2
    rw [n] at q;simp at q
theorem kL {h : Heap}{H : Hp}{b : Addr}{o : Obj}(e : (i_ h H).get? b=some o) : h.get? b=some o ∧ H b=none := by
  have e' : h.get? b=some o := PySem.W.of_hideAll (trk h H) e
  refine ⟨e', ?_⟩
  cases q : H b with
  | none => rfl
  | some x =>
    have hm : b∈trk h H := uX.mpr ⟨List.mem_range.mpr (q9 e'), by simp [q]⟩
    have z : (i_ h H).get? b=none := PySem.W.hideAll_none (trk h H) hm
    rw [z] at e;cases e
structure Mod (K : PySem.W.Frag) (mg : Str → Option Value) (base : Heap) : Prop where
  kin : K.In base
  glob : base.Ns mainGlobals mg
  blt : ∃ mb, base.Ns builtinsNs mb ∧ ∀ x : Str, x ≠ "__name__" → mb x=bootBuiltins x
  nolimit : base.NoLimit
/-- the context: a def's body (or a comprehension's block) running. base: fixed through the whole law;s₀, H₀: the entry;outer: the frames whose slots others may change (a def's callers);stack: all frames that run;
   ex: iterators that were made ahead of the entry and are walked here (a comprehension's);fn: the names whose cells were made at the entry (a def: all;a comprehension's block: its own);calm: not within an except suite;pn: pins that every state bears;xe: what is wanted of an exception that leaves the code -/
structure Cx where
  prog : Program
  w : World
  K : PySem.W.Frag
  mg : Str → Option Value
  base : Heap
  A : Around
  N : List Str
  s₀ : Shared
  H₀ : Hp
  env : Env
  outer : List Env
  stack : List Env
  ex : List Addr
  fn : Str → Bool
  calm : Bool
  pn : List (Addr × Obj)
  xe : Value → Shared → Prop
def frs (l : List Env) : List Addr := l.filterMap (·.frame)
abbrev Cx.fs (X : Cx) : List Addr := frs X.outer
def Vis (sc : Scope)(x : Str) : Prop := sc.names.lookup x=some .local ∨ sc.names.lookup x=some .cell ∨ sc.names.lookup x=some .free
def Loc (sc : Scope)(x : Str) : Prop := sc.names.lookup x=some .local ∨ sc.names.lookup x=some .cell
def qw (env : Env)(h : Heap)(m : Str → Option Value)(x : Str)(u : Value) : Prop :=
  (env.kindOf x=some .local ∧ m x=some u) ∨ ((env.kindOf x=some .cell ∨ env.kindOf x=some .free) ∧ ∃ c, env.cells.lookup x=some c ∧ h.IsCell c (some u))
structure Cx.Ok (X : Cx) : Prop where
  mod : Mod X.K X.mg X.base
  kind : X.env.scope.kind = .function
  glob : X.env.globals=mainGlobals
  blt : X.env.builtins=builtinsNs
  above : X.s₀.heap.objs.size≤X.env.locals
  inj : ∀ x y c, X.env.cells.lookup x=some c → X.env.cells.lookup y=some c → x=y
  has : ∀ x, (X.env.kindOf x=some .cell ∨ X.env.kindOf x=some .free) → ∃ c, X.env.cells.lookup x=some c
  cab : ∀ x c, X.fn x=true → X.env.cells.lookup x=some c → X.s₀.heap.objs.size≤c
  hd : X.calm=true → X.A.handled=none
  frames : X.A.frames=some X.stack
  stk : X.stack=X.outer ∨ (X.stack=X.env::X.outer ∧ X.env.frame=some X.env.locals)
  exf : ∀ b∈X.ex, b≠X.env.locals ∧ ∀ x c, X.env.cells.lookup x=some c → c≠b
  bs : ∀ b o, X.base.get? b=some o → X.s₀.heap.get? b=some o ∧ X.H₀ b=none
  bsz : X.base.objs.size≤X.s₀.heap.objs.size
  noex : ∀ b o, X.base.get? b=some o → b∉X.ex
  exfs : ∀ b∈X.ex, b∉X.fs
  funs : X.s₀.heap.FunFrames X.base X.outer
  frf : ∀ b∈X.fs, X.H₀ b=none
structure Inv (X : Cx) (pins : List (Addr × Obj)) (σ : List (Option V)) (H : Hp) (s : Shared) : Prop where
  ok : X.Ok
  os : s.os=X.s₀.os
  bare : AllBare s.gens
  base : Un X.fs X.ex X.H₀ H X.s₀.heap s.heap
  loc : ∃ m, s.heap.Ns X.env.locals m ∧ ∀ (i : Nat) (x : Str) (v : V), X.N[i]? = some x → σ[i]? = some (some v) → Vis X.env.scope x → ∃ u, aL v u ∧ qw X.env s.heap m x u
  cell : ∀ x c, X.env.cells.lookup x=some c → ∃ v, s.heap.IsCell c v
  free : H X.env.locals=none
  freeC : ∀ x c, X.env.cells.lookup x=some c → H c=none
  pin : ∀ p∈X.pn++pins, s.heap.get? p.1=some p.2 ∧ H p.1=none ∧ p.1≠X.env.locals ∧ p.1∉X.fs ∧ ∀ v, p.2.data ≠ .cell v
  hok : HOk X.prog X.w H s.heap
  len : σ.length=X.N.length
section
variable {X : Cx} {pins : List (Addr × Obj)} {σ : List (Option V)} {H H' : Hp} {s : Shared} {h' : Heap}
theorem Cx.Ok.nofr (ok : X.Ok){b : Addr}{o : Obj}(e : X.base.get? b=some o) : b∉X.fs := fun hb => by
  have := (ok.funs.mem hb).1
  rw [e] at this;cases this
theorem Inv.bs (I : Inv X pins σ H s) : ∀ b o, X.base.get? b=some o → s.heap.get? b=some o ∧ H b=none := fun b o e =>
  ⟨I.base.keep b o (I.ok.bs b o e).1 (I.ok.bs b o e).2 (I.ok.nofr e) (I.ok.noex b o e), I.base.free b o (I.ok.bs b o e).1 (I.ok.bs b o e).2 (I.ok.noex b o e)⟩
theorem Inv.bk (I : Inv X pins σ H s) : ∀ b o, X.base.get? b=some o → s.heap.get? b=some o := fun b o e => (I.bs b o e).1
theorem Inv.mod (I : Inv X pins σ H s) : Mod X.K X.mg X.base := I.ok.mod
theorem Inv.kIn (I : Inv X pins σ H s) : X.K.In s.heap := I.ok.mod.kin.keeps I.bk
theorem Inv.fr (I : Inv X pins σ H s) : ∃ m, Fr X.base X.env.locals s.heap m :=
  let ⟨m, hn, _⟩ := I.loc
  ⟨m, hn, I.bk, rJ I.ok.bsz I.ok.above⟩
theorem Inv.lt (I : Inv X pins σ H s) : X.env.locals < s.heap.objs.size := let ⟨_, hn, _⟩ := I.loc; hn.lt
theorem Inv.sz (I : Inv X pins σ H s) : X.s₀.heap.objs.size≤s.heap.objs.size := rJ I.ok.above (tP I.lt)
theorem Inv.nofs (I : Inv X pins σ H s){a : Addr}(h : s.heap.objs.size≤a) : a∉X.fs := fun hb => by
  obtain ⟨_, o, ho, _⟩ := I.ok.funs.mem hb
  exact absurd (q_ (q9 ho) (rJ I.sz h)) (rG _)
theorem Inv.cne (I : Inv X pins σ H s) : ∀ x c, X.env.cells.lookup x=some c → c≠X.env.locals := fun x c e z => by
  obtain ⟨v, o, ho, hd⟩ := I.cell x c e
  obtain ⟨m, ⟨o', es, ep, ho', hd', _⟩, _⟩ := I.loc
  rw [z, ho'] at ho;cases ho;rw [hd'] at hd;cases hd
theorem Inv.funs (I : Inv X pins σ H s) : s.heap.FunFrames X.base X.outer := by
  have all : ∀ (l : List Env), (∀ b∈frs l, b∈X.fs) → X.s₀.heap.FunFrames X.base l → s.heap.FunFrames X.base l := by
    intro l
    induction l with
    | nil => intro _ _;trivial
    | cons env r ih =>
      intro hs hl
      obtain ⟨hk, ⟨L, o, hf, hn, ho, hd⟩, hr⟩ := hl
      have hL : L∈X.fs := hs L (by unfold frs;rw [ud, hf];exact rF)
      obtain ⟨sl, e⟩ := I.base.slot L o ho (I.ok.frf L hL) hL fun z => I.ok.exfs L z hL
      exact ⟨hk, ⟨L, _, hf, hn, e, hd⟩, ih (fun b hb => hs b (by unfold frs;rw [ud, hf];exact rq _ hb)) hr⟩
  exact all X.outer (fun _ hb => hb) I.ok.funs
theorem Inv.stack (I : Inv X pins σ H s) : s.heap.FunFrames X.base X.stack := by
  rcases I.ok.stk with e | ⟨e, hf⟩
  · rw [e];exact I.funs
  · rw [e]
    obtain ⟨m, hn, _⟩ := I.loc
    refine .cons (by rw [I.ok.kind];decide) hf hn ?_ I.funs
    exact Heap.get?_none_of_le (rJ I.ok.bsz I.ok.above)
theorem Inv.stkSub (I : Inv X pins σ H s) : ∀ b∈frs X.stack, b∈X.env.locals::X.fs := fun b hb => by
  rcases I.ok.stk with e | ⟨e, hf⟩
  · rw [e] at hb;exact rq _ hb
  · rw [e] at hb
    unfold frs at hb
    rw [ud, hf] at hb
    exact hb
theorem Inv.stkFree (I : Inv X pins σ H s) : ∀ b∈frs X.stack, H b=none := fun b hb => by
  rcases rN.mp (I.stkSub b hb) with e | hb
  · rw [e];exact I.free
  · obtain ⟨_, o, ho, _⟩ := I.ok.funs.mem hb
    exact I.base.free b o ho (I.ok.frf b hb) fun z => I.ok.exfs b z hb
theorem Inv.step {g' : Array GenState}{t' : Nat}{d' : Drawn}{ch : List Addr}(I : Inv X pins σ H s)
    (hch : ∀ b∈ch, (b∈X.ex ∨ X.s₀.heap.objs.size≤b) ∧ b≠X.env.locals ∧ (∀ x c, X.env.cells.lookup x=some c → c≠b) ∧ ∀ p∈X.pn++pins, p.1≠b)
    (keep : ∀ b o, b≠X.env.locals → b∉X.fs → b∉ch → s.heap.get? b=some o → H b=none → h'.get? b=some o)
    (slot : ∀ b o, b≠X.env.locals → b∈X.fs → b∉ch → s.heap.get? b=some o → H b=none → ∃ sl, h'.get? b=some { o with slots := sl }) (free : ∀ b o, b∉ch → s.heap.get? b=some o → H b=none → H' b=none)
    (there : ∀ b o, b∉ch → s.heap.get? b=some o → ∃ o', h'.get? b=some o')
    (tups : ∀ b xs, H b=some (.tup xs) → H' b=some (.tup xs)) (frzs : ∀ b o u, H b=some (.frz o u) → H' b=some (.frz o u)) (tbls : ∀ b ps, H b=some (.tbl ps) → ∃ more, H' b=some (.tbl (ps++more)))
    (ns : ∀ m, s.heap.Ns X.env.locals m → h'.Ns X.env.locals m) (hok : HOk X.prog X.w H' h') (hg : AllBare g') :
    Inv X pins σ H' { s with heap := h', gens := g', drawn := d', toks := t' } := by
  have neL : ∀ b o, X.s₀.heap.get? b=some o → b≠X.env.locals := fun b o e => rC (q_ (q9 e) I.ok.above)
  have neC : ∀ b o, X.s₀.heap.get? b=some o → b∉X.ex → b∉ch := fun b o e hx hb => by
    rcases (hch b hb).1 with z | z
    · exact hx z
    · exact absurd (q_ (q9 e) z) (rG _)
  have cellK : ∀ x c, X.env.cells.lookup x=some c → ∀ v, s.heap.IsCell c v → h'.IsCell c v := fun x c e v ⟨o, ho, hd⟩ => by
    have nch : c∉ch := fun z => (hch c z).2.2.1 x c e rfl
    by_cases hc : c∈X.fs
    · obtain ⟨sl, q⟩ := slot c o (I.cne x c e) hc nch ho (I.freeC x c e)
      exact ⟨_, q, hd⟩
    · exact ⟨o, keep c o (I.cne x c e) hc nch ho (I.freeC x c e), hd⟩
  refine ⟨I.ok, I.os, hg, ⟨fun b o e n hb hx => ?_, fun b o e n hb hx => ?_, fun b o e n hx => ?_, fun b o e hx => ?_, fun b xs e => tups b xs (I.base.tups b xs e), fun b o xs e => frzs b o xs (I.base.frzs b o xs e), fun b ps e => ?_⟩, ?_, fun x c e => ?_, ?_, fun x c e => ?_, fun p hp => ?_, hok, I.len⟩
  · exact keep b o (neL b o e) hb (neC b o e hx) (I.base.keep b o e n hb hx) (I.base.free b o e n hx)
  · obtain ⟨sl, e1⟩ := I.base.slot b o e n hb hx
    obtain ⟨sl', e2⟩ := slot b _ (neL b o e) hb (neC b o e hx) e1 (I.base.free b o e n hx)
    exact ⟨sl', e2⟩
  · obtain ⟨o', e1⟩ := I.base.there b o e hx
    exact free b o' (neC b o e hx) e1 (I.base.free b o e n hx)
  · obtain ⟨o', e1⟩ := I.base.there b o e hx
    exact there b o' (neC b o e hx) e1
  · obtain ⟨m1, e1⟩ := I.base.tbls b ps e
    obtain ⟨m2, e2⟩ := tbls b _ e1
    exact ⟨m1++m2, by rw [e2, Array.append_assoc]⟩
  · obtain ⟨m, hn, hl⟩ := I.loc
    refine ⟨m, ns m hn, fun i x v e1 e2 e3 => ?_⟩
    obtain ⟨u, r, l⟩ := hl i x v e1 e2 e3
    refine ⟨u, r, ?_⟩
    rcases l with l | ⟨k, c, e, z⟩
    · exact .inl l
    · exact .inr ⟨k, c, e, cellK x c e _ z⟩
  · obtain ⟨v, z⟩ := I.cell x c e
    exact ⟨v, cellK x c e v z⟩
  · obtain ⟨m, ⟨o, _, _, ho, _⟩, _⟩ := I.loc
    exact free _ o (fun z => (hch _ z).2.1 rfl) ho I.free
  · obtain ⟨v, o, ho, hd⟩ := I.cell x c e
    exact free c o (fun z => (hch c z).2.2.1 x c e rfl) ho (I.freeC x c e)
  · obtain ⟨e, n, ne, nf, d⟩ := I.pin p hp
    have nch : p.1∉ch := fun z => (hch p.1 z).2.2.2 p hp rfl
    exact ⟨keep p.1 p.2 ne nf nch e n, free p.1 p.2 nch e n, ne, nf, d⟩
theorem Inv.un {t' : Nat}(I : Inv X pins σ H s)(u : Un X.fs [] H H' s.heap h')(hok : HOk X.prog X.w H' h') : Inv X pins σ H' { s with heap := h', toks := t' } := by
  obtain ⟨m, ⟨o, es, ep, ho, r⟩, _⟩ := id I.loc
  obtain ⟨sl, hL⟩ := u.any ho I.free (by simp)
  exact I.step (g' := s.gens) (d' := s.drawn) (ch := []) (fun _ z => nomatch z) (fun b o _ hb _ e n => u.keep b o e n hb (by simp)) (fun b o _ hb _ e n => u.slot b o e n hb (by simp)) (fun b o _ e n => u.free b o e n (by simp)) (fun b o _ e => u.there b o e (by simp)) u.tups u.frzs u.tbls (fun m' hm => by
    obtain ⟨o', es', ep', ho', r'⟩ := hm
    rw [ho] at ho';cases ho'
    exact ⟨_, es', ep', hL, r'⟩) hok I.bare
theorem Inv.call {g' : Array GenState}{t' : Nat}{d' : Drawn}{ch : List Addr}(I : Inv X pins σ H s)(u : Un (frs X.stack) ch H H' s.heap h')(hok : HOk X.prog X.w H' h')(hg : AllBare g')
    (hch : ∀ b∈ch, (b∈X.ex ∨ X.s₀.heap.objs.size≤b) ∧ b≠X.env.locals ∧ (∀ x c, X.env.cells.lookup x=some c → c≠b) ∧ ∀ p∈X.pn++pins, p.1≠b) :
    Inv X pins σ H' { s with heap := h', gens := g', drawn := d', toks := t' } := by
  obtain ⟨m, ⟨o, es, ep, ho, r⟩, _⟩ := id I.loc
  obtain ⟨sl, hL⟩ := u.any ho I.free fun z => (hch _ z).2.1 rfl
  exact I.step (ch := ch) hch (fun b o hL hb hc e n => u.keep b o e n (fun z => (rN.mp (I.stkSub b z)).elim hL hb) hc) (fun b o _ _ hc e n => u.any e n hc) (fun b o hc e n => u.free b o e n hc) (fun b o hc e => u.there b o e hc) u.tups u.frzs u.tbls (fun m' hm => by
    obtain ⟨o', es', ep', ho', r'⟩ := hm
    rw [ho] at ho';cases ho'
    exact ⟨_, es', ep', hL, r'⟩) hok hg
theorem Inv.turned {t' : Nat}{it : Addr}(I : Inv X pins σ H s)(k : ∀ b o, b≠it → s.heap.get? b=some o → h'.get? b=some o)(hn : H it=none)(hL : it≠X.env.locals)
    (h1 : it∈X.ex ∨ X.s₀.heap.objs.size≤it) (h2 : ∀ x c, X.env.cells.lookup x=some c → c≠it) (h3 : ∀ p∈X.pn++pins, p.1≠it) : Inv X pins σ H { s with heap := h', toks := t' } := by
  have nit : ∀ b u, H b=some u → b≠it := fun b u e z => by rw [z, hn] at e;cases e
  refine I.step (g' := s.gens) (d' := s.drawn) (ch := [it]) (fun b hb => ?_) (fun b o _ _ hc e _ => k b o (fun z => hc (by simp [z])) e) (fun b o _ _ hc e _ => ⟨o.slots, k b o (fun z => hc (by simp [z])) e⟩) (fun _ _ _ _ n => n)
    (fun b o hc e => ⟨o, k b o (fun z => hc (by simp [z])) e⟩) (fun _ _ e => e) (fun _ _ _ e => e) (fun b ps e => ⟨#[], by rw [e];simp⟩) (fun m hm => ?_) (fun b u e => ?_) I.bare
  · have e : b=it := by simpa using hb
    subst e
    exact ⟨h1, hL, h2, h3⟩
  · obtain ⟨o, es, ep, ho, r⟩ := hm
    exact ⟨o, es, ep, k _ o (Ne.symm hL) ho, r⟩
  · refine (I.hok b u e).stay (fun c v hc q => k c v ?_ q) (fun _ q => q) fun _ _ q => q
    rcases hc with z | z
    · rw [z];exact nit b u e
    · exact nit c _ z
theorem Inv.tok (I : Inv X pins σ H s)(t : Nat) : Inv X pins σ H { s with toks := t } := I.un (h' := s.heap) (t' := t) Un.refl I.hok
theorem Inv.kept {t' : Nat}(I : Inv X pins σ H s)(k : ∀ b u, s.heap.get? b=some u → h'.get? b=some u) : Inv X pins σ H { s with heap := h', toks := t' } := I.un (Un.kept k) (I.hok.kept k)
theorem Inv.laid {a : Addr}{o : HO}{t' : Nat}(I : Inv X pins σ H s)(k : ∀ b u, s.heap.get? b=some u → h'.get? b=some u)(hp : s.heap.objs.size≤a)(new : aP X.prog X.w (upd H a o) h' a o) :
    Inv X pins σ (upd H a o) { s with heap := h', toks := t' } := I.un (Un.laid k hp (I.hok.fresh hp)) (I.hok.laid k hp new)
theorem Inv.write {x e : Addr}{o : HO}{t' : Nat}(I : Inv X pins σ H s)(mu : Mut (H x))(he : e=x ∨ H e=some (.own x))(k : ∀ b u, b≠e → s.heap.get? b=some u → h'.get? b=some u)(heo : ∃ u, h'.get? e=some u)
    (new : aP X.prog X.w (upd H x o) h' x o) : Inv X pins σ (upd H x o) { s with heap := h', toks := t' } := I.un (Un.write mu he k heo) (I.hok.write mu he k heo new)
theorem Inv.pins_of {pins' : List (Addr × Obj)}(I : Inv X pins σ H s)(h : ∀ p∈pins', s.heap.get? p.1=some p.2 ∧ H p.1=none ∧ p.1≠X.env.locals ∧ p.1∉X.fs ∧ ∀ v, p.2.data ≠ .cell v) : Inv X pins' σ H s :=
  ⟨I.ok, I.os, I.bare, I.base, I.loc, I.cell, I.free, I.freeC, fun p hp => (tm.mp hp).elim (fun z => I.pin p (rY _ z)) (h p), I.hok, I.len⟩
theorem ck {N : List Str}(hN : N.Nodup){i j : Nat}{x : Str}(a : N[i]? = some x)(b : N[j]? = some x) : i=j := by
  obtain ⟨h1, e1⟩ := rb.mp a
  obtain ⟨h2, e2⟩ := rb.mp b
  exact (List.getElem_inj hN).mp (e1.trans e2.symm)
theorem gz {M : Model}{A : Around}{E : Value → Shared → Prop}{i : Nat}{x : Str}{v : V}{u : Value}{Q : Unit → Shared → Prop}(I : Inv X pins σ H s)(hN : X.N.Nodup)(hi : X.N[i]? = some x)(hx : Loc X.env.scope x)(r : aL v u)
    (h : ∀ s', Inv X pins (σ.set i (some v)) H s' → (∃ a, Heap.SameBut a s.heap s'.heap ∧ (a=X.env.locals ∨ X.env.cells.lookup x=some a)) → Q () s') (hf : X.fn x=true ∨ X.env.scope.names.lookup x=some .local := by first | exact .inl rfl | exact .inr rfl | assumption) : wpAny M A (storeName X.env x u) Q E s := by
  obtain ⟨m, hn, hl⟩ := id I.loc
  have hcls : (X.env.scope.kind == .class || (X.env.scope.kind == .module && X.env.locals != X.env.globals))=false := by rw [I.ok.kind];rfl
  have hiσ : i < σ.length := by rw [I.len];exact (rb.mp hi).1
  have cne := I.cne
  have tracked : ∀ {a : Addr} {h' : Heap}, (∃ o, s.heap.get? a=some o ∧ H a=none) → Heap.SameBut a s.heap h' → HOk X.prog X.w H h' := fun {a h'} ha hs b ob e => by
    obtain ⟨_, _, hfree⟩ := ha
    refine (I.hok b ob e).stay (fun c w' hc q => (hs.2 c ?_).trans q) (fun _ q => q) fun _ _ q => q
    rintro rfl
    rcases hc with rfl | hc
    · rw [hfree] at e;cases e
    · rw [hfree] at hc;cases hc
  rcases hx with hk | hk
  · refine wpAny_storeName_local hk hn (fun h' hn' hs => ?_) hcls
    obtain ⟨oL, _, _, hoL, _⟩ := id hn
    refine h _ ⟨I.ok, I.os, I.bare, ⟨fun b o e n hb hx => ?_, fun b o e n hb hx => ?_, I.base.free, fun b o e hx => ?_, I.base.tups, I.base.frzs, I.base.tbls⟩, ⟨_, hn', fun j y v' e1 e2 e3 => ?_⟩, fun y c e => ?_, I.free, I.freeC, fun p hp => ?_, tracked ⟨oL, hoL, I.free⟩ hs, by simpa using I.len⟩ ⟨_, hs, .inl rfl⟩
    · exact (hs.2 b (rC (q_ (q9 e) I.ok.above))).trans (I.base.keep b o e n hb hx)
    · obtain ⟨sl, e1⟩ := I.base.slot b o e n hb hx
      exact ⟨sl, (hs.2 b (rC (q_ (q9 e) I.ok.above))).trans e1⟩
    · obtain ⟨o', e1⟩ := I.base.there b o e hx
      exact ⟨o', (hs.2 b (rC (q_ (q9 e) I.ok.above))).trans e1⟩
    · by_cases hj : j=i
      · subst hj
        rw [hi] at e1;cases e1
        rw [sC hiσ] at e2
        cases e2
        exact ⟨u, r, .inl ⟨hk, by simp⟩⟩
      · rw [su (Ne.symm hj)] at e2
        obtain ⟨u', r', q⟩ := hl j y v' e1 e2 e3
        refine ⟨u', r', ?_⟩
        rcases q with ⟨k, e⟩ | ⟨k, c, e, z⟩
        · refine .inl ⟨k, ?_⟩
          have : y≠x := fun e => hj (ck hN e1 (e ▸ hi))
          simp [this, e]
        · exact .inr ⟨k, c, e, z.sameBut hs (cne y c e)⟩
    · obtain ⟨w', z⟩ := I.cell y c e
      exact ⟨w', z.sameBut hs (cne y c e)⟩
    · obtain ⟨e, n, ne, nf, d⟩ := I.pin p hp
      exact ⟨(hs.2 p.1 ne).trans e, n, ne, nf, d⟩
  · have hfn : X.fn x=true := by
      rcases hf with z | z
      · exact z
      · rw [z] at hk;cases hk
    obtain ⟨c, hc⟩ := I.ok.has x (.inl hk)
    obtain ⟨w', z⟩ := I.cell x c hc
    refine wpAny_storeName_cell I.ok.kind hk hc z (fun h' hc' hs => ?_)
    obtain ⟨oc, hoc, hocd⟩ := id z
    refine h { s with heap := h' } ⟨I.ok, I.os, I.bare, ⟨fun b o e n hb hx => ?_, fun b o e n hb hx => ?_, I.base.free, fun b o e hx => ?_, I.base.tups, I.base.frzs, I.base.tbls⟩, ⟨m, hn.sameBut hs (Ne.symm (cne x c hc)), fun j y v' e1 e2 e3 => ?_⟩, fun y c' e => ?_, I.free, I.freeC, fun p hp => ?_, tracked ⟨oc, hoc, I.freeC x c hc⟩ hs, by simpa using I.len⟩ ⟨c, hs, .inr hc⟩
    · exact (hs.2 b (rC (q_ (q9 e) (I.ok.cab x c hfn hc)))).trans (I.base.keep b o e n hb hx)
    · obtain ⟨sl, e1⟩ := I.base.slot b o e n hb hx
      exact ⟨sl, (hs.2 b (rC (q_ (q9 e) (I.ok.cab x c hfn hc)))).trans e1⟩
    · obtain ⟨o', e1⟩ := I.base.there b o e hx
      exact ⟨o', (hs.2 b (rC (q_ (q9 e) (I.ok.cab x c hfn hc)))).trans e1⟩
    · by_cases hj : j=i
      · subst hj
        rw [hi] at e1;cases e1
        rw [sC hiσ] at e2
        cases e2
        exact ⟨u, r, .inr ⟨.inl hk, c, hc, hc'⟩⟩
      · rw [su (Ne.symm hj)] at e2
        obtain ⟨u', r', q⟩ := hl j y v' e1 e2 e3
        refine ⟨u', r', ?_⟩
        rcases q with q | ⟨k, c', e, z'⟩
        · exact .inl q
        · refine .inr ⟨k, c', e, z'.sameBut hs ?_⟩
          rintro rfl
          exact hj (ck hN e1 (I.ok.inj _ _ _ e hc ▸ hi))
    · by_cases hcc : c'=c
      · subst hcc;exact ⟨_, hc'⟩
      · obtain ⟨w2, z2⟩ := I.cell y c' e
        exact ⟨w2, z2.sameBut hs hcc⟩
    · obtain ⟨e, n, ne, nf, d⟩ := I.pin p hp
      refine ⟨(hs.2 p.1 ?_).trans e, n, ne, nf, d⟩
      intro q
      rw [q, hoc] at e
      have q' : oc=p.2 := rl e
      exact d w' (by rw [← q'];exact hocd)
theorem bc {M : Model}{A : Around}{E : Value → Shared → Prop}{i : Nat}{x : Str}{v : V}{u : Value}{Q : Unit → Shared → Prop}(I : Inv X pins σ H s)(hN : X.N.Nodup)(hi : X.N[i]? = some x)(hx : Loc X.env.scope x)(r : aL v u)
    (h : ∀ s', Inv X pins (σ.set i (some v)) H s' → Q () s') (hf : X.fn x=true ∨ X.env.scope.names.lookup x=some .local := by first | exact .inl rfl | exact .inr rfl | assumption) : wpAny M A (storeName X.env x u) Q E s :=
  gz I hN hi hx r (fun s' I' _ => h s' I') hf
theorem Inv.call' {s' : Shared}{ch : List Addr}(I : Inv X pins σ H s)(ho : s'.os=s.os)(u : Un (frs X.stack) ch H H' s.heap s'.heap)(hok : HOk X.prog X.w H' s'.heap)(hg : AllBare s'.gens)
    (hch : ∀ b∈ch, (b∈X.ex ∨ X.s₀.heap.objs.size≤b) ∧ b≠X.env.locals ∧ (∀ x c, X.env.cells.lookup x=some c → c≠b) ∧ ∀ p∈X.pn++pins, p.1≠b) : Inv X pins σ H' s' := by
  obtain ⟨h', g', d', t', o'⟩ := s'
  have e : o'=s.os := ho
  subst e
  exact I.call (g' := g') (t' := t') (d' := d') u hok hg hch
end
abbrev XK := Value → Option Addr → Hp → Prop
abbrev St := List (Option V)
abbrev VK := V → Hp → Prop
abbrev TE := St → Hp → VK → Prop
abbrev TT := St → Hp → (Bool → Hp → Prop) → Prop
abbrev TA := St → Hp → (List V → Hp → Prop) → Prop
structure cZ where
  nx : St → Hp → Prop
  rt : VK
  bk : St → Hp → Prop := fun _ _ => False
  ct : St → Hp → Prop := fun _ _ => False
abbrev TS := cZ → St → Hp → Prop
def EP (X : Cx)(pins : List (Addr × Obj))(σ : St)(Q : VK)(u : Value)(s' : Shared) : Prop := ∃ v H', Inv X pins σ H' s' ∧ aL v u ∧ Q v H'
def TP (X : Cx)(pins : List (Addr × Obj))(σ : St)(Q : Bool → Hp → Prop)(b : Bool)(s' : Shared) : Prop := ∃ H', Inv X pins σ H' s' ∧ Q b H'
def AP (X : Cx)(pins : List (Addr × Obj))(σ : St)(Q : List V → Hp → Prop)(us : List Value)(s' : Shared) : Prop := ∃ vs H', Inv X pins σ H' s' ∧ aI vs us ∧ Q vs H'
def SP (X : Cx)(pins : List (Addr × Obj))(D : cZ)(f : Flow)(s' : Shared) : Prop :=
  match f with
  | .next => ∃ σ' H', Inv X pins σ' H' s' ∧ D.nx σ' H'
  | .brk => ∃ σ' H', Inv X pins σ' H' s' ∧ D.bk σ' H'
  | .cont => ∃ σ' H', Inv X pins σ' H' s' ∧ D.ct σ' H'
  | .ret u => ∃ v σ' H', Inv X pins σ' H' s' ∧ aL v u ∧ D.rt v H'
def PE (X : Cx)(e : Expr)(t : TE) : Prop :=
  ∀ (pins : List (Addr × Obj)) (s : Shared) (σ : St) (H : Hp) (Q : VK), Inv X pins σ H s → t σ H Q → wpAny (model X.prog X.w) X.A (eval e X.env) (EP X pins σ Q) X.xe s
def PT (X : Cx)(e : Expr)(t : TT) : Prop :=
  ∀ (pins : List (Addr × Obj)) (s : Shared) (σ : St) (H : Hp) (Q : Bool → Hp → Prop), Inv X pins σ H s → t σ H Q → wpAny (model X.prog X.w) X.A (isTrue e X.env (eval e X.env)) (TP X pins σ Q) X.xe s
def PW (X : Cx)(e : Expr)(t : TT) : Prop :=
  ∀ (whole : Sem Value) (pins : List (Addr × Obj)) (s : Shared) (σ : St) (H : Hp) (Q : Bool → Hp → Prop), Inv X pins σ H s → t σ H Q → wpAny (model X.prog X.w) X.A (isTrue e X.env whole) (TP X pins σ Q) X.xe s
theorem PW.pt {X : Cx}{e : Expr}{t : TT}(h : PW X e t) : PT X e t := h _
def PA (X : Cx)(es : List Expr)(t : TA) : Prop :=
  ∀ (pos : Pos) (pins : List (Addr × Obj)) (s : Shared) (σ : St) (H : Hp) (Q : List V → Hp → Prop), Inv X pins σ H s → t σ H Q → wpAny (model X.prog X.w) X.A (spliced (backTo pos (starEach es X.env))) (AP X pins σ Q) X.xe s
def PS (X : Cx)(st : Stmt)(t : TS) : Prop :=
  ∀ (pins : List (Addr × Obj)) (s : Shared) (σ : St) (H : Hp) (D : cZ), Inv X pins σ H s → t D σ H → wpAny (model X.prog X.w) X.A (exec st X.env) (SP X pins D) X.xe s
def PSs (X : Cx)(st : List Stmt)(t : TS) : Prop :=
  ∀ (pins : List (Addr × Obj)) (s : Shared) (σ : St) (H : Hp) (D : cZ), Inv X pins σ H s → t D σ H → wpAny (model X.prog X.w) X.A (execs st X.env) (SP X pins D) X.xe s
theorem thn {α : Type}{t : Sem α}{Q Q' : α → Shared → Prop}{M : Model}{A : Around}{E : Value → Shared → Prop}{s : Shared}(h : wpAny M A t Q E s)(hQ : ∀ a s, Q a s → Q' a s) : wpAny M A t Q' E s := rO h hQ fun _ _ x => x
section
variable {X : Cx}
inductive oQ (i : Nat)(σ : St)(H : Hp)(Q : VK) : Prop
  | mk : ∀ v, (σ[i]? = some (some v)) → (Q v H) → oQ i σ H Q
def tC (v : V) : TE := fun _ H Q => Q v H
theorem mU {i : Nat}{x : Str}{pos : Pos}(hN : X.N[i]? = some x)(hv : Vis X.env.scope x)(hd : (x == ("__debug__" : Str))=false := by decide)(hcd : (x == ("__classdict__" : Str))=false := by decide) : PE X (.Name x pos) (oQ i) := by
  intro pins s σ H Q I h
  obtain ⟨v, e, h⟩ := h
  obtain ⟨m, hn, hl⟩ := I.loc
  obtain ⟨u, r, l⟩ := hl i x v hN e hv
  have fin : EP X pins σ Q u s := ⟨v, H, I, r, h⟩
  rcases l with ⟨hk, hm⟩ | ⟨hk, c, hc, hcell⟩
  · exact tI (sG I.ok.kind hk hn hm fin) hd
  · rcases hk with hk | hk
    · exact tI (ue I.ok.kind hk hc hcell fin) hd
    · exact tI (wpAny_loadName_free I.ok.kind hk hc hcell fin hcd) hd
theorem ao {i j pos} : PE X (.Constant (.int i) j pos) (tC (.int i)) := fun _ _ _ H _ I h => wpAny_Constant_int ⟨.int i, H, I.tok _, ⟨_, rfl⟩, h⟩
theorem fZ {b j pos} : PE X (.Constant (.bool b) j pos) (tC (.bl b)) := fun _ _ _ H _ I h => Constant_bool ⟨.bl b, H, I, rfl, h⟩
theorem gA {j pos} : PE X (.Constant .none j pos) (tC .non) := fun _ _ _ H _ I h => Constant_none ⟨.non, H, I, rfl, h⟩
theorem ay {x j pos} : PE X (.Constant (.str x) j pos) (tC (.str x)) := fun _ _ _ H _ I h => Calls.Constant_str ⟨.str x, H, I.tok _, ⟨_, rfl⟩, h⟩
def Gl (X : Cx)(x : Str) : Prop := X.env.kindOf x=some .globalImplicit
theorem bI {E : Value → Shared → Prop}{pins : List (Addr × Obj)}{s : Shared}{σ : St}{H : Hp}{x : Str}{u : Value}{pos : Pos}{Q : Value → Shared → Prop}(I : Inv X pins σ H s)(hg : Gl X x)(hm : X.mg x=some u)(h : Q u s)
    (hd : (x == ("__debug__" : Str))=false := by decide) : wpAny (model X.prog X.w) X.A (eval (.Name x pos) X.env) Q E s :=
  uo I.ok.kind hg (Calls.loadGlobal_global (by rw [I.ok.glob];exact I.mod.glob.keeps I.bk) hm h) hd
theorem dH {E : Value → Shared → Prop}{pins : List (Addr × Obj)}{s : Shared}{σ : St}{H : Hp}{x : Str}{u : Value}{pos : Pos}{Q : Value → Shared → Prop}(I : Inv X pins σ H s)(hg : Gl X x)(hm : X.mg x=none)(hv : bootBuiltins x=some u)(h : Q u s)
    (hn : x ≠ "__name__" := by decide) (hd : (x == ("__debug__" : Str))=false := by decide) : wpAny (model X.prog X.w) X.A (eval (.Name x pos) X.env) Q E s := by
  obtain ⟨mb, h1, h2⟩ := I.mod.blt
  exact uo I.ok.kind hg (Calls.loadGlobal_builtin (by rw [I.ok.glob];exact I.mod.glob.keeps I.bk) hm (by rw [I.ok.blt];exact h1.keeps I.bk) ((h2 x hn).trans hv) h) hd
theorem a8 {x : Str}{v : V}{u : Value}{pos : Pos}(hg : Gl X x)(hm : X.mg x=some u)(r : aL v u)(hd : (x == ("__debug__" : Str))=false := by decide) : PE X (.Name x pos) (tC v) :=
  fun _ _ _ H _ I h => bI I hg hm ⟨v, H, I, r, h⟩ hd
theorem gC {x : Str}{v : V}{u : Value}{pos : Pos}(hg : Gl X x)(hm : X.mg x=none)(hv : bootBuiltins x=some u)(r : aL v u)(hn : x ≠ "__name__" := by decide)(hd : (x == ("__debug__" : Str))=false := by decide) : PE X (.Name x pos) (tC v) :=
  fun _ _ _ H _ I h => dH I hg hm hv ⟨v, H, I, r, h⟩ hn hd
variable {a b : Expr} {ta tb : TE} {pos : Pos}
inductive IsB (x : V)(H : Hp)(Q : Bool → Hp → Prop) : Prop
  | mk : ∀ c, (x = .bl c) → (Q c H) → IsB x H Q
variable {tA tB' : TT} {rest : List Expr}
def gD (u : TT)(σ : St)(Q : (Bool → Hp → Prop)) : Bool → Hp → Prop := fun c H1 => if c=true then u σ H1 Q else Q false H1
def qy (t u : TT) : TT := fun σ H Q => t σ H (gD u σ Q)
def gE (u : TT)(σ : St)(Q : (Bool → Hp → Prop)) : Bool → Hp → Prop := fun c H1 => if c=true then Q true H1 else u σ H1 Q
def tOr (t u : TT) : TT := fun σ H Q => t σ H (gE u σ Q)
def eV (Q : (Bool → Hp → Prop)) : Bool → Hp → Prop := fun c H1 => Q (!c) H1
def qz (t : TT) : TT := fun σ H Q => t σ H (eV Q)
theorem kM (ha : PT X a tA) : PW X (.BoolOp .And [a] pos) tA := by
  intro wh pins s σ H Q I h
  refine isTrue_and (thn (ha pins s σ H Q I h) fun c s1 e => ?_)
  cases c with
  | true => exact isTrue_and_nil e
  | false => exact e
theorem gF (ha : PT X a tA) : PW X (.BoolOp .Or [a] pos) tA := by
  intro wh pins s σ H Q I h
  refine isTrue_or (thn (ha pins s σ H Q I h) fun c s1 e => ?_)
  cases c with
  | false => exact isTrue_or_nil e
  | true => exact e
theorem mV (ha : PT X a tA)(hb : PW X (.BoolOp .And (b::rest) pos) tB') : PW X (.BoolOp .And (a::b::rest) pos) (qy tA tB') := by
  intro wh pins s σ H Q I h
  refine isTrue_and (thn (ha pins s σ H _ I h) fun c s1 zq7 => ?_)
  obtain ⟨H1, I1, q1⟩ := zq7
  cases c with
  | true => exact hb wh pins s1 σ H1 Q I1 q1
  | false => exact ⟨H1, I1, q1⟩
theorem kO (ha : PT X a tA)(hb : PW X (.BoolOp .Or (b::rest) pos) tB') : PW X (.BoolOp .Or (a::b::rest) pos) (tOr tA tB') := by
  intro wh pins s σ H Q I h
  refine isTrue_or (thn (ha pins s σ H _ I h) fun c s1 zq8 => ?_)
  obtain ⟨H1, I1, q1⟩ := zq8
  cases c with
  | true => exact ⟨H1, I1, q1⟩
  | false => exact hb wh pins s1 σ H1 Q I1 q1
theorem cw (ha : PT X a tA) : PT X (.UnaryOp .Not a pos) (qz tA) := by
  intro pins s σ H Q I h
  exact isTrue_not (ha pins s σ H (fun c H1 => Q (!c) H1) I h)
def je (tb : TE)(σ : St)(Q : VK) : Bool → Hp → Prop := fun c H1 => if c=true then tb σ H1 Q else Q (.bl false) H1
def jf (tb : TE)(σ : St)(Q : VK) : V → Hp → Prop := fun x H1 => IsB x H1 (je tb σ Q)
def oR (ta tb : TE) : TE := fun σ H Q => ta σ H (jf tb σ Q)
def jg (Q : VK) : Bool → Hp → Prop := fun c H1 => Q (.bl (!c)) H1
def jh (Q : VK) : V → Hp → Prop := fun x H1 => IsB x H1 (jg Q)
def oS (ta : TE) : TE := fun σ H Q => ta σ H (jh Q)
theorem j_ {op}{t : TE}(h : PE X a t) : PE X (.BoolOp op [a] pos) t := fun pins s σ H Q I hw => BoolOp_one (h pins s σ H Q I hw)
theorem ka (ha : PE X a ta)(hb : PE X (.BoolOp .And (b::rest) pos) tb) : PE X (.BoolOp .And (a::b::rest) pos) (oR ta tb) := by
  intro pins s σ H Q I h
  refine BoolOp_and (thn (ha pins s σ H _ I h) fun v s1 zq9 => ?_)
  obtain ⟨x, H1, I1, r1, q1⟩ := zq9
  obtain ⟨c, rfl, q1⟩ := q1
  cases r1
  refine sv ?_
  cases c with
  | true => exact hb pins s1 σ H1 Q I1 q1
  | false => exact ⟨.bl false, H1, I1, rfl, q1⟩
theorem mW (ha : PE X a ta) : PE X (.UnaryOp .Not a pos) (oS ta) := by
  intro pins s σ H Q I h
  refine UnaryOp_ (thn (ha pins s σ H _ I h) fun v s1 zq11 => ?_)
  obtain ⟨x, H1, I1, r1, q1⟩ := zq11
  obtain ⟨c, rfl, q1⟩ := q1
  cases r1
  exact not_of (sv ⟨.bl (!c), H1, I1, rfl, q1⟩)
def mX (ta : TE)(tb : TE)(σ : St)(Q : VK) : Bool → Hp → Prop := fun c H1 => if c=true then ta σ H1 Q else tb σ H1 Q
def tIf (t : TT)(ta tb : TE) : TE := fun σ H Q => t σ H (mX ta tb σ Q)
theorem ji {c : Expr}(hc : PT X c tA)(ha : PE X a ta)(hb : PE X b tb) : PE X (.IfExp c a b pos) (tIf tA ta tb) := by
  intro pins s σ H Q I h
  refine wpAny_IfExp (thn (hc pins s σ H _ I h) fun d s1 zq12 => ?_)
  obtain ⟨H1, I1, q1⟩ := zq12
  cases d with
  | true => exact ha pins s1 σ H1 Q I1 q1
  | false => exact hb pins s1 σ H1 Q I1 q1
end
def SqL (K : PySem.W.Frag)(H : Hp)(a : Addr)(xs : List V) : Prop :=
  Rd H a (.lst xs) ∨
    ∃ (o : Obj) (its : Array Value) (n : Nat), K.lookup a=some o ∧ o.cls = .type "list" ∧ o.dict=none ∧ o.data = .seq its n ∧ its.size≤sizeLine ∧ aI xs its.toList
def SqT (K : PySem.W.Frag)(H : Hp)(a : Addr)(xs : List V) : Prop :=
  Rd H a (.tup xs) ∨
    ∃ (o : Obj) (its : Array Value) (n : Nat), K.lookup a=some o ∧ o.cls = .type "tuple" ∧ o.data = .seq its n ∧ its.size≤sizeLine ∧ aI xs its.toList
def qA : Value → Option V
  | .none => some .non
  | .bool b => some (.bl b)
  | .int i _ => some (.int i)
  | .str x _ => some (.str x)
  | .bytes b _ => some (.byt b)
  | .float b _ => some (.flt b)
  | .ref a => some (.ref a)
  | .type n => some (.ty n)
  | _ => none
theorem aL.abs {x : V}{u : Value}(r : aL x u) : qA u=some x := by
  cases x with
  | non => cases r;rfl
  | bl _ => cases r;rfl
  | int _ => obtain ⟨t, rfl⟩ := r;rfl
  | str _ => obtain ⟨t, rfl⟩ := r;rfl
  | byt _ => obtain ⟨t, rfl⟩ := r;rfl
  | flt _ => obtain ⟨t, rfl⟩ := r;rfl
  | ref _ => cases r;rfl
  | ty _ => cases r;rfl
theorem aL.inj {x y : V}{u : Value}(r : aL x u)(q : aL y u) : x=y := rl (r.abs.symm.trans q.abs)
theorem aI.inj : ∀ {xs ys : List V} {us : List Value}, aI xs us → aI ys us → xs=ys
  | _, _, _, .nil, .nil => rfl
  | _, _, _, .cons r t, .cons r' t' => by rw [r.inj r', aI.inj t t']
section
variable {X : Cx} {pins : List (Addr × Obj)} {σ : St} {H : Hp} {s : Shared} {a : Addr} {xs ys : List V}
theorem SqL.of {K : PySem.W.Frag}(h : H a=some (.lst xs)) : SqL K H a xs := .inl (.inl h)
theorem SqT.of {K : PySem.W.Frag}(h : H a=some (.tup xs)) : SqT K H a xs := .inl (.inl h)
theorem Inv.list (I : Inv X pins σ H s)(h : SqL X.K H a xs) : ∃ its : List Value, aI xs its ∧ PlainL s.heap a its.toArray ∧ xs.length≤sizeLine := by
  rcases h with h | ⟨o, its, n, hk, hc, hd, hs, hz, r⟩
  · obtain ⟨z, its, n, r, e⟩ := h.ok I.hok
    exact ⟨its, r, ⟨_, n, e, rfl, rfl, rfl⟩, z⟩
  · refine ⟨its.toList, r, ⟨o, n, I.kIn a o hk, hc, hd, by simpa using hs⟩, ?_⟩
    have e := r.length
    simp only [se] at e
    omega
theorem Inv.tuple (I : Inv X pins σ H s)(h : SqT X.K H a xs) : ∃ its : List Value, aI xs its ∧ IsTup s.heap a its.toArray ∧ xs.length≤sizeLine := by
  rcases h with h | ⟨o, its, n, hk, hc, hs, hz, r⟩
  · obtain ⟨z, its, r, p, _⟩ := h.ok I.hok
    exact ⟨its, r, p, z⟩
  · refine ⟨its.toList, r, ⟨o, I.kIn a o hk, hc, n, by simpa using hs⟩, ?_⟩
    have e := r.length
    simp only [se] at e
    omega
theorem Inv.list_inj (I : Inv X pins σ H s)(h : SqL X.K H a xs)(h' : SqL X.K H a ys) : xs=ys := by
  obtain ⟨its, r, ⟨o, n, e, _, _, d⟩, _⟩ := I.list h
  obtain ⟨its', r', ⟨o', n', e', _, _, d'⟩, _⟩ := I.list h'
  rw [e] at e';cases e'
  rw [d] at d'
  injection d' with d1 _
  have : its=its' := by simpa using rT Array.toList d1
  subst this
  exact r.inj r'
end
abbrev Cx.wish (X : Cx)(E : Value → Shared → Prop) : Cx := { X with xe := E }
abbrev Cx.nox (X : Cx) : Cx := X.wish fun _ _ => False
theorem Cx.Ok.wish {X : Cx}(ok : X.Ok)(E : Value → Shared → Prop) : (X.wish E).Ok :=
  ⟨ok.mod, ok.kind, ok.glob, ok.blt, ok.above, ok.inj, ok.has, ok.cab, ok.hd, ok.frames, ok.stk, ok.exf, ok.bs, ok.bsz, ok.noex, ok.exfs, ok.funs, ok.frf⟩
theorem Cx.Ok.unwish {X : Cx}{E : Value → Shared → Prop}(ok : (X.wish E).Ok) : X.Ok :=
  ⟨ok.mod, ok.kind, ok.glob, ok.blt, ok.above, ok.inj, ok.has, ok.cab, ok.hd, ok.frames, ok.stk, ok.exf, ok.bs, ok.bsz, ok.noex, ok.exfs, ok.funs, ok.frf⟩
section
variable {X : Cx} {pins : List (Addr × Obj)} {σ : St} {H : Hp} {s : Shared} {E : Value → Shared → Prop}
theorem Inv.wish (I : Inv X pins σ H s)(E : Value → Shared → Prop) : Inv (X.wish E) pins σ H s := ⟨I.ok.wish E, I.os, I.bare, I.base, I.loc, I.cell, I.free, I.freeC, I.pin, I.hok, I.len⟩
theorem Inv.unwish (I : Inv (X.wish E) pins σ H s) : Inv X pins σ H s := ⟨I.ok.unwish, I.os, I.bare, I.base, I.loc, I.cell, I.free, I.freeC, I.pin, I.hok, I.len⟩
theorem SP.unwish {D : cZ}{f : Flow}{s' : Shared}(h : SP (X.wish E) pins D f s') : SP X pins D f s' := by
  cases f with
  | next => obtain ⟨σ', H', I, q⟩ := h;exact ⟨σ', H', I.unwish, q⟩
  | brk => obtain ⟨σ', H', I, q⟩ := h;exact ⟨σ', H', I.unwish, q⟩
  | cont => obtain ⟨σ', H', I, q⟩ := h;exact ⟨σ', H', I.unwish, q⟩
  | ret u => obtain ⟨v, σ', H', I, r, q⟩ := h;exact ⟨v, σ', H', I.unwish, r, q⟩
theorem PSs.nox {st : List Stmt}{t : TS}(h : PSs X.nox st t) : PSs X st t := fun pins s σ H D I hw =>
  rO (h pins s σ H D (I.wish _) hw) (fun _ _ q => q.unwish) fun _ _ z => False.elim z
end
section
variable {X : Cx} {st : Stmt} {rest : List Stmt} {t u : TS} {e : Expr} {te : TE} {pos : Pos}
def oU : TS := fun D σ H => D.nx σ H
def qB (t u : TS) : TS := fun D σ H => t { D with nx := u D } σ H
theorem aX : PSs X [] oU := fun _ _ σ H _ I h => tq ⟨σ, H, I, h⟩
theorem aj (h1 : PS X st t)(h2 : PSs X rest u) : PSs X (st::rest) (qB t u) := by
  intro pins s σ H D I h
  refine sZ (thn (h1 pins s σ H { D with nx := u D } I h) fun f s1 q => ?_)
  cases f with
  | next =>
    obtain ⟨σ', H', I', q⟩ := q
    exact h2 pins s1 σ' H' D I' q
  | ret v => exact q
  | brk => exact q
  | cont => exact q
theorem aq (h1 : PS X st t) : PSs X [st] t := by
  intro pins s σ H D I h
  refine sZ (thn (h1 pins s σ H D I h) fun f s1 q => ?_)
  cases f with
  | next => exact tq q
  | ret v => exact q
  | brk => exact q
  | cont => exact q
theorem Inv.quiet {pins : List (Addr × Obj)}{σ : St}{H : Hp}{s : Shared}(I : Inv X pins σ H s) : interactive X.env=false := by simp [interactive, I.ok.kind]
def jj (D : cZ)(σ : St) : V → Hp → Prop := fun _ H1 => D.nx σ H1
def oV (te : TE) : TS := fun D σ H => te σ H (jj D σ)
theorem kP (he : PE X e te)(hs : swapsWith e none pos.line X.env=pure false := by rfl) : PS X (.Expr e pos) (oV te) := by
  intro pins s σ H D I h
  exact wpAny_Expr_any (thn (he pins s σ H _ I h) fun v s1 zq15 => (by obtain ⟨x, H1, I1, r1, q1⟩ := zq15;exact ⟨σ, H1, I1, q1⟩)) I.quiet hs
def qC (te : TE) : TS := fun D σ H => te σ H D.rt
theorem aN (he : PE X e te) : PS X (.Return (some e) pos) (qC te) := by
  intro pins s σ H D I h
  exact wpAny_Return_some (thn (he pins s σ H _ I h) fun v s1 zq16 => (by obtain ⟨x, H1, I1, r1, q1⟩ := zq16;exact ⟨x, σ, H1, I1, r1, q1⟩))
def eW (t : TS)(u : TS)(D : cZ)(σ : St) : Bool → Hp → Prop := fun b H1 => if b=true then t D σ H1 else u D σ H1
def qD (c : TT)(t u : TS) : TS := fun D σ H => c σ H (eW t u D σ)
theorem cj {c : Expr}{a b : List Stmt}{tc : TT}(hc : PT X c tc)(ha : PSs X a t)(hb : PSs X b u) : PS X (.If c a b pos) (qD tc t u) := by
  intro pins s σ H D I h
  refine wpAny_If (thn (hc pins s σ H _ I h) fun d s1 zq17 => ?_)
  obtain ⟨H1, I1, q1⟩ := zq17
  cases d with
  | true => exact ha pins s1 σ H1 D I1 q1
  | false => exact hb pins s1 σ H1 D I1 q1
end
abbrev TG := V → St → Hp → (St → Hp → Prop) → Prop
def PG (X : Cx)(target : Expr)(t : TG) : Prop :=
  ∀ (pins : List (Addr × Obj)) (s : Shared) (σ : St) (H : Hp) (v : V) (u : Value) (Q : St → Hp → Prop), Inv X pins σ H s → aL v u → t v σ H Q →
    wpAny (model X.prog X.w) X.A (assign target X.env u) (fun _ s' => ∃ σ' H', Inv X pins σ' H' s' ∧ Q σ' H') X.xe s
abbrev TIp := V → V → Hp → VK → Prop
def PIp (X : Cx)(op : Operator)(t : TIp) : Prop :=
  ∀ (pins : List (Addr × Obj)) (s : Shared) (σ : St) (H : Hp) (x y : V) (v u : Value) (Q : VK), Inv X pins σ H s → aL x v → aL y u → t x y H Q →
    wpAny (model X.prog X.w) X.A (inplaceOp op v u) (EP X pins σ Q) X.xe s
section
variable {X : Cx} {pos : Pos}
def kQ (i : Nat) : TG := fun v σ H Q => Q (σ.set i (some v)) H
theorem bW {i : Nat}{x : Str}(hN : X.N.Nodup)(hi : X.N[i]? = some x)(hx : Loc X.env.scope x)(hf : X.fn x=true ∨ X.env.scope.names.lookup x=some .local := by first | exact .inl rfl | exact .inr rfl | assumption) : PG X (.Name x pos) (kQ i) := by
  intro pins s σ H v u Q I r h
  exact wpAny_assign_Name (bc I hN hi hx r (fun s' I' => ⟨_, H, I', h⟩) hf)
def kT (g : TG)(D : cZ)(σ : St) : V → Hp → Prop := fun x H1 => g x σ H1 D.nx
def pZ (te : TE)(g : TG) : TS := fun D σ H => te σ H (kT g D σ)
theorem aC {i : Nat}{x : Str}{e : Expr}{te : TE}{pos' : Pos}(hN : X.N.Nodup)(hi : X.N[i]? = some x)(hx : Loc X.env.scope x)(he : PE X e te)(hs : swapsWith e (some (.Name x pos')) pos.line X.env=pure false := by rfl)(hf : X.fn x=true ∨ X.env.scope.names.lookup x=some .local := by first | exact .inl rfl | exact .inr rfl | assumption) :
    PS X (.Assign [.Name x pos'] e pos) (pZ te (kQ i)) := by
  intro pins s σ H D I h
  refine tJ (thn (he pins s σ H _ I h) fun v s1 zq23 => ?_) hs
  obtain ⟨y, H1, I1, r1, q1⟩ := zq23
  exact bc I1 hN hi hx r1 (fun s2 I2 => ⟨_, H1, I2, q1⟩) hf
inductive p0 (i : Nat)(te : TE)(ti : TIp)(D : cZ)(σ : St)(H : Hp) : Prop
  | mk : ∀ x, (σ[i]? = some (some x)) → (te σ H fun y H1 => ti x y H1 fun z H2 => D.nx (σ.set i (some z)) H2) → p0 i te ti D σ H
theorem mY {i : Nat}{x : Str}{e : Expr}{te : TE}{op : Operator}{ti : TIp}{pos' : Pos}(hN : X.N.Nodup)(hi : X.N[i]? = some x)(hx : Loc X.env.scope x)(he : PE X e te)(ho : PIp X op ti)(hf : X.fn x=true ∨ X.env.scope.names.lookup x=some .local := by first | exact .inl rfl | exact .inr rfl | assumption) :
    PS X (.AugAssign (.Name x pos') op e pos) (p0 i te ti) := by
  intro pins s σ H D I h
  obtain ⟨v, e1, h⟩ := h
  obtain ⟨m, hn, hl⟩ := I.loc
  have vis : Vis X.env.scope x := by rcases hx with k | k;exact .inl k;exact .inr (.inl k)
  obtain ⟨u, r, l⟩ := hl i x v hi e1 vis
  refine wpAny_AugAssign_Name ?_
  have go : wpAny (model X.prog X.w) X.A (eval e X.env) (fun w s₂ => wpAny (model X.prog X.w) X.A (inplaceOp op u w) (fun r s₃ => wpAny (model X.prog X.w) X.A (storeName X.env x r) (fun _ => SP X pins D .next) X.xe s₃) X.xe s₂) X.xe s := by
    refine thn (he pins s σ H _ I h) fun w s1 zq25 => ?_
    obtain ⟨y, H1, I1, r1, q1⟩ := zq25
    refine thn (ho pins s1 σ H1 v y u w _ I1 r r1 q1) fun z s2 zq26 => ?_
    obtain ⟨zv, H2, I2, r2, q2⟩ := zq26
    exact bc I2 hN hi hx r2 (fun s3 I3 => ⟨_, H2, I3, q2⟩) hf
  rcases l with ⟨hk, hm⟩ | ⟨hk, c, hc, hcell⟩
  · exact sG I.ok.kind hk hn hm go
  · rcases hk with hk | hk
    · exact ue I.ok.kind hk hc hcell go
    · rcases hx with k | k
      · have : X.env.scope.names.lookup x=some .free := hk
        rw [k] at this;cases this
      · have : X.env.scope.names.lookup x=some .free := hk
        rw [k] at this;cases this
def ipI (f : Int → Int → Int) : TIp := fun x y H Q => ∃ i j, x = .int i ∧ y = .int j ∧ Q (.int (f i j)) H
theorem mZ : PIp X .Add (ipI fun i j => i+j) := by
  intro pins s σ H x y v u Q I r1 r2 h
  obtain ⟨i, j, e1, e2, q⟩ := h
  subst e1;subst e2
  obtain ⟨t, rfl⟩ := r1
  obtain ⟨t', rfl⟩ := r2
  exact iadd_int ⟨.int _, H, I.tok _, ⟨_, rfl⟩, q⟩
end
structure It where
  go : Nat → Hp → Prop
  yld : Nat → Hp → V → Hp → Prop
  stop : Nat → Hp → Prop
def ja (X : Cx)(pins : List (Addr × Obj))(H : Hp)(b : Addr) : Prop :=
  H b=none ∧ b≠X.env.locals ∧ b∉X.fs ∧ (b∈X.ex ∨ X.s₀.heap.objs.size≤b) ∧ (∀ x c, X.env.cells.lookup x=some c → c≠b) ∧ ∀ p∈X.pn++pins, p.1≠b
theorem Inv.fpOk {X : Cx}{pins : List (Addr × Obj)}{σ : St}{H H' : Hp}{s : Shared}{b : Addr}(I : Inv X pins σ H s)(hb : s.heap.objs.size≤b)(hn : H' b=none) : ja X pins H' b := by
  refine ⟨hn, u_ (q_ I.lt hb), I.nofs hb, .inr (rJ I.sz hb), fun x c e z => ?_, fun p hp z => ?_⟩
  · obtain ⟨v, q⟩ := I.cell x c e
    exact absurd (q_ q.lt (by rw [z];exact hb)) (rG _)
  · exact absurd (q_ (q9 (I.pin p hp).1) (by rw [z];exact hb)) (rG _)
structure oH (P : Program) (w : World) (K : PySem.W.Frag) (tg : Expr) (J : It) (fp : List Addr) (it : Addr) (tn : Nat → Heap → Prop) : Prop where
  mem : it∈fp
  obj : ∀ i h, tn i h → ∀ b∈fp, ∃ o, h.get? b=some o ∧ ∀ v, o.data ≠ .cell v
  keep : ∀ i h h', tn i h → (∀ b∈fp, ∀ o, h.get? b=some o → h'.get? b=some o) → tn i h'
  item : ∀ (X : Cx), X.prog=P → X.w=w → X.K=K → X.calm=true → ∀ (i : Nat) (pins : List (Addr × Obj)) (s : Shared) (σ : St) (H : Hp) (E : Value → Shared → Prop), Inv X pins σ H s → (∀ b∈fp, ja X pins H b) → tn i s.heap → J.go i H →
    wpAny (model P w) X.A (pyNext (.ref it)) (fun r s1 => ∃ u, r=some u ∧
      wpAny (model P w) X.A (letOwnedTupleGo tg (.ref it) u) (fun _ s2 => ∃ x H', Inv X pins σ H' s2 ∧ aL x u ∧ J.yld i H x H' ∧ tn (i+1) s2.heap ∧ ∀ b∈fp, H' b=none) E s1) E s
  done : ∀ (X : Cx), X.prog=P → X.w=w → X.K=K → X.calm=true → ∀ (i : Nat) (pins : List (Addr × Obj)) (s : Shared) (σ : St) (H : Hp) (E : Value → Shared → Prop), Inv X pins σ H s → (∀ b∈fp, ja X pins H b) → tn i s.heap → J.stop i H →
    wpAny (model P w) X.A (pyNext (.ref it)) (fun r s1 => r=none ∧ Inv X pins σ H s1) E s
  self : ∀ (A : Around) (i : Nat) (s : Shared) (Q : Value → Shared → Prop) (E : Value → Shared → Prop), tn i s.heap → Q (.ref it) s → wpAny (model P w) A (pyIter (.ref it)) Q E s
abbrev TI := St → Hp → (It → Hp → Prop) → Prop
def PIE (X : Cx)(pins : List (Addr × Obj))(σ : St)(tg : Expr)(R : It → Hp → Prop)(itv : Value)(s2 : Shared) : Prop :=
  ∃ (it : Addr) (fp : List Addr) (tn : Nat → Heap → Prop) (J : It) (H' : Hp), itv = .ref it ∧ Inv X pins σ H' s2 ∧ oH X.prog X.w X.K tg J fp it tn ∧ tn 0 s2.heap ∧ (∀ b∈fp, ja X pins H' b) ∧ R J H'
def PI (X : Cx)(tg iter : Expr)(wi : TI) : Prop :=
  ∀ (pins : List (Addr × Obj)) (s : Shared) (σ : St) (H : Hp) (R : It → Hp → Prop), Inv X pins σ H s → wi σ H R →
    wpAny (model X.prog X.w) X.A (eval iter X.env) (fun v s1 => wpAny (model X.prog X.w) X.A (pyIter v) (PIE X pins σ tg R) X.xe s1) X.xe s
theorem kU {M : Model}{A : Around}{E : Value → Shared → Prop}{s : Shared}{tg : Expr}{it : Addr}{u : Value}{o : Obj}{n : String}{vs : Array Value}{Q : Unit → Shared → Prop}(ho : s.heap.get? it=some o)(hc : o.cls = .type n)(hd : o.data = .fields vs)
    (hn : ["enumerate", "zip", "dict_itemiterator", "dict_reverseitemiterator", "odict_iterator", "itertools.zip_longest", "itertools.pairwise"].contains n=false) (hQ : Q () s) : wpAny M A (letOwnedTupleGo tg (.ref it) u) Q E s := by
  unfold letOwnedTupleGo
  cases tg <;> first
    | exact rm hQ
    | (cases u <;> first
        | exact rm hQ
        | (refine q8 (wpAny_load ho ?_)
           rw [hc, hd]
           show wpAny M A (if (["enumerate", "zip", "dict_itemiterator", "dict_reverseitemiterator", "odict_iterator", "itertools.zip_longest", "itertools.pairwise"].contains n && vs[0]? == some (rawInt _))=true then _ else _) Q E s
           rw [if_neg (by intro h;rw [hn, tO] at h;cases h)]
           exact rm hQ))
def Itl (K : PySem.W.Frag)(a : Addr) : It :=
  ⟨fun i H => ∃ xs x, SqL K H a xs ∧ xs[i]? = some x, fun i H x H' => H'=H ∧ ∀ xs, SqL K H a xs → xs[i]? = some x, fun i H => ∃ xs, SqL K H a xs ∧ xs.length≤i⟩
def Itr (lo : Int)(n : Nat) : It := ⟨fun i _ => i < n, fun i H x H' => H'=H ∧ x = .int (lo+i), fun i _ => n≤i⟩
theorem gG {P : Program}{w : World}{K : PySem.W.Frag}{tg : Expr}(a it : Addr) : oH P w K tg (Itl K a) [it] it (fun i h => h.IsListIter it a i) where
  mem := by simp
  obj := fun i h st b hb => by
    have e : b=it := by simpa using hb
    subst e
    obtain ⟨o, e, c, d⟩ := st
    exact ⟨o, e, fun v z => by rw [d] at z;cases z⟩
  keep := fun i h h' st k => st.at fun o e => k it (by simp) o e
  item := by
    intro X hP hw hK hc i pins s σ H E I hf st hg
    subst hP hw hK
    obtain ⟨xs, x, hq, hx⟩ := hg
    obtain ⟨its, rv, p, hz⟩ := I.list hq
    obtain ⟨u, hu, ru⟩ := rv.get hx
    obtain ⟨f0, f1, f2, f3, f4, f5⟩ := hf it (by simp)
    refine wpAny_pyNext_list_item st p.isList (x := u) (by simpa using hu) fun h' st' sb => ?_
    have I1 : Inv X pins σ H { s with heap := h' } := I.turned (t' := s.toks) (fun b o hb e => (sb.2 b hb).trans e) f0 f1 f3 f4 f5
    obtain ⟨o, e, c, d⟩ := id st'
    exact ⟨u, rfl, kU (s := { s with heap := h' }) e c d (by decide) ⟨x, H, I1, ru, ⟨rfl, fun ys hy => by rw [I.list_inj hy hq];exact hx⟩, st', fun b hb => (hf b hb).1⟩⟩
  done := by
    intro X hP hw hK hc i pins s σ H E I hf st hg
    subst hP hw hK
    obtain ⟨xs, hq, hx⟩ := hg
    obtain ⟨its, rv, p, hz⟩ := I.list hq
    obtain ⟨f0, f1, f2, f3, f4, f5⟩ := hf it (by simp)
    have hl := rv.length
    exact wpAny_pyNext_list_end (I.ok.hd hc) st p.isList (by simp;omega) fun h' eb => ⟨rfl, I.turned (t' := s.toks) (fun b o hb e => eb b o hb e) f0 f1 f3 f4 f5⟩
  self := fun _ _ _ _ _ st h => wpAny_pyIter_listiter st h
theorem f_ {P : Program}{w : World}{K : PySem.W.Frag}{tg : Expr}(it : Addr)(lo : Int)(n : Nat) : oH P w K tg (Itr lo n) [it] it (fun i h => IsRangeIter h it (lo+(i : Nat)*1) ((n : Int) - (i : Nat)) 1) where
  mem := by simp
  obj := fun i h st b hb => by
    have e : b=it := by simpa using hb
    subst e
    exact ⟨_, st, fun v z => by
      have z' : Data.fields _=Data.cell v := z
      cases z'⟩
  keep := fun i h h' st k => k it (by simp) _ st
  item := by
    intro X hP hw hK hc i pins s σ H E I hf st hg
    subst hP hw hK
    obtain ⟨f0, f1, f2, f3, f4, f5⟩ := hf it (by simp)
    have W := Walks.range (prog := X.prog) (w := X.w) (I.ok.hd hc) it lo 1 n
    refine W.item i s _ _ hg st fun v h' tk hv st' kk => ?_
    obtain ⟨t, rfl⟩ := hv
    have I1 : Inv X pins σ H { s with heap := h', toks := tk } := I.turned (fun b o hb e => kk b o (by simpa using hb) e) f0 f1 f3 f4 f5
    refine ⟨_, rfl, kU (s := { s with heap := h', toks := tk }) (n := "range_iterator") st' rfl rfl (by decide) ⟨.int (lo+i), H, I1, ⟨t, ?_⟩, ⟨rfl, rfl⟩, st', fun b hb => (hf b hb).1⟩⟩
    rw [Int.mul_one]
  done := by
    intro X hP hw hK hc i pins s σ H E I hf st hg
    subst hP hw hK
    obtain ⟨f0, f1, f2, f3, f4, f5⟩ := hf it (by simp)
    exact wpAny_pyNext_range_end (I.ok.hd hc) st (by have : n≤i := hg;omega) fun h' eb => ⟨rfl, I.turned (t' := s.toks) (fun b o hb e => eb b o hb e) f0 f1 f3 f4 f5⟩
  self := fun _ _ _ _ _ st h => wpAny_pyIter_rangeiter st h
section
variable {X : Cx} {tg : Expr}
def oW (K : PySem.W.Frag)(tl : TE) : TI := fun σ H R => tl σ H fun x H1 => ∃ a, x = .ref a ∧ (∃ xs, SqL K H1 a xs) ∧ R (Itl K a) H1
theorem kW {l : Expr}{tl : TE}(hl : PE X l tl) : PI X tg l (oW X.K tl) := by
  intro pins s σ H R I h
  refine thn (hl pins s σ H _ I h) fun v s1 zq34 => ?_
  obtain ⟨x, H1, I1, r1, q1⟩ := zq34
  obtain ⟨a, e, ⟨xs, hq⟩, q⟩ := q1
  subst e
  cases r1
  obtain ⟨its, rv, p, hz⟩ := I1.list hq
  refine wpAny_pyIter_list p.isList ?_
  refine ⟨s1.heap.objs.size, [s1.heap.objs.size], _, _, H1, rfl, I1.kept (t' := s1.toks) fun b o e => fu _ e, gG a _, ⟨_, ri _ rfl, rfl, rfl⟩, fun b hb => ?_, q⟩
  have e : b=s1.heap.objs.size := by simpa using hb
  subst e
  exact I1.fpOk (rh _) (I1.hok.fresh (rh _))
theorem jk {pins : List (Addr × Obj)}{σ : St}{H : Hp}{s : Shared}{R : It → Hp → Prop}{E : Value → Shared → Prop}{lo hi : Int}{t u v : Tok}{tk : Nat}(I : Inv X pins σ H s)(h1 : -(2 ^ 62)≤lo)(h2 : lo < 2 ^ 62)(h3 : -(2 ^ 62)≤hi)(h4 : hi < 2 ^ 62)
    (q : R (Itr lo (hi - lo).toNat) H) : wpAny (model X.prog X.w) X.A (pyIter (.ref s.heap.objs.size)) (PIE X pins σ tg R) E { s with heap := s.heap.push { cls := .type "range", data := .fields #[.int lo t, .int hi u, .int 1 v] }, toks := tk } := by
  refine wpAny_pyIter_range (IsRange.new ..) (small_one h1 h2 h3 h4) ?_
  have I1 : Inv X pins σ H { s with heap := s.heap.push { cls := .type "range", data := .fields #[.int lo t, .int hi u, .int 1 v] }, toks := tk } := I.kept fun b o e => fu _ e
  refine ⟨(s.heap.push { cls := .type "range", data := .fields #[.int lo t, .int hi u, .int 1 v] }).objs.size, [(s.heap.push { cls := .type "range", data := .fields #[.int lo t, .int hi u, .int 1 v] }).objs.size], _, _, H, rfl,
    I1.kept (t' := tk) fun b o e => fu _ e, f_ _ lo (hi - lo).toNat, ?_, fun b hb => ?_, q⟩
  · have e1 : lo+((0 : Nat) : Int)*1=lo := by simp
    have e2 : (((hi - lo).toNat : Nat) : Int) - ((0 : Nat) : Int)=Builtin.Range.rangeSize lo hi 1 := by rw [rangeSize_one];split <;> omega
    show IsRangeIter _ _ (lo+((0 : Nat) : Int)*1) ((((hi - lo).toNat : Nat) : Int) - ((0 : Nat) : Int)) 1
    rw [e1, e2]
    exact ri _ rfl
  · have e : b=(s.heap.push { cls := .type "range", data := .fields #[.int lo t, .int hi u, .int 1 v] }).objs.size := by simpa using hb
    subst e
    exact I1.fpOk (rh _) (I1.hok.fresh (rh _))
def oX (ta : TA) : TI := fun σ H R => ta σ H fun vs H1 => ∃ j : Int, vs=[.int j] ∧ -(2 ^ 62)≤j ∧ j < 2 ^ 62 ∧ R (Itr 0 j.toNat) H1
theorem dI {a : Expr}{ta : TA}{p pos : Pos}(hg : Gl X "range")(hm : X.mg "range" = none)(ha : PA X [a] ta)(hs : starEach [a] X.env=[(false, eval a X.env)] := by rfl) : PI X tg (.Call (.Name "range" p) [a] [] pos) (oX ta) := by
  intro pins s σ H R I h
  refine Call_ (dH I hg hm boot_range (sS (thn (ha pos pins s σ H _ I h) fun us s1 zq36 => ?_) hs rfl))
  obtain ⟨vs, H1, I1, r1, q1⟩ := zq36
  obtain ⟨j, e, q1, q2, q⟩ := q1
  subst e
  cases r1 with
  | cons r rr =>
    cases rr
    obtain ⟨t, rfl⟩ := r
    exact call_range_1 (jk I1 (by omega) (by omega) q1 q2 (by simpa using q))
def qE (wi : TI)(g : TG)(tb : TS) : TS := fun D σ H => wi σ H fun J H1 => ∃ W : Nat → Nat → St → Hp → Prop, (∃ m, W 0 m σ H1) ∧ ∀ i m σ H, W i m σ H →
  (J.stop i H ∧ D.nx σ H) ∨ (J.go i H ∧ ∃ N : St → Hp → Prop, (∀ σ' H', N σ' H' → ∃ m', m' < m ∧ W (i+1) m' σ' H') ∧ ∀ x H', J.yld i H x H' → g x σ H' fun σ2 H2 => tb { D with nx := N, ct := N, bk := D.nx } σ2 H2)
def dJ (fp : List Addr)(h : Heap) : List (Addr × Obj) := fp.filterMap fun b => (h.get? b).map fun o => (b, o)
theorem bz {fp : List Addr}{h : Heap}{b : Addr}{o : Obj}(hb : b∈fp)(e : h.get? b=some o) : (b, o)∈dJ fp h := List.mem_filterMap.mpr ⟨b, hb, by rw [e]; rfl⟩
theorem gH {fp : List Addr}{h : Heap}{p : Addr × Obj}(hp : p∈dJ fp h) : p.1∈fp ∧ h.get? p.1=some p.2 := by
  obtain ⟨b, hb, e⟩ := List.mem_filterMap.mp hp
  cases q : h.get? b with
  | none => rw [q] at e;cases e
  | some o =>
    rw [q] at e
    have e' : (b, o)=p := rl e
    subst e'
    exact ⟨hb, q⟩
theorem Inv.pinned {pins : List (Addr × Obj)}{σ : St}{H : Hp}{s : Shared}{fp : List Addr}(I : Inv X pins σ H s)(hf : ∀ b∈fp, ja X pins H b)(ho : ∀ b∈fp, ∃ o, s.heap.get? b=some o ∧ ∀ v, o.data ≠ .cell v) : Inv X (pins++dJ fp s.heap) σ H s :=
  I.pins_of fun p hp => (tm.mp hp).elim (fun z => I.pin p (ro _ z)) fun z => by
    obtain ⟨hb, e⟩ := gH z
    obtain ⟨f0, f1, f2, _⟩ := hf p.1 hb
    obtain ⟨o, e', d⟩ := ho p.1 hb
    rw [e] at e';cases e'
    exact ⟨e, f0, f1, f2, d⟩
theorem Inv.unpinned {pins pl : List (Addr × Obj)}{σ : St}{H : Hp}{s : Shared}(I : Inv X (pins++pl) σ H s) : Inv X pins σ H s := I.pins_of fun p hp => I.pin p (ro _ (rY _ hp))
theorem dM {iter : Expr}{body : List Stmt}{wi : TI}{g : TG}{tb : TS}{pos : Pos}(hp : PassesOwn (model X.prog X.w) X.A X.env X.xe)(hc : X.calm=true)(hi : PI X tg iter wi)(hg : PG X tg g)(hb : PSs X body tb)
    (hs : ∀ x, foldedSetIterable iter X.env x=pure x := by intro _;rfl) : PS X (.For tg iter body [] pos) (qE wi g tb) := by
  intro pins s σ H D I h
  refine wpAny_For (thn (hi pins s σ H _ I h) fun v s1 h1 => thn h1 fun itv s2 h2 => ?_) hs
  obtain ⟨it, fp, tn, J, H2, e, I2, T, st2, f2, W, ⟨m0, w0⟩, turn⟩ := h2
  subst e
  -- what stays true of the iterator's objects through the loop
  have stat : ∀ {H' : Hp}, (∀ b∈fp, H' b=none) → ∀ b∈fp, ja X pins H' b := fun hn b hb => ⟨hn b hb, (f2 b hb).2⟩
  refine codeAny_forLoop_any (fun n s' => ∃ i σ' H', Inv X pins σ' H' s' ∧ tn i s'.heap ∧ (∀ b∈fp, H' b=none) ∧ W i n σ' H') ?_ m0 ⟨0, σ, H2, I2, st2, fun b hb => (f2 b hb).1, w0⟩
  rintro n s3 ⟨i, σ3, H3, I3, st3, fr3, w3⟩
  rcases turn i n σ3 H3 w3 with ⟨stop, qn⟩ | ⟨go, N, hN, step⟩
  · refine tu hp (thn (T.done X rfl rfl rfl hc i pins s3 σ3 H3 X.xe I3 (stat fr3) st3 stop) fun r s4 zq38 => ?_)
    obtain ⟨hr, I4⟩ := zq38
    subst hr
    exact tq ⟨σ3, H3, I4, qn⟩
  · refine tu hp (thn (T.item X rfl rfl rfl hc i pins s3 σ3 H3 X.xe I3 (stat fr3) st3 go) fun r s4 zq39 => ?_)
    obtain ⟨u, hr, h4⟩ := zq39
    subst hr
    refine tu hp (thn h4 fun _ s5 zq40 => ?_)
    obtain ⟨x, H5, I5, r5, y5, st5, fr5⟩ := zq40
    have I5' := I5.pinned (stat fr5) (T.obj _ _ st5)
    refine tu hp (thn (hg _ s5 σ3 H5 x u _ I5' r5 (step x H5 y5)) fun _ s6 zq41 => ?_)
    obtain ⟨σ6, H6, I6, q6⟩ := zq41
    refine tu hp (thn (hb _ s6 σ6 H6 _ I6 q6) fun f s7 q7 => ?_)
    have again : ∀ {σ7 : St} {H7 : Hp}, Inv X (pins++dJ fp s5.heap) σ7 H7 s7 → N σ7 H7 → ∃ m, m < n ∧ ∃ i σ' H', Inv X pins σ' H' s7 ∧ tn i s7.heap ∧ (∀ b∈fp, H' b=none) ∧ W i m σ' H' := fun {σ7 H7} I7 n7 => by
      obtain ⟨m', hm, w7⟩ := hN σ7 H7 n7
      refine ⟨m', hm, i+1, σ7, H7, I7.unpinned, T.keep _ _ _ st5 fun b hb o e => (I7.pin (b, o) (ro _ (ro _ (bz hb e)))).1, fun b hb => ?_, w7⟩
      obtain ⟨o, e, d⟩ := T.obj _ _ st5 b hb
      exact (I7.pin (b, o) (ro _ (ro _ (bz hb e)))).2.1
    cases f with
    | next => obtain ⟨σ7, H7, I7, n7⟩ := q7;exact again I7 n7
    | cont => obtain ⟨σ7, H7, I7, n7⟩ := q7;exact again I7 n7
    | brk => obtain ⟨σ7, H7, I7, q7⟩ := q7;exact ⟨σ7, H7, I7.unpinned, q7⟩
    | ret v => obtain ⟨x7, σ7, H7, I7, r7, q7⟩ := q7;exact ⟨x7, σ7, H7, I7.unpinned, r7, q7⟩
end
theorem jl {K : PySem.W.Frag}{a : Addr}{xs : List V}{g : TG}{tb : TS}{D : cZ}{σ : St}{H : Hp}(Pv : Nat → St → Hp → Prop)(h0 : Pv 0 σ H)(hl : ∀ i σ H, i≤xs.length → Pv i σ H → SqL K H a xs)
    (hs : ∀ i x σ H, xs[i]? = some x → Pv i σ H → g x σ H fun σ2 H2 => tb { D with nx := Pv (i+1), ct := Pv (i+1), bk := D.nx } σ2 H2) (hd : ∀ σ H, Pv xs.length σ H → D.nx σ H) :
    ∃ W : Nat → Nat → St → Hp → Prop, (∃ m, W 0 m σ H) ∧ ∀ i m σ H, W i m σ H →
      ((Itl K a).stop i H ∧ D.nx σ H) ∨ ((Itl K a).go i H ∧ ∃ N : St → Hp → Prop, (∀ σ' H', N σ' H' → ∃ m', m' < m ∧ W (i+1) m' σ' H') ∧ ∀ x H', (Itl K a).yld i H x H' → g x σ H' fun σ2 H2 => tb { D with nx := N, ct := N, bk := D.nx } σ2 H2) := by
  refine ⟨fun i m σ H => m=xs.length - i ∧ i≤xs.length ∧ Pv i σ H, ⟨xs.length, by simp, sx _, h0⟩, ?_⟩
  rintro i m σ H ⟨rfl, hi, p⟩
  have q := hl i σ H hi p
  by_cases hlt : i < xs.length
  · refine .inr ⟨⟨xs, xs[i], q, by simp [hlt]⟩, Pv (i+1), fun σ' H' p' => ⟨xs.length - (i+1), by omega, rfl, hlt, p'⟩, fun x H' y => ?_⟩
    obtain ⟨e, y⟩ := y
    subst e
    exact hs i x σ _ (y xs q) p
  · have e : i=xs.length := by omega
    subst e
    exact .inl ⟨⟨xs, q, rh _⟩, hd σ H p⟩
theorem dN {lo : Int}{n : Nat}{g : TG}{tb : TS}{D : cZ}{σ : St}{H : Hp}(Pv : Nat → St → Hp → Prop)(h0 : Pv 0 σ H)
    (hs : ∀ i σ H, i < n → Pv i σ H → g (.int (lo+i)) σ H fun σ2 H2 => tb { D with nx := Pv (i+1), ct := Pv (i+1), bk := D.nx } σ2 H2) (hd : ∀ σ H, Pv n σ H → D.nx σ H) :
    ∃ W : Nat → Nat → St → Hp → Prop, (∃ m, W 0 m σ H) ∧ ∀ i m σ H, W i m σ H →
      ((Itr lo n).stop i H ∧ D.nx σ H) ∨ ((Itr lo n).go i H ∧ ∃ N : St → Hp → Prop, (∀ σ' H', N σ' H' → ∃ m', m' < m ∧ W (i+1) m' σ' H') ∧ ∀ x H', (Itr lo n).yld i H x H' → g x σ H' fun σ2 H2 => tb { D with nx := N, ct := N, bk := D.nx } σ2 H2) := by
  refine ⟨fun i m σ H => m=n - i ∧ i≤n ∧ Pv i σ H, ⟨n, by simp, sx _, h0⟩, ?_⟩
  rintro i m σ H ⟨rfl, hi, p⟩
  by_cases hlt : i < n
  · refine .inr ⟨hlt, Pv (i+1), fun σ' H' p' => ⟨n - (i+1), by omega, rfl, hlt, p'⟩, fun x H' y => ?_⟩
    obtain ⟨e, y⟩ := y
    subst e y
    exact hs i σ _ hlt p
  · have e : i=n := by omega
    subst e
    exact .inl ⟨rh _, hd σ H p⟩
abbrev R2 := V → V → Hp → VK → Prop
def OpR (X : Cx)(f : Value → Value → Sem Value)(r : R2) : Prop :=
  ∀ (pins : List (Addr × Obj)) (s : Shared) (σ : St) (H : Hp) (x y : V) (v u : Value) (Q : VK), Inv X pins σ H s → aL x v → aL y u → r x y H Q →
    wpAny (model X.prog X.w) X.A (f v u) (EP X pins σ Q) X.xe s
def UnR (X : Cx)(f : Value → Sem Value)(r : V → Hp → VK → Prop) : Prop :=
  ∀ (pins : List (Addr × Obj)) (s : Shared) (σ : St) (H : Hp) (x : V) (v : Value) (Q : VK), Inv X pins σ H s → aL x v → r x H Q →
    wpAny (model X.prog X.w) X.A (f v) (EP X pins σ Q) X.xe s
def bD (X : Cx)(f : Value)(r : List V → Hp → VK → Prop) : Prop :=
  ∀ (pins : List (Addr × Obj)) (s : Shared) (σ : St) (H : Hp) (xs : List V) (us : List Value) (Q : VK), Inv X pins σ H s → aI xs us → r xs H Q →
    wpAny (model X.prog X.w) X.A (call f us) (EP X pins σ Q) X.xe s
def qF (X : Cx)(r : V → Hp → (Bool → Hp → Prop) → Prop) : Prop :=
  ∀ (pins : List (Addr × Obj)) (s : Shared) (σ : St) (H : Hp) (x : V) (v : Value) (Q : Bool → Hp → Prop), Inv X pins σ H s → aL x v → r x H Q →
    wpAny (model X.prog X.w) X.A (truthy v) (TP X pins σ Q) X.xe s
def m3 (r : R2)(Q : VK)(x : V) : V → Hp → Prop := fun y H2 => r x y H2 Q
def m4 (r : R2)(tb : TE)(σ : St)(Q : VK) : V → Hp → Prop := fun x H1 => tb σ H1 (m3 r Q x)
def tOp (r : R2)(ta tb : TE) : TE := fun σ H Q => ta σ H (m4 r tb σ Q)
def m5 (r : V → Hp → VK → Prop)(Q : VK) : V → Hp → Prop := fun x H1 => r x H1 Q
def tUn (r : V → Hp → VK → Prop)(ta : TE) : TE := fun σ H Q => ta σ H (m5 r Q)
inductive rI (C : Int → Int → Prop)(g : Int → Int → V)(x : V)(y : V)(H : Hp)(Q : VK) : Prop
  | mk : ∀ i j, (x = .int i) → (y = .int j) → (C i j) → (Q (g i j) H) → rI C g x y H Q
inductive rI0 (g : Int → Int → V)(x : V)(y : V)(H : Hp)(Q : VK) : Prop
  | mk : ∀ i j, (x = .int i) → (y = .int j) → (Q (g i j) H) → rI0 g x y H Q
inductive rU (g : Int → V)(x : V)(H : Hp)(Q : VK) : Prop
  | mk : ∀ i, (x = .int i) → (Q (g i) H) → rU g x H Q
section
variable {X : Cx} {a b c : Expr} {ta tb tc : TE} {pos : Pos}
theorem oY (ha : PE X a ta)(hb : PE X b tb){pins : List (Addr × Obj)}{s : Shared}{σ : St}{H : Hp}{R : V → V → Hp → Prop}(I : Inv X pins σ H s)
    (h : ta σ H fun x H1 => tb σ H1 fun y H2 => R x y H2) {Q : Value → Shared → Prop} {f : Value → Value → Sem Value}
    (hf : ∀ v u s2 x y H2, Inv X pins σ H2 s2 → aL x v → aL y u → R x y H2 → wpAny (model X.prog X.w) X.A (f v u) Q X.xe s2) :
    wpAny (model X.prog X.w) X.A (eval a X.env) (fun v s₁ => wpAny (model X.prog X.w) X.A (eval b X.env) (fun u s₂ => wpAny (model X.prog X.w) X.A (f v u) Q X.xe s₂) X.xe s₁) X.xe s := by
  refine thn (ha pins s σ H _ I h) fun v s1 zq42 => ?_
  obtain ⟨x, H1, I1, r1, q1⟩ := zq42
  refine thn (hb pins s1 σ H1 _ I1 q1) fun u s2 zq43 => ?_
  obtain ⟨y, H2, I2, r2, q2⟩ := zq43
  exact hf v u s2 x y H2 I2 r1 r2 q2
theorem az {op : Operator}{r : R2}(ho : OpR X (binaryOp op) r)(ha : PE X a ta)(hb : PE X b tb) : PE X (.BinOp a op b pos) (tOp r ta tb) := by
  intro pins s σ H Q I h
  exact wpAny_BinOp (oY ha hb I h fun v u s2 x y H2 I2 rx ry q => ho pins s2 σ H2 x y v u Q I2 rx ry q)
theorem kX {op : UnaryOp}{r : V → Hp → VK → Prop}(ho : UnR X (unaryOp op) r)(ha : PE X a ta) : PE X (.UnaryOp op a pos) (tUn r ta) := by
  intro pins s σ H Q I h
  exact UnaryOp_ (thn (ha pins s σ H _ I h) fun v s1 zq44 => (by obtain ⟨x, H1, I1, r1, q1⟩ := zq44;exact ho pins s1 σ H1 x v Q I1 r1 q1))
theorem opI {f : Value → Value → Sem Value}{C : Int → Int → Prop}{g : Int → Int → Int}
    (rule : ∀ (i j : Int) (t u : Tok) (s : Shared) (Q : Value → Shared → Prop) (E : Value → Shared → Prop), C i j → Q (.int (g i j) s.toks) { s with toks := s.toks+1 } → wpAny (model X.prog X.w) X.A (f (.int i t) (.int j u)) Q E s) :
    OpR X f (rI C fun i j => .int (g i j)) := by
  intro pins s σ H x y v u Q I rx ry h
  obtain ⟨i, j, rfl, rfl, hc, q⟩ := h
  obtain ⟨t, rfl⟩ := rx
  obtain ⟨t', rfl⟩ := ry
  exact rule i j t t' s _ _ hc ⟨.int (g i j), H, I.tok _, ⟨_, rfl⟩, q⟩
theorem qG {f : Value → Value → Sem Value}{g : Int → Int → Int}
    (rule : ∀ (i j : Int) (t u : Tok) (s : Shared) (Q : Value → Shared → Prop) (E : Value → Shared → Prop), Q (.int (g i j) s.toks) { s with toks := s.toks+1 } → wpAny (model X.prog X.w) X.A (f (.int i t) (.int j u)) Q E s) :
    OpR X f (rI0 fun i j => .int (g i j)) := by
  intro pins s σ H x y v u Q I rx ry h
  obtain ⟨i, j, rfl, rfl, q⟩ := h
  obtain ⟨t, rfl⟩ := rx
  obtain ⟨t', rfl⟩ := ry
  exact rule i j t t' s _ _ ⟨.int (g i j), H, I.tok _, ⟨_, rfl⟩, q⟩
theorem p_ {f : Value → Value → Sem Value}{g : Int → Int → Bool}
    (rule : ∀ (i j : Int) (t u : Tok) (s : Shared) (Q : Value → Shared → Prop) (E : Value → Shared → Prop), Q (.bool (g i j)) s → wpAny (model X.prog X.w) X.A (f (.int i t) (.int j u)) Q E s) :
    OpR X f (rI0 fun i j => .bl (g i j)) := by
  intro pins s σ H x y v u Q I rx ry h
  obtain ⟨i, j, rfl, rfl, q⟩ := h
  obtain ⟨t, rfl⟩ := rx
  obtain ⟨t', rfl⟩ := ry
  exact rule i j t t' s _ _ ⟨.bl (g i j), H, I, rfl, q⟩
def qH (i j : Int) : Prop := 0 < j ∧ j < 1073741824
def qI (i j : Int) : Prop := 0≤j ∧ j≤1000000 ∧ i.natAbs < 2 ^ 64
def oZ (i j : Int) : Prop := (-(2 ^ 64) < i ∧ i < 2 ^ 64) ∨ (-(2 ^ 64) < j ∧ j < 2 ^ 64)
theorem oZ.ok {i j : Int}(h : oZ i j) : IntMulOk i j := by
  rcases h with ⟨h1, h2⟩ | ⟨h1, h2⟩
  · exact .of_left (intBits_le_64 h1 h2)
  · exact .of_right (intBits_le_64 h1 h2)
theorem bM : OpR X (binaryOp .Add) (rI0 fun i j => .int (i+j)) := qG fun _ _ _ _ _ _ _ q => add_int q
theorem dO : OpR X (binaryOp .Mult) (rI oZ fun i j => .int (i*j)) := opI fun _ _ _ _ _ _ _ hc q => mul_int q hc.ok
theorem cy : OpR X (binaryOp .FloorDiv) (rI qH fun i j => .int (i / j)) := opI fun i j _ _ _ _ _ hc q => by
  have h1 : (0 : Int) < j := hc.1
  have h2 : j < 1073741824 := hc.2
  exact floordiv_int (by omega) (by rw [Int.fdiv_eq_ediv_of_nonneg i (by omega)];exact q) (.inl (PyProof.noPylong_small (by omega)))
theorem bN : OpR X (binaryOp .Mod) (rI (fun _ j => 0 < j) fun i j => .int (i % j)) := opI fun i j _ _ _ _ _ hc q => by
  have h1 : (0 : Int) < j := hc
  exact mod_int' (by omega) (by rw [Int.fmod_eq_emod_of_nonneg i (by omega)];exact q)
theorem gI : OpR X (binaryOp .Pow) (rI qI fun i j => .int (i ^ j.toNat)) := opI fun _ _ _ _ _ _ _ hc q => pow_int_small hc.1 hc.2.1 hc.2.2 q
theorem unI {f : Value → Sem Value}{g : Int → Int}
    (rule : ∀ (i : Int) (t : Tok) (s : Shared) (Q : Value → Shared → Prop) (E : Value → Shared → Prop), Q (.int (g i) s.toks) { s with toks := s.toks+1 } → wpAny (model X.prog X.w) X.A (f (.int i t)) Q E s) :
    UnR X f (rU fun i => .int (g i)) := by
  intro pins s σ H x v Q I rx h
  obtain ⟨i, rfl, q⟩ := h
  obtain ⟨t, rfl⟩ := rx
  exact rule i t s _ _ ⟨.int (g i), H, I.tok _, ⟨_, rfl⟩, q⟩
theorem gJ : UnR X (unaryOp .USub) (rU fun i => .int (-i)) := unI fun _ _ _ _ _ q => neg_int q
end
def qa : V → V → Bool
  | .non, .non => true | .non, .int _ => true | .int _, .non => true | .non, .bl _ => true | .bl _, .non => true | .non, .str _ => true | .str _, .non => true
  | .int _, .int _ => true | .bl _, .bl _ => true | .str _, .str _ => true | .byt _, .byt _ => true
  | .int _, .str _ => true | .str _, .int _ => true | .bl _, .str _ => true | .str _, .bl _ => true
  | _, _ => false
def rEq : R2 := fun x y H Q => qa x y=true ∧ Q (.bl (decide (x=y))) H
def rNe : R2 := fun x y H Q => qa x y=true ∧ Q (.bl (!decide (x=y))) H
theorem gK {i j : Int} : decide (V.int i=V.int j)=(i == j) := by
  rw [sT]
  simp
theorem kc {i j : Bool} : decide (V.bl i=V.bl j)=(i == j) := by
  rw [sT]
  simp
theorem gL {i j : Str} : decide (V.str i=V.str j)=(i == j) := by
  rw [sT]
  simp
theorem gM {i j : Array UInt8} : decide (V.byt i=V.byt j)=(i.toList == j.toList) := by
  rw [sT]
  cases i
  cases j
  simp
section
variable {X : Cx} {a b c : Expr} {ta tb tc : TE} {pos : Pos}
theorem ax {pins : List (Addr × Obj)}{σ : St}{H : Hp}{s : Shared}{Q : VK}{k k' : Bool}(I : Inv X pins σ H s)(q : Q (.bl k) H)(e : k=k') : EP X pins σ Q (.bool k') s := by
  subst e
  exact ⟨.bl k, H, I, rfl, q⟩
theorem eX : OpR X (compareOp .Eq) rEq := by
  intro pins s σ H x y v u Q I rx ry h
  obtain ⟨hs, q⟩ := h
  cases x with
  | non =>
    cases rx
    cases y with
    | non => cases ry;exact PySem.EqNone.eq_none_none (ax I q (by simp))
    | bl j => cases ry;exact PySem.EqNone.eq_none_bool (ax I q (by simp))
    | int j => obtain ⟨t', rfl⟩ := ry;exact PySem.EqNone.eq_none_int (ax I q (by simp))
    | str j => obtain ⟨t', rfl⟩ := ry;exact PySem.EqNone.eq_none_str (ax I q (by simp))
    | _ => exact absurd (show false=true from hs) rg
  | bl i =>
    cases rx
    cases y with
    | non => cases ry;exact PySem.EqNone.eq_bool_none (ax I q (by simp))
    | bl j => cases ry;exact eq_bool (ax I q kc)
    | str j => obtain ⟨t', rfl⟩ := ry;exact PySem.EqMixed.eq_bool_str (ax I q (by simp))
    | _ => exact absurd (show false=true from hs) rg
  | int i =>
    obtain ⟨t, rfl⟩ := rx
    cases y with
    | non => cases ry;exact PySem.EqNone.eq_int_none (ax I q (by simp))
    | int j => obtain ⟨t', rfl⟩ := ry;exact eq_int (ax I q gK)
    | str j => obtain ⟨t', rfl⟩ := ry;exact PySem.EqMixed.eq_int_str (ax I q (by simp))
    | _ => exact absurd (show false=true from hs) rg
  | str i =>
    obtain ⟨t, rfl⟩ := rx
    cases y with
    | non => cases ry;exact PySem.EqNone.eq_str_none (ax I q (by simp))
    | bl j => cases ry;exact PySem.EqMixed.eq_str_bool (ax I q (by simp))
    | int j => obtain ⟨t', rfl⟩ := ry;exact PySem.EqMixed.eq_str_int (ax I q (by simp))
    | str j => obtain ⟨t', rfl⟩ := ry;exact eq_str (ax I q gL)
    | _ => exact absurd (show false=true from hs) rg
  | byt i =>
    obtain ⟨t, rfl⟩ := rx
    cases y with
    | byt j => obtain ⟨t', rfl⟩ := ry;exact PySem.W.eq_bytes (ax I q gM)
    | _ => exact absurd (show false=true from hs) rg
  | _ => cases y <;> exact absurd (show false=true from hs) rg
theorem m6 : OpR X (compareOp .NotEq) rNe := by
  intro pins s σ H x y v u Q I rx ry h
  obtain ⟨hs, q⟩ := h
  cases x with
  | non =>
    cases rx
    cases y with
    | non => cases ry;exact PySem.EqNone.ne_none_none (ax I q (by simp))
    | bl j => cases ry;exact PySem.EqNone.ne_none_bool (ax I q (by simp))
    | int j => obtain ⟨t', rfl⟩ := ry;exact PySem.EqNone.ne_none_int (ax I q (by simp))
    | str j => obtain ⟨t', rfl⟩ := ry;exact PySem.EqNone.ne_none_str (ax I q (by simp))
    | _ => exact absurd (show false=true from hs) rg
  | bl i =>
    cases rx
    cases y with
    | non => cases ry;exact PySem.EqNone.ne_bool_none (ax I q (by simp))
    | bl j => cases ry;exact ne_bool (ax I q (rT not kc))
    | str j => obtain ⟨t', rfl⟩ := ry;exact PySem.EqMixed.ne_bool_str (ax I q (by simp))
    | _ => exact absurd (show false=true from hs) rg
  | int i =>
    obtain ⟨t, rfl⟩ := rx
    cases y with
    | non => cases ry;exact PySem.EqNone.ne_int_none (ax I q (by simp))
    | int j => obtain ⟨t', rfl⟩ := ry;exact ne_int (ax I q (rT not gK))
    | str j => obtain ⟨t', rfl⟩ := ry;exact PySem.EqMixed.ne_int_str (ax I q (by simp))
    | _ => exact absurd (show false=true from hs) rg
  | str i =>
    obtain ⟨t, rfl⟩ := rx
    cases y with
    | non => cases ry;exact PySem.EqNone.ne_str_none (ax I q (by simp))
    | bl j => cases ry;exact PySem.EqMixed.ne_str_bool (ax I q (by simp))
    | int j => obtain ⟨t', rfl⟩ := ry;exact PySem.EqMixed.ne_str_int (ax I q (by simp))
    | str j => obtain ⟨t', rfl⟩ := ry;exact ne_str (ax I q (rT not gL))
    | _ => exact absurd (show false=true from hs) rg
  | byt i =>
    obtain ⟨t, rfl⟩ := rx
    cases y with
    | byt j => obtain ⟨t', rfl⟩ := ry;exact PySem.W.ne_bytes (ax I q (rT not gM))
    | _ => exact absurd (show false=true from hs) rg
  | _ => cases y <;> exact absurd (show false=true from hs) rg
theorem kY : OpR X (compareOp .Lt) (rI0 fun i j => .bl (decide (i < j))) := p_ fun _ _ _ _ _ _ _ q => lt_int q
theorem jm : OpR X (compareOp .LtE) (rI0 fun i j => .bl (decide (i≤j))) := p_ fun _ _ _ _ _ _ _ q => le_int q
inductive cz  (x : V)(y : V)(H : Hp)(Q : VK) : Prop
  | mk : ∀ i j, (x = .str i) → (y = .str j) → (Q (.bl (!(Builtin.Str.occurrences j i 0 j.length 1).isEmpty)) H) → cz x y H Q
theorem gN : OpR X (compareOp .In) cz := by
  intro pins s σ H x y v u Q I rx ry h
  obtain ⟨i, j, rfl, rfl, q⟩ := h
  obtain ⟨t, rfl⟩ := rx
  obtain ⟨t', rfl⟩ := ry
  exact in_str (ax I q rfl)
theorem m7 : OpR X (compareOp .Is) (fun x y H Q => y = .non ∧ Q (.bl (decide (x = .non))) H) := by
  intro pins s σ H x y v u Q I rx ry h
  obtain ⟨rfl, q⟩ := h
  cases ry
  refine is_none_gen (ax I q ?_)
  cases x <;> first
    | (cases rx;rfl)
    | (obtain ⟨t, rfl⟩ := rx;rfl)
theorem a6 (b : Expr){op : CmpOp}(h : op ≠ .In := by decide)(h2 : op ≠ .NotIn := by decide) : behindInMarks op b=false := by
  have e1 : (op == CmpOp.In)=false := by cases op <;> first | rfl | exact absurd rfl h
  have e2 : (op == CmpOp.NotIn)=false := by cases op <;> first | rfl | exact absurd rfl h2
  cases b <;> simp [behindInMarks, e1, e2]
theorem bJ {op : CmpOp}{r : R2}(ho : OpR X (compareOp op) r)(ha : PE X a ta)(hb : PE X b tb)(hm : behindInMarks op b=false) : PE X (.Compare a [op] [b] pos) (tOp r ta tb) := by
  intro pins s σ H Q I h
  exact wpAny_Compare1 (oY ha hb I h fun v u s2 x y H2 I2 rx ry q => ho pins s2 σ H2 x y v u Q I2 rx ry q) hm
def jn (Q : (Bool → Hp → Prop)) : V → Hp → Prop := fun x H' => IsB x H' Q
def kZ (t : TE) : TT := fun σ H Q => t σ H (jn Q)
theorem bf {op : CmpOp}{r : R2}(ho : OpR X (compareOp op) r)(ha : PE X a ta)(hb : PE X b tb)(hm : behindInMarks op b=false) : PT X (.Compare a [op] [b] pos) (kZ (tOp r ta tb)) := by
  intro pins s σ H Q I h
  refine wpAny_isTrue_Compare1 (thn (ha pins s σ H _ I h) fun v s1 ⟨x, H1, I1, r1, q1⟩ => thn (hb pins s1 σ H1 _ I1 q1) fun u s2 ⟨y, H2, I2, r2, q2⟩ =>
    thn (ho pins s2 σ H2 x y v u _ I2 r1 r2 q2) fun c s3 ⟨z, H3, I3, r3, k, e, q3⟩ => ?_) hm
  subst e
  cases r3
  exact sv ⟨H3, I3, q3⟩
def ke (r r' : R2)(ta tb tc : TE) : TE := fun σ H Q => ta σ H fun x H1 => tb σ H1 fun y H2 => r x y H2 fun z H3 => ∃ k, z = .bl k ∧
  (if k=true then tc σ H3 fun w' H4 => r' y w' H4 Q else Q (.bl false) H3)
theorem jo {op op' : CmpOp}{r r' : R2}(ho : OpR X (compareOp op) r)(ho' : OpR X (compareOp op') r')(ha : PE X a ta)(hb : PE X b tb)(hc : PE X c tc)
    (hm : lastMarks [op, op'] [b, c]=false := by with_unfolding_all rfl) : PE X (.Compare a [op, op'] [b, c] pos) (ke r r' ta tb tc) := by
  intro pins s σ H Q I h
  refine Compare_chain (thn (ha pins s σ H _ I h) fun v s1 ⟨x, H1, I1, r1, q1⟩ => chain_link (thn (hb pins s1 σ H1 _ I1 q1) fun u s2 ⟨y, H2, I2, r2, q2⟩ =>
    thn (ho pins s2 σ H2 x y v u _ I2 r1 r2 q2) fun d s3 ⟨z, H3, I3, r3, k, e, q3⟩ => ?_)) hm
  subst e
  cases r3
  refine sv ?_
  cases k with
  | false => exact ite_ff ⟨.bl false, H3, I3, rfl, q3⟩
  | true => exact ite_tt (chain_last (thn (hc pins s3 σ H3 _ I3 q3) fun w' s4 zq45 => (by obtain ⟨z', H4, I4, r4, q4⟩ := zq45;exact ho' pins s4 σ H4 y z' u w' Q I4 r2 r4 q4)))
theorem fC {op op' : CmpOp}{r r' : R2}(ho : OpR X (compareOp op) r)(ho' : OpR X (compareOp op') r')(ha : PE X a ta)(hb : PE X b tb)(hc : PE X c tc)
    (hm : lastMarks [op, op'] [b, c]=false := by with_unfolding_all rfl) : PT X (.Compare a [op, op'] [b, c] pos) (kZ (ke r r' ta tb tc)) := by
  intro pins s σ H Q I h
  refine isTrue_chain (thn (ha pins s σ H _ I h) fun v s1 ⟨x, H1, I1, r1, q1⟩ => test_link (thn (hb pins s1 σ H1 _ I1 q1) fun u s2 ⟨y, H2, I2, r2, q2⟩ =>
    thn (ho pins s2 σ H2 x y v u _ I2 r1 r2 q2) fun d s3 ⟨z, H3, I3, r3, k, e, q3⟩ => ?_)) hm
  subst e
  cases r3
  refine sv ?_
  cases k with
  | false =>
    obtain ⟨k', e', q'⟩ := q3
    cases e'
    exact ite_ff ⟨H3, I3, q'⟩
  | true =>
    refine ite_tt (test_last (thn (hc pins s3 σ H3 _ I3 q3) fun w' s4 ⟨z', H4, I4, r4, q4⟩ => thn (ho' pins s4 σ H4 y z' u w' _ I4 r2 r4 q4) fun d' s5 zq46 => ?_))
    obtain ⟨z2, H5, I5, r5, k2, e2, q5⟩ := zq46
    subst e2
    cases r5
    exact sv ⟨H5, I5, q5⟩
def qJ (K : PySem.W.Frag)(x : V)(H : Hp)(k : Bool) : Prop :=
  match x with
  | .non => k=false
  | .bl b => k=b
  | .int i => k=(i != 0)
  | .str y => y.length≤sizeLine ∧ k=((y.length : Int) != 0)
  | .byt y => y.size≤sizeLine ∧ k=((y.size : Int) != 0)
  | .ref p => (∃ xs, SqL K H p xs ∧ k=!xs.isEmpty) ∨ (∃ xs, SqT K H p xs ∧ k=!xs.isEmpty) ∨ ∃ kvs, H p=some (.dK kvs) ∧ k=!kvs.isEmpty
  | _ => False
theorem gb {κ : Type}{kvs : List (κ × V)}{vs : List (κ × Value)}(r : KV kvs vs) : (!vs.isEmpty)=!kvs.isEmpty := by
  cases r <;> rfl
theorem cQ {xs : List V}{its : List Value}(r : aI xs its) : (!its.toArray.isEmpty)=!xs.isEmpty := by
  cases r <;> simp
theorem b_ : (sizeLine : Nat) < 2 ^ 63 := by rw [sq]; decide
inductive k7 (K : PySem.W.Frag)(x : V)(H : Hp)(Q : Bool → Hp → Prop) : Prop
  | mk : ∀ k, (qJ K x H k) → (Q k H) → k7 K x H Q
theorem kf : qF X (k7 X.K) := by
  intro pins s σ H x v Q I rx h
  obtain ⟨k, e, q⟩ := h
  have hl := b_
  have hs : sizeLine=16777216 := sq
  cases x with
  | non =>
    cases rx
    have e' : k=false := e
    subst e'
    exact truthy_none ⟨H, I, q⟩
  | bl b =>
    cases rx
    have e' : k=b := e
    subst e'
    exact sv ⟨H, I, q⟩
  | int i =>
    obtain ⟨t, rfl⟩ := rx
    have e' : k=(i != 0) := e
    subst e'
    exact PySem.P.truthy_int ⟨H, I, q⟩
  | str y =>
    obtain ⟨t, rfl⟩ := rx
    obtain ⟨hy, e'⟩ : y.length≤sizeLine ∧ k=((y.length : Int) != 0) := e
    subst e'
    exact PySem.P.truthy_str (by omega) ⟨H, I.tok _, q⟩
  | byt y =>
    obtain ⟨t, rfl⟩ := rx
    obtain ⟨hy, e'⟩ : y.size≤sizeLine ∧ k=((y.size : Int) != 0) := e
    subst e'
    exact PySem.W.truthy_bytes (by omega) ⟨H, I.tok _, q⟩
  | ref p =>
    cases rx
    have e' : (∃ xs, SqL X.K H p xs ∧ k=!xs.isEmpty) ∨ (∃ xs, SqT X.K H p xs ∧ k=!xs.isEmpty) ∨ ∃ kvs, H p=some (.dK kvs) ∧ k=!kvs.isEmpty := e
    rcases e' with ⟨xs, hx, e'⟩ | ⟨xs, hx, e'⟩ | ⟨kvs, hx, e'⟩
    · subst e'
      obtain ⟨its, r, pl, hz⟩ := I.list hx
      have hlen := r.length
      exact wpAny_truthy_list pl.isList (by simp only [rj];omega) ⟨H, I.tok _, by rw [cQ r];exact q⟩
    · subst e'
      obtain ⟨its, r, pl, hz⟩ := I.tuple hx
      have hlen := r.length
      exact truthy_tuple pl (by simp only [rj];omega) ⟨H, I.tok _, by rw [cQ r];exact q⟩
    · subst e'
      obtain ⟨hz, hS, vs, r, m⟩ : kvs.length≤sizeLine ∧ (p == sysModules)=false ∧ ∃ vs, KV kvs vs ∧ s.heap.DictOf (aO X.prog X.w) p vs := I.hok p _ hx
      have hlen : kvs.length=vs.length := uN r
      exact wpAny_truthy_dict hS m (by omega) ⟨H, I.tok _, by rw [gb r];exact q⟩
  | _ => exact (show False from e).elim
def k8 (K : PySem.W.Frag)(Q : (Bool → Hp → Prop)) : V → Hp → Prop := fun x H' => k7 K x H' Q
def qK (K : PySem.W.Frag)(ta : TE) : TT := fun σ H Q => ta σ H (k8 K Q)
theorem bO (ha : PE X a ta)(he : ∀ whole, isTrue a X.env whole=(do let v ← whole; standAt a.pos; holding [v] (truthy v))) :
    PT X a (qK X.K ta) := by
  intro pins s σ H Q I h
  exact isTrue_plain (thn (ha pins s σ H _ I h) fun v s1 zq47 => (by obtain ⟨x, H1, I1, r1, q1⟩ := zq47;exact kf pins s1 σ H1 x v Q I1 r1 q1)) (he _)
inductive cb  (x : V)(y : V)(H : Hp)(Q : VK) : Prop
  | mk : ∀ i j, (x = .str i) → (y = .str j) → (i.length+j.length≤sizeLine) → (Q (.str (i++j)) H) → cb x y H Q
theorem aK : OpR X (binaryOp .Add) cb := by
  intro pins s σ H x y v u Q I rx ry h
  obtain ⟨i, j, rfl, rfl, hz, q⟩ := h
  obtain ⟨t, rfl⟩ := rx
  obtain ⟨t', rfl⟩ := ry
  exact add_str (fun t' tk => ⟨.str (i++j), H, I.tok _, ⟨_, rfl⟩, q⟩) hz
theorem bX {x : V}{us : List Value}(r : aI [x] us) : ∃ u, us=[u] ∧ aL x u := by
  cases r with
  | cons r1 r2 => cases r2;exact ⟨_, rfl, r1⟩
theorem k9 {x y : V}{us : List Value}(r : aI [x, y] us) : ∃ u w', us=[u, w'] ∧ aL x u ∧ aL y w' := by
  cases r with
  | cons r1 r2 =>
    cases r2 with
    | cons r3 r4 => cases r4;exact ⟨_, _, rfl, r1, r3⟩
theorem dP : bD X (.type "int") (fun xs H Q => (∃ i, xs=[.int i] ∧ Q (.int i) H) ∨ ∃ k, xs=[.bl k] ∧ Q (.int (if k then 1 else 0)) H) := by
  intro pins s σ H xs us Q I r h
  rcases h with ⟨i, rfl, q⟩ | ⟨k, rfl, q⟩
  · obtain ⟨u, rfl, t, rfl⟩ := bX r
    exact call_int_int ⟨.int i, H, I, ⟨_, rfl⟩, q⟩
  · obtain ⟨u, rfl, r1⟩ := bX r
    cases r1
    exact call_int_bool ⟨.int (if k then 1 else 0), H, I.tok _, ⟨_, rfl⟩, q⟩
end
structure o1 (h : Heap) (x dx C : Addr) (mA : Str → Option Value) : Prop where
  obj : h.get? x=some (PySem.W.instObj C dx)
  ns : h.Ns1 dx mA
  ne : dx≠x
theorem dQ {h : Heap}{dx : Addr}{mA : Str → Option Value}(n : h.Ns1 dx mA) : ∃ od, h.get? dx=some od ∧ ∀ name, PySem.W.lookIn name od=some (mA name) := by
  obtain ⟨o, es, ep, ho, hd, hk, _, hm⟩ := n
  refine ⟨o, ho, fun name => ?_⟩
  have e := hm name
  unfold nsFind findBy at e
  rw [← Array.find?_toList] at e
  unfold PySem.W.lookIn
  rw [hd]
  dsimp only
  split
  · rename_i y q
    rw [q] at e
    exact rT some e
  · rename_i q
    rw [q] at e
    have a : es.toList.any (·.refKey)=false := by
      rw [List.any_eq_false]
      intro y hy
      obtain ⟨z, t, hkey⟩ := hk y (Array.mem_toList_iff.mp hy)
      simp [DictEntry.refKey, hkey]
    have a' : ¬ es.toList.any (·.refKey)=true := by rw [a];exact rg
    rw [if_neg a']
    exact rT some e
theorem o1.look {h : Heap}{x dx C : Addr}{mA : Str → Option Value}(I : o1 h x dx C mA) : ∃ od, PySem.W.InstAt h x (PySem.W.instObj C dx) C (some od) ∧ ∀ name, PySem.W.lookIn name od=some (mA name) :=
  let ⟨od, ho, hl⟩ := dQ I.ns
  ⟨od, ⟨I.obj, rfl, rfl, ho⟩, hl⟩
section
variable {prog : Program} {w : World} {A : Around} {E : Value → Shared → Prop} {s : Shared} {K : PySem.W.Frag} {x dx C f : Addr} {mA : Str → Option Value} {name : Str} {v : Value}
end
def qb (f : Str)(v : V) : List (Str × V) → List (Str × V)
  | [] => [(f, v)]
  | (g, x)::r => if g=f then (g, v)::r else (g, x)::qb f v r
theorem eU.some_of {v : V}{o : Option Value}(r : eU (some v) o) : ∃ u, o=some u ∧ aL v u := by
  cases o with
  | none => exact (show False from r).elim
  | some u => exact ⟨u, rfl, r⟩
theorem gO {v : V}{u : Value}(r : aL v u) : PySem.W.handedIn u=true := by
  cases v with
  | non => cases (show u=Value.none from r);rfl
  | bl b => cases (show u=Value.bool b from r);rfl
  | int i => obtain ⟨t, e⟩ := (show ∃ t, u=Value.int i t from r);cases e;rfl
  | str x => obtain ⟨t, e⟩ := (show ∃ t, u=Value.str x t from r);cases e;rfl
  | byt b => obtain ⟨t, e⟩ := (show ∃ t, u=Value.bytes b t from r);cases e;rfl
  | flt b => obtain ⟨t, e⟩ := (show ∃ t, u=Value.float b t from r);cases e;rfl
  | ref a => cases (show u=Value.ref a from r);rfl
  | ty n => cases (show u=Value.type n from r);rfl
section
variable {P : Program} {w : World} {H H' : Hp} {h h' : Heap} {a C dx : Addr} {fs fs' : List (Str × V)}
theorem k_ (hok : HOk P w H h)(e : H a=some (.ins C dx fs)) : ∃ mA, o1 h a dx C mA ∧ (∀ f, eU (fs.lookup f) (mA f)) ∧ PySem.Within mA (fs.map (·.1)) ∧ fs.length≤1000 ∧ H dx=some (.own a) := by
  obtain ⟨d, z, ne, ob, mA, n, r, q⟩ := (show aP P w H h a (.ins C dx fs) from hok a _ e)
  exact ⟨mA, ⟨ob, n, ne⟩, r, q, z, d⟩
end
structure Cls (K : PySem.W.Frag) (C : Addr) : Prop where
  pg : PySem.W.plainGet K C Str.empty=true
  hd : PySem.W.hasDictIn K C=true
  po : PySem.W.plainOver K C=true
  sa : PySem.W.findIn K (.ref C) "__setattr__" = some (some (.builtin "object.__setattr__"))
theorem Cls.get {K : PySem.W.Frag}{C : Addr}(c : Cls K C)(f : Str) : PySem.W.plainGet K C f=true := c.pg
section
variable {X : Cx} {pins : List (Addr × Obj)} {σ : St} {H : Hp} {s : Shared} {a C dx : Addr} {fs : List (Str × V)} {f : Str} {v : V} {A : Around} {E : Value → Shared → Prop}
theorem la {prog : Program}{w : World}{env : Env}{e : Expr}{f : Str}{pos : Pos}{s : Shared}{Q : Value → Shared → Prop}(hb : attributeBase e f env (eval e env)=eval e env)
    (h : wpAny (model prog w) A (eval e env) (fun o s₁ => wpAny (model prog w) A (getAttr o f true) Q E s₁) E s) : wpAny (model prog w) A (eval (.Attribute e f pos) env) Q E s :=
  Attribute_any_ h (by rw [arm_eval_Attribute, hb])
end
section
variable {X : Cx} {o e value : Expr} {f : Str} {pos pos' tpos : Pos} {ta tv : TE}
end
section
variable {X : Cx} {pins : List (Addr × Obj)} {σ : St} {H : Hp} {s : Shared} {A : Around} {E : Value → Shared → Prop} {Q : Value → Shared → Prop} {c : Value} {b : Bool}
inductive fD (K : PySem.W.Frag)(H : Hp) : V → Value → Prop where
  | non : fD K H .non (.type "NoneType")
  | bl (x : Bool) : fD K H (.bl x) (.type "bool")
  | int (i : Int) : fD K H (.int i) (.type "int")
  | str (x : Str) : fD K H (.str x) (.type "str")
  | flt (x : UInt64) : fD K H (.flt x) (.type "float")
  | lst {a : Addr} {xs : List V} (e : H a=some (.lst xs)) : fD K H (.ref a) (.type "list")
  | frz {a : Addr} {o : Obj} {xs : List V} (e : H a=some (.frz o (.lst xs))) : fD K H (.ref a) (.type "list")
  | tup {a : Addr} {xs : List V} (e : H a=some (.tup xs)) : fD K H (.ref a) (.type "tuple")
  | dK {a : Addr} {kvs : List (Key × V)} (e : H a=some (.dK kvs)) : fD K H (.ref a) (.type "dict")
  | dT {a : Addr} {kvs : List (List Key × V)} (e : H a=some (.dT kvs)) : fD K H (.ref a) (.type "dict")
  | ins {a C dx : Addr} {fs : List (Str × V)} (e : H a=some (.ins C dx fs)) (cl : Cls K C) (ha : PySem.W.findIn K (.ref C) "__class__" = some (some (.builtin "object.__class__")))
      (hn : PySem.W.specialIn K (.builtin "object.__class__") "__get__" = some (some (.builtin "getset_descriptor.__get__"))) (htk : PySem.W.takesIn K (.builtin "object.__class__")=some true)
      (hm : PySem.W.mroIn K C (.type "object")=some true) : fD K H (.ref a) (.ref C)
theorem gP {x : V}{u t : Value}(I : Inv X pins σ H s)(rx : aL x u)(ty : fD X.K H x t)(e : PySem.W.kitOne X.K t c=some b)(h : ∀ tk, Q (.bool b) { s with toks := tk }) :
    wpAny (model X.prog X.w) A (call (.builtin "isinstance") [u, c]) Q E s := by
  cases ty with
  | non => cases (show u=Value.none from rx);exact rQ PySem.W.kitx_none I.kIn True.intro e (fun z => nomatch z) h
  | bl y => cases (show u=Value.bool y from rx);exact rQ PySem.W.kitx_bool I.kIn True.intro e (fun z => nomatch z) h
  | int i => obtain ⟨t, q⟩ := (show ∃ t, u=Value.int i t from rx);cases q;exact rQ PySem.W.kitx_int I.kIn True.intro e (fun z => nomatch z) h
  | str y => obtain ⟨t, q⟩ := (show ∃ t, u=Value.str y t from rx);cases q;exact rQ PySem.W.kitx_str I.kIn True.intro e (fun z => nomatch z) h
  | flt y => obtain ⟨t, q⟩ := (show ∃ t, u=Value.float y t from rx);cases q;exact rQ PySem.W.kitx_float I.kIn True.intro e (fun z => nomatch z) h
  | @lst a xs ea =>
    cases (show u=Value.ref a from rx)
    obtain ⟨_, _, n, _, h1⟩ := (show aP X.prog X.w H s.heap a (.lst xs) from I.hok a _ ea)
    exact rQ PySem.W.kitx_list I.kIn ⟨_, h1, rfl⟩ e (fun z => nomatch z) h
  | @frz a ob xs ea =>
    cases (show u=Value.ref a from rx)
    obtain ⟨_, _, _, n, _, h1⟩ := (show aP X.prog X.w H s.heap a (.frz ob (.lst xs)) from I.hok a _ ea)
    exact rQ PySem.W.kitx_list I.kIn ⟨_, h1, rfl⟩ e (fun z => nomatch z) h
  | @tup a xs ea =>
    cases (show u=Value.ref a from rx)
    obtain ⟨_, _, _, p, _⟩ := (show aP X.prog X.w H s.heap a (.tup xs) from I.hok a _ ea)
    obtain ⟨o, h1, h2, _⟩ := p
    exact rQ PySem.W.kitx_tuple I.kIn ⟨o, h1, h2⟩ e (fun z => nomatch z) h
  | @dK a kvs ea =>
    cases (show u=Value.ref a from rx)
    obtain ⟨_, _, vs, _, p⟩ := (show aP X.prog X.w H s.heap a (.dK kvs) from I.hok a _ ea)
    obtain ⟨o, es, ep, h1, h2, _⟩ := p
    exact rQ PySem.W.kitx_dict I.kIn ⟨o, h1, h2.1⟩ e (fun z => nomatch z) h
  | @dT a kvs ea =>
    cases (show u=Value.ref a from rx)
    obtain ⟨_, _, xs, _, o, es, ep, h1, h2, _⟩ := (show aP X.prog X.w H s.heap a (.dT kvs) from I.hok a _ ea)
    exact rQ PySem.W.kitx_dict I.kIn ⟨o, h1, h2.1⟩ e (fun z => nomatch z) h
  | @ins a C dx fs ea cl ha hn htk hm =>
    cases (show u=Value.ref a from rx)
    obtain ⟨mA, O, _⟩ := k_ I.hok ea
    obtain ⟨od, J, _⟩ := O.look
    exact rQ (PySem.W.kitx_own (cl.get _) cl.hd ha hn htk hm) I.kIn J e (fun z => nomatch z) h
end
structure bp (k : Nat) (A : Around) : Prop where
  hd : A.handled=none
  dp : A.depth+3*k+5 < recursionLimit
  un : A.units+16*k+200 < cLine
  gd : A.guards=some []
theorem bp.mono {j k : Nat}{A : Around}(r : bp k A)(h : j≤k) : bp j A := ⟨r.hd, by have := r.dp; omega, by have := r.un; omega, r.gd⟩
theorem bp.deeper {k : Nat}{A : Around}(r : bp (k+1) A)(env : Env) : bp k (A.deeper env) :=
  ⟨r.hd, by have := r.dp;show A.depth+1+3*k+5 < _;omega, by have := r.un;show A.units+3+16*k+200 < _;omega, r.gd⟩
theorem gc {A : Around}{C : Addr}{us : List Value}{kw : List (Str × Value)} : (A.under (.builtin "type.__call__" ⟨.ref C::us, kw⟩)).depth=A.depth+1 := by
  first | rfl | simp [Around.under, Code.weight, Code.isCreation, Code.isGuard, Code.isCaller, Code.frames, Code.isFrame, guardIds]
theorem gf {A : Around}{C : Addr}{us : List Value}{kw : List (Str × Value)} : (A.under (.builtin "type.__call__" ⟨.ref C::us, kw⟩)).units=A.units+1 := by
  first | rfl | simp [Around.under, Code.cUnits, Code.frames, Code.isFrame]
theorem bp.make {k : Nat}{A : Around}(r : bp (k+1) A)(C : Addr)(us : List Value)(kw : List (Str × Value)) : bp k (A.under (.builtin "type.__call__" ⟨.ref C::us, kw⟩)) :=
  ⟨r.hd, by have := r.dp;rw [gc];omega, by have := r.un;rw [gf];omega, by have g := r.gd;simpa [Around.under, Code.guards, pushGuards, Code.isGuard, guardIds] using g⟩
theorem bp.depth {k : Nat}{A : Around}(r : bp k A) : A.depth < recursionLimit := by have := r.dp; omega
theorem bp.units {k : Nat}{A : Around}(r : bp k A) : A.units+64 < cLine := by have := r.un; omega
def qc : TA := fun _ H Q => Q [] H
def jq (Q : (List V → Hp → Prop))(x : V) : List V → Hp → Prop := fun xs H2 => Q (x::xs) H2
def jr (tr : TA)(σ : St)(Q : (List V → Hp → Prop)) : V → Hp → Prop := fun x H1 => tr σ H1 (jq Q x)
def lb (ta : TE)(tr : TA) : TA := fun σ H Q => ta σ H (jr tr σ Q)
section
variable {X : Cx} {e : Expr} {es : List Expr} {te : TE} {t : TA} {pos : Pos}
theorem ai : PA X [] qc := fun _ _ _ _ H Q I h => sW ⟨[], H, I, .nil, h⟩
theorem aa (ha : PE X e te)(hr : PA X es t)(hs : starEach (e::es) X.env=(false, eval e X.env)::starEach es X.env := by rfl) : PA X (e::es) (lb te t) := by
  intro pos pins s σ H Q I h
  rw [hs]
  show wpAny _ _ (spliced ((false, eval e X.env)::backTo pos (starEach es X.env))) _ _ s
  refine si (thn (ha pins s σ H _ I h) fun u s1 zq54 => ?_)
  obtain ⟨x, H1, I1, r1, q1⟩ := zq54
  exact thn (hr pos pins s1 σ H1 _ I1 q1) fun us s2 zq55 => (by obtain ⟨xs, H2, I2, r2, q2⟩ := zq55;exact ⟨x::xs, H2, I2, .cons r1 r2, q2⟩)
def lg (Q : VK) : List V → Hp → Prop := fun xs H1 => xs.length≤sizeLine ∧ ∀ p, H1 p=none → Q (.ref p) (upd H1 p (.tup xs))
def qe (t : TA) : TE := fun σ H Q => t σ H (lg Q)
def lh (Q : VK) : List V → Hp → Prop := fun xs H1 => xs.length≤sizeLine ∧ ∀ p, H1 p=none → Q (.ref p) (upd H1 p (.lst xs))
def qL (t : TA) : TE := fun σ H Q => t σ H (lh Q)
theorem cA {x1}(h : PA X es t) : PE X (.Tuple es x1 pos) (qe t) := by
  intro pins s σ H Q I hq
  refine wpAny_Tuple_spliced (thn (h pos pins s σ H _ I hq) fun us s1 ⟨xs, H1, I1, r, z, q⟩ => ⟨by rw [← r.length];exact z, ?_⟩)
  have hf : H1 s1.heap.objs.size=none := I1.hok.fresh (rh _)
  refine ⟨.ref s1.heap.objs.size, upd H1 s1.heap.objs.size (.tup xs), I1.laid (t' := s1.toks) (fun b u e => fu _ e) (rh _) ?_, rfl, q _ hf⟩
  exact ⟨z, us, r, ⟨_, ri _ rfl, rfl, _, rfl⟩, .new _ _ rfl⟩
theorem cc (h : PA X es t) : PE X (.List es pos) (qL t) := by
  intro pins s σ H Q I hq
  refine wpAny_List_spliced (thn (h pos pins s σ H _ I hq) fun us s1 ⟨xs, H1, I1, r, z, q⟩ => ⟨by rw [← r.length];exact z, ?_⟩)
  have hf : H1 s1.heap.objs.size=none := I1.hok.fresh (rh _)
  refine ⟨.ref s1.heap.objs.size, upd H1 s1.heap.objs.size (.lst xs), I1.laid (t' := s1.toks) (fun b u e => fu _ e) (rh _) ?_, rfl, q _ hf⟩
  exact ⟨z, us, 0, r, ri _ rfl⟩
end
abbrev Sp := List V → Hp → VK → XK → Prop
abbrev CXT := List Env → Hp → Shared → XK → Value → Shared → Prop
structure gQ (P : Program) (w : World) (K : PySem.W.Frag) (mg : Str → Option Value) (base : Heap) (A : Around) (outer : List Env) (s : Shared) (H : Hp) : Prop where
  frames : A.frames=some outer
  mod : Mod K mg base
  bs : ∀ b o, base.get? b=some o → s.heap.get? b=some o ∧ H b=none
  bsz : base.objs.size≤s.heap.objs.size
  funs : s.heap.FunFrames base outer
  frf : ∀ b∈frs outer, H b=none
  hok : HOk P w H s.heap
  bare : AllBare s.gens
def CE (outer : List Env)(P : Program)(w : World)(H : Hp)(s : Shared)(Q : VK)(u : Value)(s' : Shared) : Prop :=
  ∃ v H', s'.os=s.os ∧ AllBare s'.gens ∧ Un (frs outer) [] H H' s.heap s'.heap ∧ HOk P w H' s'.heap ∧ aL v u ∧ Q v H'
def CR (CX : CXT)(outer : List Env)(P : Program)(w : World)(H : Hp)(s : Shared)(Q : VK)(E : XK)(r : Result)(s' : Shared) : Prop :=
  match r with
  | .ok (.ret u) => CE outer P w H s Q u s'
  | .ok _ => False
  | .error e => CX outer H s E e s'
structure fE (P : Program) (w : World) (K : PySem.W.Frag) (mg : Str → Option Value) (base : Heap) (CX : CXT) (k : Nat) (f : Addr) (fd : FuncData) (ps : List Str) (sp : Sp) : Prop where
  len : ∀ vs H Q E, sp vs H Q E → vs.length=ps.length
  run : ∀ (A : Around) (outer : List Env) (s : Shared) (H : Hp) (args : Args) (us : List Value) (vs : List V) (Q : VK) (E : XK), bp k A → gQ P w K mg base A outer s H → BindsTo s fd args (ps.zip us) → aI vs us → sp vs H Q E →
    codeAny (model P w) A (.call (.ref f) args) (CR CX outer P w H s Q E) s
theorem gQ.make {P : Program}{w : World}{K : PySem.W.Frag}{mg : Str → Option Value}{base : Heap}{A : Around}{outer : List Env}{s : Shared}{H : Hp}(e : gQ P w K mg base A outer s H)(C : Addr)(us : List Value)(kw : List (Str × Value)) :
    gQ P w K mg base (A.under (.builtin "type.__call__" ⟨.ref C::us, kw⟩)) outer s H := ⟨by first | exact e.frames | (simpa [Around.under, Code.envs, Code.isFrame, pushEnvs] using e.frames), e.mod, e.bs, e.bsz, e.funs, e.frf, e.hok, e.bare⟩
section
variable {X : Cx} {pins : List (Addr × Obj)} {σ : St} {H : Hp} {s s' : Shared}
theorem Inv.env0 (I : Inv X pins σ H s) : gQ X.prog X.w X.K X.mg X.base X.A X.stack s H :=
  ⟨I.ok.frames, I.ok.mod, I.bs, rJ I.ok.bsz I.sz, I.stack, I.stkFree, I.hok, I.bare⟩
theorem Inv.after {Q : VK}{u : Value}(I : Inv X pins σ H s)(h : CE X.stack X.prog X.w H s Q u s') : EP X pins σ Q u s' := by
  obtain ⟨v, H', os, bare, un, hok, r, q⟩ := h
  obtain ⟨hh, g, d, t, os'⟩ := s'
  obtain rfl : os'=s.os := os
  exact ⟨v, H', I.call (h' := hh) (g' := g) (d' := d) (t' := t) (ch := []) un hok bare (fun b z => absurd z (by simp)), r, q⟩
end
def js (sp : Sp)(dvs : List V)(E : XK)(Q : VK) : List V → Hp → Prop := fun vs H1 => sp (vs++dvs) H1 Q E
def lj (sp : Sp)(dvs : List V)(E : XK)(t : TA) : TE := fun σ H Q => t σ H (js sp dvs E Q)
def cB (K : PySem.W.Frag)(fd : FuncData)(ps : List Str)(ds : List Value) : Prop :=
  ∀ (s : Shared) (us : List Value), K.In s.heap → (us++ds).length=ps.length → BindsTo s fd ⟨us, []⟩ (ps.zip (us++ds))
theorem cB.all {K : PySem.W.Frag}{fd : FuncData}{ps : List Str}(h : ∀ us : List Value, us.length=ps.length → bindArgs fd ⟨us, []⟩=pure (ps.zip us)) : cB K fd ps [] := fun s us _ hl => by
  rw [sy] at hl ⊢
  exact .of_eq (h us hl)
def dR (CX : CXT)(X : Cx)(E : XK) : Prop := ∀ (pins : List (Addr × Obj)) (σ : St) (H : Hp) (s : Shared) (e : Value) (s' : Shared), Inv X pins σ H s → CX X.stack H s E e s' → X.xe e s'
section
variable {X : Cx} {CX : CXT} {k : Nat} {f C : Addr} {fd : FuncData} {ps : List Str} {sp : Sp} {dvs : List V} {ds : List Value} {E : XK} {x m : Str} {p pos apos : Pos} {e o : Expr} {es : List Expr} {ta : TE} {t : TA}
theorem m8 {pins : List (Addr × Obj)}{σ : St}{H : Hp}{s : Shared}{Q : VK}{us : List Value}{vs : List V}(F : fE X.prog X.w X.K X.mg X.base CX k f fd ps sp)(hr : bp k X.A)(hb : cB X.K fd ps ds)(hd : aI dvs ds)(hx : dR CX X E)
    (I : Inv X pins σ H s) (r : aI vs us) (h : sp (vs++dvs) H Q E) : wpAny (model X.prog X.w) X.A (call (.ref f) us) (EP X pins σ Q) X.xe s := by
  have r2 : aI (vs++dvs) (us++ds) := r.append hd
  have hl : (us++ds).length=ps.length := by rw [← r2.length];exact F.len _ _ _ _ h
  refine tK (tQ (F.run X.A X.stack s H ⟨us, []⟩ (us++ds) (vs++dvs) Q E hr I.env0 (hb s us I.kIn hl) r2 h) fun r s' hq => ?_)
  cases r with
  | error e => exact hx pins σ H s e s' I hq
  | ok fl =>
    cases fl with
    | ret u => exact I.after hq
    | next => exact False.elim hq
    | brk => exact False.elim hq
    | cont => exact False.elim hq
theorem gR (F : fE X.prog X.w X.K X.mg X.base CX k f fd ps sp)(hr : bp k X.A)(hg : Gl X x)(hm : X.mg x=some (.ref f))(hk : PySem.W.keepIn X.K (.ref f)=true)(hb : cB X.K fd ps ds)(hd : aI dvs ds)(hx : dR CX X E)
    (ha : PA X (e::es) t) (hdb : (x == ("__debug__" : Str))=false := by decide) (he : starEach (e::es) X.env=(false, eval e X.env)::starEach es X.env := by rfl) (hpl : (backTo pos (starEach es X.env)).any (·.1)=false := by rfl) :
    PE X (.Call (.Name x p) (e::es) [] pos) (lj sp dvs E t) := by
  intro pins s σ H Q I h
  refine sF (bI I hg hm ?_ hdb)
  refine uu (h₀ := X.base) I.ok.mod.kin hk (thn (ha pos pins s σ H _ I h) fun us s1 ⟨vs, H1, I1, r, q⟩ => ⟨I1.kIn, ?_⟩) he hpl
  exact m8 F hr hb hd hx I1 r q
end
section
variable {X : Cx} {CX : CXT} {k : Nat} {f C : Addr} {fd : FuncData} {ps ks : List Str} {sp : Sp} {E : XK} {x m : Str} {p pos apos kpos : Pos} {e o : Expr} {es : List Expr} {kws : List Keyword} {te ta : TE} {t tk : TA} {nm : Option Str}
variable {g : List Value → List Value → List Value} {gV : List V → List V → List V}
end
structure aw (N P : List Str) (sc : Scope) : Prop where
  kind : sc.kind = .function
  co : sc.isCoroutine=false
  gen : sc.isGenerator=false
  nd : N.Nodup
  pre : N.take P.length=P
  par : ∀ x∈P, sc.names.lookup x=some .local ∨ sc.names.lookup x=some .cell
  nofree : ∀ y∈sc.names, y.2 ≠ .free
theorem dS {kindOf : Str → Option NameKind}{x : Str} : ∀ {binds : List (Str × Value)} {m : Str → Option Value}, (∀ v, (x, v)∉binds) → bindL kindOf binds m x=m x
  | [], _, _ => rfl
  | (n, v)::r, m, h => by
    unfold bindL
    rw [dS fun w hw => h w (rq _ hw)]
    split
    · have : x≠n := by rintro rfl;exact h v rF
      simp [this]
    · rfl
theorem dU {kindOf : Str → Option NameKind}{x : Str} : ∀ {binds : List (Str × Value)} {m : Str → Option Value}, (∀ v, (x, v)∉binds) → bindC kindOf binds m x=m x
  | [], _, _ => rfl
  | (n, v)::r, m, h => by
    unfold bindC
    rw [dU fun w hw => h w (rq _ hw)]
    split
    · rfl
    · have : x≠n := by rintro rfl;exact h v rF
      simp [this]
theorem dW {kindOf : Str → Option NameKind}{x : Str}{v : Value} : ∀ {P : List Str} {vs : List Value} {i : Nat} {m : Str → Option Value}, P.Nodup → P[i]? = some x → vs[i]? = some v → kindOf x=some .local →
    bindL kindOf (P.zip vs) m x=some v
  | [], _, _, _, _, h, _, _ => by simp at h
  | _::_, [], _, _, _, _, h, _ => by simp at h
  | p::P, w::vs, 0, m, nd, h1, h2, hk => by
    simp at h1 h2;subst h1;subst h2
    show bindL kindOf ((p, w)::P.zip vs) m p=_
    unfold bindL
    rw [dS fun v hv => (r9.mp nd).1 (uf hv).1, if_pos hk]
    simp
  | p::P, w::vs, i+1, m, nd, h1, h2, hk => by
    show bindL kindOf ((p, w)::P.zip vs) m x=_
    unfold bindL
    exact dW (i := i) (r9.mp nd).2 (by simpa using h1) (by simpa using h2) hk
theorem dX {kindOf : Str → Option NameKind}{x : Str}{v : Value} : ∀ {P : List Str} {vs : List Value} {i : Nat} {m : Str → Option Value}, P.Nodup → P[i]? = some x → vs[i]? = some v → kindOf x≠some .local →
    bindC kindOf (P.zip vs) m x=some v
  | [], _, _, _, _, h, _, _ => by simp at h
  | _::_, [], _, _, _, _, h, _ => by simp at h
  | p::P, w::vs, 0, m, nd, h1, h2, hk => by
    simp at h1 h2;subst h1;subst h2
    show bindC kindOf ((p, w)::P.zip vs) m p=_
    unfold bindC
    rw [dU fun v hv => (r9.mp nd).1 (uf hv).1, if_neg hk]
    simp
  | p::P, w::vs, i+1, m, nd, h1, h2, hk => by
    show bindC kindOf ((p, w)::P.zip vs) m x=_
    unfold bindC
    exact dX (i := i) (r9.mp nd).2 (by simpa using h1) (by simpa using h2) hk
def start (N : List Str)(vs : List V) : St := vs.map some++List.replicate (N.length - vs.length) none
def eY (CX : CXT)(P : Program)(w : World)(K : PySem.W.Frag)(mg : Str → Option Value)(base : Heap)(N : List Str)(qual : Str)(scope : Scope)(f : Addr)(cd : Value)(A : Around)(outer : List Env)(s : Shared)(H : Hp)(E : XK) : Cx where
  prog := P
  w := w
  K := K
  mg := mg
  base := base
  A := A.deeper (envOfC qual scope s.heap.objs.size f cd)
  N := N
  s₀ := s
  H₀ := H
  env := envOfC qual scope s.heap.objs.size f cd
  outer := outer
  stack := envOfC qual scope s.heap.objs.size f cd::outer
  ex := []
  calm := true
  fn := fun _ => true
  pn := []
  xe := fun e s' => wpAny (model P w) (A.deeper (envOfC qual scope s.heap.objs.size f cd)) (leaving (envOfC qual scope s.heap.objs.size f cd) e) (fun _ s'' => CX outer H s E e s'') (fun e' s'' => CX outer H s E e' s'') s'
theorem fF {sc : Scope}{n : Nat}{x : Str}(h : sc.names.lookup x=some .cell) : ∃ c, (cellsFrom n sc.names []).lookup x=some c := by
  have q := tD sc.names n [] (.inl h)
  exact uH.mp q
theorem dY {CX : CXT}{P : Program}{w : World}{K : PySem.W.Frag}{mg : Str → Option Value}{base : Heap}{N ps : List Str}{qual : Str}{scope : Scope}{f : Addr}{cd : Value}{A : Around}{outer : List Env}{s s1 : Shared}{H : Hp}{E : XK}{us : List Value}{vs : List V}
    (S : aw N ps scope) (hd : A.handled=none) (e0 : gQ P w K mg base A outer s H) (hl : vs.length=ps.length) (r : aI vs us)
    (x : InCallC s s.heap.objs.size (bindL (envOfC qual scope s.heap.objs.size f cd).kindOf (ps.zip us) fun _ => none) (cellsFrom (s.heap.objs.size+1) scope.names []) (bindC (envOfC qual scope s.heap.objs.size f cd).kindOf (ps.zip us) fun _ => none) s1) :
    Inv (eY CX P w K mg base N qual scope f cd A outer s H E) [] (start N vs) H s1 := by
  have hpl : ps.length≤N.length := by have := rT List.length S.pre;rw [rL] at this;omega
  obtain ⟨h1, tk, rfl, hk⟩ := x.done
  have noA : ∀ b : Addr, b∉(eY CX P w K mg base N qual scope f cd A outer s H E).ex := fun b z => absurd (show b∈([] : List Addr) from z) (by simp)
  refine ⟨⟨e0.mod, S.kind, rfl, rfl, rh _, fun y z c h1 h2 => ?_, fun y hy => ?_, fun y c _ h => ?_, fun _ => hd, Around.frames_deeper e0.frames, .inr ⟨rfl, rfl⟩, fun b z => absurd z (noA b), e0.bs, e0.bsz, fun b _ _ => noA b, fun b z => absurd z (noA b), e0.funs, e0.frf⟩,
    rfl, e0.bare, Un.kept hk, ⟨_, x.toInCall.ns, fun i y v h1 h2 h3 => ?_⟩, fun y c h => ⟨_, x.cell y c h⟩, e0.hok.fresh (rh _), fun y c h => ?_, fun p hp => absurd (show p∈([] : List (Addr × Obj)) from hp) (by simp), e0.hok.kept hk, ?_⟩
  · exact name_of_addr x.apart (rR h1) (rR h2)
  · have hy : scope.names.lookup y=some .cell ∨ scope.names.lookup y=some .free := hy
    rcases hy with hy | hy
    · exact fF hy
    · exact absurd rfl (S.nofree _ (rR hy))
  · exact tP (x.above y c (rR h))
  · have hi : i < vs.length := by
      unfold start at h2
      by_cases hi : i < vs.length
      · exact hi
      · rw [sX (by simpa using hi)] at h2
        rw [List.getElem?_replicate] at h2
        split at h2 <;> cases h2
    have ha : vs[i]? = some v := by
      unfold start at h2
      rw [uC (by simpa using hi), rV] at h2
      cases e : vs[i]? with
      | none => rw [e] at h2;cases h2
      | some a => rw [e] at h2;cases h2;rfl
    obtain ⟨u, hu, rv⟩ := r.get ha
    have hp : ps[i]? = some y := by
      rw [← S.pre, uI (by omega)];exact h1
    have ndP : ps.Nodup := by rw [← S.pre];exact S.nd.sublist (List.take_sublist _ _)
    refine ⟨u, rv, ?_⟩
    rcases S.par y (rM hp) with k | k
    · exact .inl ⟨k, dW ndP hp hu k⟩
    · obtain ⟨c, e⟩ := fF (n := s.heap.objs.size+1) k
      refine .inr ⟨.inl k, c, e, ?_⟩
      have q := x.cell y c e
      rw [dX ndP hp hu (by show scope.names.lookup y≠_;rw [k];decide)] at q
      exact q
  · exact e0.hok.fresh (tP (x.above y c (rR h)))
  · unfold start
    show _=N.length
    rw [rB, rn, List.length_replicate]
    omega
theorem lp {CX : CXT}{P : Program}{w : World}{K : PySem.W.Frag}{mg : Str → Option Value}{base : Heap}{k : Nat}{f : Addr}{name qual : Str}{params : Arguments}{body : List Stmt}{scope : Scope}{dV kV doc pm cdv ct oc : Value}{an od : Option Addr}
    {osl : Array (Option Value)} {N ps : List Str} {sp : Sp} (lk : K.lookup f=some ⟨oc, od, .func (PySem.W.fnOf name qual params body scope dV kV doc pm an cdv ct), osl⟩) (hcd : PySem.W.codeIn K cdv qual=true) (S : aw N ps scope)
    (len : ∀ vs H Q E, sp vs H Q E → vs.length=ps.length)
    (hbody : ∀ (A : Around) (outer : List Env) (s : Shared) (H : Hp) (vs : List V) (Q : VK) (E : XK), bp k (A.deeper (envOfC qual scope s.heap.objs.size f cdv)) → sp vs H Q E →
      ∃ t, PSs (eY CX P w K mg base N qual scope f cdv A outer s H E) body t ∧ t { nx := fun _ H' => Q .non H', rt := Q } (start N vs) H) :
    fE P w K mg base CX (k+1) f (PySem.W.fnOf name qual params body scope dV kV doc pm an cdv ct) ps sp := by
  refine ⟨len, fun A outer s H args us vs Q E hr e0 hb r hsp => ?_⟩
  have hl := len _ _ _ _ hsp
  have KX : K.In s.heap := e0.mod.kin.keeps fun b o e => (e0.bs b o e).1
  have lim : s.heap.NoLimit := e0.mod.nolimit.keeps fun b o e => (e0.bs b o e).1
  have hkind : ∀ y∈ps.zip us, scope.names.lookup y.1=some .local ∨ (scope.names.lookup y.1=some .cell ∧ ((cellsFrom (s.heap.objs.size+1) scope.names []).lookup y.1).isSome=true) := fun ⟨n, v⟩ hy => by
    rcases S.par n (uf hy).1 with q | q
    · exact .inl q
    · exact .inr ⟨q, tD _ _ _ (.inl q)⟩
  refine codeAny_call_function hr.depth (KX _ _ lk) rfl S.co S.gen rfl (PySem.W.codeRec_of KX hcd) (hb _ _ _ _ ?_)
  refine uq S.kind hkind fun env he s1 x => ?_
  subst he
  refine ⟨lim.keeps x.toInCall.keep, codeAny_func ?_⟩
  obtain ⟨t, ht, hq⟩ := hbody A outer s H vs Q E (hr.deeper _) hsp
  have I : Inv (eY CX P w K mg base N qual scope f cdv A outer s H E) [] (start N vs) H s1 := dY S hr.hd e0 hl r x
  refine rO (ht [] s1 (start N vs) H _ I hq) (fun fl s' hs => ?_) fun e s' hs => hs
  have fin : ∀ {σ' : St} {H' : Hp} {v : V} {u : Value}, Inv (eY CX P w K mg base N qual scope f cdv A outer s H E) [] σ' H' s' → aL v u → Q v H' → CE outer P w H s Q u s' :=
    fun {σ' H' v u} J rv q => ⟨v, H', J.os, J.bare, J.base, J.hok, rv, q⟩
  cases fl with
  | ret u =>
    obtain ⟨v, σ', H', J, rv, q⟩ := hs
    exact fin J rv q
  | next =>
    obtain ⟨σ', H', J, q⟩ := hs
    exact fin (v := V.non) (u := Value.none) J rfl q
  | brk =>
    obtain ⟨_, _, _, q⟩ := hs
    exact False.elim q
  | cont =>
    obtain ⟨_, _, _, q⟩ := hs
    exact False.elim q
section
variable {X : Cx} {x : Str} {p pos : Pos} {e : Expr} {es : List Expr} {t : TA} {id T : String} {r : List V → Hp → VK → Prop}
def m9 (r : List V → Hp → VK → Prop)(Q : VK) : List V → Hp → Prop := fun vs H1 => r vs H1 Q
def tCB (r : List V → Hp → VK → Prop)(t : TA) : TE := fun σ H Q => t σ H (m9 r Q)
theorem ar (hc : bD X (.builtin id) r)(hg : Gl X x)(hm : X.mg x=none)(hv : bootBuiltins x=some (.builtin id))(ha : PA X (e::es) t)(hn : x ≠ "__name__" := by decide)(hdb : (x == ("__debug__" : Str))=false := by decide)
    (he : starEach (e::es) X.env=(false, eval e X.env)::starEach es X.env := by rfl) (hpl : (backTo pos (starEach es X.env)).any (·.1)=false := by rfl) : PE X (.Call (.Name x p) (e::es) [] pos) (tCB r t) := by
  intro pins s σ H Q I h
  refine sF (dH I hg hm hv ?_ hn hdb)
  exact tR (thn (ha pos pins s σ H _ I h) fun us s1 zq60 => (by obtain ⟨vs, H1, I1, r1, q1⟩ := zq60;exact hc pins s1 σ H1 vs us Q I1 r1 q1)) he hpl
theorem a_ (hc : bD X (.type T) r)(hg : Gl X x)(hm : X.mg x=none)(hv : bootBuiltins x=some (.type T))(ha : PA X (e::es) t)(hn : x ≠ "__name__" := by decide)(hdb : (x == ("__debug__" : Str))=false := by decide)
    (he : starEach (e::es) X.env=(false, eval e X.env)::starEach es X.env := by rfl) (hpl : (backTo pos (starEach es X.env)).any (·.1)=false := by rfl) : PE X (.Call (.Name x p) (e::es) [] pos) (tCB r t) := by
  intro pins s σ H Q I h
  refine sF (dH I hg hm hv ?_ hn hdb)
  exact sS (thn (ha pos pins s σ H _ I h) fun us s1 zq61 => (by obtain ⟨vs, H1, I1, r1, q1⟩ := zq61;exact hc pins s1 σ H1 vs us Q I1 r1 q1)) he hpl
end
end L2
namespace HT
open PySem PyProof.Rows
section
open PySem.SeqAt
open PySem.AutoSeq1 (wpAny_loadPart')
open PySem.MeetsSeq PySem.MeetsSeq2 PySem.MeetsSeq3
end
section
variable {prog : Program} {w : World} {A : Around} {E : Value → Shared → Prop} {s : Shared}
def sIx (n d : Nat) : Option Int → Nat
  | none => d
  | some v => if v < 0 then (v+(n : Int)).toNat else min v.toNat n
theorem c5 (n d : Nat) : sIx n d none=d := rfl
theorem eZ (n d k : Nat) : sIx n d (some (k : Int))=min k n := by
  show (if (k : Int) < 0 then ((k : Int)+(n : Int)).toNat else min (k : Int).toNat n)=min k n
  rw [if_neg (by omega), rE]
theorem kg (n d : Nat)(hd : d≤n)(o : Option Int) : sIx n d o≤n := by
  cases o with
  | none => exact hd
  | some v =>
    show (if v < 0 then (v+(n : Int)).toNat else min v.toNat n)≤n
    by_cases hv : v < 0
    · rw [if_pos hv];omega
    · rw [if_neg hv];exact Nat.min_le_right _ _
end
end HT
namespace L2
open PySem PySem.Spec PyProof.Rows
abbrev TO := St → Hp → (Option Int → Hp → Prop) → Prop
def PO (X : Cx)(e : Option Expr)(t : TO) : Prop :=
  ∀ (pins : List (Addr × Obj)) (s : Shared) (σ : St) (H : Hp) (Q : Option Int → Hp → Prop), Inv X pins σ H s → t σ H Q →
    wpAny (model X.prog X.w) X.A (evalPart e X.env) (fun u s' => ∃ o H', Inv X pins σ H' s' ∧ IsPart u o ∧ Q o H') X.xe s
def lq : TO := fun _ H Q => Q none H
inductive IsI (x : V)(H : Hp)(Q : Option Int → Hp → Prop) : Prop
  | mk : ∀ i, (x = .int i) → (Q (some i) H) → IsI x H Q
def jt (Q : (Option Int → Hp → Prop)) : V → Hp → Prop := fun x H1 => IsI x H1 Q
def o3 (t : TE) : TO := fun σ H Q => t σ H (jt Q)
section
variable {X : Cx} {e : Expr} {te : TE} {lo hi : Option Expr} {tl th : TO} {pos p2 : Pos}
theorem bY : PO X none lq := by
  intro pins s σ H Q I h
  rw [evalPart_none]
  exact rm ⟨none, H, I, .none, h⟩
theorem bZ (h : PE X e te) : PO X (some e) (o3 te) := by
  intro pins s σ H Q I hw
  rw [evalPart_some]
  refine thn (h pins s σ H _ I hw) fun u s1 zq62 => ?_
  obtain ⟨x, H1, I1, r1, q1⟩ := zq62
  obtain ⟨i, rfl, q⟩ := q1
  obtain ⟨t, rfl⟩ := r1
  exact ⟨some i, H1, I1, .int i t, q⟩
def SlR (X : Cx)(r : V → Option Int → Option Int → Hp → VK → Prop) : Prop :=
  ∀ (pins : List (Addr × Obj)) (s : Shared) (σ : St) (H : Hp) (x : V) (v vl vu : Value) (lo hi : Option Int) (sl : Addr) (Q : VK), Inv X pins σ H s → aL x v → s.heap.IsSliceOf sl vl vu .none → IsPart vl lo → IsPart vu hi → r x lo hi H Q →
    ∃ T id, typeLookup (.type T) "__getitem__" = pure (some (.builtin id)) ∧ s.TypeIs v T ∧ wpAny (model X.prog X.w) X.A (getItem v (.ref sl)) (EP X pins σ Q) X.xe s
def m_ (r : V → Option Int → Option Int → Hp → VK → Prop)(Q : VK)(x : V)(l : Option Int) : Option Int → Hp → Prop := fun u H3 => r x l u H3 Q
def nh (r : V → Option Int → Option Int → Hp → VK → Prop)(th : TO)(σ : St)(Q : VK)(x : V) : Option Int → Hp → Prop := fun l H2 => th σ H2 (m_ r Q x l)
def nj (r : V → Option Int → Option Int → Hp → VK → Prop)(tl : TO)(th : TO)(σ : St)(Q : VK) : V → Hp → Prop := fun x H1 => tl σ H1 (nh r th σ Q x)
def tSl (r : V → Option Int → Option Int → Hp → VK → Prop)(te : TE)(tl th : TO) : TE := fun σ H Q => te σ H (nj r tl th σ Q)
theorem bA {r : V → Option Int → Option Int → Hp → VK → Prop}(hr : SlR X r)(he : PE X e te)(hl : PO X lo tl)(hu : PO X hi th) : PE X (.Subscript e (.Slice lo hi none p2) pos) (tSl r te tl th) := by
  intro pins s σ H Q I h
  refine uJ (thn (he pins s σ H _ I h) fun v s1 zq63 => ?_)
  obtain ⟨x, H1, I1, r1, q1⟩ := zq63
  refine wpAny_Slice (thn (hl pins s1 σ H1 _ I1 q1) fun vl s2 ⟨l, H2, I2, pl, q2⟩ => thn (hu pins s2 σ H2 _ I2 q2) fun vu s3 zq64 => ?_)
  obtain ⟨u, H3, I3, pu, q3⟩ := zq64
  rw [evalPart_none]
  refine rm ?_
  have I4 : Inv X pins σ H3 { s3 with heap := s3.heap.push { cls := .type "slice", data := .fields #[vl, vu, .none] } } := I3.kept (t' := s3.toks) fun b ob q => fu _ q
  obtain ⟨T, id, hT, ht, hg⟩ := hr pins { s3 with heap := s3.heap.push { cls := .type "slice", data := .fields #[vl, vu, .none] } } σ H3 x v vl vu l u s3.heap.objs.size Q I4 r1 (Heap.IsSliceOf.new ..) pl pu q3
  show wpAny (model X.prog X.w) X.A (subscriptTail e (.Slice lo hi none p2) v (.ref s3.heap.objs.size)) (EP X pins σ Q) X.xe { s3 with heap := s3.heap.push { cls := .type "slice", data := .fields #[vl, vu, .none] } }
  exact tail_any (ops := [.ref s3.heap.objs.size, v]) ht hT hg (by with_unfolding_all rfl)
def mK (xs : List V)(lo hi : Option Int) : List V := (xs.drop (HT.sIx xs.length 0 lo)).take (HT.sIx xs.length xs.length hi - HT.sIx xs.length 0 lo)
theorem e_ (xs : List V)(lo hi : Option Int) : (mK xs lo hi).length≤xs.length := by
  unfold mK
  rw [rL, tW]
  omega
end
def ixN (n : Nat)(i : Int) : Option Nat := if 0≤i then (if i < n then some i.toNat else none) else if -(n : Int)≤i then some (i+n).toNat else none
def atI {α : Type}(xs : List α)(i : Int) : Option α := (ixN xs.length i).bind fun j => xs[j]?
theorem gS {n : Nat}{i : Int}{j : Nat}(h : ixN n i=some j) : seqIndex? i n=some j ∧ j < n ∧ -(n : Int)≤i ∧ i < n := by
  unfold ixN at h
  by_cases h0 : 0≤i
  · rw [if_pos h0] at h
    by_cases h1 : i < n
    · rw [if_pos h1] at h
      have e : i.toNat=j := rl h
      exact ⟨by rw [seqIndex_of h0 h1, e], by omega, by omega, h1⟩
    · rw [if_neg h1] at h;cases h
  · rw [if_neg h0] at h
    by_cases h1 : -(n : Int)≤i
    · rw [if_pos h1] at h
      have e : (i+n).toNat=j := rl h
      exact ⟨by rw [seqIndex_neg (by omega) h1, e], by omega, h1, by omega⟩
    · rw [if_neg h1] at h;cases h
theorem c7 {α : Type}{xs : List α}{i : Int}{v : α}(h : atI xs i=some v) : ∃ j, seqIndex? i xs.length=some j ∧ xs[j]? = some v ∧ j < xs.length ∧ -(xs.length : Int)≤i ∧ i < xs.length := by
  unfold atI at h
  cases e : ixN xs.length i with
  | none => rw [e] at h;cases h
  | some j =>
    rw [e] at h
    obtain ⟨h1, h2, h3, h4⟩ := gS e
    exact ⟨j, h1, h, h2, h3, h4⟩
def c8 (b : Expr) : Prop := ∀ o i, subscripted b false o i=operate [o, i] (getItem o i)
def IxR (X : Cx)(r : R2) : Prop :=
  ∀ (value slice : Expr) (pins : List (Addr × Obj)) (s : Shared) (σ : St) (H : Hp) (x y : V) (v u : Value) (Q : VK), Inv X pins σ H s → aL x v → aL y u → r x y H Q →
    subscripted slice false v u=operate [v, u] (getItem v u) → wpAny (model X.prog X.w) X.A (subscriptTail value slice v u) (EP X pins σ Q) X.xe s
def MtR (X : Cx)(id : String)(r : V → List V → Hp → VK → Prop) : Prop :=
  ∀ (pins : List (Addr × Obj)) (s : Shared) (σ : St) (H : Hp) (x : V) (xs : List V) (v : Value) (us : List Value) (Q : VK), Inv X pins σ H s → aL x v → aI xs us → r x xs H Q →
    wpAny (model X.prog X.w) X.A (call (.builtin id) (v::us)) (EP X pins σ Q) X.xe s
section
variable {X : Cx} {a b : Expr} {ta tb : TE} {pos : Pos}
theorem bq {r : R2}(hr : IxR X r)(ha : PE X a ta)(hb : PE X b tb)(hs : c8 b) : PE X (.Subscript a b pos) (tOp r ta tb) := by
  intro pins s σ H Q I h
  exact uJ (oY ha hb I h fun v u s2 x y H2 I2 rx ry q => hr a b pins s2 σ H2 x y v u Q I2 rx ry q (hs _ _))
inductive qf (K : PySem.W.Frag)(x : V)(y : V)(H : Hp)(Q : VK) : Prop
  | mk : ∀ p xs i v, (x = .ref p) → (y = .int i) → (SqL K H p xs) → (atI xs i=some v) → (Q v H) → qf K x y H Q
inductive qg (K : PySem.W.Frag)(x : V)(y : V)(H : Hp)(Q : VK) : Prop
  | mk : ∀ p xs i v, (x = .ref p) → (y = .int i) → (SqT K H p xs) → (atI xs i=some v) → (Q v H) → qg K x y H Q
inductive qh (x : V)(y : V)(H : Hp)(Q : VK) : Prop
  | mk : ∀ z i c, (x = .str z) → (y = .int i) → (z.length≤sizeLine) → (atI z.cps.toList i=some c) → (Q (.str ⟨#[c]⟩) H) → qh x y H Q
theorem fc : IxR X (qf X.K) := by
  intro value slice pins s σ H x y v u Q I rx ry h hs
  obtain ⟨p, xs, i, z, rfl, rfl, hq, he, q⟩ := h
  cases rx
  obtain ⟨t, rfl⟩ := ry
  obtain ⟨its, r, pl, hz⟩ := I.list hq
  obtain ⟨j, h1, h2, h3, h4, h5⟩ := c7 he
  obtain ⟨w, ew, rw'⟩ := r.get h2
  have hl := r.length
  have hn := b_
  have fin : EP X pins σ Q w s := ⟨z, H, I, rw', q⟩
  by_cases h0 : 0≤i
  · have hj : i.toNat=j := by
      rw [seqIndex_of h0 h5] at h1
      exact rl h1
    exact item_listR pl.isList h0 (by omega) (by rw [hj];simpa using ew) fin hs
  · have hj : (i+(its.toArray.size : Int)).toNat=j := by
      rw [seqIndex_neg (by omega) h4] at h1
      rw [rj, ← hl]
      exact rl h1
    exact tF (x := w) pl.isList.typeIs slot_list_getitem.lookup
      (wpAny_getItem_list_neg (Q := fun r s' => r=w ∧ EP X pins σ Q r s') pl.isList (by omega) (by rw [rj] <;> omega) (by omega) (by rw [hj];simpa using ew) ⟨rfl, fin⟩) hs
theorem cR : IxR X (qg X.K) := by
  intro value slice pins s σ H x y v u Q I rx ry h hs
  obtain ⟨p, xs, i, z, rfl, rfl, hq, he, q⟩ := h
  cases rx
  obtain ⟨t, rfl⟩ := ry
  obtain ⟨its, r, pl, hz⟩ := I.tuple hq
  obtain ⟨j, h1, h2, h3, h4, h5⟩ := c7 he
  obtain ⟨w, ew, rw'⟩ := r.get h2
  have hl := r.length
  have hn := b_
  have fin : EP X pins σ Q w s := ⟨z, H, I, rw', q⟩
  exact tF (x := w) pl.typeIs slot_tuple_getitem.lookup
    (getItem_tuple (j := j) (Q := fun r s' => r=w ∧ EP X pins σ Q r s') pl (by omega) (by omega) (by rw [rj, ← hl];exact h1) (by simpa using ew) ⟨rfl, fin⟩) hs
theorem bP : IxR X qh := by
  intro value slice pins s σ H x y v u Q I rx ry h hs
  obtain ⟨z, i, c, rfl, rfl, hz, he, q⟩ := h
  obtain ⟨t, rfl⟩ := rx
  obtain ⟨t', rfl⟩ := ry
  obtain ⟨j, h1, h2, h3, h4, h5⟩ := c7 he
  have hl : z.cps.toList.length=z.length := by simp [Str.length]
  rw [hl] at h1 h4 h5
  have hn := b_
  exact tail_any (tL s z t) slot_str_getitem.lookup (getItem_str (c := c) (by
    have e1 : decide (i < -(2 ^ 63 : Int))=false := rf (by omega)
    have e2 : decide (i≥2 ^ 63)=false := rf (by omega)
    rw [e1, e2, u5]) (by rw [h1];simpa using h2) ⟨.str ⟨#[c]⟩, H, I.tok _, ⟨_, rfl⟩, q⟩) hs
theorem Inv.lst {pins : List (Addr × Obj)}{σ : St}{H : Hp}{s : Shared}{p : Addr}{xs : List V}(I : Inv X pins σ H s)(h : H p=some (.lst xs)) :
    ∃ (its : List Value) (n : Nat), aI xs its ∧ s.heap.get? p=some { cls := .type "list", data := .seq its.toArray n } ∧ xs.length≤sizeLine := by
  obtain ⟨z, its, n, r, e⟩ := I.hok p _ h
  exact ⟨its, n, r, e, z⟩
theorem dZ (lo hi : Option Int)(n : Nat) : (sliceBounds lo hi none n).1=((HT.sIx n 0 lo : Nat) : Int) ∧ (sliceBounds lo hi none n).2.1=((HT.sIx n n hi : Nat) : Int) ∧ (sliceBounds lo hi none n).2.2=1 := by
  refine ⟨?_, ?_, rfl⟩
  · cases lo with
    | none => simp [sliceBounds, HT.sIx]
    | some i =>
      simp only [sliceBounds, HT.sIx, Option.getD_none, show (1 : Int) > 0 by decide, ug]
      by_cases h : i < 0
      · simp only [h, ug] <;> omega
      · simp only [h, u6] <;> omega
  · cases hi with
    | none => simp [sliceBounds, HT.sIx]
    | some i =>
      simp only [sliceBounds, HT.sIx, Option.getD_none, show (1 : Int) > 0 by decide, ug]
      by_cases h : i < 0
      · simp only [h, ug] <;> omega
      · simp only [h, u6] <;> omega
theorem c9 (its : List Value)(lo hi : Option Int) : slicePick its.toArray lo hi none=((its.drop (HT.sIx its.length 0 lo)).take (HT.sIx its.length its.length hi - HT.sIx its.length 0 lo)).toArray := by
  obtain ⟨h1, h2, h3⟩ := dZ lo hi its.toArray.size
  unfold slicePick
  rw [h1, h2, h3]
  simp only [sliceRange_one, pick_run, rj] <;> rfl
inductive qi (K : PySem.W.Frag)(x : V)(lo : Option Int)(hi : Option Int)(H : Hp)(Q : VK) : Prop
  | mk : ∀ a xs, (x = .ref a) → (SqL K H a xs) → (∀ p, H p=none → Q (.ref p) (upd H p (.lst (mK xs lo hi)))) → qi K x lo hi H Q
theorem lr : SlR X (qi X.K) := by
  intro pins s σ H x v vl vu lo hi sl Q I rx hs pl pu h
  obtain ⟨a, xs, rfl, hx, q⟩ := h
  cases rx
  obtain ⟨its, r, ht, hz⟩ := I.list hx
  have hlen := r.length
  refine ⟨"list", _, slot_list_getitem.lookup, ht.isList.typeIs, ?_⟩
  refine wpAny_getItem_list_slice ht.isList hs pl pu .none (by simp) ?_ (by rw [rj] <;> omega)
  rw [c9, ← hlen]
  refine ⟨.ref s.heap.objs.size, _, I.laid (t' := s.toks) (o := .lst (mK xs lo hi)) (fun b ob q => fu _ q) (rh _) ?_, rfl, q _ (I.hok.fresh (rh _))⟩
  exact ⟨rJ (e_ xs lo hi) hz, _, 0, (r.drop (HT.sIx xs.length 0 lo)).take (HT.sIx xs.length xs.length hi - HT.sIx xs.length 0 lo), ri _ rfl⟩
def d2 : V → Bool
  | .non => true
  | .bl _ => true
  | .int _ => true
  | .str _ => true
  | _ => false
def eqV : V → V → Bool
  | .non, .non => true
  | .bl a, .bl b => a == b
  | .bl a, .int b => (if a then 1 else 0) == b
  | .int a, .bl b => a == (if b then 1 else 0)
  | .int a, .int b => a == b
  | .str a, .str b => a == b
  | _, _ => false
theorem nk {A : Around}{s : Shared}{y x : V}{u v : Value}(ry : aL y u)(rx : aL x v)(fy : d2 y=true)(fx : d2 x=true) : SeqAt.EqAt A s u v (eqV y x) := by
  cases y with
  | non =>
    cases ry
    cases x with
    | non => cases rx;exact SeqAt.EqAt.same _
    | bl b => cases rx;exact SeqAt.EqAt.none_bool b
    | int b => obtain ⟨t, rfl⟩ := rx;exact SeqAt.EqAt.none_int b t
    | str b => obtain ⟨t, rfl⟩ := rx;exact SeqAt.EqAt.none_str b t
    | _ => exact absurd (show false=true from fx) rg
  | bl a =>
    cases ry
    cases x with
    | non => cases rx;exact SeqAt.EqAt.bool_none a
    | bl b => cases rx;exact SeqAt.EqAt.bool_bool a b
    | int b => obtain ⟨t, rfl⟩ := rx;exact SeqAt.EqAt.bool_int a b t
    | str b => obtain ⟨t, rfl⟩ := rx;exact SeqAt.EqAt.bool_str a b t
    | _ => exact absurd (show false=true from fx) rg
  | int a =>
    obtain ⟨t', rfl⟩ := ry
    cases x with
    | non => cases rx;exact SeqAt.EqAt.int_none a t'
    | bl b => cases rx;exact SeqAt.EqAt.int_bool a t' b
    | int b => obtain ⟨t, rfl⟩ := rx;exact SeqAt.EqAt.int_int a t' b t
    | str b => obtain ⟨t, rfl⟩ := rx;exact SeqAt.EqAt.int_str a t' b t
    | _ => exact absurd (show false=true from fx) rg
  | str a =>
    obtain ⟨t', rfl⟩ := ry
    cases x with
    | non => cases rx;exact SeqAt.EqAt.str_none a t'
    | bl b => cases rx;exact SeqAt.EqAt.str_bool a t' b
    | int b => obtain ⟨t, rfl⟩ := rx;exact SeqAt.EqAt.str_int a t' b t
    | str b => obtain ⟨t, rfl⟩ := rx;exact SeqAt.EqAt.str_str a t' b t
    | _ => exact absurd (show false=true from fx) rg
  | _ => exact absurd (show false=true from fy) rg
def eqU (x : V)(u : Value) : Bool := match u with
  | .none => eqV .non x
  | .bool b => eqV (.bl b) x
  | .int i _ => eqV (.int i) x
  | .str z _ => eqV (.str z) x
  | _ => false
theorem kh {x y : V}{u : Value}(r : aL y u)(f : d2 y=true) : eqU x u=eqV y x := by
  cases y with
  | non => cases r;rfl
  | bl b => cases r;rfl
  | int i => obtain ⟨t, rfl⟩ := r;rfl
  | str z => obtain ⟨t, rfl⟩ := r;rfl
  | _ => exact absurd (show false=true from f) rg
theorem fe {x : V} : ∀ {xs : List V} {us : List Value}, aI xs us → xs.all d2=true → us.any (eqU x)=xs.any fun y => eqV y x
  | _, _, .nil, _ => rfl
  | y::xs, u::us, .cons r t, f => by
    rw [u7, sD] at f
    rw [tZ, tZ, kh r f.1, fe t f.2]
theorem c_ {A : Around}{s : Shared}{x : V}{v : Value}(rx : aL x v)(fx : d2 x=true) : ∀ {xs : List V} {us : List Value}, aI xs us → xs.all d2=true → ∀ u∈us, SeqAt.EqAt A s u v (eqU x u)
  | _, _, .nil, _ => fun u hu => by cases hu
  | y::xs, u::us, .cons r t, f => fun u' hu => by
    rw [u7, sD] at f
    rcases rN.mp hu with rfl | hu
    · rw [kh r f.1];exact nk r rx f.1 fx
    · exact c_ rx fx t f.2 u' hu
def inV (x : V)(xs : List V) : Bool := xs.any fun y => eqV y x
inductive rIn (K : PySem.W.Frag)(neg : Bool)(x : V)(y : V)(H : Hp)(Q : VK) : Prop
  | mk : ∀ p xs, (y = .ref p) → ((SqL K H p xs ∨ SqT K H p xs)) → (d2 x=true) → (xs.all d2=true) → (Q (.bl (if neg then !inV x xs else inV x xs)) H) → rIn K neg x y H Q
theorem d3 : OpR X (compareOp .NotIn) (rIn X.K true) := by
  intro pins s σ H x y v u Q I rx ry h
  obtain ⟨p, xs, rfl, hq, fx, fs, q⟩ := h
  cases ry
  rcases hq with hq | hq
  · obtain ⟨its, r, pl, hz⟩ := I.list hq
    refine SeqAt.notIn_listAt (eqU x) pl.isList (fun w hw => c_ rx fx r fs w (by simpa using hw)) ⟨.bl _, H, I, rfl, ?_⟩
    rw [show its.toArray.any (eqU x)=its.any (eqU x) by simp, fe r fs]
    exact q
  · obtain ⟨its, r, pl, hz⟩ := I.tuple hq
    refine SeqAt.notIn_tupleAt (eqU x) pl (fun w hw => c_ rx fx r fs w (by simpa using hw)) ⟨.bl _, H, I, rfl, ?_⟩
    rw [show its.toArray.any (eqU x)=its.any (eqU x) by simp, fe r fs]
    exact q
inductive bE (K : PySem.W.Frag)(xs : List V)(H : Hp)(Q : VK) : Prop
  | mk : ∀ p ys, (xs=[.ref p]) → ((SqL K H p ys ∨ SqT K H p ys)) → (Q (.int ys.length) H) → bE K xs H Q
theorem br : bD X (.builtin "len") (bE X.K) := by
  intro pins s σ H xs us Q I r h
  obtain ⟨p, ys, rfl, hq, q⟩ := h
  obtain ⟨u, rfl, rx⟩ := bX r
  cases rx
  have hn := b_
  rcases hq with hq | hq
  · obtain ⟨its, r', pl, hz⟩ := I.list hq
    have hlen := r'.length
    exact Calls.call_len_list pl.isList (by simp only [rj] <;> omega) ⟨.int ys.length, H, I.tok _, ⟨s.toks+1, by rw [rj, hlen]⟩, q⟩
  · obtain ⟨its, r', pl, hz⟩ := I.tuple hq
    have hlen := r'.length
    exact len_tuple pl (by simp only [rj] <;> omega) ⟨.int ys.length, H, I.tok _, ⟨s.toks+1, by rw [rj, hlen]⟩, q⟩
inductive bF  (xs : List V)(H : Hp)(Q : VK) : Prop
  | mk : ∀ z, (xs=[.str z]) → (z.length≤sizeLine) → (Q (.int z.length) H) → bF xs H Q
theorem aD : bD X (.builtin "len") bF := by
  intro pins s σ H xs us Q I r h
  obtain ⟨z, rfl, hz, q⟩ := h
  obtain ⟨u, rfl, t, rfl⟩ := bX r
  have hn := b_
  exact len_str (by omega) ⟨.int z.length, H, I.tok _, ⟨_, rfl⟩, q⟩
inductive bG (K : PySem.W.Frag)(xs : List V)(H : Hp)(Q : VK) : Prop
  | mk : ∀ p ys, (xs=[.ref p]) → ((SqL K H p ys ∨ SqT K H p ys)) → (∀ l, H l=none → Q (.ref l) (upd H l (.lst ys))) → bG K xs H Q
theorem d4 : bD X (.type "list") (bG X.K) := by
  intro pins s σ H xs us Q I r h
  obtain ⟨p, ys, rfl, hq, q⟩ := h
  obtain ⟨u, rfl, rx⟩ := bX r
  cases rx
  have fin : ∀ (its : List Value), aI ys its → ys.length≤sizeLine → ∀ (h' : Heap) (c' : Nat), (∀ b o', s.heap.get? b=some o' → h'.get? b=some o') →
      h'.get? s.heap.objs.size=some { cls := .type "list", dict := none, data := .seq its.toArray c', slots := #[] } → EP X pins σ Q (.ref s.heap.objs.size) { s with heap := h' } := fun its r' hz h' c' kp e =>
    ⟨.ref s.heap.objs.size, _, I.laid (t' := s.toks) kp (rh _) (show aP X.prog X.w _ h' _ (.lst ys) from ⟨hz, its, c', r', e⟩), rfl, q _ (I.hok.fresh (rh _))⟩
  rcases hq with hq | hq
  · obtain ⟨its, r', pl, hz⟩ := I.list hq
    have hlen := r'.length
    obtain ⟨o, ho, hc, n, hd⟩ := pl.isList
    exact call_list_seq p (.inl rfl) ho hc hd (fun h' c' kp e => fin its r' hz h' c' kp e) (by simp only [rj] <;> omega)
  · obtain ⟨its, r', pl, hz⟩ := I.tuple hq
    have hlen := r'.length
    obtain ⟨o, ho, hc, n, hd⟩ := pl
    exact call_list_seq p (.inr rfl) ho hc hd (fun h' c' kp e => fin its r' hz h' c' kp e) (by simp only [rj] <;> omega)
def tyV (K : PySem.W.Frag)(T : String)(x : V)(H : Hp) : Prop := match x with
  | .str _ => T = "str"
  | .int _ => T = "int"
  | .ref p => (T = "list" ∧ ∃ xs, SqL K H p xs) ∨ (T = "tuple" ∧ ((∃ o, K.lookup p=some o ∧ o.cls = .type "tuple" ∧ o.dict=none) ∨ ∃ xs, H p=some (.tup xs))) ∨
      (T = "dict" ∧ ((∃ kvs, H p=some (.dK kvs)) ∨ ∃ kvs, H p=some (.dT kvs))) ∨ (T = "set" ∧ ∃ S n, H p=some (.set S n))
  | _ => False
theorem ki {pins : List (Addr × Obj)}{σ : St}{H : Hp}{s : Shared}{T : String}{x : V}{v : Value}(I : Inv X pins σ H s)(r : aL x v)(ty : tyV X.K T x H) :
    s.TypeIs v T ∧ ∀ a, v = .ref a → ∃ ob, s.heap.get? a=some ob ∧ ob.dict=none := by
  cases x with
  | str z =>
    obtain ⟨t, rfl⟩ := r
    cases (show T = "str" from ty)
    exact ⟨tL s z t, fun _ e => nomatch e⟩
  | int i =>
    obtain ⟨t, rfl⟩ := r
    cases (show T = "int" from ty)
    exact ⟨typeIs_int s i t, fun _ e => nomatch e⟩
  | ref p =>
    cases r
    rcases ty with ⟨rfl, xs, hq⟩ | ⟨rfl, ⟨o, hk, hc, hd⟩ | ⟨xs, hk⟩⟩ | ⟨rfl, hk⟩ | ⟨rfl, S, n, hk⟩
    · obtain ⟨its, _, pl, _⟩ := I.list hq
      refine ⟨pl.isList.typeIs, fun a e => ?_⟩
      cases e
      obtain ⟨o, n, e, c, hd, _⟩ := pl
      exact ⟨o, e, hd⟩
    · refine ⟨⟨o, I.kIn p o hk, hc⟩, fun a e => ?_⟩
      cases e
      exact ⟨o, I.kIn _ o hk, hd⟩
    · obtain ⟨_, _, _, ⟨o, e, hc, _⟩, hn⟩ := I.hok p _ hk
      refine ⟨⟨o, e, hc⟩, fun a e => ?_⟩
      cases e
      exact hn
    · have z : ∃ o, s.heap.get? p=some o ∧ o.ExactDict := by
        rcases hk with ⟨kvs, hk⟩ | ⟨kvs, hk⟩
        · obtain ⟨_, _, _, _, o, _, _, e, ex, _⟩ := I.hok p _ hk
          exact ⟨o, e, ex⟩
        · obtain ⟨_, _, _, _, o, _, _, e, ex, _⟩ := I.hok p _ hk
          exact ⟨o, e, ex⟩
      obtain ⟨o, e, ex⟩ := z
      refine ⟨⟨o, e, ex.1⟩, fun a e2 => ?_⟩
      cases e2
      exact ⟨o, e, ex.2.1⟩
    · obtain ⟨o, _, _, _, e, ex, _⟩ := I.hok p _ hk
      refine ⟨⟨o, e, ex.1⟩, fun a e2 => ?_⟩
      cases e2
      exact ⟨o, e, ex.2.1⟩
  | _ => exact False.elim ty
def lx (K : PySem.W.Frag)(T : String)(r : V → List V → Hp → VK → Prop)(Q : VK) : V → Hp → Prop := fun x H1 => tyV K T x H1 ∧ r x [] H1 Q
def qM (K : PySem.W.Frag)(T : String)(r : V → List V → Hp → VK → Prop)(to : TE) : TE := fun σ H Q => to σ H (lx K T r Q)
def nq (r : V → List V → Hp → VK → Prop)(Q : VK)(x : V) : List V → Hp → Prop := fun xs H2 => r x xs H2 Q
def nr (K : PySem.W.Frag)(T : String)(r : V → List V → Hp → VK → Prop)(t : TA)(σ : St)(Q : VK) : V → Hp → Prop := fun x H1 => tyV K T x H1 ∧ t σ H1 (nq r Q x)
def tBM (K : PySem.W.Frag)(T : String)(r : V → List V → Hp → VK → Prop)(to : TE)(t : TA) : TE := fun σ H Q => to σ H (nr K T r t σ Q)
variable {o e : Expr} {es : List Expr} {to : TE} {t : TA} {name : Str} {apos cpos : Pos} {T id : String} {r : V → List V → Hp → VK → Prop}
theorem gT (pa : PlainAttrs T)(slot : Slot T name id)(hty : typeOf (.builtin id)=pure (.type "method_descriptor"))(hm : MtR X id r)(ho : PE X o to)
    (hbase : attributeBase o name X.env (eval o X.env)=eval o X.env := by rfl) (hline : (apos.endLine == cpos.line)=true := by rfl) : PE X (.Call (.Attribute o name apos) [] [] cpos) (qM X.K T r to) := by
  intro pins s σ H Q I h
  refine wpAny_Call_method0_late hbase hline (thn (ho pins s σ H _ I h) fun v s1 zq65 => ?_)
  obtain ⟨x, H1, I1, r1, ty, q1⟩ := zq65
  obtain ⟨h1, h2⟩ := ki I1 r1 ty
  exact ⟨T, id, pa, slot, hty, h1, h2, tG rfl (PySem.evalArgs_none (hm pins s1 σ H1 x [] v [] Q I1 r1 .nil q1))⟩
theorem ju (pa : PlainAttrs T)(slot : Slot T name id)(hty : typeOf (.builtin id)=pure (.type "method_descriptor"))(hm : MtR X id r)(ho : PE X o to)(ha : PA X (e::es) t)
    (hbase : attributeBase o name X.env (eval o X.env)=eval o X.env := by rfl)
    (hfew : ((backTo cpos (starEach (e::es) X.env)).all (fun x => !x.1) && (backToKw cpos (keywordEach [] X.env)).all (fun x => x.1.isSome)
      && decide ((e::es).length+([] : List Keyword).length+(if ([] : List Keyword).isEmpty then 0 else 1) < 30))=true := by rfl)
    (hline : (apos.endLine == cpos.line)=true := by rfl) (hs : starEach (e::es) X.env=(false, eval e X.env)::starEach es X.env := by rfl) (hplain : (backTo cpos (starEach es X.env)).any (·.1)=false := by rfl) :
    PE X (.Call (.Attribute o name apos) (e::es) [] cpos) (tBM X.K T r to t) := by
  intro pins s σ H Q I h
  refine wpAny_Call_method_late hbase hfew hline rfl (thn (ho pins s σ H _ I h) fun v s1 zq66 => ?_)
  obtain ⟨x, H1, I1, r1, ty, q1⟩ := zq66
  obtain ⟨h1, h2⟩ := ki I1 r1 ty
  refine ⟨T, id, pa, slot, hty, h1, h2, ?_⟩
  have hA := ha cpos pins s1 σ H1 _ I1 q1
  rw [hs] at hA ⊢
  refine tG (by show (false || (backTo cpos (starEach es X.env)).any (·.1))=false;rw [hplain] <;> rfl) (Calls.evalArgs_plain ?_)
  exact thn hA fun us s2 zq67 => (by obtain ⟨vs, H2, I2, r2, q2⟩ := zq67;exact hm pins s2 σ H2 x vs v us Q I2 r1 r2 q2)
/- xs.append(e), list.index on a module's tuple .. are MtR facts of 06m -/
end
def MtM (X : Cx)(id : String)(r : V → List V → Hp → VK → Prop) : Prop :=
  ∀ (pins : List (Addr × Obj)) (s : Shared) (σ : St) (H : Hp) (x : V) (xs : List V) (v : Value) (us : List Value) (Q : VK), Inv X pins σ H s → aL x v → aI xs us → r x xs H Q →
    wpAny (model X.prog X.w) X.A (call (.builtin id) (v::us)) (EP X pins σ Q) X.xe s
theorem aI.one : ∀ {x : V} {us : List Value}, aI [x] us → ∃ u, us=[u] ∧ aL x u
  | _, _, .cons r .nil => ⟨_, rfl, r⟩
theorem aI.eraseIdx : ∀ {xs : List V} {us : List Value} (i : Nat), aI xs us → aI (xs.eraseIdx i) (us.eraseIdx i)
  | _, _, _, .nil => .nil
  | _, _, 0, .cons _ t => t
  | _, _, i+1, .cons r t => .cons r (aI.eraseIdx i t)
theorem aI.rep {xs : List V}{us : List Value}(h : aI xs us) : ∀ k : Nat, aI (List.replicate k xs).flatten (List.replicate k us).flatten
  | 0 => .nil
  | k+1 => by
    rw [sJ, sJ, tM, tM]
    exact aI.append h (aI.rep h k)
theorem d5 {α : Type} : ∀ (l : List α) (i : Nat), (l.eraseIdx i).length≤l.length
  | [], _ => rh _
  | _::_, 0 => Nat.le_succ _
  | _::r, i+1 => Nat.succ_le_succ (d5 r i)
theorem d6 (its : List Value) : ∀ (k : Nat) (acc : List Value),
    List.foldl (fun x1 x2 => x1++x2) acc.toArray (List.replicate k its.toArray)=(acc++(List.replicate k its).flatten).toArray
  | 0, acc => by simp
  | k+1, acc => by
    have e : acc.toArray++its.toArray=(acc++its).toArray := by simp
    have e2 : (acc++its)++(List.replicate k its).flatten=acc++(List.replicate (k+1) its).flatten := by
      rw [sJ, tM, List.append_assoc]
    rw [← e2, ← d6 its k (acc++its), ← e, sJ, List.foldl_cons]
section
variable {X : Cx} {pins : List (Addr × Obj)} {σ : St} {H : Hp} {s : Shared} {l b : Addr} {xs ys zs : List V}
theorem Inv.lset {its its' : List Value}{n : Nat}{f : Array Value → Array Value}{t' : Nat}(I : Inv X pins σ H s)(hH : H l=some (.lst xs))
    (e : s.heap.get? l=some { cls := .type "list", data := .seq its.toArray n }) (hf : f its.toArray=its'.toArray) (hv : aI ys its') (hz : ys.length≤sizeLine) :
    Inv X pins σ (upd H l (.lst ys)) { s with heap := s.heap.update l (Obj.mapSeq f), toks := t' } := by
  have q := PySem.IsL.update e f
  rw [hf] at q
  refine I.write (x := l) (e := l) (by rw [hH];exact trivial) (.inl rfl) (fun b' u hb hu => (rD s.heap (Obj.mapSeq f) (Ne.symm hb)).trans hu) ⟨_, q⟩ ?_
  exact ⟨hz, its', _, hv, q⟩
theorem Inv.lnew {its : List Value}{t' : Nat}(I : Inv X pins σ H s)(hv : aI ys its)(hz : ys.length≤sizeLine) :
    Inv X pins σ (upd H s.heap.objs.size (.lst ys)) { s with heap := s.heap.push { cls := .type "list", data := .seq its.toArray }, toks := t' } :=
  I.laid (fun _ _ q => fu _ q) (rh _) ⟨hz, its, 0, hv, ri _ rfl⟩
theorem Inv.fresh (I : Inv X pins σ H s) : H s.heap.objs.size=none := I.hok.fresh (rh _)
theorem Inv.lstM (I : Inv X pins σ H s)(hH : H l=some (.lst xs)) : xs.length≤sizeLine ∧ ∃ (its : List Value) (n : Nat), aI xs its ∧ xs.length=its.length ∧ s.heap.get? l=some { cls := .type "list", data := .seq its.toArray n } := by
  obtain ⟨z, its, n, r, e⟩ := I.hok l _ hH
  exact ⟨z, its, n, r, r.length, e⟩
theorem jv {n : Nat}(h : n≤sizeLine) : Builtin.List.listTooLong n=false := by
  unfold Builtin.List.listTooLong
  exact rf (by omega)
end
section
variable {X : Cx}
inductive kj (x : V)(vs : List V)(H : Hp)(Q : VK) : Prop
  | mk : ∀ l xs i k y, (x = .ref l) → (vs=[.int i]) → (H l=some (.lst xs)) → (-(2 ^ 63)≤i) → (i < 2 ^ 63) → (seqIndex? i xs.length=some k) → (xs[k]? = some y) → (Q y (upd H l (.lst (xs.eraseIdx k)))) → kj x vs H Q
theorem jw : MtM X "list.pop" kj := by
  intro pins s σ H x vs v us Q I rx rv h
  obtain ⟨l, xs, i, k, y, rfl, rfl, hH, h1, h2, hk, hy, q⟩ := h
  cases rx
  obtain ⟨u, rfl, ru⟩ := rv.one
  obtain ⟨t, rfl⟩ := ru
  obtain ⟨z, its, n, r, hl, e⟩ := I.lstM hH
  obtain ⟨w, hw, rw'⟩ := r.get hy
  refine u9 F.slot_list_pop ⟨_, e, rfl⟩ F.entry_list_pop (F.args_list_pop_2 _ _)
    (MeetsSeq.list_pop_at l its.toArray n i t k w (fitsIndex_both h1 h2) (by rw [rj, ← hl];exact hk) (by rw [← Array.getElem?_toList];exact hw) (by rw [rj];omega)) ⟨e, ?_⟩
  refine ⟨y, _, I.lset (its' := its.eraseIdx k) hH e ?_ (r.eraseIdx k) ?_, rw', q⟩
  · show its.toArray.eraseIdxIfInBounds k=(its.eraseIdx k).toArray
    rw [List.eraseIdxIfInBounds_toArray]
  · have := d5 xs k
    omega
inductive qj (x : V)(y : V)(H : Hp)(Q : VK) : Prop
  | mk : ∀ l b xs zs, (x = .ref l) → (y = .ref b) → (H l=some (.lst xs)) → (H b=some (.lst zs)) → (xs.length+zs.length≤sizeLine) → (∀ p, H p=none → Q (.ref p) (upd H p (.lst (xs++zs)))) → qj x y H Q
theorem gU : OpR X (binaryOp .Add) qj := by
  intro pins s σ H x y v u Q I rx ry h
  obtain ⟨l, b, xs, zs, rfl, rfl, hH, hB, hz, q⟩ := h
  cases rx
  cases ry
  obtain ⟨z, its, n, r, hl, e⟩ := I.lstM hH
  obtain ⟨z2, its2, n2, r2, hl2, e2⟩ := I.lstM hB
  refine PySem.P.add_list e e2 ?_ (by rw [rj, rj];omega)
  have ea : its.toArray++its2.toArray=(its++its2).toArray := by simp
  rw [ea]
  exact ⟨.ref _, _, I.lnew (t' := s.toks) (r.append r2) (by rw [rB];omega), rfl, q _ I.fresh⟩
inductive qk (x : V)(y : V)(H : Hp)(Q : VK) : Prop
  | mk : ∀ l k xs, (x = .ref l) → (y = .int k) → (H l=some (.lst xs)) → (-(2 ^ 63)≤k) → (k < 2 ^ 63) → (xs.length*k.toNat≤sizeLine) → (∀ p, H p=none → Q (.ref p) (upd H p (.lst (List.replicate k.toNat xs).flatten))) → qk x y H Q
theorem ly {α : Type}(xs : List α)(k : Nat) : (List.replicate k xs).flatten.length=k*xs.length := by
  induction k with
  | zero => simp
  | succ k ih => rw [sJ, tM, rB, ih, Nat.succ_mul, Nat.add_comm]
theorem kl : OpR X (binaryOp .Mult) qk := by
  intro pins s σ H x y v u Q I rx ry h
  obtain ⟨l, k, xs, rfl, rfl, hH, h1, h2, hz, q⟩ := h
  cases rx
  obtain ⟨t, rfl⟩ := ry
  obtain ⟨z, its, n, r, hl, e⟩ := I.lstM hH
  have hlen : its.toArray.size*k.toNat≤sizeLine := by rw [rj, ← hl];exact hz
  have hcap : ¬ its.toArray.size*k.toNat > (2 ^ 63 - 1) / 8 := by
    have : (sizeLine : Nat)≤(2 ^ 63 - 1) / 8 := by decide
    omega
  have hfit : ¬ (!Builtin.List.listFitsIndex k)=true := by
    rw [fitsIndex_both h1 h2]
    exact rg
  have hlong : ¬ Builtin.List.listTooLong (its.toArray.size*k.toNat)=true := by
    rw [jv hlen]
    exact rg
  have hnew : List.foldl (fun x1 x2 => x1++x2) #[] (List.replicate (if its.toArray.isEmpty=true then 0 else k.toNat) its.toArray)=(List.replicate k.toNat its).flatten.toArray := by
    have f0 : ∀ m : Nat, List.foldl (fun x1 x2 => x1++x2) #[] (List.replicate m its.toArray)=(List.replicate m its).flatten.toArray := fun m => by
      have := d6 its m []
      rw [List.nil_append] at this
      exact this
    rw [f0]
    cases its with
    | nil => simp
    | cons a r' => rw [if_neg (by simp)]
  refine wpAny_binaryOp_repeat_ref (T := "list") (U := "int") (by decide) ⟨_, e, rfl⟩ (fun s' => typeIs_int s' k t) noFill_list_mul F.fills_int_mul F.slot_int_rmul repeat_list F.slot_int_index.lookup
    (u9 F.slot_int_rmul (typeIs_int s k t) F.entry_int_rmul (F.args_int_rmul_2 _ _) (int___rmul___int_list k t l its.toArray n)
      ⟨e, rfl, ⟨_, e, rfl⟩, u9 F.slot_list_mul ⟨_, e, rfl⟩ F.entry_list_mul (F.args_list_mul_2 _ _) (AutoListH.list___mul___list_int_3 l its.toArray n k t hfit hcap hlong) ⟨e, ?_⟩⟩)
  rw [hnew]
  exact ⟨.ref _, _, I.lnew (t' := s.toks) (r.rep k.toNat) (by rw [ly, Nat.mul_comm];exact hz), rfl, q _ I.fresh⟩
end
section
variable {prog : Program} {w : World} {A : Around} {E : Value → Shared → Prop} {s : Shared}
end
section
variable {X : Cx}
end
section
variable {κ : Type} [DecidableEq κ]
def cN (kvs : List (κ × V))(k : κ) : Option V := (kvs.find? fun kv => decide (kv.1=k)).map (·.2)
def cC (kvs : List (κ × V))(k : κ)(v : V) : List (κ × V) :=
  if (kvs.any fun kv => decide (kv.1=k))=true then kvs.map (fun kv => if kv.1=k then (kv.1, v) else kv) else kvs++[(k, v)]
theorem da {p : κ × V}{r : List (κ × V)}{k : κ}(e : p.1=k) : cN (p::r) k=some p.2 := by simp [cN, sU, e]
theorem de {p : κ × V}{r : List (κ × V)}{k : κ}(e : ¬ p.1=k) : cN (p::r) k=cN r k := by simp [cN, sU, e]
theorem fG (k : κ) : ∀ kvs : List (κ × V), (kvs.any fun kv => decide (kv.1=k))=(cN kvs k).isSome
  | [] => rfl
  | p::r => by
    rw [tZ]
    by_cases e : p.1=k
    · simp only [da e, rp e, Bool.true_or, Option.isSome_some]
    · rw [de e, rf e, Bool.false_or];exact fG k r
theorem bK (kvs : List (κ × V))(k : κ)(v : V) : (cC kvs k v).length≤kvs.length+1 := by
  unfold cC
  split
  · rw [rn];omega
  · rw [rB, rS, uh];omega
theorem eU.isSome_eq {o : Option V}{u : Option Value}(r : eU o u) : o.isSome=u.isSome := by
  cases o with
  | none => cases u with
    | none => rfl
    | some _ => exact (show False from r).elim
  | some _ => cases u with
    | none => exact (show False from r).elim
    | some _ => rfl
theorem KV.val {kvs : List (κ × V)}{vs : List (κ × Value)}(r : KV kvs vs)(k : κ) : eU (cN kvs k) (valueAt vs k) := by
  unfold KV at r
  induction r with
  | nil => exact True.intro
  | @cons p q ps qs h t ih =>
    obtain ⟨h1, h2⟩ := h
    by_cases e : p.1=k
    · have e' : q.1=k := h1.symm.trans e
      have b : valueAt (q::qs) k=some q.2 := by simp [valueAt, sU, e']
      rw [da e, b];exact h2
    · have e' : ¬ q.1=k := fun z => e (h1.trans z)
      have b : valueAt (q::qs) k=valueAt qs k := by simp [valueAt, sU, e']
      rw [de e, b];exact ih
theorem KV.any {kvs : List (κ × V)}{vs : List (κ × Value)}(r : KV kvs vs)(k : κ) : (kvs.any fun kv => decide (kv.1=k))=vs.any fun kv => decide (kv.1=k) := by
  unfold KV at r
  induction r with
  | nil => rfl
  | cons h t ih => rw [tZ, tZ, ih, h.1]
theorem KV.repl {kvs : List (κ × V)}{vs : List (κ × Value)}(r : KV kvs vs)(k : κ){y : V}{u : Value}(ry : aL y u) :
    KV (kvs.map fun kv => if kv.1=k then (kv.1, y) else kv) (vs.map fun kv => if kv.1=k then (kv.1, u) else kv) := by
  unfold KV at r ⊢
  induction r with
  | nil => exact .nil
  | @cons p q ps qs h t ih =>
    rw [rK, rK]
    refine .cons ?_ ih
    obtain ⟨h1, h2⟩ := h
    by_cases e : p.1=k
    · rw [if_pos e, if_pos (h1.symm.trans e)];exact ⟨h1, ry⟩
    · rw [if_neg e, if_neg (fun z => e (h1.trans z))];exact ⟨h1, h2⟩
theorem KV.put {kvs : List (κ × V)}{vs : List (κ × Value)}(r : KV kvs vs)(k : κ){y : V}{u : Value}(ry : aL y u) : KV (cC kvs k y) (stored vs k u) := by
  unfold cC stored
  rw [r.any k]
  by_cases e : (vs.any fun kv => decide (kv.1=k))=true
  · rw [if_pos e, if_pos e];exact r.repl k ry
  · rw [if_neg e, if_neg e];exact Paired.snoc r ⟨rfl, ry⟩
theorem KV.length {kvs : List (κ × V)}{vs : List (κ × Value)}(r : KV kvs vs) : kvs.length=vs.length := uN r
end
theorem jx {P : Program}{w : World}{k : Key}{u : Value}(r : aL (kV k) u) : (aO P w).is k u=true := by
  cases k with
  | inl i => obtain ⟨t, e⟩ := (show ∃ t, u=Value.int i t from r);subst e;exact eR P w i t
  | inr x => obtain ⟨t, e⟩ := (show ∃ t, u=Value.str x t from r);subst e;exact eT P w x t
theorem d7 {P : Program}{w : World} : ∀ {ks : List Key} {us : List Value}, aI (ks.map kV) us → ItemsAre (aO P w) ks us
  | [], _, r => by rw [uv] at r;cases r;exact .nil
  | k::ks, _, r => by
    rw [rK] at r
    cases r with
    | cons h t => exact .cons (jx h) (d7 t)
abbrev KT (H : Hp) : List (List Key × V) → List (List Key × Addr × Value) → Prop := Paired fun p q => p.1=q.1 ∧ H q.2.1=some (.tup (p.1.map kV)) ∧ aL p.2 q.2.2
theorem KT.val {H : Hp}{kvs : List (List Key × V)}{xs : List (List Key × Addr × Value)}(r : KT H kvs xs)(k : List Key) : eU (cN kvs k) ((atKey xs k).map (·.2)) := by
  induction r with
  | nil => exact True.intro
  | @cons p q ps qs h t ih =>
    obtain ⟨h1, _, h2⟩ := h
    by_cases e : p.1=k
    · have e' : q.1=k := h1.symm.trans e
      have b : atKey (q::qs) k=some q.2 := by simp [atKey, sU, e']
      rw [da e, b];exact h2
    · have e' : ¬ q.1=k := fun z => e (h1.trans z)
      have b : atKey (q::qs) k=atKey qs k := by simp [atKey, sU, e']
      rw [de e, b];exact ih
theorem KT.repl {H : Hp}{kvs : List (List Key × V)}{xs : List (List Key × Addr × Value)}(r : KT H kvs xs)(k : List Key){y : V}{u : Value}(ry : aL y u) :
    KT H (kvs.map fun kv => if kv.1=k then (kv.1, y) else kv) (xs.map (putAt k u)) := by
  induction r with
  | nil => exact .nil
  | @cons p q ps qs h t ih =>
    rw [rK, rK]
    refine .cons ?_ ih
    obtain ⟨h1, h2, h3⟩ := h
    unfold putAt
    by_cases e : p.1=k
    · rw [if_pos e, if_pos (h1.symm.trans e)];exact ⟨h1, h2, ry⟩
    · rw [if_neg e, if_neg (fun z => e (h1.trans z))];exact ⟨h1, h2, h3⟩
theorem KT.put {H : Hp}{kvs : List (List Key × V)}{xs : List (List Key × Addr × Value)}(r : KT H kvs xs)(k : List Key){b : Addr}{y : V}{u : Value}(hb : H b=some (.tup (k.map kV)))(ry : aL y u) :
    KT H (cC kvs k y) (storedH xs k b u) := by
  have e : (kvs.any fun kv => decide (kv.1=k))=(atKey xs k).isSome := by
    rw [fG, (r.val k).isSome_eq, Option.isSome_map]
  unfold cC storedH
  rw [e]
  by_cases q : (atKey xs k).isSome=true
  · rw [if_pos q, if_pos q];exact r.repl k ry
  · rw [if_neg q, if_neg q];exact Paired.snoc r ⟨rfl, hb, ry⟩
theorem KT.keeps {H H' : Hp}{kvs : List (List Key × V)}{xs : List (List Key × Addr × Value)}(r : KT H kvs xs)(ht : ∀ b ys, H b=some (.tup ys) → H' b=some (.tup ys)) : KT H' kvs xs :=
  Paired.mapP r fun _ _ z => ⟨z.1, ht _ _ z.2.1, z.2.2⟩
section
variable {P : Program} {w : World} {H : Hp} {h : Heap} {a : Addr}
theorem nu {u : HO}(ok : HOk P w H h)(e : Rd H a u) : aP P w H h a u := e.ok ok
theorem lz {kvs : List (Key × V)}(ok : HOk P w H h)(e : Rd H a (.dK kvs)) : kvs.length≤sizeLine ∧ (a == sysModules)=false ∧ ∃ vs, KV kvs vs ∧ h.DictOf (aO P w) a vs :=
  show aP P w H h a (.dK kvs) from nu ok e
theorem nv {kvs : List (Key × V)}(ok : HOk P w H h)(e : H a=some (.dK kvs)) : kvs.length≤sizeLine ∧ (a == sysModules)=false ∧ ∃ vs, KV kvs vs ∧ h.DictOf (aO P w) a vs := lz ok (.inl e)
theorem gW {ks : List Key}(ok : HOk P w H h)(e : H a=some (.tup (ks.map kV))) : (tupleKind (aO P w)).is h ks a := by
  obtain ⟨_, its, r, ⟨o, h1, h2, n, h3⟩, _⟩ := (show aP P w H h a (.tup (ks.map kV)) from ok a _ e)
  exact ⟨o, its.toArray, n, h1, h2, h3, by simpa using d7 r⟩
theorem lA {kvs : List (List Key × V)}(ok : HOk P w H h)(e : Rd H a (.dT kvs)) : kvs.length≤sizeLine ∧ (a == sysModules)=false ∧
    ∃ xs, KT H kvs xs ∧ h.DictOfH (tupleKind (aO P w)) a xs := by
  obtain ⟨z, y, xs, r, o, es, ep, h1, h2, h3, h4, h5⟩ := (show aP P w H h a (.dT kvs) from nu ok e)
  refine ⟨z, y, xs, r, o, es, ep, h1, h2, h3, h4, fun x hx => ?_, h5⟩
  have all : ∀ {l : List (List Key × V)} {m : List (List Key × Addr × Value)}, KT H l m → ∀ x∈m, (tupleKind (aO P w)).is h x.1 x.2.1 := by
    intro l m q
    induction q with
    | nil => intro x hx;exact nomatch hx
    | @cons p q ps qs hq t ih =>
      intro x hx
      rcases rN.mp hx with e | hx
      · subst e
        exact gW ok (by rw [← hq.1];exact hq.2.1)
      · exact ih x hx
  exact all r x hx
theorem o4 {kvs : List (List Key × V)}(ok : HOk P w H h)(e : H a=some (.dT kvs)) : kvs.length≤sizeLine ∧ (a == sysModules)=false ∧
    ∃ xs, KT H kvs xs ∧ h.DictOfH (tupleKind (aO P w)) a xs := lA ok (.inl e)
end
def lC (H : Hp)(a : Addr)(y : V)(r : Option V) : Prop :=
  (∃ kvs k, Rd H a (.dK kvs) ∧ y=kV k ∧ r=cN kvs k) ∨ ∃ kvs k b, Rd H a (.dT kvs) ∧ y = .ref b ∧ H b=some (.tup (k.map kV)) ∧ r=cN kvs k
def mL (H : Hp)(a : Addr)(y v : V)(H' : Hp) : Prop :=
  (∃ kvs k, H a=some (.dK kvs) ∧ y=kV k ∧ kvs.length < sizeLine ∧ H'=upd H a (.dK (cC kvs k v))) ∨
  ∃ kvs k b, H a=some (.dT kvs) ∧ y = .ref b ∧ H b=some (.tup (k.map kV)) ∧ kvs.length < sizeLine ∧ H'=upd H a (.dT (cC kvs k v))
theorem lC.k {H : Hp}{a : Addr}{kvs : List (Key × V)}{k : Key}(e : H a=some (.dK kvs)) : lC H a (kV k) (cN kvs k) := .inl ⟨kvs, k, .inl e, rfl, rfl⟩
theorem mL.k {H : Hp}{a : Addr}{kvs : List (Key × V)}{k : Key}{v : V}(e : H a=some (.dK kvs))(hl : kvs.length < sizeLine) : mL H a (kV k) v (upd H a (.dK (cC kvs k v))) := .inl ⟨kvs, k, e, rfl, hl, rfl⟩
section
variable {X : Cx} {pins : List (Addr × Obj)} {σ : St} {H : Hp} {s : Shared} {a : Addr} {y v : V} {u r : Value} {o : Option V} {A : Around} {E : Value → Shared → Prop}
theorem Inv.big (I : Inv X pins σ H s) : sysModules < s.heap.objs.size := by
  have h : mainGlobals < s.heap.objs.size := (I.mod.glob.keeps I.bk).lt
  exact Nat.lt_trans (by decide) h
theorem gX {Q : Value → Shared → Prop}(hu : A.units+1 < cLine)(I : Inv X pins σ H s)(g : lC H a y (some v))(ry : aL y u)(h : ∀ w' s', Inv X pins σ H s' → aL v w' → Q w' s') :
    wpAny (model X.prog X.w) A (getItem (.ref a) u) Q E s := by
  rcases g with ⟨kvs, k, e, ey, l⟩ | ⟨kvs, k, b, e, ey, eb, l⟩
  · subst ey
    obtain ⟨z, hd, vs, rel, dd⟩ := lz I.hok e
    obtain ⟨w', hw, rw'⟩ := eU.some_of (v := v) (o := valueAt vs k) (by rw [l];exact rel.val k)
    exact wpAny_getItem_of (jx ry) dd.mapOf hw (h w' _ (I.tok _) rw')
  · subst ey
    cases (show u=Value.ref b from ry)
    obtain ⟨z, hd, xs, rel, dd⟩ := lA I.hok e
    obtain ⟨w', hw, rw'⟩ := eU.some_of (v := v) (o := (atKey xs k).map (·.2)) (by rw [l];exact rel.val k)
    obtain ⟨p, hp, hp2⟩ := Option.map_eq_some_iff.mp hw
    refine wpAny_getItem_heap (tupleKind_room_in1 hu) (gW I.hok eb) dd hp ?_
    rw [hp2]
    exact h w' _ (I.tok _) rw'
theorem ff {h' : Heap}{t' : Nat}{ob : HO}(I : Inv X pins σ H s)(mu : Mut (H a))(hs : Heap.SameBut a s.heap h')(he : ∃ q, h'.get? a=some q)(new : aP X.prog X.w (upd H a ob) h' a ob) :
    Inv X pins σ (upd H a ob) { s with heap := h', toks := t' } :=
  I.write (x := a) (e := a) mu (.inl rfl) (fun b q hb z => (hs.2 b hb).trans z) he new
theorem km {P : Program}{w : World}{H' : Hp}{h' : Heap}{kvs : List (Key × V)}{vs : List (Key × Value)}(z : kvs.length≤sizeLine)(hd : (a == sysModules)=false)(rel : KV kvs vs)(dd : h'.DictOf (aO P w) a vs) :
    aP P w H' h' a (.dK kvs) := ⟨z, hd, vs, rel, dd⟩
theorem gY {H' : Hp}{Q : Unit → Shared → Prop}(hu : A.units+1 < cLine)(I : Inv X pins σ H s)(g : mL H a y v H')(ry : aL y u)(rv : aL v r)(h : ∀ s', Inv X pins σ H' s' → Q () s') :
    wpAny (model X.prog X.w) A (setItem (.ref a) u r) Q E s := by
  rcases g with ⟨kvs, k, e, ey, l, eH⟩ | ⟨kvs, k, b, e, ey, eb, l, eH⟩
  · subst ey eH
    obtain ⟨z, hd, vs, rel, dd⟩ := nv I.hok e
    have hz : vs.length≤sizeLine := by rw [← rel.length];exact z
    have hl : (cC kvs k v).length≤sizeLine := by have := bK kvs k v;omega
    refine wpAny_setItem_pairs (hsz := hz) (jx ry) dd fun h' dd' hs => h _ ?_
    have he : ∃ q, h'.get? a=some q := let ⟨q, _, _, hq, _⟩ := dd';⟨q, hq⟩
    exact ff I (by rw [e];exact True.intro) hs he (km hl hd (rel.put k rv) dd')
  · subst ey eH
    cases (show u=Value.ref b from ry)
    obtain ⟨z, hd, xs, rel, dd⟩ := o4 I.hok e
    have hz : xs.length≤sizeLine := by rw [← uN rel];exact z
    have hl : (cC kvs k v).length≤sizeLine := by have := bK kvs k v;omega
    refine wpAny_setItem_heap (hsz := hz) (tupleKind_room_in1 hu) (gW I.hok eb) dd fun h' dd' hs => h _ ?_
    obtain ⟨q, es, ep, hq, h2, h3, h4, _, h5⟩ := dd'
    refine ff I (by rw [e];exact True.intro) hs ⟨q, hq⟩ ⟨hl, hd, _, (rel.put k eb rv).keeps fun c ys ec => ?_, q, es, ep, hq, h2, h3, h4, h5⟩
    rw [ak (gw ec e (fun z => nomatch z))]
    exact ec
end
section
variable {X : Cx} {pins : List (Addr × Obj)} {σ : St} {H : Hp} {s : Shared} {a : Addr} {kvs : List (Key × V)} {k : Key} {u : Value} {A : Around} {E : Value → Shared → Prop}
end
def ql (i : Expr) : Prop := ∀ ov iv, subscripted i false ov iv=operate [ov, iv] (getItem ov iv)
theorem lD {prog : Program}{w : World}{A : Around}{E : Value → Shared → Prop}{s : Shared}{env : Env}{value slice : Expr}{pos : Pos}{T id : String}{Q : Value → Shared → Prop}
    (hl : typeLookup (.type T) "__getitem__" = pure (some (.builtin id))) (hs : ql slice)
    (h : wpAny (model prog w) A (eval value env) (fun o s₁ => wpAny (model prog w) A (eval slice env) (fun i s₂ => s₂.TypeIs o T ∧ wpAny (model prog w) A (getItem o i) Q E s₂) E s₁) E s) :
    wpAny (model prog w) A (eval (.Subscript value slice pos) env) Q E s := by
  refine uJ (rO h (fun o s₁ h₁ => rO h₁ (fun i s₂ h₂ => ?_) fun _ _ x => x) fun _ _ x => x)
  obtain ⟨hT, h₂⟩ := h₂
  unfold subscriptTail
  refine q8 ?_
  rw [getitemInPython_of_ne hT.not_modules]
  refine q8 (uY hT hl ?_)
  have fin : wpAny (model prog w) A (subscripted slice false o i) (fun r s₃ => wpAny (model prog w) A (letTemporaryGo value o r >>= fun _ => pure r) Q E s₃) E s₂ := by
    rw [hs o i]
    exact wpAny_operating (rO h₂ (fun r s₃ h₃ => q8 (wpAny_letTemporaryGo (rm h₃))) fun _ _ x => x)
  first
    | exact rm (q8 fin)
    | exact q8 (rm (q8 fin))
    | exact q8 fin
theorem fg {X : Cx}{pins : List (Addr × Obj)}{σ : St}{H : Hp}{s : Shared}{a : Addr}{y : V}{o : Option V}(I : Inv X pins σ H s)(g : lC H a y o) : s.TypeIs (.ref a) "dict" := by
  rcases g with ⟨kvs, k, e, _, _⟩ | ⟨kvs, k, b, e, _, _, _⟩
  · obtain ⟨_, _, vs, _, dd⟩ := lz I.hok e
    exact dd.typeIs
  · obtain ⟨_, _, xs, _, dd⟩ := lA I.hok e
    exact dd.typeIs
def o5 (td ty : TE) : TE := fun σ H Q => td σ H fun x H1 => ty σ H1 fun y H2 => ∃ a v, x = .ref a ∧ lC H2 a y (some v) ∧ Q v H2
def o6 (td ty tv : TE) : TS := fun D σ H => tv σ H fun v H1 => td σ H1 fun x H2 => ty σ H2 fun y H3 => ∃ a H4, x = .ref a ∧ mL H3 a y v H4 ∧ D.nx σ H4
section
variable {X : Cx} {o i e value : Expr} {pos pos' tpos : Pos} {td ty tv : TE}
theorem a9 (hu : X.A.units+1 < cLine)(ho : PE X o td)(hi : PE X i ty)(hs : ql i) : PE X (.Subscript o i pos) (o5 td ty) := by
  intro pins s σ H Q I h
  refine lD PySem.F.slot_dict_getitem.lookup hs (thn (ho pins s σ H _ I h) fun u s1 ⟨x, H1, I1, rx, q1⟩ => thn (hi pins s1 σ H1 _ I1 q1) fun iv s2 zq68 => ?_)
  obtain ⟨y, H2, I2, ry, a, v, ex, g, q2⟩ := zq68
  subst ex
  obtain rfl : u=Value.ref a := rx
  exact ⟨fg I2 g, gX hu I2 g ry fun w' s3 I3 rw' => ⟨v, H2, I3, rw', q2⟩⟩
theorem dh (hu : X.A.units+1 < cLine)(ho : PE X o td)(hi : PE X i ty)(hv : PE X value tv)(hs : swapsWith value (some (.Subscript o i pos')) pos.line X.env=pure false) :
    PS X (.Assign [.Subscript o i pos'] value pos) (o6 td ty tv) := by
  intro pins s σ H D I h
  refine wpAny_Assign_Subscript (thn (hv pins s σ H _ I h) fun r s1 ⟨v, H1, I1, rv, q1⟩ => thn (ho pins s1 σ H1 _ I1 q1) fun u s2 ⟨x, H2, I2, rx, q2⟩ => thn (hi pins s2 σ H2 _ I2 q2) fun iv s3 zq71 => ?_) hs
  obtain ⟨y, H3, I3, ry, a, H4, ex, g, q3⟩ := zq71
  subst ex
  obtain rfl : u=Value.ref a := rx
  exact gY hu I3 g ry rv fun s4 I4 => ⟨σ, H4, I4, q3⟩
end
theorem jy {P : Program}{w : World}{H : Hp}(h : Heap)(hb : sysModules < h.objs.size) : aP P w H (h.push { cls := .type "dict", data := .dict #[] }) h.objs.size (.dK []) :=
  ⟨sx _, ub.mpr (Ne.symm (rC hb)), [], .nil, Heap.DictOf.new h⟩
section
variable {X : Cx} {pos : Pos}
end
def gZ : List (TE × TE) → St → Hp → (List (V × V) → Hp → Prop) → Prop
  | [], _, H, Q => Q [] H
  | (tk, tv)::r, σ, H, Q => tk σ H fun x H1 => tv σ H1 fun y H2 => gZ r σ H2 fun ps H3 => Q ((x, y)::ps) H3
abbrev VV : List (V × V) → List (Value × Value) → Prop := Paired fun p q => aL p.1 q.1 ∧ aL p.2 q.2
def PPs (X : Cx)(pos : Pos)(keys : List (Option Expr))(values : List Expr)(trs : List (TE × TE)) : Prop :=
  ∀ (pins : List (Addr × Obj)) (s : Shared) (σ : St) (H : Hp) (Q : List (V × V) → Hp → Prop), Inv X pins σ H s → gZ trs σ H Q →
    wpAny (model X.prog X.w) X.A (evalPairs (pairTrees keys values X.env pos)) (fun vs s' => ∃ ps H', Inv X pins σ H' s' ∧ VV ps vs ∧ Q ps H') X.xe s
theorem lE {X : Cx}{pos : Pos} : PPs X pos [] [] [] := fun pins s σ H Q I h => pairTrees_nil_walk ⟨[], H, I, .nil, h⟩
theorem cm {X : Cx}{pos : Pos}{k v : Expr}{ks : List (Option Expr)}{vs : List Expr}{tk tv : TE}{trs : List (TE × TE)}(hk : PE X k tk)(hv : PE X v tv)(hr : PPs X pos ks vs trs) :
    PPs X pos (some k::ks) (v::vs) ((tk, tv)::trs) := fun pins s σ H Q I h =>
  pairTrees_cons_walk (thn (hk pins s σ H _ I h) fun u s1 ⟨x, H1, I1, rx, q1⟩ => thn (hv pins s1 σ H1 _ I1 q1) fun w2 s2 ⟨y, H2, I2, ry, q2⟩ =>
    thn (hr pins s2 σ H2 _ I2 q2) fun ws s3 zq75 => (by obtain ⟨ps, H3, I3, rel, q3⟩ := zq75;exact ⟨(x, y)::ps, H3, I3, .cons ⟨rx, ry⟩ rel, q3⟩))
def cD (kvs more : List (Key × V)) : List (Key × V) := more.foldl (fun acc kv => cC acc kv.1 kv.2) kvs
theorem KV.merge : ∀ {more : List (Key × V)} {rs : List (Key × Value)} {kvs : List (Key × V)} {vs : List (Key × Value)}, KV more rs → KV kvs vs → KV (cD kvs more) (merged vs rs) := by
  intro more rs kvs vs r
  unfold KV at r
  induction r generalizing kvs vs with
  | nil => intro q;exact q
  | @cons p q ps qs h t ih =>
    intro r0
    have e : KV (cC kvs p.1 p.2) (stored vs q.1 q.2) := by
      have := r0.put p.1 h.2
      rw [← h.1];exact this
    exact ih e
theorem bQ : ∀ (more kvs : List (Key × V)), (cD kvs more).length≤kvs.length+more.length
  | [], kvs => by show kvs.length≤kvs.length+0;omega
  | p::r, kvs => by
    have h1 := bQ r (cC kvs p.1 p.2)
    have h2 := bK kvs p.1 p.2
    show (cD (cC kvs p.1 p.2) r).length≤_
    rw [rS];omega
theorem cS {P : Program}{w : World} : ∀ {kvs : List (Key × V)} {ws : List (Value × Value)}, VV (kvs.map fun kv => (kV kv.1, kv.2)) ws → ∃ rs, Carries (aO P w) ws rs ∧ KV kvs rs
  | [], _, r => by rw [uv] at r;cases r;exact ⟨[], True.intro, .nil⟩
  | p::kvs, _, r => by
    rw [rK] at r
    cases r with
    | @cons a b as bs h t =>
      obtain ⟨rs, c, q⟩ := cS (P := P) (w := w) t
      obtain ⟨b1, b2⟩ := b
      exact ⟨(p.1, b2)::rs, ⟨jx h.1, rfl, c⟩, .cons ⟨rfl, h.2⟩ q⟩
def o7 (trs : List (TE × TE)) : TE := fun σ H Q => ∀ p, H p=none → gZ trs σ (upd H p (.dK [])) fun ps H2 => H2 p=some (.dK []) ∧ ∃ kvs : List (Key × V), ps=kvs.map (fun kv => (kV kv.1, kv.2)) ∧ kvs.length≤15 ∧ Q (.ref p) (upd H2 p (.dK (cD [] kvs)))
theorem lF {X : Cx}{pos : Pos}{keys : List (Option Expr)}{values : List Expr}{trs : List (TE × TE)}(h : PPs X pos keys values trs)(hall : keys.all (·.isSome)=true)(hl : keys.length=values.length)(h0 : keys≠[])
    (h15 : keys.length≤15) : PE X (.Dict keys values pos) (o7 trs) := by
  intro pins s σ H Q I q
  have hn := I.hok.fresh (rh s.heap.objs.size)
  have I1 := I.laid (a := s.heap.objs.size) (o := .dK []) (h' := s.heap.push { cls := .type "dict", data := .dict #[] }) (t' := s.toks) (fun _ _ q => fu _ q) (rh _) (jy s.heap I.big)
  refine wpAny_Dict_walk (knd := aO X.prog X.w) hall hl h0 h15 (thn (h pins _ σ _ _ I1 (q _ hn)) fun ws s2 zq76 => ?_)
  obtain ⟨ps, H2, I2, rel, e, kvs, ep, lk, q2⟩ := zq76
  subst ep
  obtain ⟨rs, c, rk⟩ := cS (P := X.prog) (w := X.w) rel
  obtain ⟨z, hd, vs0, r0, dd⟩ := nv I2.hok e
  cases r0
  refine ⟨rs, c, dd, fun h' dd' hs => ⟨.ref s.heap.objs.size, _, ?_, rfl, q2⟩⟩
  have hz : (cD [] kvs).length≤sizeLine := by
    have h1 := bQ kvs []
    rw [uh] at h1
    rw [sq];omega
  have he : ∃ q, h'.get? s.heap.objs.size=some q := let ⟨q, _, _, hq, _⟩ := dd';⟨q, hq⟩
  exact ff I2 (by rw [e];exact True.intro) hs he (km hz hd (rk.merge .nil) dd')
section
variable {X : Cx} {pins : List (Addr × Obj)} {σ : St} {H : Hp} {s : Shared} {a : Addr} {y d : V} {u r : Value} {o : Option V} {A : Around} {E : Value → Shared → Prop}
end
section
variable {X : Cx} {o e f : Expr} {apos cpos : Pos} {td ty tx : TE}
end
section
variable {X : Cx} {pins : List (Addr × Obj)} {σ : St} {H : Hp} {s : Shared} {a : Addr} {kvs : List (Key × V)} {A : Around} {E : Value → Shared → Prop}
end
section
variable {X : Cx} {pins : List (Addr × Obj)} {σ : St} {H : Hp} {s : Shared} {a : Addr} {y : V} {u : Value} {A : Around} {E : Value → Shared → Prop}
end
end L2
namespace Att
open PySem PySem.W PySem.Calls PyProof.Rows
theorem cE {P : Params}{h : Heap} : ∀ (ns : List Int) (vs : List Value), WellAll P h vs (ns.map WData.int) → IntsAre vs ns := by
  intro ns
  induction ns with
  | nil =>
    intro vs w
    rw [uv] at w
    cases w
    exact .nil
  | cons n ns ih =>
    intro vs w
    rw [rK] at w
    cases w with
    | cons a b =>
      cases a
      exact .cons _ _ (ih _ b)
theorem g0 {l : OpenLaw}{n : Nat}(hn : l.most=some n){P : Params}{h : Heap}{args : List WData}{vals : List Value}
    (hpre : l.row.toRowW.claim.pre args=true) (hwl : WellAll P h vals args) :
    ∃ a vs ns, vals=[Value.ref a] ∧ args=[WData.list (ns.map WData.int)] ∧ h.get? a=some { cls := .type "list", data := .seq vs.toArray } ∧ IntsAre vs ns ∧ ns.length≤n := by
  have hsh : WShape.hasAll [] args [.list .int]=true := (pre_splitW hpre).1
  have hc : l.pre.holds [] { args := args }=true := (pre_splitW hpre).2
  obtain ⟨d, r, rfl, h1, h2⟩ := hasAllW_cons hsh
  obtain rfl := hasAllW_nil h2
  obtain ⟨xs, rfl, h3⟩ := hasW_list h1
  obtain ⟨ns, rfl⟩ := items_int h3
  have hlen : ns.length≤n := by
    unfold OpenLaw.pre at hc
    have h4 : (WTm.not (.lt (.lit (.int (n : Int))) (.len (.arg 0)))).holds [] { args := [.list (ns.map .int)] }=true := by
      have h4 := (holds_andW hc).1
      rw [hn] at h4
      exact h4
    have h5 := condW_of h4 (w_not (w_lt w_lit (w_len_list (w_arg rfl))))
    rw [rn] at h5
    refine Nat.le_of_not_lt fun q => ?_
    have q' : (n : Int) < ((ns.length : Nat) : Int) := by omega
    first
      | (rw [rp q'] at h5;exact absurd h5 (by decide))
      | (simp at h5;omega)
  cases hwl with
  | cons w1 w2 =>
    cases w2
    cases w1 with
    | list ho hall => exact ⟨_, _, ns, rfl, rfl, ho, cE ns _ hall, hlen⟩
theorem g8 (l : OpenLaw)(args : List WData) : l.row.toRowW.claim.post args (.bool true) args=true :=
  postW_of (r := l.row.toRowW) (X := (true == true))
    (show WShape.has [] (.bool true) .bool=true by first | rfl | decide | simp [WShape.has, WShape.arms, WShape.armsAll])
    (show (WTm.eq .res (.lit (.bool true))).value [] { args := args, res := some (.bool true), after := args }=some (.bool (true == true)) from w_eq_bool (w_res rfl) w_lit) rfl
theorem attach_call {l : OpenLaw}{n : Nat}{q : Program}{loose : List Str}{XP : (Str → Option Value) → Heap → Prop}{YP : World → Heap → Prop}{d : DefRec}
    (hn : l.most=some n) (hdf : d.params.defaults=[])
    (call : ∀ (w : World) (s₀ s₁ : Shared) (mg mb : Str → Option Value) (fa : Addr) (o : Obj) (pm cd doc : Value) (a : Addr) (vs : List Value) (ns : List Int),
      Ground q loose [] XP w s₀ mg mb s₁.heap → YP w s₁.heap →
      s₁.heap.get? fa=some o → o.data = .func (docDef d.name d.params d.body d.scope pm cd doc) → s₁.heap.CodeRec cd d.name → mg d.name=some (.ref fa) →
      s₁.heap.get? a=some { cls := .type "list", data := .seq vs.toArray } → IntsAre vs ns → ns.length≤n → s₁.gens=#[] →
      codeAny (model l.prog w) callerA (.call (.ref fa) ⟨[.ref a], []⟩) (fun r s' => r = .ok (.ret (.bool true)) ∧ OldK s₁.heap s'.heap ∧ s'.os=s₁.os ∧ AllBare s'.gens) s₁) :
    WalkO q loose XP YP l.row.toRowW d [] (fun f vs => PySem.call f vs) := by
  intro w s₀ s₁ mg mb G Y fa o pm cd doc dV kV ho hd hcd hD hmg hg args vals as hpre hlay hrd hwl hlo
  obtain rfl : dV = .none := Dflts.none hD hdf
  obtain rfl : kV = .none := Dflts.noKw hD
  obtain ⟨a, vs, ns, rfl, rfl, hobj, hints, hlen⟩ := g0 hn hpre hwl
  refine enter_call (tQ (call w s₀ s₁ mg mb fa o pm cd doc a vs ns G Y ho (fd_plain hd) hcd hmg hobj hints hlen hg) fun r s' hq => ?_)
  obtain ⟨rfl, h2, h3, h4⟩ := hq
  exact ⟨.inl ⟨.bool true, .bool true, [], rfl, fun _ => rfl, .bool true, g8 l _, fun _ => ⟨List.Pairwise.nil, fun _ hm => (nomatch hm)⟩⟩, h2, h3, h4⟩
section
variable {prog : Program} {w : World} {A : Around} {E : Value → Shared → Prop} {s : Shared} {K : Frag}
end
end Att
namespace L2
open PySem PySem.Spec PyProof.Rows
theorem d8 : ∀ {vs : List Value} {ns : List Int}, IntsAre vs ns → aI (ns.map V.int) vs
  | _, _, .nil => .nil
  | _, _, .cons n t h => .cons ⟨t, rfl⟩ (d8 h)
end L2
/- THE LAST THEOREM (shape;LID, My.* are yours):
   My.Adr: a structure of the addresses that your layer names (classes, functions);My.Txt K t: a structure (Prop) of the equations over K;
   My.txt_mk : {K} {implicit addresses ..} (e1 : nsIn K mainGlobals "law" = some (some (.ref f))) (e2 : K.lookup f=some ⟨oc, od, .func (fnOf "law" "law" params body scope dV kV doc pm an cdv ct), sl⟩) (e3 : codeIn K cdv "law" = true) .. : ∃ t, My.Txt K t
set_option maxRecDepth 100000 in
set_option maxHeartbeats 0 in
theorem PySem.Challenge.cw_LID_holds : PySem.Challenge.rw_LID.Holds := by
  w_on;o_law;k_head;(case hw => w_witness2)
  k_fill
  refine L2.walk_of (l := PySem.Challenge.rw_LID) (n := 63) (k := 40) (x := "script") (CX := fun w => ..) (sp := fun _ => My.sp_law) rfl (by decide) rfl ⟨rfl, by decide, by decide⟩ (fun w h Y => PySem.W.kIn_of Y) ?F ?S ?C
  case F =>
    intro w mg fa h KX G hmg
    have T : ∃ t, My.Txt (L2.KOf KX) t := by
      dsimp only [L2.KOf]                          -- K must stand as «<heap const> w.params» for k_is
      refine' My.txt_mk ?e1 ?e2 ?e3 ..
      (case e1 => PySem.W.k_is)                    -- in the order: a name -> its address -> its object -> its parts
      (case e2 => PySem.W.k_is)
      ..
    obtain ⟨t, T⟩ := T
    have e0 := hmg.symm.trans (rH KX G T.law)
    cases e0                                       -- fa is the law's own address
    exact ⟨_, fun s u => .of_eq rfl, fun base kb nb => My.law_fn T kb nb⟩     -- if «.of_eq rfl» comes too early: refine' ⟨_, ?b, fun base kb nb => My.law_fn T kb nb⟩;exact fun s u => .of_eq rfl
  case S => exact fun w H a ns hl hO hS => ..
  case C => exact ..
(the tactic k_is has no namespace: write k_is) -/
namespace L2
open PySem PySem.Spec PyProof.Rows
def aM (s : Stmt) : Arguments := match s with
  | .FunctionDef _ a _ _ _ _ _ _ _ _ => a
  | _ => { posonlyargs := [], args := [], vararg := none, kwonlyargs := [], kw_defaults := [], kwarg := none, defaults := [] }
def aA (s : Stmt) : List Stmt := match s with
  | .FunctionDef _ _ b _ _ _ _ _ _ _ => b
  | _ => []
def ah (s : Stmt) : Scope := match s with
  | .FunctionDef _ _ _ _ _ _ sc _ _ _ => sc
  | _ => { kind := .function, names := [], isGenerator := false, isCoroutine := false }
abbrev CX0 : CXT := fun _ _ _ _ _ _ => False
abbrev E0 : XK := fun _ _ _ => False
theorem o8 {X : Cx} : dR CX0 X E0 := fun _ _ _ _ _ _ _ h => h.elim
structure Fun (K : PySem.W.Frag) (x qual : Str) (st : Stmt) (f : Addr) (fd : FuncData) : Prop where
  ex : ∃ (oc : Value) (od : Option Addr) (kV doc pm : Value) (an : Option Addr) (cdv ct : Value) (osl : Array (Option Value)),
    fd=PySem.W.fnOf x qual (aM st) (aA st) (ah st) .none kV doc pm an cdv ct ∧ K.lookup f=some ⟨oc, od, .func fd, osl⟩ ∧ PySem.W.codeIn K cdv qual=true
  kp : PySem.W.keepIn K (.ref f)=true
section
variable {P : Program} {w : World} {K : PySem.W.Frag} {mg : Str → Option Value} {base : Heap}
theorem Fun.ok {x qual : Str}{st : Stmt}{f : Addr}{fd : FuncData}{N ps : List Str}{k : Nat}{sp : Sp}(F : Fun K x qual st f fd)(S : aw N ps (ah st))(len : ∀ vs H Q E, sp vs H Q E → vs.length=ps.length)
    (hbody : ∀ (cdv : Value) (A : Around) (outer : List Env) (s : Shared) (H : Hp) (vs : List V) (Q : VK) (E : XK), bp k (A.deeper (envOfC qual (ah st) s.heap.objs.size f cdv)) → sp vs H Q E →
      ∃ t, PSs (eY CX0 P w K mg base N qual (ah st) f cdv A outer s H E).nox (aA st) t ∧ t { nx := fun _ H' => Q .non H', rt := Q } (start N vs) H) : fE P w K mg base CX0 (k+1) f fd ps sp := by
  obtain ⟨oc, od, kV, doc, pm, an, cdv, ct, osl, rfl, lk, hcd⟩ := F.ex
  refine lp lk hcd S len fun A outer s H vs Q E hr hsp => ?_
  obtain ⟨t, h, q⟩ := hbody cdv A outer s H vs Q E hr hsp
  exact ⟨t, h.nox, q⟩
theorem Fun.binds {x qual : Str}{st : Stmt}{f : Addr}{fd : FuncData}{ps : List Str}(F : Fun K x qual st f fd)
    (h : ∀ (kV doc pm : Value) (an : Option Addr) (cdv ct : Value) (us : List Value), us.length=ps.length → bindArgs (PySem.W.fnOf x qual (aM st) (aA st) (ah st) .none kV doc pm an cdv ct) ⟨us, []⟩=pure (ps.zip us)) : cB K fd ps [] := by
  obtain ⟨oc, od, kV, doc, pm, an, cdv, ct, osl, rfl, lk, hcd⟩ := F.ex
  exact .all (h kV doc pm an cdv ct)
theorem g9 {x qual : Str}{st : Stmt}{f : Addr}{oc : Value}{od an : Option Addr}{osl : Array (Option Value)}{kV doc pm cdv ct : Value}(l : K.lookup f=some ⟨oc, od, .func (PySem.W.fnOf x qual (aM st) (aA st) (ah st) .none kV doc pm an cdv ct), osl⟩)
    (c : PySem.W.codeIn K cdv qual=true) (k : PySem.W.keepIn K (.ref f)=true) : Fun K x qual st f (PySem.W.fnOf x qual (aM st) (aA st) (ah st) .none kV doc pm an cdv ct) := ⟨⟨oc, od, kV, doc, pm, an, cdv, ct, osl, rfl, l, c⟩, k⟩
end
theorem lG {A : Around}{k : Nat}(hr : bp k A) : A.units+1 < cLine := Nat.lt_of_le_of_lt (Nat.add_le_add_left (by decide : 1≤64) _) hr.units
section
variable {X : Cx}
theorem pv (i : Nat){x : Str}{pos : Pos}(hN : X.N[i]? = some x := by rfl)(hv : Vis X.env.scope x := by first | exact Or.inl rfl | exact Or.inr (Or.inl rfl) | exact Or.inr (Or.inr rfl))(hd : (x == ("__debug__" : Str))=false := by decide)
    (hcd : (x == ("__classdict__" : Str))=false := by decide) : PE X (.Name x pos) (oQ i) := mU hN hv hd hcd
end
theorem o9 {A B : Prop}(h : B) : if false=true then A else B := by
  rw [if_neg rg]
  exact h
theorem o_ {A B : Prop}(h : A) : if true=true then A else B := by
  rw [if_pos rfl]
  exact h
theorem mM {c A B : Prop}[Decidable c](h1 : c → A)(h2 : ¬ c → B) : if c then A else B := by
  by_cases h : c
  · rw [if_pos h]
    exact h1 h
  · rw [if_neg h]
    exact h2 h
def aG (H H' : Hp) : Prop := ∀ b o, H b=some o → H' b=some o
theorem aG.refl (H : Hp) : aG H H := fun _ _ h => h
theorem aG.trans {H H1 H2 : Hp}(a : aG H H1)(b : aG H1 H2) : aG H H2 := fun c o h => b c o (a c o h)
theorem aG.seq {K : PySem.W.Frag}{H H' : Hp}{a : Addr}{xs : List V}(e : aG H H')(h : SqL K H a xs) : SqL K H' a xs := by
  rcases h with (h | ⟨o, h⟩) | h
  · exact .inl (.inl (e _ _ h))
  · exact .inl (.inr ⟨o, e _ _ h⟩)
  · exact .inr h
section
variable {κ : Type} [DecidableEq κ]
end
end L2
namespace L2
open PySem PySem.Spec PyProof.Rows
def eP (cells : List (Str × Addr)) : List (Str × NameKind) → List (Str × Addr) → List (Str × Addr)
  | [], acc => acc
  | (x, k)::r, acc => if k == NameKind.free then eP cells r ((x, (cells.lookup x).getD 0)::acc) else eP cells r acc
theorem di {cells : List (Str × Addr)}{p : Str × Addr} : ∀ {names : List (Str × NameKind)} {acc : List (Str × Addr)}, p∈eP cells names acc → p∈acc ∨ ((p.1, NameKind.free)∈names ∧ p.2=(cells.lookup p.1).getD 0)
  | [], _, h => .inl h
  | (x, k)::r, acc, h => by
    unfold eP at h
    by_cases hk : (k == NameKind.free)=true
    · rw [if_pos hk] at h
      have ek : k=NameKind.free := by simpa using hk
      subst ek
      rcases di h with h | ⟨h, e⟩
      · rcases rN.mp h with h | h
        · subst h
          exact .inr ⟨rF, rfl⟩
        · exact .inl h
      · exact .inr ⟨rq _ h, e⟩
    · rw [if_neg hk] at h
      rcases di h with h | ⟨h, e⟩
      · exact .inl h
      · exact .inr ⟨rq _ h, e⟩
theorem dj {cells : List (Str × Addr)}{p : Str × Addr} : ∀ {names : List (Str × NameKind)} {acc : List (Str × Addr)}, p∈acc → p∈eP cells names acc
  | [], _, h => h
  | (x, k)::r, acc, h => by
    unfold eP
    split
    · exact dj (rq _ h)
    · exact dj h
theorem dk {cells : List (Str × Addr)}{x : Str} : ∀ {names : List (Str × NameKind)} {acc : List (Str × Addr)}, (x, NameKind.free)∈names → (x, (cells.lookup x).getD 0)∈eP cells names acc
  | [], _, h => by simp at h
  | (y, k)::r, acc, h => by
    unfold eP
    rcases rN.mp h with h | h
    · have e1 : x=y := rT Prod.fst h
      have e2 : NameKind.free=k := rT Prod.snd h
      subst e1 e2
      rw [if_pos (by simp)]
      exact dj rF
    · split
      · exact dk h
      · exact dk h
theorem bR {x : Str}{c : Addr} : ∀ {l : List (Str × Addr)}, (x, c)∈l → ∃ d, l.lookup x=some d
  | [], h => by simp at h
  | (y, d)::r, h => by
    rw [sk]
    by_cases e : (x == y)=true
    · rw [e];exact ⟨d, rfl⟩
    · have e' : (x == y)=false := by simpa using e
      rw [e']
      rcases rN.mp h with h | h
      · have : x=y := rT Prod.fst h
        exact absurd (by simpa using this) e
      · exact bR h
theorem bS {env : Env}{scope : Scope}(h : ∀ y∈scope.names, y.2=NameKind.free → ∃ c, env.cells.lookup y.1=some c) : closureFor scope env=pure (eP env.cells scope.names []) := by
  have all : ∀ (names : List (Str × NameKind)) (acc : List (Str × Addr)), (∀ y∈names, y.2=NameKind.free → ∃ c, env.cells.lookup y.1=some c) →
      (forIn names acc (fun (p : Str × NameKind) (r : List (Str × Addr)) => (if (p.2 == NameKind.free)=true then (do let a ← cellOf env p.1;pure (ForInStep.yield ((p.1, a)::r))) else pure (ForInStep.yield r) : Sem (ForInStep (List (Str × Addr))))))=(pure (eP env.cells names acc) : Sem (List (Str × Addr))) := by
    intro names
    induction names with
    | nil => intro acc _;rfl
    | cons p r ih =>
      intro acc hh
      obtain ⟨x, k⟩ := p
      have hr : ∀ y∈r, y.2=NameKind.free → ∃ c, env.cells.lookup y.1=some c := fun y hy => hh y (rq _ hy)
      rw [List.forIn_cons]
      unfold eP
      by_cases hk : (k == NameKind.free)=true
      · obtain ⟨c, hc⟩ := hh (x, k) rF (by simpa using hk)
        have hc : env.cells.lookup x=some c := hc
        have ec : cellOf env x=pure c := by
          unfold cellOf
          rw [hc]
        simp only [hk, ug, ec, pure_bind, hc, Option.getD_some]
        exact ih _ hr
      · simp only [hk, u6, pure_bind]
        exact ih _ hr
  have e := all scope.names [] h
  unfold closureFor
  simp only [bind_pure]
  exact e
def ny (scope sc : Scope)(NB own : List Str)(cap : List Nat)(N : List Str) : Bool :=
  (scope.kind == .function) && (sc.kind == .function) &&
  (scope.names.all fun y => match y.2 with
    | .cell => false
    | .free => sc.names.lookup y.1 == some NameKind.cell
    | .local => scope.names.lookup y.1 == some NameKind.local
    | _ => true) &&
  (own.all fun x => scope.names.lookup x == some NameKind.local && scope.names.all fun y => !(y.1 == x) || y.2 == NameKind.local) &&
  (NB == own++cap.map fun i => N.getD i "") && (cap.all fun i => decide (i < N.length) && scope.names.lookup (N.getD i "") == some NameKind.free)
structure Blk (X : Cx) (scope : Scope) (NB own : List Str) (cap : List Nat) : Prop where
  kind : scope.kind = .function
  outk : X.env.scope.kind = .function
  nocell : ∀ y∈scope.names, y.2 ≠ .cell
  free : ∀ y∈scope.names, y.2 = .free → X.env.kindOf y.1=some .cell
  names : ∀ y∈scope.names, y.2 = .local → scope.names.lookup y.1=some .local
  owns : ∀ x∈own, ∀ y∈scope.names, y.1=x → y.2 = .local
  nb : NB=own++cap.map fun i => X.N.getD i ""
  caps : ∀ i∈cap, i < X.N.length ∧ scope.names.lookup (X.N.getD i "")=some .free
theorem nz {X : Cx}{scope sc : Scope}{NB own : List Str}{cap : List Nat}(hs : X.env.scope=sc)(h : ny scope sc NB own cap X.N=true) : Blk X scope NB own cap := by
  unfold ny at h
  simp only [sD] at h
  obtain ⟨⟨⟨⟨⟨h1, h2⟩, h3⟩, h4⟩, h5⟩, h6⟩ := h
  rw [uR] at h3 h4 h6
  subst hs
  refine ⟨by simpa using h1, by simpa using h2, fun y hy e => ?_, fun y hy e => ?_, fun y hy e => ?_, fun x hx y hy e => ?_, by simpa using h5, fun i hi => ?_⟩
  · have := h3 y hy
    rw [e] at this
    exact absurd this (by simp)
  · have := h3 y hy
    rw [e] at this
    show X.env.scope.names.lookup y.1=some .cell
    simpa using this
  · have := h3 y hy
    rw [e] at this
    simpa using this
  · have := h4 x hx
    simp only [sD, uR] at this
    have q := this.2 y hy
    subst e
    simpa using q
  · have := h6 i hi
    simp only [sD] at this
    exact ⟨of_decide_eq_true this.1, by simpa using this.2⟩
def cxB (X : Cx)(NB own : List Str)(scope : Scope)(C : Addr)(fp : List Addr)(s₀ : Shared)(H₀ : Hp) : Cx where
  prog := X.prog
  w := X.w
  K := X.K
  mg := X.mg
  base := X.base
  A := X.A
  N := NB
  s₀ := s₀
  H₀ := H₀
  env := compEnvC scope (eP X.env.cells scope.names []) C X.env
  outer := X.stack
  stack := X.stack
  ex := fp
  fn := fun x => own.contains x
  calm := X.calm
  pn := []
  xe := fun _ _ => False
theorem bt {env : Env}{x : Str}{k : NameKind}(hk : k = .cell ∨ k = .free) : ∀ {names : List (Str × NameKind)}, (∀ y∈names, y.2 ≠ .cell) →
    (names.map fun (n, k) => if (k == NameKind.free && env.scope.kind == .function && env.kindOf n == some .cell) then (n, NameKind.cell) else (n, k)).lookup x=some k → (x, NameKind.free)∈names
  | [], _, h => by simp at h
  | (n, q)::r, hn, h => by
    have ih := @bt env x k hk r fun y hy => hn y (rq _ hy)
    rw [rK, sk] at h
    have key : (if (q == NameKind.free && env.scope.kind == .function && env.kindOf n == some .cell)=true then (n, NameKind.cell) else (n, q)).1=n := by split <;> rfl
    by_cases e : (x == n)=true
    · have en : x=n := by simpa using e
      subst en
      by_cases hq : q = .free
      · subst hq;exact rF
      · have hqf : (q == NameKind.free)=false := by simpa using hq
        simp only [hqf, tO, ux, u6, sE] at h
        have h' : q=k := rl h
        rcases hk with z | z
        · exact absurd (h'.trans z) (hn (x, q) rF)
        · exact absurd (h'.trans z) hq
    · have e' : (x == n)=false := by simpa using e
      refine rq _ (ih ?_)
      have e2 : (x == (if (q == NameKind.free && env.scope.kind == .function && env.kindOf n == some .cell)=true then (n, NameKind.cell) else (n, q)).1)=false := by rw [key];exact e'
      rw [e2] at h
      exact h
theorem cF {env : Env}{x : Str}(hk : env.scope.kind = .function)(hc : env.kindOf x=some .cell) : ∀ {names : List (Str × NameKind)}, names.lookup x=some .free →
    (names.map fun (n, k) => if (k == NameKind.free && env.scope.kind == .function && env.kindOf n == some .cell) then (n, NameKind.cell) else (n, k)).lookup x=some .cell
  | [], h => by simp at h
  | (n, q)::r, h => by
    have ih := @cF env x hk hc r
    rw [sk] at h
    rw [rK, sk]
    by_cases e : (x == n)=true
    · have en : x=n := by simpa using e
      subst en
      rw [e] at h
      have hq : q = .free := rl h
      subst hq
      simp [hk, hc]
    · have e' : (x == n)=false := by simpa using e
      rw [e'] at h
      have key : (if (q == NameKind.free && env.scope.kind == .function && env.kindOf n == some .cell)=true then (n, NameKind.cell) else (n, q)).1=n := by split <;> rfl
      have e2 : (x == (if (q == NameKind.free && env.scope.kind == .function && env.kindOf n == some .cell)=true then (n, NameKind.cell) else (n, q)).1)=false := by rw [key];exact e'
      rw [e2]
      exact ih h
def stB (own : List Str)(cap : List Nat)(σ : St) : St := (own.map fun _ => none)++cap.map fun i => (σ[i]?).getD none
section
variable {X : Cx} {pins : List (Addr × Obj)} {σ : St} {H : Hp} {s : Shared} {scope : Scope} {NB own : List Str} {cap : List Nat} {fp : List Addr} {C : Addr}
theorem Blk.cells (B : Blk X scope NB own cap)(ok : X.Ok){x : Str}{c : Addr}(h : (eP X.env.cells scope.names []).lookup x=some c) : X.env.cells.lookup x=some c ∧ (x, NameKind.free)∈scope.names := by
  rcases di (rR h) with q | ⟨q, e⟩
  · simp at q
  · obtain ⟨d, hd⟩ := ok.has x (.inl (B.free (x, .free) q rfl))
    have e : c=(X.env.cells.lookup x).getD 0 := e
    rw [hd] at e
    refine ⟨?_, q⟩
    rw [hd, e];rfl
theorem Blk.cell (B : Blk X scope NB own cap)(ok : X.Ok){x : Str}(h : (x, NameKind.free)∈scope.names) : ∃ c, (eP X.env.cells scope.names []).lookup x=some c := bR (dk h)
theorem Blk.start (B : Blk X scope NB own cap)(I : Inv X pins σ H s)(hf : ∀ b∈fp, ja X pins H b)(hfs : ∀ b∈fp, ∃ o, s.heap.get? b=some o){h' : Heap}{tk : Nat}{m : Str → Option Value}(hC : s.heap.objs.size≤C)
    (k : ∀ b o, s.heap.get? b=some o → h'.get? b=some o) (hn : h'.Ns C m) :
    Inv (cxB X NB own scope C fp s H) [] (stB own cap σ) H { s with heap := h', toks := tk } := by
  have hlen : NB.length=own.length+cap.length := by rw [B.nb];simp
  have okB : (cxB X NB own scope C fp s H).Ok := by
    refine ⟨I.ok.mod, B.kind, I.ok.glob, I.ok.blt, hC, fun x y c h1 h2 => I.ok.inj x y c (B.cells I.ok h1).1 (B.cells I.ok h2).1, fun x hx => ?_, fun x c h1 h2 => ?_, I.ok.hd, I.ok.frames, .inl rfl, fun b hb => ⟨?_, fun x c h => ?_⟩, I.bs, rJ I.ok.bsz I.sz, fun b o e hb => ?_, fun b hb z => ?_, I.stack, I.stkFree⟩
    · have : (x, NameKind.free)∈scope.names := by
        rcases hx with z | z
        · exact bt (.inl rfl) B.nocell z
        · exact bt (.inr rfl) B.nocell z
      exact B.cell I.ok this
    · have hx : x∈own := by simpa [cxB] using h1
      have q := B.owns x hx _ (B.cells I.ok h2).2 rfl
      exact absurd q (by simp)
    · obtain ⟨o, e⟩ := hfs b hb
      exact rC (q_ (q9 e) hC)
    · exact (hf b hb).2.2.2.2.1 x c (B.cells I.ok h).1
    · have hb : b∈fp := hb
      rcases (hf b hb).2.2.2.1 with z | z
      · exact I.ok.noex b o e z
      · exact absurd (q_ (q9 e) (rJ I.ok.bsz z)) (rG _)
    · rcases rN.mp (I.stkSub b z) with z | z
      · exact (hf b hb).2.1 z
      · exact (hf b hb).2.2.1 z
  refine ⟨okB, rfl, I.bare, Un.kept k, ⟨m, hn, fun i x v e1 e2 e3 => ?_⟩, fun x c h => ?_, I.hok.fresh hC, fun x c h => I.freeC x c (B.cells I.ok h).1, fun p hp => absurd (show p∈([] : List (Addr × Obj)) from hp) (by simp), I.hok.kept k, ?_⟩
  · have e1 : NB[i]? = some x := e1
    have hi : ¬ i < own.length := fun hi => by
      unfold stB at e2
      rw [uC (by simpa using hi), rV] at e2
      cases q : own[i]? <;> rw [q] at e2 <;> cases e2
    unfold stB at e2
    rw [sX (by simpa using hi), rV] at e2
    rw [B.nb, sX (by omega), rV] at e1
    simp only [rn] at e2
    cases q : cap[i - own.length]? with
    | none => rw [q] at e1;cases e1
    | some j =>
      rw [q] at e1 e2
      have ex : X.N.getD j "" = x := rl e1
      have ev : (σ[j]?).getD none=some v := rl e2
      obtain ⟨hj, hjf⟩ := B.caps j (rM q)
      rw [ex] at hjf
      have hN : X.N[j]? = some x := by rw [← ex, sm, rP hj];rfl
      have hσ : σ[j]? = some (some v) := by
        cases z : σ[j]? with
        | none => rw [z] at ev;cases ev
        | some u => rw [z] at ev;exact rT some ev
      have hmem : (x, NameKind.free)∈scope.names := rR hjf
      have hkc := B.free _ hmem rfl
      obtain ⟨m0, hn0, hl⟩ := I.loc
      obtain ⟨u, r, l⟩ := hl j x v hN hσ (.inr (.inl hkc))
      refine ⟨u, r, .inr ⟨.inl (cF B.outk hkc hjf), ?_⟩⟩
      obtain ⟨c, hc⟩ := B.cell I.ok hmem
      refine ⟨c, hc, ?_⟩
      rcases l with ⟨z, _⟩ | ⟨_, c', hc', ⟨oc, hoc, hd⟩⟩
      · rw [show X.env.kindOf x=some .cell from hkc] at z;cases z
      · have := (B.cells I.ok hc).1
        rw [hc'] at this
        have : c'=c := rl this
        subst this
        exact ⟨oc, k _ _ hoc, hd⟩
  · obtain ⟨v, oc, hoc, hd⟩ := I.cell x c (B.cells I.ok h).1
    exact ⟨v, oc, k _ _ hoc, hd⟩
  · show (stB own cap σ).length=NB.length
    unfold stB
    rw [hlen];simp
theorem Blk.done (B : Blk X scope NB own cap)(I : Inv X pins σ H s)(hf : ∀ b∈fp, ja X pins H b){σB : St}{H' : Hp}{s' : Shared}{h'' : Heap}{D : Addr}{ys : List V}{its : List Value}{n : Nat}(hC : s.heap.objs.size≤C)(hD : s.heap.objs.size≤D)(hDC : D≠C)
    (J : Inv (cxB X NB own scope C fp s H) [] σB H' s') (hn : H' D=none) (e : s'.heap.get? D=some { cls := .type "list", data := .seq its.toArray n }) (hv : aI ys its) (hz : ys.length≤sizeLine)
    (sb : Heap.SameBut C s'.heap h'') : Inv X pins σ (upd H' D (.lst ys)) { s' with heap := h'' } := by
  have un : Un (frs X.stack) fp H H' s.heap s'.heap := J.base
  have neC : ∀ {b o}, s.heap.get? b=some o → b≠C := fun q => rC (q_ (q9 q) hC)
  have neD : ∀ {b o}, s.heap.get? b=some o → b≠D := fun q => rC (q_ (q9 q) hD)
  have hCn : H' C=none := J.free
  refine I.call' (s' := { s' with heap := h'' }) (ch := fp) J.os ⟨fun b o q n hb hx => ?_, fun b o q n hb hx => ?_, fun b o q n hx => ?_, fun b o q hx => ?_, fun b xs q => ?_, fun b o u q => ?_, fun b ps q => ?_⟩ (fun b u q => ?_) J.bare fun b hb => ?_
  · exact (sb.2 b (neC q)).trans (un.keep b o q n hb hx)
  · obtain ⟨sl, r⟩ := un.slot b o q n hb hx
    exact ⟨sl, (sb.2 b (neC q)).trans r⟩
  · rw [ak (neD q)]
    exact un.free b o q n hx
  · obtain ⟨o', r⟩ := un.there b o q hx
    exact ⟨o', (sb.2 b (neC q)).trans r⟩
  · have r := un.tups b xs q
    rw [ak (av r hn)]
    exact r
  · have r := un.frzs b o u q
    rw [ak (av r hn)]
    exact r
  · obtain ⟨more, r⟩ := un.tbls b ps q
    exact ⟨more, by rw [ak (av r hn)];exact r⟩
  · by_cases hb : b=D
    · subst hb
      rw [ag] at q
      cases q
      exact ⟨hz, its, n, hv, (sb.2 b hDC).trans e⟩
    · rw [ak hb] at q
      refine (J.hok b u q).stay (fun c v hc r => (sb.2 c ?_).trans r) (fun c r => ?_) fun c xs r => ?_
      · rcases hc with z | z
        · rw [z];exact av q hCn
        · exact av z hCn
      · rw [ak (av r hn)];exact r
      · rw [ak (av r hn)];exact r
  · obtain ⟨_, f1, _, f3, f4, f5⟩ := hf b hb
    exact ⟨f3, f1, f4, f5⟩
end
def PIf (X : Cx)(ifs : List Expr)(t : TT) : Prop :=
  ∀ (pins : List (Addr × Obj)) (s : Shared) (σ : St) (H : Hp) (Q : Bool → Hp → Prop), Inv X pins σ H s → t σ H Q →
    wpAny (model X.prog X.w) X.A (forIn ifs true fun c r => if r=true then do let ok ← isTrue c X.env (eval c X.env);pure (ForInStep.yield ok) else pure (ForInStep.yield r)) (TP X pins σ Q) X.xe s
def qN : TT := fun _ H Q => Q true H
theorem jz {X : Cx} : PIf X [] qN := fun _ _ _ H _ I h => wpAny_tests_nil ⟨H, I, h⟩
section
variable {prog : Program} {w : World} {A : Around} {R : Result → Shared → Prop} {s : Shared}
abbrev noE : Value → Shared → Prop := fun _ _ => False
theorem g_ {elt tg iter : Expr}{ifs : List Expr}{scope : Scope}{pos : Pos}{it acc : Value}{env : Env}(I : Nat → Shared → Prop)
    (turn : ∀ n s, I n s → wpAny (model prog w) A (pyNext it) (fun r s₁ => match r with
      | none => R (.ok .next) s₁
      | some v => wpAny (model prog w) A (letOwnedTupleGo tg it v) (fun _ s₀ => wpAny (model prog w) A (assign tg env v) (fun _ s₂ =>
          wpAny (model prog w) A (forIn ifs true fun c r => if r=true then do let ok ← isTrue c env (eval c env);pure (ForInStep.yield ok) else pure (ForInStep.yield r)) (fun ok s₃ =>
            if ok=true then wpAny (model prog w) A (eval elt env) (fun x s₄ => wpAny (model prog w) A (call (.builtin "list.append") [acc, x]) (fun _ s₅ => ∃ m, m < n ∧ I m s₅) noE s₄) noE s₃
            else ∃ m, m < n ∧ I m s₃) noE s₂) noE s₀) noE s₁) noE s)
    (n : Nat) (h : I n s) : codeAny (model prog w) A (.compLoop (.ListComp elt [⟨tg, iter, ifs, 0⟩] scope pos) 0 it acc env) R s := by
  refine codeAny_loop rfl I (fun n s hI => ?_) n h
  show wpAny _ A ((compTurn (.ListComp elt [⟨tg, iter, ifs, 0⟩] scope pos) 0 it acc env).onRaise (fun x => do noteFrame x env;theTreesLotGoes x)) _ _ s
  refine wpAny_noted ?_
  rw [compTurn_list]
  refine q8 (wpAny_standAt (q8 (rO (turn n s hI) (fun r s₁ h₁ => ?_) fun _ _ z => False.elim z)))
  cases r with
  | none => exact rm h₁
  | some v =>
    refine q8 (rO h₁ (fun _ s₀ h₀ => q8 (rO h₀ (fun _ s₂ h₂ => q8 (rO h₂ (fun ok s₃ h₃ => ?_) fun _ _ z => False.elim z)) fun _ _ z => False.elim z)) fun _ _ z => False.elim z)
    cases ok with
    | false => exact rm ⟨rfl, h₃⟩
    | true => exact q8 (q8 (rO h₃ (fun x s₄ h₄ => q8 (rO h₄ (fun _ s₅ h₅ => rm (rm ⟨rfl, h₅⟩)) fun _ _ z => False.elim z)) fun _ _ z => False.elim z))
end
def nA (own : List Str)(cap : List Nat)(g : TG)(ti : TT)(te : TE)(Q : VK)(σ : St)(J : It)(H1 : Hp) : Prop := ∃ W : Nat → Nat → List V → St → Hp → Prop, (∃ m, W 0 m [] (stB own cap σ) H1) ∧ ∀ i m ys σ H, W i m ys σ H →
  (J.stop i H ∧ ys.length≤sizeLine ∧ ∀ D, H D=none → Q (.ref D) (upd H D (.lst ys))) ∨
  (J.go i H ∧ ys.length < sizeLine ∧ ∀ x H', J.yld i H x H' → g x σ H' fun σ2 H2 => ti σ2 H2 fun b H3 => if b=true then te σ2 H3 fun y H4 => ∃ m', m' < m ∧ W (i+1) m' (ys++[y]) σ2 H4 else ∃ m', m' < m ∧ W (i+1) m' ys σ2 H3)
def pb (own : List Str)(cap : List Nat)(wi : TI)(g : TG)(ti : TT)(te : TE) : TE := fun σ H Q => wi σ H fun J H1 => nA own cap g ti te Q σ J H1
theorem lH {X : Cx}{elt iter tg : Expr}{ifs : List Expr}{scope : Scope}{pos : Pos}{NB own : List Str}{cap : List Nat}{wi : TI}{g : TG}{ti : TT}{te : TE}(B : Blk X scope NB own cap)(hc : X.calm=true)(hi : PI X tg iter wi)
    (hg : ∀ C fp s₀ H₀, PG (cxB X NB own scope C fp s₀ H₀) tg g) (ht : ∀ C fp s₀ H₀, PIf (cxB X NB own scope C fp s₀ H₀) ifs ti) (he : ∀ C fp s₀ H₀, PE (cxB X NB own scope C fp s₀ H₀) elt te)
    (hs : ∀ x, foldedSetIterable iter X.env x=pure x := by intro _;rfl) : PE X (.ListComp elt [⟨tg, iter, ifs, 0⟩] scope pos) (pb own cap wi g ti te) := by
  intro pins s σ H Q I0 h
  rw [eval_ListComp]
  have hclos := bS (env := X.env) (scope := scope) fun y hy e => I0.ok.has y.1 (.inl (B.free y hy e))
  refine wpAny_comprehension_free (use := none) rfl hs hclos B.kind B.names (thn (hi pins s σ H _ I0 h) fun v s1 h1 => thn h1 fun itv s2 h2 => ?_)
  obtain ⟨it, fp, tn, J, H2, rfl, I, T, st2, f2, W, ⟨m0, w0⟩, turn⟩ := h2
  refine wpAny_newList ?_
  refine wpAny_newFunctionEnv B.nocell (by intro y hy;simp at hy) (fun h₁ hns₁ hsb₁ => ?_) B.kind
  dsimp only at hns₁ hsb₁ ⊢
  generalize hP : s2.heap.push { cls := .type "list", dict := none, data := .seq ([] : List Value).toArray }=P at hns₁ hsb₁ ⊢
  have hC : P.objs.size=s2.heap.objs.size+1 := by rw [← hP, uD]
  have hDC : s2.heap.objs.size≠P.objs.size := by rw [hC];exact rC (Nat.lt_succ_self _)
  have hCle : s2.heap.objs.size≤P.objs.size := by rw [hC];exact Nat.le_succ _
  have old : ∀ b o, s2.heap.get? b=some o → h₁.get? b=some o := fun b o e => by
    refine (hsb₁.2 b ?_).trans (fu _ (hP ▸ fu _ e))
    exact rC (q_ (q9 e) hCle)
  have hD : h₁.get? s2.heap.objs.size=some { cls := .type "list", data := .seq ([] : List Value).toArray 0 } := by
    refine (hsb₁.2 _ hDC).trans (fu _ ?_)
    rw [← hP]
    exact ri _ rfl
  have hfs : ∀ b∈fp, ∃ o, s2.heap.get? b=some o := fun b hb => let ⟨o, e, _⟩ := T.obj _ _ st2 b hb;⟨o, e⟩
  have st4 : tn 0 h₁ := T.keep _ _ _ st2 fun b _ o e => old b o e
  generalize htk : s2.toks+([] : List (Str × Value)).length=tk4
  have I4 := B.start (C := P.objs.size) (tk := tk4) I f2 hfs hCle old hns₁
  have fOk : ∀ {H' : Hp} {b : Addr} {ob : Obj}, b∈fp → H' b=none → ja (cxB X NB own scope P.objs.size fp s2 H2) [(s2.heap.objs.size, ob)] H' b := fun {H' b ob} hb hn => by
    obtain ⟨o, e⟩ := hfs b hb
    refine ⟨hn, (I4.ok.exf b hb).1, I4.ok.exfs b hb, .inl hb, (I4.ok.exf b hb).2, fun p hp => ?_⟩
    have ep : p=(s2.heap.objs.size, ob) := rZ.mp (show p∈[(s2.heap.objs.size, ob)] from hp)
    rw [ep]
    exact fun z => absurd (q9 e) (by rw [← z];exact rG _)
  have dnf : s2.heap.objs.size∉frs X.stack := fun z => by
    rcases rN.mp (I.stkSub _ z) with z | z
    · exact absurd I.lt (by rw [← z];exact rG _)
    · exact I.nofs (rh _) z
  have I3D : ∀ {σ3 : St} {H3 : Hp} {s3 : Shared} {its : List Value} {k : Nat}, Inv (cxB X NB own scope P.objs.size fp s2 H2) [] σ3 H3 s3 → s3.heap.get? s2.heap.objs.size=some { cls := .type "list", data := .seq its.toArray k } → H3 s2.heap.objs.size=none →
      Inv (cxB X NB own scope P.objs.size fp s2 H2) [(s2.heap.objs.size, { cls := .type "list", data := .seq its.toArray k })] σ3 H3 s3 := fun I3 e n => I3.pins_of fun p hp => by
    have ep := rZ.mp hp
    subst ep
    exact ⟨e, n, hDC, dnf, fun v z => by cases z⟩
  have ndf : s2.heap.objs.size∉fp := fun z => by
    obtain ⟨o, e⟩ := hfs _ z
    exact absurd (q9 e) (rG _)
  have nCD : ∀ x c, (cxB X NB own scope P.objs.size fp s2 H2).env.cells.lookup x=some c → c≠s2.heap.objs.size := fun x c e z => by
    obtain ⟨v, o, ho, _⟩ := I.cell x c (B.cells I.ok e).1
    rw [z] at ho
    exact absurd (q9 ho) (rG _)
  have loop : ∀ s₃ : Shared, s₃ = { s2 with heap := h₁, toks := tk4 } → codeAny (model X.prog X.w) X.A (.compLoop (.ListComp elt [⟨tg, iter, ifs, 0⟩] scope pos) 0 (.ref it) (.ref s2.heap.objs.size) (cxB X NB own scope P.objs.size fp s2 H2).env)
      (compPost (model X.prog X.w) X.A X.xe none (EP X pins σ Q) (.ref s2.heap.objs.size) P.objs.size) s₃ := by
    rintro s₃ rfl
    refine g_ (fun n s' => ∃ i σB H' ys its k, Inv (cxB X NB own scope P.objs.size fp s2 H2) [] σB H' s' ∧ tn i s'.heap ∧ (∀ b∈fp, H' b=none) ∧ s'.heap.get? s2.heap.objs.size=some { cls := .type "list", data := .seq (its : List Value).toArray k } ∧ aI ys its ∧ H' s2.heap.objs.size=none ∧ W i n ys σB H') ?_ m0
      ⟨0, stB own cap σ, H2, [], [], 0, I4, st4, fun b hb => (f2 b hb).1, hD, .nil, I.hok.fresh (rh _), w0⟩
    rintro n s3 ⟨i, σ3, H3, ys, its, k, I3, st3, fr3, hD3, rv, hn3, w3⟩
    rcases turn i n ys σ3 H3 w3 with ⟨stop, hz, q⟩ | ⟨go, hz, step⟩
    · refine thn (T.done (cxB X NB own scope P.objs.size fp s2 H2) rfl rfl rfl hc i _ s3 σ3 H3 noE (I3D I3 hD3 hn3) (fun b hb => fOk hb (fr3 b hb)) st3 stop) fun r s4 zq1 => ?_
      obtain ⟨hr, I4'⟩ := zq1
      subst hr
      have hD4 : s4.heap.get? s2.heap.objs.size=some { cls := .type "list", data := .seq (its : List Value).toArray k } := (I4'.pin (s2.heap.objs.size, _) (ro _ (rZ.mpr rfl))).1
      have I5 : Inv (cxB X NB own scope P.objs.size fp s2 H2) [] σ3 H3 s4 := I4'.pins_of fun p hp => absurd (show p∈([] : List (Addr × Obj)) from hp) (by simp)
      obtain ⟨mC, hnC, _⟩ := I5.loc
      exact ⟨mC, hnC, fun h'' sb => ⟨.ref s2.heap.objs.size, _, B.done I f2 hCle (rh _) hDC I5 hn3 hD4 rv hz sb, rfl, q _ hn3⟩⟩
    · refine thn (T.item (cxB X NB own scope P.objs.size fp s2 H2) rfl rfl rfl hc i _ s3 σ3 H3 noE (I3D I3 hD3 hn3) (fun b hb => fOk hb (fr3 b hb)) st3 go) fun r s4 zq2 => ?_
      obtain ⟨u, hr, h4⟩ := zq2
      subst hr
      refine thn h4 fun _ s5 zq3 => ?_
      obtain ⟨x, H5, I5, r5, y5, st5, fr5⟩ := zq3
      have I5' := I5.pinned (fun b hb => fOk hb (fr5 b hb)) (T.obj _ _ st5)
      refine thn (hg _ fp s2 H2 _ s5 σ3 H5 x u _ I5' r5 (step x H5 y5)) fun _ s6 zq4 => ?_
      obtain ⟨σ6, H6, I6, q6⟩ := zq4
      refine thn (ht _ fp s2 H2 _ s6 σ6 H6 _ I6 q6) fun b s7 zq5 => ?_
      obtain ⟨H7, I7, q7⟩ := zq5
      have pinned : ∀ {σ8 : St} {H8 : Hp} {s8 : Shared}, Inv (cxB X NB own scope P.objs.size fp s2 H2) ([(s2.heap.objs.size, { cls := .type "list", data := .seq (its : List Value).toArray k })]++dJ fp s5.heap) σ8 H8 s8 →
          tn (i+1) s8.heap ∧ (∀ b∈fp, H8 b=none) ∧ s8.heap.get? s2.heap.objs.size=some { cls := .type "list", data := .seq (its : List Value).toArray k } ∧ H8 s2.heap.objs.size=none := fun {σ8 H8 s8} I8 => by
        refine ⟨T.keep _ _ _ st5 fun b hb o e => (I8.pin (b, o) (ro _ (ro _ (bz hb e)))).1, fun b hb => ?_, ?_, ?_⟩
        · obtain ⟨o, e, d⟩ := T.obj _ _ st5 b hb
          exact (I8.pin (b, o) (ro _ (ro _ (bz hb e)))).2.1
        · exact (I8.pin (s2.heap.objs.size, _) (ro _ (rY _ (rZ.mpr rfl)))).1
        · exact (I8.pin (s2.heap.objs.size, _) (ro _ (rY _ (rZ.mpr rfl)))).2.1
      have nopin : ∀ {pp : List (Addr × Obj)} {σ8 : St} {H8 : Hp} {s8 : Shared}, Inv (cxB X NB own scope P.objs.size fp s2 H2) pp σ8 H8 s8 → Inv (cxB X NB own scope P.objs.size fp s2 H2) [] σ8 H8 s8 := fun I8 => I8.pins_of fun p hp => absurd (show p∈([] : List (Addr × Obj)) from hp) (by simp)
      cases b with
      | false =>
        rw [if_neg rg] at q7 ⊢
        obtain ⟨m', hm, w7⟩ := q7
        obtain ⟨p1, p2, p3, p4⟩ := pinned I7
        exact ⟨m', hm, i+1, σ6, H7, ys, its, k, nopin I7, p1, p2, p3, rv, p4, w7⟩
      | true =>
        rw [if_pos rfl] at q7 ⊢
        refine thn (he _ fp s2 H2 _ s7 σ6 H7 _ I7 q7) fun yv s8 zq6 => ?_
        obtain ⟨y, H8, I8, r8, m', hm, w8⟩ := zq6
        obtain ⟨p1, p2, p3, p4⟩ := pinned I8
        refine u9 F.slot_list_append ⟨_, p3, rfl⟩ F.entry_list_append (F.args_list_append_2 _ _) (PySem.list_append s2.heap.objs.size its.toArray k yv (by rw [rj, ← rv.length];omega)) ⟨p3, ?_⟩
        have q := PySem.IsL.update p3 fun a => a.push yv
        have ea : its.toArray.push yv=(its++[yv]).toArray := by simp
        rw [ea] at q
        have I9 : Inv (cxB X NB own scope P.objs.size fp s2 H2) [] σ6 H8 { s8 with heap := s8.heap.update s2.heap.objs.size (Obj.mapSeq fun a => a.push yv), toks := s8.toks } :=
          (nopin I8).turned (it := s2.heap.objs.size) (fun b o hb e => (rD s8.heap _ (Ne.symm hb)).trans e) p4 hDC (.inr (rh _)) (fun x c e => nCD x c e) fun p hp => absurd (show p∈([] : List (Addr × Obj)) from hp) (by simp)
        refine ⟨m', hm, i+1, σ6, H8, ys++[y], its++[yv], _, I9, ?_, p2, q, rv.append (.cons r8 .nil), p4, w8⟩
        refine T.keep _ _ _ p1 fun b hb o e => (rD s8.heap _ ?_).trans e
        intro z
        rw [z] at ndf
        exact ndf hb
  exact codeAny_compStart_list (loop _ rfl) (T.self X.A 0 _ _ _ st4 (loop _ rfl))
theorem lI {own : List Str}{cap : List Nat}{J : It}{g : TG}{ti : TT}{te : TE}{σ : St}{H : Hp}{Q : VK}(n : Nat)(Pv : Nat → List V → St → Hp → Prop)(h0 : Pv 0 [] (stB own cap σ) H)(hz : ∀ i ys σ H, i≤n → Pv i ys σ H → ys.length≤i)(hn : n≤sizeLine)
    (hgo : ∀ i ys σ H, i < n → Pv i ys σ H → J.go i H) (hst : ∀ ys σ H, Pv n ys σ H → J.stop n H)
    (hs : ∀ i ys σ H x H' (N : List V → St → Hp → Prop), i < n → Pv i ys σ H → J.yld i H x H' → (∀ ys' σ' H'', Pv (i+1) ys' σ' H'' → N ys' σ' H'') → g x σ H' fun σ2 H2 => ti σ2 H2 fun b H3 => if b=true then te σ2 H3 fun y H4 => N (ys++[y]) σ2 H4 else N ys σ2 H3)
    (hd : ∀ ys σ H D, Pv n ys σ H → H D=none → Q (.ref D) (upd H D (.lst ys))) :
    nA own cap g ti te Q σ J H := by
  refine ⟨fun i m ys σ H => m=n - i ∧ i≤n ∧ Pv i ys σ H, ⟨n, by simp, sx _, h0⟩, ?_⟩
  rintro i m ys σ H ⟨rfl, hi, p⟩
  have hl := hz i ys σ H hi p
  by_cases hlt : i < n
  · refine .inr ⟨hgo i ys σ H hlt p, by omega, fun x H' y => ?_⟩
    exact hs i ys σ H x H' (fun ys' σ' H'' => ∃ m', m' < n - i ∧ m'=n - (i+1) ∧ i+1≤n ∧ Pv (i+1) ys' σ' H'') hlt p y fun ys' σ' H'' q => ⟨n - (i+1), by omega, rfl, hlt, q⟩
  · have e : i=n := by omega
    subst e
    exact .inl ⟨hst ys σ H p, by omega, fun D hD => hd ys σ H D p hD⟩
end L2
namespace L2
open PySem PySem.Spec PyProof.Rows
def Its (z : Str) : It := ⟨fun i _ => i < z.cps.size, fun i H x H' => H'=H ∧ ∃ c, z.cps[i]? = some c ∧ x = .str ⟨#[c]⟩, fun i _ => i=z.cps.size⟩
theorem bg {P : Program}{w : World}{K : PySem.W.Frag}{tg : Expr}{it n : Nat}{Pv : Nat → Value → Prop}{st : Nat → Heap → Prop}{J : It}{T : String}{fl : Nat → Array Value}
    (W : ∀ A : Around, A.handled=none → Walks P w A it [it] [it] n Pv st) (hst : ∀ i h, st i h → ∃ o, h.get? it=some o ∧ o.cls = .type T ∧ o.data = .fields (fl i))
    (hT : ["enumerate", "zip", "dict_itemiterator", "dict_reverseitemiterator", "odict_iterator", "itertools.zip_longest", "itertools.pairwise"].contains T=false)
    (hgo : ∀ i H, J.go i H → i < n) (hstop : ∀ i H, J.stop i H → i=n) (hy : ∀ i H u, J.go i H → Pv i u → ∃ x, aL x u ∧ J.yld i H x H)
    (hself : ∀ (A : Around) (i : Nat) (s : Shared) (Q : Value → Shared → Prop) (E : Value → Shared → Prop), st i s.heap → Q (.ref it) s → wpAny (model P w) A (pyIter (.ref it)) Q E s) : oH P w K tg J [it] it st where
  mem := by simp
  obj := fun i h s b hb => by
    have e : b=it := by simpa using hb
    subst e
    obtain ⟨o, e, c, d⟩ := hst i h s
    exact ⟨o, e, fun v z => by rw [d] at z;cases z⟩
  keep := fun i h h' s k => (W {} rfl).frame i h h' s k
  item := by
    intro X hP hw hK hc i pins s σ H E I hf s0 hg
    subst hP hw hK
    obtain ⟨f0, f1, f2, f3, f4, f5⟩ := hf it (by simp)
    refine (W X.A (I.ok.hd hc)).item i s _ _ (hgo i H hg) s0 fun v h' tk hv st' kk => ?_
    have I1 : Inv X pins σ H { s with heap := h', toks := tk } := I.turned (fun b o hb e => kk b o (by simpa using hb) e) f0 f1 f3 f4 f5
    obtain ⟨o, e, c, d⟩ := hst _ _ st'
    obtain ⟨x, rx, yx⟩ := hy i H v hg hv
    exact ⟨v, rfl, kU (s := { s with heap := h', toks := tk }) e c d hT ⟨x, H, I1, rx, yx, st', fun b hb => (hf b hb).1⟩⟩
  done := by
    intro X hP hw hK hc i pins s σ H E I hf s0 hg
    subst hP hw hK
    obtain ⟨f0, f1, f2, f3, f4, f5⟩ := hf it (by simp)
    have e := hstop i H hg
    subst e
    exact (W X.A (I.ok.hd hc)).done s _ _ s0 fun h' tk kk => ⟨rfl, I.turned (fun b o hb e => kk b o (by simpa using hb) e) f0 f1 f3 f4 f5⟩
  self := hself
section
variable {X : Cx} {tg : Expr}
def qO (tl : TE) : TI := fun σ H R => tl σ H fun x H1 => ∃ z, x = .str z ∧ R (Its z) H1
theorem hG {z : Str}{i : Nat}{H : Hp}{u : Value}(h : SignAt z i u) : ∃ x, aL x u ∧ (Its z).yld i H x H := by
  obtain ⟨c, t, e, rfl⟩ := h
  exact ⟨.str ⟨#[c]⟩, ⟨t, rfl⟩, rfl, c, e, rfl⟩
theorem kn {l : Expr}{tl : TE}(hl : PE X l tl) : PI X tg l (qO tl) := by
  intro pins s σ H R I h
  refine thn (hl pins s σ H _ I h) fun v s1 zq1 => ?_
  obtain ⟨x, H1, I1, r1, q1⟩ := zq1
  obtain ⟨z, rfl, q⟩ := q1
  obtain ⟨t, rfl⟩ := r1
  have fp : ∀ b∈[s1.heap.objs.size], ja X pins H1 b := fun b hb => by
    have e : b=s1.heap.objs.size := by simpa using hb
    subst e
    exact I1.fpOk (rh _) (I1.hok.fresh (rh _))
  cases ha : z.cps.all (· < 128)
  · refine wpAny_pyIter_wide ha ⟨s1.heap.objs.size, [s1.heap.objs.size], _, Its z, H1, rfl, I1.kept (t' := s1.toks) fun b o e => fu _ e,
      bg (T := "str_iterator") (fl := fun i => #[.str z t, .int i 0]) (fun A hh => Walks.strWide hh _ z t) (fun i h st => st) (by decide) (fun i H g => g) (fun i H g => g) (fun i H u _ hu => hG hu) (fun A i s Q E st h => wpAny_pyIter_striter_wide st h), ⟨_, ri _ rfl, rfl, rfl⟩, fp, q⟩
  · refine wpAny_pyIter_ascii ha ⟨s1.heap.objs.size, [s1.heap.objs.size], _, Its z, H1, rfl, I1.kept (t' := s1.toks) fun b o e => fu _ e,
      bg (T := "str_ascii_iterator") (fl := fun i => #[.str z t, .int i 0]) (fun A hh => Walks.strAscii hh _ z t) (fun i h st => st) (by decide) (fun i H g => g) (fun i H g => g) (fun i H u _ hu => hG hu) (fun A i s Q E st h => wpAny_pyIter_striter_ascii st h), ⟨_, ri _ rfl, rfl, rfl⟩, fp, q⟩
inductive qm (x : V)(lo : Option Int)(hi : Option Int)(H : Hp)(Q : VK) : Prop
  | mk : ∀ z, (x = .str z) → (z.length≤sizeLine) → (Q (.str (Txt.slice z lo hi)) H) → qm x lo hi H Q
theorem d9 : SlR X qm := by
  intro pins s σ H x v vl vu lo hi sl Q I rx hs pl pu h
  obtain ⟨z, rfl, hz, q⟩ := h
  obtain ⟨t, rfl⟩ := rx
  have fin : ∀ (lo hi : Option Int), Q (.str (Txt.slice z lo hi)) H → ∀ t' k, EP X pins σ Q (.str (Txt.slice z lo hi) t') { s with toks := k } := fun lo hi q t' k => ⟨.str _, H, I.tok _, ⟨_, rfl⟩, q⟩
  refine ⟨"str", _, F.slot_str_getitem.lookup, tL _ _ _, ?_⟩
  cases pl with
  | none =>
    cases pu with
    | none => exact sL (l := none) (u := none) (st := none) hs rfl (uk ⟨rJ (tT z _ _) hz, fun t' k => fin _ _ q t' k⟩)
    | int j uj => exact sL (l := none) (u := some (j, uj)) (st := none) hs rfl (uk ⟨rJ (tT z _ _) hz, fun t' k => fin _ _ q t' k⟩)
  | int i ui =>
    cases pu with
    | none => exact sL (l := some (i, ui)) (u := none) (st := none) hs rfl (uk ⟨rJ (tT z _ _) hz, fun t' k => fin _ _ q t' k⟩)
    | int j uj => exact sL (l := some (i, ui)) (u := some (j, uj)) (st := none) hs rfl (uk ⟨rJ (tT z _ _) hz, fun t' k => fin _ _ q t' k⟩)
inductive ko (x : V)(vs : List V)(H : Hp)(Q : VK) : Prop
  | mk : ∀ z, (x = .str z) → (vs=[]) → (z.length≤5592405) → (Q (.str (Txt.upper z)) H) → ko x vs H Q
inductive kq (x : V)(vs : List V)(H : Hp)(Q : VK) : Prop
  | mk : ∀ z, (x = .str z) → (vs=[]) → (z.length≤5592405) → (Q (.str (Txt.lower z)) H) → kq x vs H Q
theorem jA : MtR X "str.upper" ko := by
  intro pins s σ H x vs v us Q I rx rv h
  obtain ⟨z, rfl, rfl, hz, q⟩ := h
  obtain ⟨t, rfl⟩ := rx
  cases rv
  exact SCL.upper hz fun _ => ⟨.str _, H, I.tok _, ⟨_, rfl⟩, q⟩
theorem fH : MtR X "str.lower" kq := by
  intro pins s σ H x vs v us Q I rx rv h
  obtain ⟨z, rfl, rfl, hz, q⟩ := h
  obtain ⟨t, rfl⟩ := rx
  cases rv
  exact SCL.lower hz fun _ => ⟨.str _, H, I.tok _, ⟨_, rfl⟩, q⟩
theorem b0 : ∀ {ys : List Str} {us : List Value}, aI (ys.map V.str) us → StrsAre us ys
  | [], _, r => by
    rw [uv] at r
    cases r
    exact .nil
  | y::ys, us, r => by
    rw [rK] at r
    cases r with
    | cons r1 r2 =>
      obtain ⟨t, e⟩ := r1
      subst e
      exact .cons y t (b0 r2)
inductive nB (K : PySem.W.Frag)(x : V)(vs : List V)(H : Hp)(Q : VK) : Prop
  | mk : ∀ z p ys, (x = .str z) → (vs=[.ref p]) → (SqL K H p (ys.map V.str)) → ((ys.map (·.length)).sum+ys.length*z.length≤16777216) → (Q (.str (Txt.join z ys)) H) → nB K x vs H Q
theorem lJ : MtR X "str.join" (nB X.K) := by
  intro pins s σ H x vs v us Q I rx rv h
  obtain ⟨z, p, ys, rfl, rfl, hq, hz, q⟩ := h
  obtain ⟨t, rfl⟩ := rx
  obtain ⟨u, rfl, ru⟩ := bX rv
  cases ru
  obtain ⟨its, r, pl, _⟩ := I.list hq
  exact join_list pl.isList (by simpa using b0 r) hz fun t' k => ⟨.str _, H, I.tok _, ⟨_, rfl⟩, q⟩
end
theorem hJ {z : Str}{g : TG}{tb : TS}{D : cZ}{σ : St}{H : Hp}(Pv : Nat → St → Hp → Prop)(h0 : Pv 0 σ H)
    (hs : ∀ i c σ H, z.cps[i]? = some c → Pv i σ H → g (.str ⟨#[c]⟩) σ H fun σ2 H2 => tb { D with nx := Pv (i+1), ct := Pv (i+1), bk := D.nx } σ2 H2) (hd : ∀ σ H, Pv z.cps.size σ H → D.nx σ H) :
    ∃ W : Nat → Nat → St → Hp → Prop, (∃ m, W 0 m σ H) ∧ ∀ i m σ H, W i m σ H →
      ((Its z).stop i H ∧ D.nx σ H) ∨ ((Its z).go i H ∧ ∃ N : St → Hp → Prop, (∀ σ' H', N σ' H' → ∃ m', m' < m ∧ W (i+1) m' σ' H') ∧ ∀ x H', (Its z).yld i H x H' → g x σ H' fun σ2 H2 => tb { D with nx := N, ct := N, bk := D.nx } σ2 H2) := by
  refine ⟨fun i m σ H => m=z.cps.size - i ∧ i≤z.cps.size ∧ Pv i σ H, ⟨z.cps.size, by simp, sx _, h0⟩, ?_⟩
  rintro i m σ H ⟨rfl, hi, p⟩
  by_cases hlt : i < z.cps.size
  · refine .inr ⟨hlt, Pv (i+1), fun σ' H' p' => ⟨z.cps.size - (i+1), by omega, rfl, hlt, p'⟩, fun x H' y => ?_⟩
    obtain ⟨e, c, hc, ex⟩ := y
    subst e ex
    exact hs i c σ _ hc p
  · have e : i=z.cps.size := by omega
    subst e
    exact .inl ⟨rfl, hd σ H p⟩
end L2
namespace PySem
open Sem (wp)
open Builtin Builtin.SmallTypes
namespace F
theorem lookup_str_reversed : typeLookup (.type "str") "__reversed__" = pure none := by rw [um, sV]; kernel_rfl
theorem dm : Slot "reversed" "__init__" "object.__init__" :=
  .of (owner := "object") (n := "__init__") (by rw [um, sV];kernel_rfl) (by decide +kernel) (by decide +kernel) (by decide +kernel)
    (by first | exact .inl (by decide +kernel) | exact .inr (by decide +kernel)) (by rw [uE];kernel_rfl)
theorem called_rvs : TypeCalled "reversed" "reversed.__new__" "object.__init__" :=
  ⟨by decide +kernel, create_reversed, ⟨_, _, mro_reversed⟩, made_reversed, plain_reversed_new, sub_reversed_self, dm⟩
end F
set_option maxHeartbeats 1000000 in
theorem hU (x : Str)(t : Tok) : Meets (Builtin.«reversed.__new__» ⟨[.type "reversed", .str x t], []⟩) (fun _ R s => ¬ (x.length : Int)≥2 ^ 63 ∧
      ∀ tk, R (.ok (.ret (.ref s.heap.objs.size))) { s with heap := s.heap.push { cls := .type "reversed", data := .fields #[.str x t, rawInt ((x.length : Int) - 1)] }, toks := tk }) :=
  .of_wp fun prog w A R s h => by
    obtain ⟨hx, h⟩ := h
    unfold Builtin.«reversed.__new__»
    refine q8 (uO (newClass_reversed _) ?_)
    try dsimp only
    refine q8 (uO (a := ()) (by first | rfl | kernel_rfl) ?_)
    refine q8 (uO (a := ()) (by first | rfl | kernel_rfl) ?_)
    try dsimp only
    refine q8 (uY (tL s x t) F.lookup_str_reversed ?_)
    try dsimp only
    refine q8 ?_
    have hl := F.slot_str_getitem.lookup
    have hT := tL s x t
    have hD : isSubtype (.type "str") (.type "dict")=pure false := by rw [uE];kernel_rfl
    repeat (any_goals (first | assumption | refine PySem.P.len_str hx ?_ | wp_step))
    exact ⟨_, rfl, h _⟩
def Heap.IsRvs (h : Heap)(a : Addr)(x : Str)(t : Tok)(i : Int) : Prop := ∃ o, h.get? a=some o ∧ o.cls = .type "reversed" ∧ o.data = .fields #[.str x t, rawInt i]
theorem Heap.IsRvs.typeIs {s : Shared}{a : Addr}{x : Str}{t : Tok}{i : Int}(y : s.heap.IsRvs a x t i) : s.TypeIs (.ref a) "reversed" := let ⟨o, ho, hc, _⟩ := y; ⟨o, ho, hc⟩
namespace F
theorem slot_rvs_next : Slot "reversed" "__next__" "reversed.__next__" :=
  .of (owner := "reversed") (n := "__next__") (by rw [um, sV];kernel_rfl) (by decide +kernel) (by decide +kernel) (by decide +kernel)
    (by first | exact .inl (by decide +kernel) | exact .inr (by decide +kernel)) (by rw [uE];kernel_rfl)
theorem entry_rvs_next : entryFor table "reversed.__next__" = some Builtin.«reversed.__next__» := entryFor_of_tree (by kernel_rfl)
theorem args_rvs_next (a : Value) : argsOk "reversed.__next__" ⟨[a], []⟩ := by unfold argsOk; kernel_rfl
theorem slot_rvs_iter : Slot "reversed" "__iter__" "reversed.__iter__" :=
  .of (owner := "reversed") (n := "__iter__") (by rw [um, sV];kernel_rfl) (by decide +kernel) (by decide +kernel) (by decide +kernel)
    (by first | exact .inl (by decide +kernel) | exact .inr (by decide +kernel)) (by rw [uE];kernel_rfl)
theorem args_rvs_iter (a : Value) : argsOk "reversed.__iter__" ⟨[a], []⟩ := by unfold argsOk; kernel_rfl
theorem entry_rvs_iter : entryFor table "reversed.__iter__" = some Builtin.«dict_keyiterator.__iter__» :=
  entryFor_alias (id' := "dict_keyiterator.__iter__") (by kernel_rfl) rfl (by decide +kernel) (by kernel_rfl)
end F
section
variable {prog : Program} {w : World} {A : Around} {E : Value → Shared → Prop} {s : Shared} {x : Str} {t : Tok}
theorem d_ {Q : Value → Shared → Prop}(hx : ¬ (x.length : Int)≥2 ^ 63)
    (h : ∀ tk, Q (.ref s.heap.objs.size) { s with heap := s.heap.push { cls := .type "reversed", data := .fields #[.str x t, rawInt ((x.length : Int) - 1)] }, toks := tk }) : wpAny (model prog w) A (call (.type "reversed") [.str x t]) Q E s :=
  callType_new F.called_rvs (by decide) (F.typeCall_reversed_1 _) (F.newCall_reversed_1 _) (fun obj => F.args_object_init_2 obj _) F.entry_reversed_new (hU x t) ⟨hx, fun tk => ⟨⟨_, ri _ rfl, rfl⟩, h tk⟩⟩
theorem dn {it : Addr}{i : Int}{Q : Value → Shared → Prop}(hit : s.heap.IsRvs it x t i)(h : Q (.ref it) s) : wpAny (model prog w) A (pyIter (.ref it)) Q E s := by
  refine wpAny_pyIter_slot hit.typeIs F.slot_rvs_iter (tX F.slot_rvs_iter hit.typeIs F.entry_rvs_iter ?_ (F.args_rvs_iter _))
  show wpAny _ _ (ret (.ref it)) _ _ s
  exact rm ⟨_, rfl, "reversed", _, hit.typeIs, F.slot_rvs_next.lookup, h⟩
theorem dq {it : Addr}{i : Nat}{c : Nat}{Q : Option Value → Shared → Prop}(hit : s.heap.IsRvs it x t (i : Int))(hx : x.cps[i]? = some c)(h63 : (i : Int) < 2 ^ 63)
    (hQ : ∀ h' tk u, h'.IsRvs it x t ((i : Int) - 1) → Heap.SameBut it s.heap h' → Q (some (.str ⟨#[c]⟩ u)) { s with heap := h', toks := tk }) : wpAny (model prog w) A (pyNext (.ref it)) Q E s := by
  obtain ⟨o, ho, hc, hd⟩ := id hit
  unfold pyNext
  refine q8 (t_ (wpAny_callSpecial?_slot (name := Str.ofString "__next__") hit.typeIs F.slot_rvs_next
    (tX F.slot_rvs_next hit.typeIs F.entry_rvs_next ?_ (F.args_rvs_next _))))
  unfold Builtin.«reversed.__next__»
  refine q8 (uO (a := (Value.ref it, [])) rfl ?_)
  try dsimp only
  refine q8 (sM ho hd (x := .str x t) rfl ?_)
  refine q8 (sM ho hd (x := rawInt (i : Int)) rfl ?_)
  show wpAny _ _ (if (i : Int) < 0 then _ else _) _ _ s
  rw [if_neg (by omega)]
  refine q8 (uY (tL s x t) F.slot_str_getitem.lookup ?_)
  show wpAny _ _ (if (some (Value.builtin "str.__getitem__")).isNone=true then _ else _) _ _ s
  rw [if_neg (by decide)]
  refine q8 (wpAny_mkInt ?_)
  have hlt : i < x.length := by
    have := rX.mp hx
    exact this.1
  refine q8 (t_ (PySem.P.getItem_str (c := c) ?_ ?_ ?_))
  · have e1 : decide ((i : Int) < -(2 ^ 63 : Int))=false := rf (by omega)
    have e2 : decide ((i : Int)≥2 ^ 63)=false := rf (by omega)
    rw [e1, e2, u5]
  · rw [PySem.StrLaws.seqIndex_nonneg (by omega) (by omega)]
    simpa using hx
  try dsimp only
  refine q8 (sM ho hd (x := rawInt (i : Int)) rfl ?_)
  show wpAny _ _ (setField (.ref it) 1 (rawInt ((i : Int) - 1)) >>= _) _ _ _
  refine q8 (sQ ho hd (by simp) ?_)
  refine rm ⟨_, rfl, rm (hQ _ _ _ ?_ (Heap.SameBut.update ..))⟩
  exact ⟨_, sf _ ho (so (sj hd _)), (uK ..).trans hc, by
    rw [sj hd];simp⟩
theorem ee {it : Addr}{Q : Option Value → Shared → Prop}(hh : A.handled=none)(hit : s.heap.IsRvs it x t (-1))
    (hQ : ∀ h', (∀ b o, b≠it → s.heap.get? b=some o → h'.get? b=some o) → Q none { s with heap := h' }) : wpAny (model prog w) A (pyNext (.ref it)) Q E s := by
  obtain ⟨o, ho, hc, hd⟩ := id hit
  unfold pyNext
  refine q8 (t_ (wpAny_callSpecial?_slot (name := Str.ofString "__next__") hit.typeIs F.slot_rvs_next
    (tX F.slot_rvs_next hit.typeIs F.entry_rvs_next ?_ (F.args_rvs_next _))))
  unfold Builtin.«reversed.__next__»
  refine q8 (uO (a := (Value.ref it, [])) rfl ?_)
  try dsimp only
  refine q8 (sM ho hd (x := .str x t) rfl ?_)
  refine q8 (sM ho hd (x := rawInt (-1)) rfl ?_)
  show wpAny _ _ (if (-1 : Int) < 0 then _ else _) _ _ s
  rw [if_pos (by decide)]
  refine q8 (wpAny_rule ?_)
  refine q8 ?_
  show wpAny _ _ (setField (.ref it) 1 (rawInt (-1)) >>= fun _ => setField (.ref it) 0 .none) _ _ s
  refine q8 (sQ ho hd (by simp) ?_)
  have ho2 := sf (Obj.mapFields fun a => a.setIfInBounds 1 (rawInt (-1))) ho (so (sj hd _))
  have hd2 := sj hd fun a => a.setIfInBounds 1 (rawInt (-1))
  refine sQ ho2 hd2 (by simp) ?_
  generalize hh2 : (s.heap.update it _).update it _=h2
  have kk : ∀ b o, b≠it → s.heap.get? b=some o → h2.get? b=some o := fun b o hb e => by
    rw [← hh2]
    exact (rD _ _ (Ne.symm hb)).trans ((rD _ _ (Ne.symm hb)).trans e)
  have hz : A.in1.handled=none := hh
  have sub := isSubtype_stop
  repeat (any_goals (first | assumption | wp_step))
  unfold raiseNew
  refine q8 (wpAny_handled ?_)
  rw [hz]
  refine q8 (rm (wpAny_throw ?_))
  refine q8 (wpAny_isInstance (T := "StopIteration") (b := true) ?_ sub (rm (hQ _ fun b o hb e => ?_)))
  · exact ⟨_, ri _ rfl, rfl⟩
  exact fu _ (fu _ (kk b o hb e))
theorem hV (hh : A.handled=none)(it : Addr)(x : Str)(t : Tok)(h63 : (x.cps.size : Int) < 2 ^ 63) :
    Walks prog w A it [it] [it] x.cps.size (fun i v => ∃ c u, x.cps[x.cps.size - 1 - i]? = some c ∧ v = .str ⟨#[c]⟩ u) (fun i h => i≤x.cps.size ∧ h.IsRvs it x t ((x.cps.size : Int) - 1 - (i : Int))) where
  sub := fun _ hb => hb
  frame := fun _ _ _ st hk => let ⟨l, o, ho, r⟩ := st;⟨l, o, hk it (by simp) o ho, r⟩
  item := fun i s Q E hi y hQ => by
    have e : (x.cps.size : Int) - 1 - (i : Int)=((x.cps.size - 1 - i : Nat) : Int) := by omega
    have hit := y.2
    rw [e] at hit
    have hx : x.cps[x.cps.size - 1 - i]? = some (x.cps[x.cps.size - 1 - i]'(by omega)) := uF (by omega)
    refine dq hit hx (by omega) fun h' tk u hit' hs' => ?_
    have e2 : ((x.cps.size - 1 - i : Nat) : Int) - 1=(x.cps.size : Int) - 1 - ((i+1 : Nat) : Int) := by omega
    rw [e2] at hit'
    exact hQ _ h' tk ⟨_, u, hx, rfl⟩ ⟨hi, hit'⟩ fun b o hb eo => hs'.extBut b o (fun h => hb (by simp [h])) eo
  done := fun s Q E y hQ => by
    have e : (x.cps.size : Int) - 1 - (x.cps.size : Int) = -1 := by omega
    have hit := y.2
    rw [e] at hit
    exact ee hh hit fun h' he' => hQ h' s.toks fun b o hb eo => he' b o (fun h => hb (by simp [h])) eo
  self := fun _ _ _ _ y hQ => dn y.2 hQ
end
end PySem
namespace L2
open PySem PySem.Spec PyProof.Rows
def pd (z : Str) : It := ⟨fun i _ => i < z.cps.size, fun i H x H' => H'=H ∧ ∃ c, z.cps[z.cps.size - 1 - i]? = some c ∧ x = .str ⟨#[c]⟩, fun i _ => i=z.cps.size⟩
section
variable {X : Cx} {tg : Expr}
def pf (ta : TA) : TI := fun σ H R => ta σ H fun vs H1 => ∃ z, vs=[.str z] ∧ z.length≤sizeLine ∧ R (pd z) H1
theorem lK {a : Expr}{ta : TA}{p pos : Pos}(hg : Gl X "reversed")(hm : X.mg "reversed" = none)(hb : bootBuiltins "reversed" = some (.type "reversed"))(ha : PA X [a] ta)(hs : starEach [a] X.env=[(false, eval a X.env)] := by rfl) :
    PI X tg (.Call (.Name "reversed" p) [a] [] pos) (pf ta) := by
  intro pins s σ H R I h
  refine Call_ (dH I hg hm hb (sS (thn (ha pos pins s σ H _ I h) fun us s1 zq1 => ?_) hs rfl))
  obtain ⟨vs, H1, I1, r1, q1⟩ := zq1
  obtain ⟨z, rfl, hz, q⟩ := q1
  obtain ⟨u, rfl, t, rfl⟩ := bX r1
  have hn := b_
  have hsz : z.cps.size=z.length := rfl
  refine d_ (by omega) fun tk => ?_
  have hit : Heap.IsRvs (s1.heap.push { cls := .type "reversed", data := .fields #[.str z t, rawInt ((z.length : Int) - 1)] }) s1.heap.objs.size z t ((z.length : Int) - 1) := ⟨_, ri _ rfl, rfl, rfl⟩
  refine dn (s := { s1 with heap := s1.heap.push { cls := .type "reversed", data := .fields #[.str z t, rawInt ((z.length : Int) - 1)] }, toks := tk }) hit ?_
  refine ⟨s1.heap.objs.size, [s1.heap.objs.size], _, pd z, H1, rfl, I1.kept (t' := tk) fun b o e => fu _ e,
    bg (T := "reversed") (fl := fun i => #[.str z t, rawInt ((z.cps.size : Int) - 1 - (i : Int))]) (fun A hh => hV hh _ z t (by omega)) (fun i h st => st.2) (by decide) (fun i H g => g) (fun i H g => g)
      (fun i H u _ ⟨c, t', e, eu⟩ => ⟨.str ⟨#[c]⟩, ⟨t', eu⟩, rfl, c, e, rfl⟩) (fun A i s Q E st h => dn st.2 h), ⟨sx _, by simpa [hsz] using hit⟩, fun b hb => ?_, q⟩
  have e : b=s1.heap.objs.size := by simpa using hb
  subst e
  exact I1.fpOk (rh _) (I1.hok.fresh (rh _))
structure DTx (K : PySem.W.Frag) (w : World) (a : Addr) : Prop where
  ob : ∃ (es : Array DictEntry) (n : Nat), K.lookup a=some ⟨.type "dict", none, .dict es n, #[]⟩ ∧ PySem.W.KeysLit w.params es.toList
theorem jB {a : Addr}(D : DTx X.K X.w a) : IxR X (fun x y H Q => ∃ z z' t, x = .ref a ∧ y = .str z ∧ PySem.W.nsIn X.K a z=some (some (.str z' t)) ∧ Q (.str z') H) := by
  intro value slice pins s σ H x y v u Q I rx ry h hs
  obtain ⟨z, z', t', rfl, rfl, e, q⟩ := h
  cases rx
  obtain ⟨t, rfl⟩ := ry
  obtain ⟨es, n, hl, hk⟩ := D.ob
  obtain ⟨m, F⟩ := I.fr
  exact PySem.W.topItem_K F I.ok.mod.kin hl hk e ⟨.str z', H, I.tok _, ⟨_, rfl⟩, q⟩ hs
def jC (K : PySem.W.Frag)(a : Addr)(Q : VK) : V → Hp → Prop := fun y H1 => ∃ z z' t, y = .str z ∧ PySem.W.nsIn K a z=some (some (.str z' t)) ∧ Q (.str z') H1
def ph (K : PySem.W.Frag)(a : Addr)(ti : TE) : TE := fun σ H Q => ti σ H (jC K a Q)
theorem lL {K : PySem.W.Frag}{w : World}{a : Addr}{x : Str}{i : Expr}{ti : TE}{p pos : Pos}(D : DTx K w a)(hK : X.K=K)(hw : X.w=w)(hg : Gl X x)(hm : X.mg x=some (.ref a))(hi : PE X i ti)(hs : c8 i)
    (hd : (x == ("__debug__" : Str))=false := by decide) : PE X (.Subscript (.Name x p) i pos) (ph K a ti) := by
  subst hK hw
  intro pins s σ H Q I h
  refine uJ (bI I hg hm (thn (hi pins s σ H _ I h) fun u s2 zq2 => ?_) hd)
  obtain ⟨y, H2, I2, ry, z, z', t', e1, e2, q⟩ := zq2
  exact jB D _ _ pins s2 σ H2 (.ref a) y (.ref a) u Q I2 rfl ry ⟨z, z', t', rfl, e1, e2, q⟩ (hs _ _)
end
end L2
namespace Wd
abbrev L := Fin 12
def inv (x : L) : L := if h : x.val < 6 then ⟨x.val+6, by omega⟩ else ⟨x.val - 6, by omega⟩
theorem hX : ∀ x : L, inv (inv x)=x := by decide
def bk (w : List L) : List L := (w.map inv).reverse
theorem hZ (u v : List L) : bk (u++v)=bk v++bk u := by simp [bk]
theorem bu (w : List L) : (bk w).length=w.length := by simp [bk]
theorem fJ (x : L) : bk [x]=[inv x] := rfl
def push (st : List L)(x : L) : List L := match st with
  | [] => [x]
  | y::r => if y=inv x then r else x::y::r
def Rd : List L → Prop
  | [] => True
  | [_] => True
  | x::y::r => y≠inv x ∧ Rd (y::r)
def rep : Nat → List L → List L
  | 0, _ => []
  | n+1, w => rep n w++w
end Wd
namespace L2
open PySem PySem.Spec PyProof.Rows Wd
def cp (x : L) : Nat := if x.val < 6 then 97+x.val else 59+x.val
theorem lM : ∀ x : L, cp x < 128 := by decide
theorem kr : ∀ x y : L, cp x=cp y → x=y := by decide
def toS (w : List L) : Str := ⟨(w.map cp).toArray⟩
def tx (w : List L) : V := .str (toS w)
theorem aR (w : List L) : (toS w).cps.toList=w.map cp := by simp [toS]
theorem af (w : List L) : (toS w).length=w.length := by simp [toS, Str.length]
theorem bB (w : List L) : (toS w).cps.size=w.length := by simp [toS]
theorem au (u v : List L) : toS u++toS v=toS (u++v) := by
  apply Str.ext'
  rw [Str.cps_append]
  simp [toS]
theorem b9 : ∀ {u v : List L}, u.map cp=v.map cp → u=v
  | [], [], _ => rfl
  | [], _::_, h => by simp at h
  | _::_, [], h => by simp at h
  | x::u, y::v, h => by
    simp only [rK, List.cons.injEq] at h
    rw [kr x y h.1, b9 h.2]
theorem lN {u v : List L}(h : toS u=toS v) : u=v := by
  have : (toS u).cps.toList=(toS v).cps.toList := by rw [h]
  rw [aR, aR] at this
  exact b9 this
theorem nC {u v : List L}(h : tx u=tx v) : u=v := lN (V.str.inj h)
theorem lO : toS []=("" : Str) := by decide +kernel
theorem ku : tx []=V.str ("" : Str) := rT V.str lO
theorem fK (u v : List L) : decide (tx u=tx v)=decide (u=v) := by
  by_cases h : u=v
  · subst h;simp
  · rw [rf h, rf fun e => h (nC e)]
theorem lP : toS [0, 1, 2, 3, 4, 5]=("abcdef" : Str) := by decide +kernel
theorem big : toS [6, 7, 8, 9, 10, 11]=("ABCDEF" : Str) := by decide +kernel
theorem fh {w : List L}{i c : Nat}(h : (toS w).cps[i]? = some c) : ∃ x, w[i]? = some x ∧ (⟨#[c]⟩ : Str)=toS [x] := by
  have h : ((w.map cp).toArray)[i]? = some c := h
  rw [List.getElem?_toArray, rV] at h
  cases e : w[i]? with
  | none => rw [e] at h;cases h
  | some x =>
    rw [e] at h
    have : cp x=c := rl h
    exact ⟨x, rfl, by rw [← this];rfl⟩
theorem cG {w : List L}{k : Nat}{x : L}{i : Int}(hk : i=(k : Int))(h : w[k]? = some x) : atI (toS w).cps.toList i=some (cp x) := by
  subst hk
  rw [aR]
  obtain ⟨hl, e⟩ := rb.mp h
  unfold atI ixN
  rw [if_pos (by omega), if_pos (by rw [rn];omega)]
  show (w.map cp)[((k : Nat) : Int).toNat]? = _
  rw [rE, rV, h]
  rfl
theorem cT (x : L) : (⟨#[cp x]⟩ : Str)=toS [x] := rfl
def jD (w : List L)(lo hi : Option Int) : List L := (w.drop (HT.sIx w.length 0 lo)).take (HT.sIx w.length w.length hi - HT.sIx w.length 0 lo)
theorem lQ (lo hi : Option Int)(n : Nat) : Builtin.Str.strSliceIndices lo hi 1 n=(List.range (HT.sIx n n hi - HT.sIx n 0 lo)).map (fun k => HT.sIx n 0 lo+k) := by
  have cl : ∀ v : Int, max (0 : Int) (min (if v < 0 then v+(n : Int) else v) (n : Int))=(((if v < 0 then (v+(n : Int)).toNat else min v.toNat n) : Nat) : Int) := fun v => by
    by_cases hv : v < 0
    · simp only [if_pos hv];omega
    · simp only [if_neg hv];omega
  have fin : ∀ a b : Nat, sliceRange (a : Int) (b : Int) 1=(List.range (b - a)).map (fun k => a+k) := fun a b => by
    unfold sliceRange
    simp only [show ((1 : Int) > 0)=True from by simp, ug]
    by_cases hlt : (a : Int) < b
    · have e3 : (((b : Int) - a+1 - 1) / 1).toNat=b - a := by first | omega | (simp;done) | (simp;omega)
      simp only [hlt, ug, e3]
      exact List.map_congr_left fun k _ => by omega
    · have : b - a=0 := by omega
      simp [hlt, this]
  unfold Builtin.Str.strSliceIndices
  simp only [show ((1 : Int) > 0)=True from by simp, ug]
  cases lo with
  | none =>
    cases hi with
    | none => exact fin 0 n
    | some j => simp only [cl];exact fin 0 _
  | some i =>
    cases hi with
    | none => simp only [cl];exact fin _ n
    | some j => simp only [cl];exact fin _ _
theorem aT (w : List L)(lo hi : Option Int) : Txt.slice (toS w) lo hi=toS (jD w lo hi) := by
  have h1 := HT.kg w.length 0 (sx _) lo
  have h2 := HT.kg w.length w.length (rh _) hi
  unfold Txt.slice
  rw [lQ, af]
  split
  · rename_i h
    have hl : HT.sIx w.length w.length hi - HT.sIx w.length 0 lo=w.length := by simpa using h
    have e : jD w lo hi=w := by
      unfold jD
      rw [hl]
      have ha : HT.sIx w.length 0 lo=0 ∨ w.length=0 := by omega
      rcases ha with ha | ha
      · rw [ha, u4, s_]
      · have : w=[] := sr ha
        subst this
        simp
    rw [e]
  · apply Str.ext'
    show (List.filterMap _ _).toArray=_
    have e := StrLaws.picks (w.map cp) (HT.sIx w.length w.length hi - HT.sIx w.length 0 lo) (HT.sIx w.length 0 lo)
    by_cases hle : HT.sIx w.length 0 lo≤HT.sIx w.length w.length hi
    · have e := e (by rw [rn];omega)
      have e2 : (fun k : Nat => (toS w).cps[k]?)=fun k : Nat => (w.map cp)[k]? := funext fun k => by simp [toS]
      rw [e2, e]
      simp [toS, jD, List.map_take, List.map_drop]
    · have z : HT.sIx w.length w.length hi - HT.sIx w.length 0 lo=0 := by omega
      rw [z]
      simp [toS, jD, z]
theorem eg (w : List L){n : Int}(h : 0≤n) : jD w none (some n)=w.take n.toNat := by
  obtain ⟨k, rfl⟩ := sN h
  unfold jD
  rw [HT.c5, HT.eZ, u4, Nat.sub_zero, rE]
  by_cases hk : k≤w.length
  · rw [Nat.min_eq_left hk]
  · rw [Nat.min_eq_right (by omega), s_, tH (by omega)]
theorem cn (w : List L){n : Int}(h : 0≤n) : jD w (some n) none=w.drop n.toNat := by
  obtain ⟨k, rfl⟩ := sN h
  unfold jD
  rw [HT.c5, HT.eZ, rE]
  by_cases hk : k≤w.length
  · rw [Nat.min_eq_left hk, tH (by rw [tW];omega)]
  · rw [Nat.min_eq_right (by omega), List.drop_length, List.drop_eq_nil_of_le (by omega)]
    simp
theorem h_ (w : List L) : Txt.upper (toS w)=⟨((w.map cp).map up1).toArray⟩ := by
  rw [upper_ascii fun c hc => by rw [aR] at hc;obtain ⟨x, _, rfl⟩ := tU.mp hc;exact lM x]
  simp [toS]
theorem eh (w : List L) : Txt.lower (toS w)=⟨((w.map cp).map lo1).toArray⟩ := by
  rw [lower_ascii fun c hc => by rw [aR] at hc;obtain ⟨x, _, rfl⟩ := tU.mp hc;exact lM x]
  simp [toS]
theorem pj : ∀ x : L, x.val < 6 → up1 (cp x)=cp (inv x) := by decide
theorem pk : ∀ x : L, ¬ x.val < 6 → lo1 (cp x)=cp (inv x) := by decide
theorem ej {x : L}(h : x.val < 6) : Txt.upper (toS [x])=toS [inv x] := by
  rw [h_]
  show (⟨#[up1 (cp x)]⟩ : Str)=⟨#[cp (inv x)]⟩
  rw [pj x h]
theorem er {x : L}(h : ¬ x.val < 6) : Txt.lower (toS [x])=toS [inv x] := by
  rw [eh]
  show (⟨#[lo1 (cp x)]⟩ : Str)=⟨#[cp (inv x)]⟩
  rw [pk x h]
theorem ex1 : ∀ x : L, cp x∈List.map cp [0, 1, 2, 3, 4, 5] → x.val < 6 := by decide
theorem ex2 : ∀ x : L, x.val < 6 → (List.map cp [0, 1, 2, 3, 4, 5])[x.val]? = some (cp x) := by decide
theorem jE (x : L) : (!(Builtin.Str.occurrences ("abcdef" : Str) (toS [x]) 0 ("abcdef" : Str).length 1).isEmpty)=decide (x.val < 6) := by
  have h := StrLaws.found_iff ("abcdef" : Str) (toS [x])
  have e : (∃ i, i+(toS [x]).length≤("abcdef" : Str).length ∧ Builtin.Str.subAt ("abcdef" : Str) (toS [x]) i=true) ↔ x.val < 6 := by
    have e2 : ∀ i, (i+(toS [x]).length≤("abcdef" : Str).length ∧ Builtin.Str.subAt ("abcdef" : Str) (toS [x]) i=true) ↔ ("abcdef" : Str).cps.toList[i]? = some (cp x) := fun i => StrLaws.subAt_one _ _ _
    rw [show (("abcdef" : Str))=toS [0, 1, 2, 3, 4, 5] from lP.symm] at e2 ⊢
    constructor
    · rintro ⟨i, hi⟩
      have hi := (e2 i).mp hi
      rw [aR] at hi
      exact ex1 x (rM hi)
    · intro hx
      refine ⟨x.val, (e2 x.val).mpr ?_⟩
      rw [aR]
      exact ex2 x hx
  rw [sT, h, e, uy]
theorem jF : ∀ w : List L, Txt.join ("" : Str) (w.map fun x => toS [x])=toS w := by
  intro w
  have e0 : ("" : Str)=Str.empty := by decide +kernel
  unfold Txt.join
  rw [StrLaws.glued_eq_join, e0]
  induction w with
  | nil => rfl
  | cons x r ih =>
    cases r with
    | nil => rfl
    | cons y r =>
      show toS [x]++Str.empty++Str.join Str.empty ((y::r).map fun x => toS [x])=_
      rw [ih, Str.append_empty, au]
      rfl
theorem lR (w : List L) : ((w.map fun x => toS [x]).map (·.length)).sum=w.length := by
  induction w with
  | nil => rfl
  | cons x r ih =>
    simp only [rK, List.sum_cons, rS]
    rw [ih, af]
    simp only [tV]
    omega
end L2
namespace L2
open PySem PySem.Spec PyProof.Rows Wd
structure Fnc (P : Program) (w : World) (K : PySem.W.Frag) (mg : Str → Option Value) (base : Heap) (x : Str) (ps : List Str) (k : Nat) (sp : Sp) : Prop where
  ex : ∃ (f : Addr) (fd : FuncData), mg x=some (.ref f) ∧ PySem.W.keepIn K (.ref f)=true ∧ cB K fd ps [] ∧ fE P w K mg base CX0 k f fd ps sp
theorem aV {X : Cx}{x : Str}{ps : List Str}{k j : Nat}{sp : Sp}{e : Expr}{es : List Expr}{t : TA}{p pos : Pos}(F : Fnc X.prog X.w X.K X.mg X.base x ps j sp)(hr : bp k X.A)(hj : j≤k)(hg : Gl X x)(ha : PA X (e::es) t)
    (hdb : (x == ("__debug__" : Str))=false := by decide) (he : starEach (e::es) X.env=(false, eval e X.env)::starEach es X.env := by rfl) (hpl : (backTo pos (starEach es X.env)).any (·.1)=false := by rfl) :
    PE X (.Call (.Name x p) (e::es) [] pos) (lj sp [] E0 t) := by
  obtain ⟨f, fd, hm, hk, hb, F⟩ := F.ex
  exact gR F (hr.mono hj) hg hm hk hb .nil o8 ha hdb he hpl
structure Df (K : PySem.W.Frag) (mg : Str → Option Value) (x : Str) (st : Stmt) : Prop where
  ex : ∃ (f : Addr) (fd : FuncData), mg x=some (.ref f) ∧ Fun K x x st f fd
theorem Df.ok {P : Program}{w : World}{K : PySem.W.Frag}{mg : Str → Option Value}{base : Heap}{x : Str}{st : Stmt}{N ps : List Str}{k : Nat}{sp : Sp}(D : Df K mg x st)(S : aw N ps (ah st))
    (hb : ∀ (kV doc pm : Value) (an : Option Addr) (cdv ct : Value) (us : List Value), us.length=ps.length → bindArgs (PySem.W.fnOf x x (aM st) (aA st) (ah st) .none kV doc pm an cdv ct) ⟨us, []⟩=pure (ps.zip us))
    (len : ∀ vs H Q E, sp vs H Q E → vs.length=ps.length)
    (hbody : ∀ (f : Addr) (cdv : Value) (A : Around) (outer : List Env) (s : Shared) (H : Hp) (vs : List V) (Q : VK) (E : XK), bp k (A.deeper (envOfC x (ah st) s.heap.objs.size f cdv)) → sp vs H Q E →
      ∃ t, PSs (eY CX0 P w K mg base N x (ah st) f cdv A outer s H E).nox (aA st) t ∧ t { nx := fun _ H' => Q .non H', rt := Q } (start N vs) H) : Fnc P w K mg base x ps (k+1) sp := by
  obtain ⟨f, fd, hm, F⟩ := D.ex
  exact ⟨f, fd, hm, F.kp, F.binds hb, F.ok S len fun cdv A outer s H vs Q E hr h => hbody f cdv A outer s H vs Q E hr h⟩
def bT (d : Addr)(H H' : Hp) : Prop := ∀ b o, b≠d → H b=some o → H' b=some o
theorem aG.b {d : Addr}{H H' : Hp}(a : aG H H') : bT d H H' := fun b o _ h => a b o h
theorem aG.new {H : Hp}{a : Addr}{o : HO}(h : H a=none) : aG H (upd H a o) := fun b u e => by rw [ak (av e h)]; exact e
theorem bT.upd {d : Addr}{H : Hp}{o : HO} : bT d H (upd H d o) := fun b u n e => by rw [ak n]; exact e
theorem aG.then {H H1 : Hp}{a : Addr}{o : HO}(s : aG H H1)(h : H1 a=none) : aG H (L2.upd H1 a o) := s.trans (aG.new h)
def kS (x : Str) : Key := .inr x
def fkv (c : Addr)(i l t : Int) : List (Key × V) := [(kS "cells", .ref c), (kS "at", .int i), (kS "left", .int l), (kS "turn", .int t)]
theorem pw : ¬ (kS "cells" = kS "at") := by decide +kernel
theorem px : ¬ (kS "cells" = kS "left") := by decide +kernel
theorem pz : ¬ (kS "cells" = kS "turn") := by decide +kernel
theorem oI : ¬ (kS "at" = kS "left") := by decide +kernel
theorem oJ : ¬ (kS "at" = kS "turn") := by decide +kernel
theorem oK : ¬ (kS "left" = kS "turn") := by decide +kernel
theorem cq {κ : Type}[DecidableEq κ]{k : κ}{v : V}{r : List (κ × V)} : cN ((k, v)::r) k=some v := by unfold cN; simp
theorem ba {κ : Type}[DecidableEq κ]{k k' : κ}{v : V}{r : List (κ × V)}(h : ¬ k'=k) : cN ((k', v)::r) k=cN r k := by unfold cN; simp [h]
theorem ia (c : Addr)(i l t : Int) : cN (fkv c i l t) (kS "cells")=some (.ref c) := cq
theorem qo (c : Addr)(i l t : Int) : cN (fkv c i l t) (kS "at")=some (.int i) := (ba pw).trans cq
theorem et (c : Addr)(i l t : Int) : cN (fkv c i l t) (kS "left")=some (.int l) := (ba px).trans ((ba oI).trans cq)
theorem ib (c : Addr)(i l t : Int) : cN (fkv c i l t) (kS "turn")=some (.int t) := (ba pz).trans ((ba oJ).trans ((ba oK).trans cq))
theorem qP : ¬ (kS "turn" = kS "at") := fun e => oJ e.symm
theorem qQ : ¬ (kS "left" = kS "at") := fun e => oI e.symm
theorem qS : ¬ (kS "turn" = kS "left") := fun e => oK e.symm
theorem qT (c : Addr)(i l t z : Int) : cC (fkv c i l t) (kS "at") (.int z)=fkv c z l t := by simp [cC, fkv, pw, qQ, qP]
theorem ie (c : Addr)(i l t z : Int) : cC (fkv c i l t) (kS "left") (.int z)=fkv c i z t := by simp [cC, fkv, px, oI, qS]
theorem nD (c : Addr)(i l t z : Int) : cC (fkv c i l t) (kS "turn") (.int z)=fkv c i l z := by simp [cC, fkv, pz, oJ, oK]
theorem cH (c : Addr)(i l t : Int) : (fkv c i l t).length < sizeLine := by show 4 < sizeLine; decide
theorem pA (c : Addr)(i l t : Int) : cD [] (fkv c i l t)=fkv c i l t := by simp [cD, cC, fkv, pw, px, pz, oI, oJ, oK]
structure Fd (H : Hp) (d : Addr) : Prop where
  ex : ∃ (c : Addr) (i l t : Int) (ns : List Int), H d=some (.dK (fkv c i l t)) ∧ H c=some (.lst (ns.map V.int)) ∧ ns≠[] ∧ ns.length≤64
theorem Fd.same {H H' : Hp}{d : Addr}(F : Fd H d)(s : aG H H') : Fd H' d := by
  obtain ⟨c, i, l, t, ns, h1, h2, h3, h4⟩ := F.ex
  exact ⟨c, i, l, t, ns, s _ _ h1, s _ _ h2, h3, h4⟩
theorem Fd.new {H : Hp}{d a : Addr}{o : HO}(F : Fd H d)(h : H a=none) : Fd (upd H a o) d := F.same (aG.new h)
theorem Fd.ne {H : Hp}{d a : Addr}(F : Fd H d)(h : H a=none) : a≠d := by
  obtain ⟨c, i, l, t, ns, h1, h2, h3, h4⟩ := F.ex
  exact (av h1 h).symm
theorem Fd.nl {H : Hp}{d a : Addr}{xs : List V}(F : Fd H d)(h : H a=some (.lst xs)) : a≠d := by
  obtain ⟨c, i, l, t, ns, h1, h2, h3, h4⟩ := F.ex
  exact gw h h1 (by intro z;cases z)
inductive fL (vs : List V)(H : Hp)(Q : VK)(u3_ : XK) : Prop
  | mk : ∀ (d : Addr) (m : Int), (vs=[.ref d, .int m]) → (Fd H d) → (0 < m) → (m < 1000000) → (∀ (r : Int) (H' : Hp), 0≤r → r < m → Fd H' d → bT d H H' → Q (.int r) H') → fL vs H Q u3_
inductive ig (K : PySem.W.Frag)(vs : List V)(H : Hp)(Q : VK)(u3_ : XK) : Prop
  | mk : ∀ (a : Addr) (ns : List Int), (vs=[.ref a]) → (SqL K H a (ns.map V.int)) → (ns.length≤63) → (∀ (d : Addr) (H' : Hp), H d=none → Fd H' d → aG H H' → Q (.ref d) H') → ig K vs H Q u3_
theorem lS {ns : List Int}(h : ns≠[])(i : Int) : ∃ n : Int, atI (ns.map V.int) (i % ((ns.map V.int).length : Int))=some (.int n) := by
  have hl : 0 < ns.length := sO.mpr h
  rw [rn]
  have h0 := sH i (show (ns.length : Int)≠0 by omega)
  have h1 := sR i (show (0 : Int) < ns.length by omega)
  obtain ⟨k, hk⟩ := sN h0
  rw [hk] at h1 ⊢
  have hk' : k < ns.length := by omega
  refine ⟨ns[k], ?_⟩
  unfold atI ixN
  rw [if_pos (by omega), if_pos (by rw [rn];omega)]
  show (ns.map V.int)[((k : Nat) : Int).toNat]? = _
  rw [rE, rV, rP hk']
  rfl
end L2
namespace L2
open PySem PySem.Spec PyProof.Rows Wd
mutual
inductive Dt (H : Hp) : V → PyData → Prop where
  | non : Dt H .non .none
  | bl (b : Bool) : Dt H (.bl b) (.bool b)
  | int (i : Int) : Dt H (.int i) (.int i)
  | str (x : Str) : Dt H (.str x) (.str x)
  | lst {a : Addr} {xs : List V} {ds : List PyData} : H a=some (.lst xs) → Dts H xs ds → Dt H (.ref a) (.list ds)
  | tup {a : Addr} {xs : List V} {ds : List PyData} : H a=some (.tup xs) → Dts H xs ds → Dt H (.ref a) (.tuple ds)
inductive Dts (H : Hp) : List V → List PyData → Prop where
  | nil : Dts H [] []
  | cons {v : V} {d : PyData} {vs : List V} {ds : List PyData} : Dt H v d → Dts H vs ds → Dts H (v::vs) (d::ds)
end
section
variable {P : Program} {w : World} {H : Hp} {h : Heap}
mutual
theorem Dt.reads (ok : HOk P w H h) : ∀ {v : V} {d : PyData}, Dt H v d → ∀ {u : Value}, aL v u → ∃ as, Reads h u d as
  | _, _, .non, u, r => by cases r;exact ⟨_, .none⟩
  | _, _, .bl b, u, r => by cases r;exact ⟨_, .bool b⟩
  | _, _, .int i, u, r => by obtain ⟨t, rfl⟩ := r;exact ⟨_, .int i t⟩
  | _, _, .str x, u, r => by obtain ⟨t, rfl⟩ := r;exact ⟨_, .str x t⟩
  | _, _, .lst e q, u, r => by
    cases r
    obtain ⟨_, its, n, rv, g⟩ := ok _ _ e
    obtain ⟨as, ra⟩ := Dts.reads ok q rv
    exact ⟨_, .list g rfl rfl (by simpa using ra)⟩
  | _, _, .tup e q, u, r => by
    cases r
    obtain ⟨_, its, rv, ⟨ob, g, c, n, d⟩, _⟩ := ok _ _ e
    obtain ⟨as, ra⟩ := Dts.reads ok q rv
    exact ⟨_, .tuple g c d (by simpa using ra)⟩
theorem Dts.reads (ok : HOk P w H h) : ∀ {vs : List V} {ds : List PyData}, Dts H vs ds → ∀ {us : List Value}, aI vs us → ∃ as, ReadsAll h us ds as
  | _, _, .nil, _, r => by cases r;exact ⟨_, .nil⟩
  | _, _, .cons q qs, _, r => by
    cases r with
    | cons r rs =>
      obtain ⟨as, a1⟩ := Dt.reads ok q r
      obtain ⟨bs, a2⟩ := Dts.reads ok qs rs
      exact ⟨_, .cons a1 a2⟩
end
end
structure Sh (d : PyData) : Prop where
  sh : d.showable=true
  nd : d.hasDict=false
  dp : d.depth≤10
  sz : d.shown.length≤sizeLine
section
variable {X : Cx}
inductive bw  (xs : List V)(H : Hp)(Q : VK) : Prop
  | mk : ∀ a d, (xs=[.ref a]) → (Dt H (.ref a) d) → (Sh d) → (Q (.str d.shown) H) → bw xs H Q
theorem aW (hg : X.A.guards=some [])(hu : X.A.units+64 < cLine) : bD X (.builtin "repr") bw := by
  intro pins s σ H xs us Q I r h
  obtain ⟨a, d, rfl, q, S, hQ⟩ := h
  obtain ⟨u, rfl, ru⟩ := bX r
  cases ru
  obtain ⟨as, rd⟩ := q.reads I.hok (u := .ref a) rfl
  refine repr_of_reads' rd S.sh (PyData.noDict_hsm S.nd) hg (by have := S.dp;omega) (fun _ _ e => e) (fun h' u tk hk => ?_) S.sz
  exact ⟨.str _, H, I.kept hk, ⟨_, rfl⟩, hQ⟩
end
def pB (m : Str)(ys : List Str) : Prop := m∈ys ∧ ∀ y∈ys, m.cps.toList≤y.cps.toList
theorem cf : ∀ (r : List Str) (x : Str), risingS x r=true → pB x (x::r)
  | [], x, _ => ⟨by simp, fun y hy => by rw [rZ.mp hy];exact List.le_refl _⟩
  | z::r, x, h => by
    unfold risingS at h
    rw [sD] at h
    have h1 : x.cps.toList≤z.cps.toList := by
      have := h.1
      rw [ltCps_eq] at this
      exact List.not_lt.mp (by simpa using this)
    have ih := cf r z h.2
    refine ⟨by simp, fun y hy => ?_⟩
    rcases rN.mp hy with e | hy
    · rw [e];exact List.le_refl _
    · exact List.le_trans h1 (ih.2 y hy)
theorem cg : ∀ {us : List Value} {ys : List Str}, StrsAre us ys → aI (ys.map V.str) us
  | _, _, .nil => .nil
  | _, _, .cons y t r => .cons ⟨t, rfl⟩ (cg r)
section
variable {X : Cx}
end
end L2
namespace Kx
open PySem PySem.Spec PyProof.Rows L2 Wd
theorem ij : bootBuiltins "list" = some (.type "list") := by kernel_rfl
theorem nE : bootBuiltins "int" = some (.type "int") := by kernel_rfl
theorem eA : bootBuiltins "repr" = some (.builtin "repr") := by kernel_rfl
theorem fM : bootBuiltins "sorted" = some (.builtin "sorted") := by kernel_rfl
theorem aF : bootBuiltins "isinstance" = some (.builtin "isinstance") := by kernel_rfl
theorem pC : bootBuiltins "str" = some (.type "str") := by kernel_rfl
theorem gg : bootBuiltins "reversed" = some (.type "reversed") := by kernel_rfl
structure Bt (K : PySem.W.Frag) (w : World) (mg : Str → Option Value) (aB : Addr) : Prop where
  len : mg "len" = none
  repr : mg "repr" = none
  abs : mg "abs" = none
  max : mg "max" = none
  int : mg "int" = none
  list : mg "list" = none
  range : mg "range" = none
  reversed : mg "reversed" = none
  min : mg "min" = none
  sorted : mg "sorted" = none
  tuple : mg "tuple" = none
  isinstance : mg "isinstance" = none
  all : mg "all" = none
  str : mg "str" = none
  zip : mg "zip" = none
  mgB : mg "BACKS" = some (.ref aB)
  dB : DTx K w aB
  gB : ∀ x : L, ∃ t, PySem.W.nsIn K aB (toS [x])=some (some (.str (toS [inv x]) t))
theorem dg {H : Hp}{d : Addr}{kvs : List (Key × V)}{k : Str}{v : V}(h : H d=some (.dK kvs))(e : cN kvs (kS k)=some v) : lC H d (.str k) (some v) := by
  have q := lC.k (k := kS k) h
  rw [e] at q
  exact q
theorem dp {H : Hp}{d : Addr}{kvs kvs' : List (Key × V)}{k : Str}{v : V}(h : H d=some (.dK kvs))(hl : kvs.length < sizeLine)(e : cC kvs (kS k) v=kvs') : mL H d (.str k) v (upd H d (.dK kvs')) := by
  have q := mL.k (k := kS k) (v := v) h hl
  rw [e] at q
  exact q
theorem pD {ns : List Int}(h : ns.length≤63) : mK (ns.map V.int) none (some 63)=ns.map V.int := by
  unfold mK
  have e : HT.sIx (ns.map V.int).length (ns.map V.int).length (some 63)=(ns.map V.int).length := by
    have := HT.eZ (ns.map V.int).length (ns.map V.int).length 63
    rw [show ((63 : Nat) : Int)=63 from rfl] at this
    rw [this, rn]
    omega
  rw [e, HT.c5, u4, Nat.sub_zero, s_]
def eQ (w : List L) : List V := w.map fun x => tx [x]
theorem jG (w : List L) : eQ w=(w.map fun x => toS [x]).map V.str := by unfold eQ; rw [uA]; rfl
theorem ik (w : List L)(x : L) : eQ w++[tx [x]]=eQ (w++[x]) := by unfold eQ; rw [List.map_append]; rfl
theorem aY (w : List L) : (eQ w).length=w.length := by unfold eQ; rw [rn]
theorem il (w : List L) : V.str (Txt.join ("" : Str) (w.map fun x => toS [x]))=tx w := rT V.str (jF w)
theorem ip (w : List L)(h : w.length≤1000000) : ((w.map fun x => toS [x]).map (·.length)).sum+(w.map fun x => toS [x]).length*("" : Str).length≤16777216 := by
  have e : ("" : Str).length=0 := by decide +kernel
  rw [e, lR]
  omega
theorem aZ : sizeLine=16777216 := sq
inductive kx (vs : List V)(H : Hp)(Q : VK)(u3_ : XK) : Prop
  | mk : ∀ w, (vs=[tx w]) → (w.length≤5000) → (∀ H', aG H H' → Q (tx (bk w)) H') → kx vs H Q u3_
theorem ky (u v : List L) : V.str (toS u++toS v)=tx (u++v) := rT V.str (au u v)
def sg (m : Int) : List L := ([0, 1, 2, 3, 4, 5] : List L).take m.toNat++([6, 7, 8, 9, 10, 11] : List L).take m.toNat
theorem iq {m : Int}(h1 : 1≤m)(h2 : m≤6) : (sg m).length=2*m.toNat := by
  unfold sg
  rw [rB, rL, rL]
  simp only [rS, uh]
  omega
theorem jH {m : Int}(h1 : 1≤m) : V.str (Txt.slice ("abcdef" : Str) none (some m)++Txt.slice ("ABCDEF" : Str) none (some m))=tx (sg m) := by
  rw [← lP, ← big, aT, aT, eg _ (by omega), eg _ (by omega), ky]
  rfl
theorem ir : ("abcdef" : Str).length=6 := by decide +kernel
theorem kz : ("ABCDEF" : Str).length=6 := by decide +kernel
theorem nF (u : List L){i : Nat}{y : L}(hi : i < u.length)(h : u[u.length - 1 - i]? = some y) : (bk u)[i]? = some (inv y) := by
  unfold bk
  rw [List.getElem?_reverse (by rw [rn];exact hi), rn, rV, h]
  rfl
theorem cI {u : List L}{i : Nat}{x : L}(h : u[i]? = some x) : u.take (i+1)=u.take i++[x] := by
  obtain ⟨hl, e⟩ := rb.mp h
  rw [List.take_add_one, h]
  rfl
theorem jb {c : Bool}{A B : Prop}(hc : c=true)(h : A) : if c=true then A else B := by rw [if_pos hc]; exact h
theorem kA {c : Bool}{A B : Prop}(hc : c=false)(h : B) : if c=true then A else B := by rw [hc]; exact o9 h
def dws (ws : List (List L)) : List PyData := ws.map fun w => .str (toS w)
theorem fN : ∀ (ws : List (List L)), PyData.showableAll (dws ws)=true ∧ PyData.hasDictAll (dws ws)=false ∧ PyData.depthAll (dws ws)=0 ∧ PyData.leavesShortAll 13 (dws ws)=true
  | [] => ⟨rfl, rfl, rfl, rfl⟩
  | w::r => by
    obtain ⟨h1, h2, h3, h4⟩ := fN r
    refine ⟨?_, ?_, ?_, ?_⟩
    · show (PyData.showable (.str (toS w)) && PyData.showableAll (dws r))=true
      rw [h1];rfl
    · show (PyData.hasDict (.str (toS w)) || PyData.hasDictAll (dws r))=false
      rw [h2];rfl
    · show max (PyData.depth (.str (toS w))) (PyData.depthAll (dws r))=0
      rw [h3];rfl
    · show (PyData.leavesShort 13 (.str (toS w)) && PyData.leavesShortAll 13 (dws r))=true
      rw [h4, Bool.and_true]
      show ((toS w).cps.toList.all fun c => decide (c < 16 ^ 8))=true
      rw [uR]
      intro c hc
      rw [aR] at hc
      obtain ⟨x, _, rfl⟩ := tU.mp hc
      exact rp (q_ (lM x) (by decide))
end Kx
namespace L2
open PySem PySem.Spec PyProof.Rows Wd
section
variable {X : Cx} {tg : Expr}
end
section
variable {X : Cx} {o e : Expr} {es : List Expr} {to : TE} {t : TA} {name : Str} {apos cpos : Pos} {T id : String} {r : V → List V → Hp → VK → Prop} {K : PySem.W.Frag}
end
end L2
namespace L2
open PySem PySem.Spec PyProof.Rows Wd
section
variable {X : Cx}
inductive bh (K : PySem.W.Frag)(xs : List V)(H : Hp)(Q : VK) : Prop
  | mk : ∀ x t b n, (xs=[x, .ty n]) → (fD K H x t) → (PySem.W.kitOne K t (.type n)=some b) → (Q (.bl b) H) → bh K xs H Q
theorem fi : bD X (.builtin "isinstance") (bh X.K) := by
  intro pins s σ H xs us Q I r h
  obtain ⟨x, t, b, n, rfl, ty, e, q⟩ := h
  obtain ⟨u, u2, rfl, rx, r2⟩ := k9 r
  cases r2
  exact gP I rx ty e fun tk => ⟨.bl b, H, I.tok _, rfl, q⟩
inductive kC (x : V)(vs : List V)(H : Hp)(Q : VK) : Prop
  | mk : ∀ z y i rest, (x = .str z) → (vs=[.str y]) → (Builtin.Str.occurrences z y 0 z.length 1=i::rest) → (Q (.int (i : Nat)) H) → kC x vs H Q
theorem fO : MtR X "str.index" kC := by
  intro pins s σ H x vs v us Q I rx rv h
  obtain ⟨z, y, i, rest, rfl, rfl, ho, q⟩ := h
  obtain ⟨t, rfl⟩ := rx
  obtain ⟨u1, rfl, ⟨t1, rfl⟩⟩ := bX rv
  exact SC.index ho ⟨.int _, H, I.tok _, ⟨_, rfl⟩, q⟩
def cO (z : Str) : List V := z.cps.toList.map fun c => .str ⟨#[c]⟩
theorem cU {z : Str}{acc : Array Value}(h : ItemsOf (SignAt z) acc z.cps.size) : aI (cO z) acc.toList := by
  have all : ∀ (cs : List Nat) (us : List Value), cs.length=us.length → (∀ (j : Nat) (v : Value), us[j]? = some v → ∃ c u, cs[j]? = some c ∧ v = .str ⟨#[c]⟩ u) → aI (cs.map fun c => V.str ⟨#[c]⟩) us := by
    intro cs
    induction cs with
    | nil =>
      intro us hl _
      cases us with
      | nil => exact .nil
      | cons _ _ => simp at hl
    | cons c cs ih =>
      intro us hl hh
      cases us with
      | nil => simp at hl
      | cons u us =>
        obtain ⟨c', t, e1, e2⟩ := hh 0 u rfl
        have : c=c' := rl e1
        subst this
        exact .cons ⟨t, e2⟩ (ih us (by simpa using hl) fun j v hj => hh (j+1) v (by simpa using hj))
  refine all _ _ (by rw [se, se];exact h.1.symm) fun j v hj => ?_
  obtain ⟨c, u, e1, e2⟩ := h.2 j v (by simpa using hj)
  exact ⟨c, u, by simpa using e1, e2⟩
inductive bb  (xs : List V)(H : Hp)(Q : VK) : Prop
  | mk : ∀ z, (xs=[.str z]) → (z.length≤sizeLine) → (∀ p, H p=none → Q (.ref p) (upd H p (.lst (cO z)))) → bb xs H Q
theorem cJ (hc : X.calm=true) : bD X (.type "list") bb := by
  intro pins s σ H xs us Q I r h
  obtain ⟨z, rfl, hz, q⟩ := h
  obtain ⟨u, rfl, t, rfl⟩ := bX r
  refine call_list_str (I.ok.hd hc) z t (fun h' tk acc' c' kp e hI => ?_) hz
  have hl : (cO z).length≤sizeLine := by unfold cO;rw [rn, se];exact hz
  exact ⟨.ref s.heap.objs.size, _, I.laid kp (rh _) (show aP X.prog X.w _ h' _ (.lst (cO z)) from ⟨hl, acc'.toList, c', cU hI, by simpa using e⟩), rfl, q _ (I.hok.fresh (rh _))⟩
theorem gh {K : PySem.W.Frag}(hK : X.K=K) : OpR X (compareOp .NotIn) (rIn K true) := by
  subst hK
  exact d3
end
end L2
namespace PySem
open Sem (wp)
section
variable {prog : Program} {w : World} {A : Around} {E : Value → Shared → Prop} {s : Shared} {z TI TO i1 i2 : Addr} {x y : Str} {t u : Tok} {k c d : Nat} {a b : Value}
end
end PySem
namespace PySem
end PySem
namespace L2
open PySem PySem.Spec PyProof.Rows
section
variable {X : Cx}
end
end L2
namespace L2
open PySem PySem.Spec PyProof.Rows Wd
theorem jI {X : Cx}{K : PySem.W.Frag}(hK : X.K=K) : bD X (.builtin "isinstance") (bh K) := by
  subst hK
  exact fi
inductive Th (K : PySem.W.Frag)(H : Hp) : V → Prop
  | str (z : Str) (h : z.length≤500) : Th K H (.str z)
  | oth {x : V} {n : String} (ty : fD K H x (.type n)) (e : PySem.W.kitOne K (.type n) (.type "str")=some false) (ns : ∀ z, x ≠ .str z) : Th K H x
theorem lT {K : PySem.W.Frag} : PySem.W.kitOne K (.type "str") (.type "str")=some true := by unfold PySem.W.kitOne; rw [if_pos (by rfl)]
def pE : List Str := ([0, 1, 2, 3, 4, 5, 6, 7, 8, 9, 10, 11] : List L).map fun x => toS [x]
end L2
namespace Kx
open PySem PySem.Spec PyProof.Rows L2 Wd
inductive nG (vs : List V)(H : Hp)(Q : VK)(u3_ : XK) : Prop
  | mk : ∀ (x : L), (vs=[tx [x]]) → (Q (.int ((x.val % 6 : Nat) : Int)) H) → nG vs H Q u3_
theorem nH : ∀ x : L, Builtin.Str.occurrences ("abcdef" : Str) (Txt.lower (toS [x])) 0 ("abcdef" : Str).length 1=[x.val % 6] := by
  have q : ∀ x : L, Builtin.Str.occurrences ("abcdef" : Str) (⟨(([x].map cp).map lo1).toArray⟩ : Str) 0 ("abcdef" : Str).length 1=[x.val % 6] := by decide +kernel
  intro x
  rw [eh]
  exact q x
end Kx
namespace L2
open PySem PySem.Spec PyProof.Rows Wd
section
variable {X : Cx}
end
end L2
namespace Kx
open PySem PySem.Spec PyProof.Rows L2 Wd
theorem s12 : toS [0, 1, 2, 3, 4, 5, 6, 7, 8, 9, 10, 11]=("abcdefABCDEF" : Str) := by decide +kernel
end Kx
namespace L2
open PySem PySem.Spec PyProof.Rows Wd
theorem pF {X : Cx}{a : Expr}{ta : TE}(ha : PE X a ta)(he : ∀ whole, isTrue a X.env whole=(do let v ← whole; standAt a.pos; holding [v] (truthy v))) : PT X a (kZ ta) := by
  intro pins s σ H Q I h
  refine isTrue_plain (thn (ha pins s σ H _ I h) fun v s1 ⟨x, H1, I1, r1, q1⟩ => kf pins s1 σ H1 x v Q I1 r1 ?_) (he _)
  obtain ⟨k, e, q⟩ := q1
  subst e
  exact ⟨k, rfl, q⟩
theorem Fd.neT {H : Hp}{d a : Addr}{xs : List V}(F : Fd H d)(h : H a=some (.tup xs)) : a≠d := by
  obtain ⟨c, i, l, t, ns, h1, h2, h3, h4⟩ := F.ex
  exact gw h h1 (by intro z;cases z)
end L2
namespace L2
open PySem PySem.Spec PyProof.Rows
end L2
namespace L2
open PySem PySem.Spec PyProof.Rows Wd
end L2
namespace PySem
open Sem (wp)
open AutoSeq1 (wpAny_loadPart')
section
variable {prog : Program} {w : World} {A : Around} {E : Value → Shared → Prop} {s : Shared}
end
end PySem
namespace L2
open PySem PySem.Spec PyProof.Rows Wd
section
variable {X : Cx}
end
end L2
namespace PySem
open Sem (wp)
section
variable {prog : Program} {w : World} {A : Around} {E : Value → Shared → Prop} {s : Shared} {z TI TO i1 i2 : Addr} {k n1 n2 : Nat} {a b : Value} {fp1 fp2 : List Addr} {P1 P2 : Nat → Value → Prop} {S1 S2 : Nat → Heap → Prop}
end
end PySem
namespace PySem
end PySem
namespace L2
open PySem PySem.Spec PyProof.Rows Wd
section
variable {X : Cx}
end
end L2
namespace L2
open PySem PySem.Spec PyProof.Rows Wd
section
variable {X : Cx}
end
end L2
namespace Kx
open PySem PySem.Spec PyProof.Rows L2 Wd
end Kx
namespace L2
open PySem PySem.Spec PyProof.Rows Wd
section
variable {X : Cx} {tg : Expr}
inductive nI (x : V)(y : V)(H : Hp)(Q : VK) : Prop
  | mk : ∀ (a b : Addr) (ys zs : List Str), (x = .ref a) → (y = .ref b) → (H a=some (.lst (ys.map V.str))) → (H b=some (.lst (zs.map V.str))) → (ys.length=zs.length) → (Q (.bl (decide (ys=zs))) H) → nI x y H Q
theorem du : ∀ {ys : List Str} {us : List Value} {i : Nat} {v : Value}, aI (ys.map V.str) us → us[i]? = some v → ∃ y t, ys[i]? = some y ∧ v = .str y t
  | [], us, i, v, r, h => by rw [uv] at r;cases r;simp at h
  | y::ys, us, i, v, r, h => by
    rw [rK] at r
    cases r with
    | cons r1 r2 =>
      cases i with
      | zero => simp at h;subst h;obtain ⟨t, e⟩ := r1;exact ⟨y, t, rfl, e⟩
      | succ i => obtain ⟨y', t, e1, e2⟩ := du (i := i) r2 (by simpa using h);exact ⟨y', t, by simpa using e1, e2⟩
theorem kD : ∀ (ys zs : List Str), ys.length=zs.length → ((List.range ys.length).all fun j => ys.getD j Str.empty == zs.getD j Str.empty)=decide (ys=zs)
  | [], [], _ => rfl
  | [], _::_, h => by cases h
  | _::_, [], h => by cases h
  | y::ys, z::zs, h => by
    have ih := kD ys zs (by simpa using h)
    rw [rS, List.range_succ_eq_map, u7, List.all_map]
    have e : ((fun j => (y::ys).getD j Str.empty == (z::zs).getD j Str.empty) ∘ Nat.succ)=fun j => ys.getD j Str.empty == zs.getD j Str.empty := by funext j;simp
    rw [e, ih]
    show ((y == z) && _)=_
    by_cases hyz : y=z <;> by_cases hs : ys=zs <;> simp [hyz, hs]
theorem jJ (hu : X.A.units+64 < cLine) : OpR X (compareOp .Eq) nI := by
  intro pins s σ H x y v u Q I rx ry h
  obtain ⟨a, b, ys, zs, rfl, rfl, ha, hb, hl, q⟩ := h
  cases rx
  cases ry
  obtain ⟨its, n, rv, ea, _⟩ := I.lst ha
  obtain ⟨its2, n2, rv2, eb, _⟩ := I.lst hb
  have l1 := rv.length
  have l2 := rv2.length
  rw [rn] at l1 l2
  refine EqBoolInt.of_rc (SeqAt.RcAt.lists (e := fun j => ys.getD j Str.empty == zs.getD j Str.empty) (⟨_, ea, rfl, _, rfl⟩ : s.heap.IsList a its.toArray) (⟨_, eb, rfl, _, rfl⟩ : s.heap.IsList b its2.toArray) (by simp;omega) (by omega) (fun j h1 h2 => ?_)) ?_
  · have g1 : its[j]? = some its.toArray[j] := by simp
    have g2 : its2[j]? = some its2.toArray[j] := by simp
    obtain ⟨y1, t1, e1, e2⟩ := du rv g1
    obtain ⟨y2, t2, e3, e4⟩ := du rv2 g2
    rw [e2, e4]
    have e5 : ys.getD j Str.empty=y1 := by rw [sm, e1];rfl
    have e6 : zs.getD j Str.empty=y2 := by rw [sm, e3];rfl
    show SeqAt.EqAt _ _ _ _ (ys.getD j Str.empty == zs.getD j Str.empty)
    rw [e5, e6]
    exact SeqAt.EqAt.str_str y1 t1 y2 t2
  · have e : ((List.range its.toArray.size).all fun j => ys.getD j Str.empty == zs.getD j Str.empty)=decide (ys=zs) := by
      rw [rj, ← l1]
      exact kD ys zs hl
    rw [e]
    exact ⟨.bl _, H, I, rfl, q⟩
end
end L2
namespace Kx
open PySem PySem.Spec PyProof.Rows L2 Wd
def dV : V → PyData
  | .int i => .int i
  | .str z => .str z
  | _ => .none
end Kx
namespace HT
open PySem PySem.Spec PyProof.Rows
section
variable {prog : Program} {w : World} {A : Around} {E : Value → Shared → Prop} {s : Shared}
end
end HT
namespace L2
open PySem PySem.Spec PyProof.Rows Wd
end L2
namespace PySem
open Sem (wp)
section
variable {prog : Program} {w : World} {A : Around} {E : Value → Shared → Prop} {s : Shared}
section
variable {R : Result → Shared → Prop} {I : Addr} {fp wr : List Addr} {G : Array GenState → Array GenState → Prop} {n : Nat} {P : Nat → Value → Prop} {St : Nat → Shared → Prop}
end
end
end PySem
namespace PySem
open Sem (wp)
section
variable {prog : Program} {w : World} {A : Around} {E : Value → Shared → Prop} {s : Shared}
end
end PySem
namespace L2
open PySem PySem.Spec PyProof.Rows
theorem fP {h : Heap}{T : Addr}{o : Obj}{f : Obj → Obj}(ho : h.get? T=some o)(hf : f o=o)(b : Addr) : (h.update T f).get? b=h.get? b := by
  by_cases e : T=b
  · subst e
    have := sf f ho (by rw [hf];exact (Heap.get?_some_iff.mp ho).2)
    rw [this, hf, ho]
  · exact rD _ _ e
theorem fQ {oT : Obj}{ts : Array Value}{i : Nat}{v : Value}(hd : oT.data = .fields ts)(h3 : ts[i]? = some v) : Obj.mapFields (·.setIfInBounds i v) oT=oT := by
  obtain ⟨c, d, dt, sl⟩ := oT
  simp only at hd
  subst hd
  obtain ⟨hi, hv⟩ := rX.mp h3
  have : ts.setIfInBounds i v=ts := by
    apply Array.ext
    · simp
    · intro j h1 h2
      by_cases hj : i=j
      · subst hj;simp [hv]
      · rw [Array.getElem_setIfInBounds_ne _ hj]
  simp only [Obj.mapFields, this]
def oM (T : Addr)(h : Heap)(a : Addr)(fl : Value) : Prop :=
  ∃ oe vs oT ts, h.get? a=some oe ∧ oe.data = .fields vs ∧ vs[1]? = some (.ref T) ∧ T≠a ∧ h.get? T=some oT ∧ oT.data = .fields ts ∧ ts[3]? = some fl
def Flt (h : Heap)(a : Addr)(fl : Value) : Prop := ∃ T, oM T h a fl
structure Nts (fs : List Addr) (a : Addr) (fl : Value) (h h' : Heap) : Prop where
  keep : ∀ b o, b∉fs → b≠a → h.get? b=some o → h'.get? b=some o
  slot : ∀ b o, b∈fs → h.get? b=some o → ∃ sl, h'.get? b=some { o with slots := sl }
  exc : ∀ oe vs, h.get? a=some oe → oe.data = .fields vs → ∃ oe' vs', h'.get? a=some oe' ∧ oe'.cls=oe.cls ∧ oe'.dict=oe.dict ∧ oe'.data = .fields vs' ∧ vs'.size=vs.size ∧ vs'[2]? = vs[2]?
  fly : ∃ T, h.objs.size≤T ∧ oM T h' a fl
section
variable {M : Model} {A : Around} {E : Value → Shared → Prop} {s : Shared}
set_option maxHeartbeats 1600000 in
theorem kE {base : Heap}{env : Env}{outer : List Env}{L e : Addr}{oe : Obj}{vs : Array Value}{head : Value}{hadNext : Bool}{Q : Unit → Shared → Prop}
    (hfr : A.frames=some (env::outer)) (hl : s.heap.FunFrames base (env::outer)) (hf : env.frame=some L)
    (he : s.heap.get? e=some oe) (hd : oe.data = .fields vs) (hsz : 1 < vs.size)
    (h : ∀ h', Nts (frs (env::outer)) e (rawInt L) s.heap h' → Q () { s with heap := h' }) :
    wpAny M A (do let a ← frameOf env;let pl ← entryPlaceOf L hadNext;let b ← EntryCells.newEntry head a .none (rawInt L) .none pl;setField (.ref e) 1 b) Q E s := by
  have hene : e∉frs (env::outer) := fun hm => by
    obtain ⟨_, o, ho, hnf⟩ := hl.mem hm
    rw [he] at ho;injection ho with ho;subst ho;exact hnf vs hd
  refine q8 (wpAny_frameOf_fun hfr hl hf fun h₁ hs₁ => ?_)
  refine q8 (wpAny_entryPlaceOf fun pl hpl => ?_)
  unfold EntryCells.newEntry newFields
  refine q8 (uL ?_ (hpl.sizeOk5 _ _ _ _ _))
  generalize hN : ({ cls := .type "traceback", dict := none, data := .fields ([head, .ref L, .none, rawInt L, .none]++(if pl.isEmpty then List.replicate 6 Value.none else pl)).toArray } : Obj)=oN
  have hNd : oN.data = .fields ([head, .ref L, .none, rawInt L, .none]++(if pl.isEmpty then List.replicate 6 Value.none else pl)).toArray := by rw [← hN]
  have hNf : oN.isFreed=false := by rw [← hN];rfl
  have he₁ : h₁.get? e=some oe := (hs₁.2.1 e hene).trans he
  have he₂ := fu (h := h₁) oN he₁
  refine sQ he₂ hd hsz (h _ ?_)
  have hTe : h₁.objs.size≠e := u_ (q9 he₁)
  have hd₃ := sj hd (·.setIfInBounds 1 (Value.ref h₁.objs.size))
  have he₃ := sf (Obj.mapFields (·.setIfInBounds 1 (Value.ref h₁.objs.size))) he₂ (so hd₃)
  have hT₃ := (rD (h₁.push oN) (Obj.mapFields (·.setIfInBounds 1 (Value.ref h₁.objs.size))) (Ne.symm hTe)).trans (ri h₁ hNf)
  have keep : ∀ b o, b≠e → h₁.get? b=some o → ((h₁.push oN).update e (Obj.mapFields (·.setIfInBounds 1 (Value.ref h₁.objs.size)))).get? b=some o := fun b o hbe hb => by
    rw [rD _ _ (Ne.symm hbe)]
    exact fu _ hb
  refine ⟨fun b o hb hbe q => keep b o hbe ((hs₁.2.1 b hb).trans q), fun b o hb q => ?_, fun oe' vs' q qd => ?_, ?_⟩
  · obtain ⟨sl, q'⟩ := hs₁.2.2 b o q
    exact ⟨sl, keep b _ (fun z => hene (z ▸ hb)) q'⟩
  · rw [he] at q;cases q
    rw [hd] at qd;cases qd
    refine ⟨_, _, he₃, uK _ _, ?_, hd₃, by simp, sI (by decide)⟩
    obtain ⟨c, d, dt, sl⟩ := oe
    cases dt <;> rfl
  · refine ⟨h₁.objs.size, uB hs₁.1.symm, _, _, oN, _, he₃, hd₃, by simp [hsz], hTe, hT₃, hNd, ?_⟩
    first | (simp;done) | (rcases hpl with rfl | ⟨_, _, _, _, _, _, _, rfl⟩ <;> simp)
theorem nJ {base : Heap}{env : Env}{outer : List Env}{L e : Addr}{oe : Obj}{vs : Array Value}{Q : Unit → Shared → Prop}
    (hfr : A.frames=some (env::outer)) (hl : s.heap.FunFrames base (env::outer)) (hf : env.frame=some L)
    (he : s.heap.get? e=some oe) (hd : oe.data = .fields vs) (h1 : vs[1]? = some .none ∨ Flt s.heap e .none)
    (h : ∀ h', Nts (frs (env::outer)) e (rawInt L) s.heap h' → Q () { s with heap := h' }) : wpAny M A (noteFrame (.ref e) env) Q E s := by
  unfold noteFrame
  simp only [hf]
  rcases h1 with h1 | ⟨T, oe', vs', oT, ts, he', hd', h1, hTe, hT, hdT, h3⟩
  · refine q8 (sM he hd h1 ?_)
    rw [if_neg (by decide)]
    exact kE hfr hl hf he hd (rX.mp h1).1 h
  · rw [he] at he';cases he'
    rw [hd] at hd';cases hd'
    refine q8 (sM he hd h1 ?_)
    rw [if_pos (show (Value.ref T != Value.none)=true from by simp)]
    refine q8 (sM hT hdT h3 ?_)
    rw [if_neg (show ¬ ((Value.none == rawInt L)=true) from by simp [rawInt])]
    refine q8 (sQ hT hdT (rX.mp h3).1 ?_)
    have idle := fP (f := Obj.mapFields (·.setIfInBounds 3 Value.none)) hT (fQ hdT h3)
    refine kE hfr (hl.of_keeps fun b o hb _ => ⟨o, (idle b).trans hb, rfl⟩) hf ((idle e).trans he) hd (rX.mp h1).1 fun h' N => h h' ?_
    obtain ⟨k1, k2, k3, k4⟩ := N
    refine ⟨fun b o hb hbe q => k1 b o hb hbe ((idle b).trans q), fun b o hb q => k2 b o hb ((idle b).trans q), fun o v q d => k3 o v ((idle e).trans q) d, ?_⟩
    obtain ⟨T', b1, b2⟩ := k4
    exact ⟨T', rJ (uB (Heap.size_after_update ..).symm) b1, b2⟩
theorem fj {T e : Addr}{fl : Value}{Q : Unit → Shared → Prop}(hF : oM T s.heap e fl)
    (h : ∀ h', oM T h' e .none → (∀ b o, b≠T → s.heap.get? b=some o → h'.get? b=some o) → (∀ b, (∃ o, s.heap.get? b=some o) → ∃ o, h'.get? b=some o) → (fl = .none → ∀ b, h'.get? b=s.heap.get? b) → Q () { s with heap := h' }) :
    wpAny M A (setFlight (.ref e) none) Q E s := by
  obtain ⟨oe, vs, oT, ts, he, hd, h1, hTe, hT, hdT, h3⟩ := hF
  have hsz3 : 3 < ts.size := (rX.mp h3).1
  have other : ∀ b, b≠T → (s.heap.update T (Obj.mapFields (·.setIfInBounds 3 ((none : Option Addr).elim Value.none fun f => rawInt f)))).get? b=s.heap.get? b :=
    fun b hb => rD _ _ (Ne.symm hb)
  have hT' := sf (Obj.mapFields (·.setIfInBounds 3 ((none : Option Addr).elim Value.none fun f => rawInt f))) hT (so (sj hdT _))
  unfold setFlight
  refine q8 (sM he hd h1 ?_)
  rw [if_pos (show (Value.ref T != Value.none)=true from by simp)]
  refine sQ hT hdT hsz3 (h _ ⟨oe, vs, _, _, (other e (Ne.symm hTe)).trans he, hd, h1, hTe, hT', sj hdT _, by simp [hsz3]⟩ (fun b o hb q => (other b hb).trans q) (fun b ⟨o, q⟩ => ?_) fun z b => ?_)
  · by_cases z : b=T
    · subst z;exact ⟨_, hT'⟩
    · exact ⟨o, (other b z).trans q⟩
  · subst z
    exact fP hT (fQ hdT h3) b
theorem kF {base : Heap}{env : Env}{outer : List Env}{L e : Addr}{oe : Obj}{vs : Array Value}{Q : Unit → Shared → Prop}
    (hfr : A.frames=some (env::outer)) (hl : s.heap.FunFrames base (env::outer)) (hf : env.frame=some L)
    (he : s.heap.get? e=some oe) (hd : oe.data = .fields vs) (h1 : vs[1]? = some .none ∨ Flt s.heap e .none)
    (h : ∀ h', Nts (frs (env::outer)) e .none s.heap h' → Q () { s with heap := h' }) : wpAny M A (leaving env (.ref e)) Q E s := by
  unfold leaving
  refine q8 (nJ hfr hl hf he hd h1 fun h₁ N => ?_)
  obtain ⟨k1, k2, k3, T, hT, k4⟩ := N
  refine fj (s := { s with heap := h₁ }) k4 fun h₂ f1 f2 f3 _ => h h₂ ⟨fun b o hb hbe q => f2 b o (fun z => ?_) (k1 b o hb hbe q), fun b o hb q => ?_, fun oe vs q qd => ?_, T, hT, f1⟩
  · exact absurd (q_ (q9 q) (z ▸ hT)) (rG _)
  · obtain ⟨sl, q'⟩ := k2 b o hb q
    exact ⟨sl, f2 b _ (fun z => absurd (q_ (q9 q) (z ▸ hT)) (rG _)) q'⟩
  · obtain ⟨oe', vs', q1, q2⟩ := k3 oe vs q qd
    exact ⟨oe', vs', f2 e _ (fun z => absurd (q_ (q9 q) (z ▸ hT)) (rG _)) q1, q2⟩
end
end L2
namespace L2
open PySem PySem.Spec PyProof.Rows
def exo (a C : Addr)(d : Option Addr)(b c : Bool) : Heap → Prop := fun h =>
  ∃ oe vs, h.get? a=some oe ∧ oe.cls = .ref C ∧ oe.dict=d ∧ oe.data = .fields vs ∧ vs.size=6 ∧ (b=true → vs[1]? = some .none) ∧ (c=true → vs[2]? = some .none)
abbrev Exo (a C : Addr)(d : Option Addr)(b : Bool)(c : Bool := false) : HO := .ext (exo a C d b c)
theorem jK {a C : Addr}{d : Option Addr}{b c : Bool}{h1 h2 : Heap}(x : exo a C d b c h1)(k : ∀ o, h1.get? a=some o → h2.get? a=some o) : exo a C d b c h2 :=
  let ⟨oe, vs, q, r⟩ := x;⟨oe, vs, k _ q, r⟩
theorem fR {P : Program}{w : World}{H : Hp}{h : Heap}{a C : Addr}{d : Option Addr}{b c : Bool}(x : exo a C d b c h) : aP P w H h a (Exo a C d b c) :=
  ⟨x, let ⟨oe, _, q, _⟩ := x;⟨oe, q⟩, fun _ _ y k => jK y k⟩
theorem dv {H : Hp}{a : Addr}{o : HO}(h : H a=some o) : upd H a o=H := by
  funext b
  by_cases e : b=a
  · subst e;rw [ag, h]
  · rw [ak e]
def CXe (P : Program)(w : World) : CXT := fun outer H s E e s' =>
  ∃ a C d c H', e = .ref a ∧ s'.os=s.os ∧ AllBare s'.gens ∧ Un (frs outer) [] H H' s.heap s'.heap ∧ HOk P w H' s'.heap ∧ H' a=some (Exo a C d false c) ∧ Flt s'.heap a .none ∧ E (.ref a) none H'
section
variable {P : Program} {w : World} {H : Hp} {h h' : Heap} {fs : List Addr} {e C : Addr} {d : Option Addr} {b cx : Bool} {fl : Value}
theorem iu (ok : HOk P w H h)(he : H e=some (Exo e C d b cx))(hfs : ∀ c∈fs, H c=none)(N : Nts fs e fl h h') :
    Un fs [] H (upd H e (Exo e C d false cx)) h h' ∧ HOk P w (upd H e (Exo e C d false cx)) h' := by
  obtain ⟨⟨oe, vs, g1, g2, g3, g4, g5, g6, g7⟩, _, _⟩ := ok e _ he
  obtain ⟨oe', vs', n1, n2, n3, n4, n5, n6⟩ := N.exc oe vs g1 g4
  have hx : exo e C d false cx h' := ⟨oe', vs', n1, n2.trans g2, n3.trans g3, n4, n5.trans g5, (fun z => by cases z), fun z => n6.trans (g7 z)⟩
  have ne : ∀ c, H c=none → c≠e := fun c n z => by rw [z, he] at n;cases n
  have ne' : ∀ c u, H c=some u → u≠Exo e C d b cx → c≠e := fun c u q n z => by rw [z, he] at q;cases q;exact n rfl
  refine ⟨⟨fun c o q n hc _ => N.keep c o hc (ne c n) q, fun c o q n hc _ => N.slot c o hc q, fun c o q n _ => by rw [ak (ne c n)];exact n, fun c o q _ => ?_,
    fun c xs q => by rw [ak (ne' c _ q (by intro z;cases z))];exact q, fun c o u q => by rw [ak (ne' c _ q (by intro z;cases z))];exact q, fun c ps q => ⟨#[], by rw [ak (ne' c _ q (by intro z;cases z)), q];simp⟩⟩, fun c u q => ?_⟩
  · by_cases z : c=e
    · subst z;exact ⟨_, n1⟩
    · by_cases y : c∈fs
      · obtain ⟨sl, r⟩ := N.slot c o y q
        exact ⟨_, r⟩
      · exact ⟨o, N.keep c o y z q⟩
  · by_cases z : c=e
    · subst z;rw [ag] at q;cases q;exact fR hx
    · rw [ak z] at q
      refine (ok c u q).stay (fun x v hx q' => ?_) (fun x hx => by rw [ak (ne' x _ hx (by intro z;cases z))];exact hx) fun x xs hx => by rw [ak (ne' x _ hx (by intro z;cases z))];exact hx
      have nx : x≠e := by
        rcases hx with rfl | hx
        · exact z
        · exact ne' x _ hx (by intro z;cases z)
      refine N.keep x v (fun y => ?_) nx q'
      have := hfs x y
      rcases hx with rfl | hx
      · rw [this] at q;cases q
      · rw [this] at hx;cases hx
end
def kG (X : Cx)(E : XK) : Prop := ∀ (pins : List (Addr × Obj)) (σ : St) (H : Hp) (s : Shared) (a C : Addr) (d : Option Addr) (c : Bool), Inv X pins σ H s → H a=some (Exo a C d true c) → E (.ref a) none (upd H a (Exo a C d false c)) → X.xe (.ref a) s
section
variable {P : Program} {w : World} {K : PySem.W.Frag} {mg : Str → Option Value} {base : Heap} {N : List Str} {qual : Str} {scope : Scope} {f : Addr} {cd : Value} {A : Around} {outer : List Env} {s : Shared} {H : Hp} {E : XK}
theorem iA {pins : List (Addr × Obj)}{σ : St}{H1 : Hp}{s1 : Shared}{a C : Addr}{d : Option Addr}{b c : Bool}(I : Inv (eY (CXe P w) P w K mg base N qual scope f cd A outer s H E) pins σ H1 s1)
    (ha : H1 a=some (Exo a C d b c)) (hf : b=true ∨ Flt s1.heap a .none) (hE : E (.ref a) none (upd H1 a (Exo a C d false c))) : (eY (CXe P w) P w K mg base N qual scope f cd A outer s H E).xe (.ref a) s1 := by
  obtain ⟨⟨oe, vs, g1, g2, g3, g4, g5, g6, _⟩, _, _⟩ := I.hok a _ ha
  refine kF (base := base) (outer := outer) I.ok.frames I.stack rfl g1 g4 (hf.imp (fun z => g6 z) id) fun h' Nt => ?_
  obtain ⟨un, hok⟩ := iu I.hok ha I.stkFree Nt
  have J := I.call' (s' := { s1 with heap := h' }) rfl un hok I.bare (fun b z => absurd z (by simp))
  obtain ⟨T, _, hT⟩ := Nt.fly
  exact ⟨a, C, d, c, _, rfl, J.os, J.bare, J.base, J.hok, ag .., ⟨T, hT⟩, hE⟩
theorem cV : kG (eY (CXe P w) P w K mg base N qual scope f cd A outer s H E) E := fun pins σ H1 s1 a C d c I ha hE => iA I ha (.inl rfl) hE
end
end L2
namespace L2
open PySem PySem.Spec PyProof.Rows
abbrev bmV : List Value := [.type "ValueError", .type "Exception", .type "BaseException", .type "object"]
structure XCl (K : PySem.W.Frag) (C : Addr) (bm : List Value) : Prop where
  obj : ∃ dd cd k0 k1 k2 k3 k5, K.lookup C=some ⟨.type "type", dd, .cls cd, #[k0, k1, k2, k3, some (.builtin "ValueError.__new__"), k5]⟩ ∧ cd.mro = .ref C::bm ∧ cd.hasDel=false ∧ cd.hasDict=true
  tl : PySem.W.tailIn K bmV bm=true
  kp : PySem.W.keepIn K (.ref C)=true
abbrev fS (us : List Value) : Obj := { cls := .type "tuple", data := .seq us.toArray }
abbrev jc (C t : Addr) : Obj := { cls := .ref C, data := .fields #[.ref t, .none, .none, .none, .bool false, .none] }
theorem XCl.at {K : PySem.W.Frag}{C : Addr}{bm : List Value}{h : Heap}(x : XCl K C bm)(X : K.In h) : OwnTail h bmV bm ∧ ∃ nm q N bs sn sub ab col dd k0 k1 k2 k3 k5, h.get? C=some (excClassObj nm q C N bs bm true sn sub ab col dd k0 k1 k2 k3 k5 "ValueError.__new__") := by
  refine ⟨PySem.W.tail_of_in X x.tl, ?_⟩
  obtain ⟨dd, cd, k0, k1, k2, k3, k5, hl, hm, hd, hh⟩ := x.obj
  obtain ⟨nm, bs, mro, ns, qn, hdc, sn, sub, ab, col, del⟩ := cd
  dsimp only at hm hd hh
  subst hm hd hh
  exact ⟨nm, qn, ns, bs, sn, sub, ab, col, dd, k0, k1, k2, k3, k5, X _ _ hl⟩
section
variable {prog : Program} {w : World} {A : Around} {E : Value → Shared → Prop} {h : Heap} {g : Array GenState} {d : Drawn} {t : Nat} {os : OsState} {K : PySem.W.Frag} {C fI : Addr} {bm : List Value}
set_option maxHeartbeats 1600000 in
theorem fk {rest : List Value}{Q : Fin → Shared → Prop}(X : K.In h)(x : XCl K C bm)(hi : PySem.W.findIn K (.ref C) "__init__" = some (some (.ref fI)))(hf : PySem.W.isFn K (.ref fI)=true)
    (hq : wpAny (model prog w) A (call (.ref fI) (.ref (h.objs.size+1)::rest)) (fun r s' => r = .none ∧ Q (.done (.ret (.ref (h.objs.size+1)))) s') E ⟨(h.push (fS rest)).push (jc C h.objs.size), g, d, t, os⟩) (hrest : rest.length≤sizeLine) :
    wpAny (model prog w) A (Builtin.«type.__call__» ⟨.ref C::rest, []⟩) Q E ⟨h, g, d, t, os⟩ := by
  obtain ⟨T, nm, q, N, bs, sn, sub, ab, col, dd, k0, k1, k2, k3, k5, hC⟩ := x.at X
  have F := ur
  repeat (first | with_reducible refine rW hC ?_ | with_reducible refine wpAny_madeBy_exc hC ?_ | wp_step)
  refine codeAny_call_builtin_code (Code.quiet_builtin _ F.quiet) (wpAny_check_new_subT F T hC ?_)
  refine codeAny_exc_new_subT F T hC ?_ hrest
  show wpAny _ _ _ _ _ _
  have k1 : ∀ b o, h.get? b=some o → ((h.push (fS rest)).push (jc C h.objs.size)).get? b=some o := fun b o e => fu _ (fu _ e)
  have hC₁ := k1 _ _ hC
  have X₁ : K.In ((h.push (fS rest)).push (jc C h.objs.size)) := fun b o e => k1 b o (X b o e)
  have hget : ((h.push (fS rest)).push (jc C h.objs.size)).get? (h.objs.size+1)=some (jc C h.objs.size) := by heap_get
  have hcC : (Value.ref C::bm).contains (.ref C)=true := by simp
  unfold isInstance
  repeat (first | with_reducible refine rW hget ?_ | (with_reducible refine sP hC₁ ?_;rw [hcC]) | wp_step)
  show wpAny _ _ (typeLookup (.ref C) _) _ _ _
  refine (sY (M := model prog w) X₁ hi).at ?_
  refine ua (q8 ?_)
  unfold bindSpecial
  have L := PySem.W.looks_typeIn (M := model prog w) X₁ (u3.mp hf)
  refine q8 (L.at ?_)
  rw [if_pos (by decide)]
  refine rm (q8 (rO hq (fun r s' hr => ?_) fun _ _ x => x))
  obtain ⟨rfl, hQ⟩ := hr
  wp_walk
  exact hQ
theorem nK {rest : List Value}{Q : Value → Shared → Prop}(X : K.In h)(x : XCl K C bm)(hi : PySem.W.findIn K (.ref C) "__init__" = some (some (.ref fI)))(hf : PySem.W.isFn K (.ref fI)=true)
    (hq : wpAny (model prog w) (A.under (.builtin "type.__call__" ⟨.ref C::rest, []⟩)) (call (.ref fI) (.ref (h.objs.size+1)::rest)) (fun r s' => r = .none ∧ Q (.ref (h.objs.size+1)) s') E ⟨(h.push (fS rest)).push (jc C h.objs.size), g, d, t, os⟩) (hrest : rest.length≤sizeLine) :
    wpAny (model prog w) A (call (.ref C) rest) Q E ⟨h, g, d, t, os⟩ := by
  obtain ⟨T, nm, q, N, bs, sn, sub, ab, col, dd, k0, k1, k2, k3, k5, hC⟩ := x.at X
  have f1 := tc_lookup
  have f2 := tc_bind (.ref C)
  have hT : (⟨h, g, d, t, os⟩ : Shared).TypeIs (.ref C) "type" := ⟨_, hC, rfl⟩
  refine tK (codeAny_of_tree ?_)
  show wpAny _ _ (callAny (.ref C) _) _ _ _
  repeat (any_goals (first | assumption | with_reducible refine rW hC ?_ | wp_step))
  refine ⟨rfl, ?_⟩
  exact codeAny_call_builtin_at (Code.quiet_builtin _ (by decide +kernel)) entry_typeCall (wpAny_check_type_call_sub hC (fk X x hi hf hq hrest))
end
section
variable {X : Cx} {k : Nat} {f C : Addr} {fd : FuncData} {ps : List Str} {sp : Sp} {x : Str} {p pos : Pos} {e : Expr} {es : List Expr} {t : TA} {bm : List Value}
theorem Inv.madeX {pins : List (Addr × Obj)}{σ : St}{H : Hp}{s : Shared}(I : Inv X pins σ H s)(us : List Value) : Inv X pins σ (upd H (s.heap.objs.size+1) (Exo (s.heap.objs.size+1) C none true true)) { s with heap := (s.heap.push (fS us)).push (jc C s.heap.objs.size) } := by
  have I1 := I.kept (h' := s.heap.push (fS us)) (t' := s.toks) (fun b u q => fu _ q)
  refine I1.laid (a := s.heap.objs.size+1) (t' := s.toks) (fun b u q => fu _ q) (uB (uD _ _)) (fR ⟨jc C s.heap.objs.size, _, ?_, rfl, rfl, rfl, rfl, (fun _ => rfl), fun _ => rfl⟩)
  have := ri (s.heap.push (fS us)) (o := jc C s.heap.objs.size) rfl
  rwa [uD] at this
theorem iB {pins : List (Addr × Obj)}{σ : St}{H : Hp}{s : Shared}{Q : VK}{us : List Value}{vs : List V}(M : XCl X.K C bm)(hi : PySem.W.findIn X.K (.ref C) "__init__" = some (some (.ref f)))(hf : PySem.W.isFn X.K (.ref f)=true)
    (F : fE X.prog X.w X.K X.mg X.base CX0 k f fd ps sp) (hr : bp (k+1) X.A) (hb : cB X.K fd ps []) (I : Inv X pins σ H s) (r : aI vs us)
    (h : vs.length≤1000 ∧ ∀ x, H x=none → sp (.ref x::vs) (upd H x (Exo x C none true true)) (fun v H2 => v = .non ∧ Q (.ref x) H2) E0) : wpAny (model X.prog X.w) X.A (call (.ref C) us) (EP X pins σ Q) X.xe s := by
  obtain ⟨hl0, h⟩ := h
  have hq := h (s.heap.objs.size+1) (I.hok.fresh (Nat.le_succ _))
  have I2 := Inv.madeX (C := C) I us
  have r2 : aI (V.ref (s.heap.objs.size+1)::vs) (Value.ref (s.heap.objs.size+1)::us) := .cons rfl r
  have hl : (Value.ref (s.heap.objs.size+1)::us++[]).length=ps.length := by
    have e := r2.length
    rw [F.len _ _ _ _ hq] at e
    rw [sy]
    exact e.symm
  obtain ⟨hh, g, d, tk, os⟩ := s
  refine nK I.kIn M hi hf (tK ?_) (by rw [← r.length, sq];omega)
  have hb' := hb ⟨(hh.push (fS us)).push (jc C hh.objs.size), g, d, tk, os⟩ (Value.ref (hh.objs.size+1)::us) I2.kIn hl
  rw [sy] at hb'
  refine tQ (F.run _ X.stack _ _ ⟨Value.ref (hh.objs.size+1)::us, []⟩ (Value.ref (hh.objs.size+1)::us) _ _ E0 (hr.make C us []) (I2.env0.make C us []) hb' r2 hq) fun r s' hq' => ?_
  cases r with
  | error e => exact hq'.elim
  | ok fl =>
    cases fl with
    | ret u =>
      obtain ⟨v, H', I3, rv, ev, q3⟩ := I2.after hq'
      subst ev
      exact ⟨rv, ⟨V.ref (hh.objs.size+1), H', I3, rfl, q3⟩⟩
    | next => exact False.elim hq'
    | brk => exact False.elim hq'
    | cont => exact False.elim hq'
end
end L2
namespace L2
open PySem PySem.Spec PyProof.Rows Builtin Builtin.ObjectAttr
section
variable {prog : Program} {w : World} {A : Around} {E : Value → Shared → Prop} {h : Heap} {g : Array GenState} {d : Drawn} {t : Nat} {os : OsState} {K : PySem.W.Frag} {C e : Addr} {bm : List Value} {oe : Obj} {vs : Array Value}
theorem nL {rest : List Value}{R : Result → Shared → Prop}(X : K.In h)(x : XCl K C bm)(he : h.get? e=some oe)(hcls : oe.cls = .ref C)(hd : oe.data = .fields vs)(hsz : vs.size=6)(hrest : rest.length≤sizeLine)
    (hq : R (.ok (.ret .none)) ⟨(h.push (fS rest)).update e (Obj.mapFields (·.setIfInBounds 0 (.ref h.objs.size))), g, d, t, os⟩) :
    codeAny (model prog w) A (.call (.builtin "ValueError.__init__") ⟨.ref e::rest, []⟩) R ⟨h, g, d, t, os⟩ := by
  obtain ⟨T, nm, q, N, bs, sn, sub, ab, col, dd, k0, k1, k2, k3, k5, hC⟩ := x.at X
  have F := ur
  refine tY F.init.plain F.initEntry (wpAny_check_init_subT F T hC he hcls ?_)
  unfold Builtin.«BaseException.__init__»
  refine q8 (m := newTuple rest) ?_
  unfold newTuple
  refine uL ?_ (by show rest.toArray.size≤sizeLine;rw [rj];exact hrest)
  have he₁ := fu (h := h) (fS rest) he
  have h0 : ∃ a0, vs[0]? = some a0 := ⟨vs[0], uF (by omega)⟩
  obtain ⟨a0, h0⟩ := h0
  unfold BaseException.bexcPut
  refine q8 (q8 (sM he₁ hd h0 (q8 (sQ he₁ hd (by omega) ?_))))
  cases a0 <;> first | exact wpAny_letGo (rm hq) | exact rm (rm hq)
theorem fm {bm : List Value}{self : Value}(T : OwnTail h bmV bm) : refuseLoop self "__setattr__" bm=pure () := by
  induction T with
  | base => exact uM.passes self
  | own _ _ _ _ ih => rw [refuseLoop_ref];exact ih
structure qp (h h' : Heap) (e : Addr) (oe : Obj) (name : Str) (v : Value) (mA : Str → Option Value) (dx : Addr) : Prop where
  ns : h'.Ns1 dx fun y => if y=name then some v else mA y
  exc : h'.get? e=some { oe with dict := some dx }
  keep : ∀ b o, b≠e → b≠dx → h.get? b=some o → h'.get? b=some o
section
variable {name : Str} {v : Value} {mA : Str → Option Value}
set_option maxHeartbeats 1600000 in
theorem gi {tk : Tok}{Q : Fin → Shared → Prop}{ns : List Str}(X : K.In h)(x : XCl K C bm)(hna : PySem.W.findIn K (.ref C) name=some none)
    (hx : h.get? e=some oe) (hc : oe.cls = .ref C) (hnc : oe.data = .fields vs) (hd : (oe.dict=none ∧ ∀ n, mA n=none) ∨ ∃ dx, oe.dict=some dx ∧ dx≠e ∧ h.Ns1 dx mA)
    (hq : ∀ h' tk' dx, qp h h' e oe name v mA dx → (oe.dict=none → dx=h.objs.size) → (∀ dy, oe.dict=some dy → dx=dy) → Q (.done (.ret .none)) ⟨h', g, d, tk', os⟩) (hw : Within mA ns) (hsz : ns.length≤1000) :
    wpAny (model prog w) A (Builtin.«object.__setattr__» ⟨[.ref e, .str name tk, v], []⟩) Q E ⟨h, g, d, t, os⟩ := by
  obtain ⟨T, nm, q, N, bs, sn, sub, ab, col, dd, k0, k1, k2, k3, k5, hC⟩ := x.at X
  have hpass := fm (self := .ref e) T
  have L := sY (M := model prog w) X hna
  unfold Builtin.«object.__setattr__»
  repeat (first | rw [refuse_eq] | (rw [refuseLoop_ref, hpass]) | (with_reducible refine rW hx ?_;rw [hc]) | with_reducible refine wpAny_mroOf_exc hC ?_ | with_reducible refine L.at ?_ | wp_step)
  rcases hd with ⟨hdn, hmA⟩ | ⟨dx, hdx, hne, hns⟩
  · rw [hdn, if_neg (by simp [typeHasDict])]
    split
    · rename_i hcd
      cases hcd
    split
    · rename_i c hcd
      rw [hnc] at hcd;cases hcd
    · have hx₁ : (h.push { cls := .type "dict", data := .dict #[] }).get? e=some oe := fu _ hx
      have hxs : e≠h.objs.size := rC (q9 hx)
      refine q8 (wpAny_alloc' ?_)
      refine q8 (wpAny_update' hx₁ ?_)
      refine rm ?_
      have hgd : ((h.push { cls := .type "dict", data := .dict #[] }).update e fun o => { cls := o.cls, dict := some h.objs.size, data := o.data, slots := o.slots }).get? h.objs.size
          = some { cls := .type "dict", data := .dict #[] } :=
        (Heap.get?_update_ne _ _ _ _ hxs.symm).trans (Heap.get?_push_at rfl rfl)
      have hnd : ((h.push { cls := .type "dict", data := .dict #[] }).update e fun o => { cls := o.cls, dict := some h.objs.size, data := o.data, slots := o.slots }).Ns h.objs.size (fun _ => none) :=
        ⟨_, #[], _, hgd, rfl, fun e he => absurd he (by simp), fun _ => rfl⟩
      show wpAny _ _ (storeInDict h.objs.size (.str name tk) name v) _ _ _
      unfold storeInDict newKeyGuard
      refine q8 (rm (q8 (wpAny_nsSet1 (Heap.Ns1.of_empty hnd) fun h' hn' hs => ?_)))
      obtain ⟨oD, esD, epD, hoD, hdD, hcD⟩ := hn'.count (Within.cons name v Within.nil)
      refine q8 (wpAny_lookBehind hoD (by rw [hdD];exact pastItsLine_dict (rJ hcD (by rw [rS, uh, sq];omega))) ?_)
      wp_walk
      refine hq h' _ h.objs.size ⟨?_, ?_, fun b o hbx _ hb => ?_⟩ (fun _ => rfl) fun dy q => by rw [hdn] at q;cases q
      · obtain ⟨o', es, ep, e1, e2, e3, eu, e4⟩ := hn'
        exact ⟨o', es, ep, e1, e2, e3, eu, fun y => by rw [e4 y];by_cases hy : y=name <;> simp [hy, hmA]⟩
      · exact (hs.2 e hxs).trans (sf _ hx₁ (so hnc))
      · exact (hs.2 b (rC (q9 hb))).trans ((Heap.get?_update_ne _ _ _ _ hbx).trans (fu _ hb))
  · rw [hdx]
    refine rm ?_
    show wpAny _ _ (storeInDict dx (.str name tk) name v) _ _ _
    unfold storeInDict newKeyGuard
    refine q8 (rm (q8 (wpAny_nsSet1 hns fun h' hn' hs => ?_)))
    obtain ⟨oD, esD, epD, hoD, hdD, hcD⟩ := hn'.count (Within.cons name v hw)
    refine q8 (wpAny_lookBehind hoD (by rw [hdD];exact pastItsLine_dict (rJ hcD (by rw [rS, sq];omega))) ?_)
    wp_walk
    refine hq h' _ dx ⟨hn', ?_, fun b ob _ hbd hb => (hs.2 b hbd).trans hb⟩ (fun q => by rw [hdx] at q;cases q) fun dy q => by rw [hdx] at q;cases q;rfl
    rw [(hs.2 e hne.symm).trans hx]
    obtain ⟨c, dd, dt, sl⟩ := oe
    simp only at hdx
    subst hdx
    rfl
theorem iC {M : Model}{nameV : Value}{Q : Unit → Shared → Prop}(X : K.In h)(x : XCl K C bm)(hx : h.get? e=some oe)(hc : oe.cls = .ref C)(hq : Q () ⟨h, g, d, t, os⟩) :
    wpAny M A (checkBuiltinCall "object.__setattr__" ⟨[.ref e, nameV, v], []⟩) Q E ⟨h, g, d, t, os⟩ := by
  obtain ⟨T, nm, q, N, bs, sn, sub, ab, col, dd, k0, k1, k2, k3, k5, hC⟩ := x.at X
  have SF := uM
  have hcB : (Value.ref C::bm).contains (.type "object")=true := by rw [tw, T.hasType SF.hasOwner, uZ]
  have ha := SF.args (.ref e) nameV v
  simp only [checkBuiltinCall, SF.kind, SF.split]
  refine q8 ?_
  unfold isInstance
  repeat (first | (with_reducible refine rW hx ?_;rw [hc]) | (with_reducible refine sP hC ?_;rw [hcB]) | wp_step)
  exact hq
theorem pG {Q : Unit → Shared → Prop}{ns : List Str}(X : K.In h)(x : XCl K C bm)(hsa : PySem.W.findIn K (.ref C) "__setattr__" = some (some (.builtin "object.__setattr__")))(hna : PySem.W.findIn K (.ref C) name=some none)
    (hx : h.get? e=some oe) (hc : oe.cls = .ref C) (hnc : oe.data = .fields vs) (hd : (oe.dict=none ∧ ∀ n, mA n=none) ∨ ∃ dx, oe.dict=some dx ∧ dx≠e ∧ h.Ns1 dx mA)
    (hq : ∀ h' tk' dx, qp h h' e oe name v mA dx → (oe.dict=none → dx=h.objs.size) → (∀ dy, oe.dict=some dy → dx=dy) → Q () ⟨h', g, d, tk', os⟩) (hw : Within mA ns) (hsz : ns.length≤1000) :
    wpAny (model prog w) A (setAttr (.ref e) name v) Q E ⟨h, g, d, t, os⟩ := by
  obtain ⟨T, nm, q, N, bs, sn, sub, ab, col, dd, k0, k1, k2, k3, k5, hC⟩ := id (x.at X)
  have SF := uM
  have f3 := SF.slot.bind (.ref e)
  have L := sY (M := model prog w) X hsa
  unfold setAttr callSpecial? specialOf
  repeat (any_goals (first | assumption | (with_reducible refine rW hx ?_;rw [hc]) | with_reducible refine L.at ?_ | wp_step))
  refine tY SF.slot.plain SF.entry (iC X x hx hc (gi X x hna hx hc hnc hd (fun h' tk' dx a b c => ?_) hw hsz))
  repeat (any_goals (first | assumption | wp_step))
  exact hq h' tk' dx a b c
end
end
end L2
namespace L2
open PySem PySem.Spec PyProof.Rows
def xdt (d : Addr)(fs : List (Str × V)) : Heap → Prop := fun h => ∃ mA, h.Ns1 d mA ∧ (∀ f, eU (fs.lookup f) (mA f)) ∧ PySem.Within mA (fs.map (·.1))
abbrev Xdt (d : Addr)(fs : List (Str × V)) : HO := .ext (xdt d fs)
theorem nM {P : Program}{w : World}{H : Hp}{h : Heap}{d : Addr}{fs : List (Str × V)}(x : xdt d fs h) : aP P w H h d (Xdt d fs) :=
  ⟨x, let ⟨_, ⟨o, _, _, q, _⟩, _⟩ := x;⟨o, q⟩, fun _ _ y k => let ⟨mA, n, r⟩ := y;⟨mA, n.at k, r⟩⟩
structure XAt (K : PySem.W.Frag) (C : Addr) : Prop where
  cl : ∃ bm, XCl K C bm
  sa : PySem.W.findIn K (.ref C) "__setattr__" = some (some (.builtin "object.__setattr__"))
  ga : PySem.W.findIn K (.ref C) "__getattribute__" = some (some (.builtin "BaseException.__getattribute__"))
  gn : PySem.W.findIn K (.ref C) "__getattr__" = some none
section
variable {X : Cx} {pins : List (Addr × Obj)} {σ : St} {H : Hp} {s : Shared} {A : Around} {E : Value → Shared → Prop} {a C : Addr} {b cx : Bool} {f : Str} {y : V} {u : Value} {Q : Unit → Shared → Prop}
theorem bx {P : Program}{w : World}{h : Heap}{d : Option Addr}(ok : HOk P w H h)(e : H a=some (Exo a C d b cx)) : exo a C d b cx h := (ok a _ e).1
theorem lU {P : Program}{w : World}{h : Heap}{d : Addr}{fs : List (Str × V)}(ok : HOk P w H h)(e : H d=some (Xdt d fs)) : xdt d fs h := (ok d _ e).1
theorem jL (I : Inv X pins σ H s)(ea : H a=some (Exo a C none b cx))(x : XAt X.K C)(hna : PySem.W.findIn X.K (.ref C) f=some none)(ry : aL y u)
    (h : ∀ s' dx, H dx=none → dx≠a → Inv X pins σ (upd (upd H a (Exo a C (some dx) b cx)) dx (Xdt dx [(f, y)])) s' → Q () s') : wpAny (model X.prog X.w) A (setAttr (.ref a) f u) Q E s := by
  obtain ⟨oe, vs, g1, g2, g3, g4, g5, g6⟩ := bx I.hok ea
  obtain ⟨bm, xc⟩ := x.cl
  obtain ⟨hh, g, dr, tk, os⟩ := s
  refine pG (mA := fun _ => none) (ns := []) I.kIn xc x.sa hna g1 g2 g4 (.inl ⟨g3, fun _ => rfl⟩) (fun h' tk' dx S d1 _ => ?_) (fun n hn => absurd rfl hn) (by simp)
  have hdx : dx=hh.objs.size := d1 g3
  have hfr : H dx=none := I.hok.fresh (uB hdx.symm)
  have nea : dx≠a := fun z => by rw [z, ea] at hfr;cases hfr
  have nin : ∀ c o, hh.get? c=some o → c≠dx := fun c o q z => absurd (q9 q) (by rw [z, hdx];exact rG _)
  have neA : ∀ c, H c=none → c≠a := fun c n z => by rw [z, ea] at n;cases n
  have neA' : ∀ c v, H c=some v → v≠Exo a C none b cx → c≠a := fun c v q n z => by rw [z, ea] at q;cases q;exact n rfl
  have neD : ∀ c v, H c=some v → c≠dx := fun c v q z => by rw [z, hfr] at q;cases q
  have same : ∀ c v, H c=some v → v≠Exo a C none b cx → upd (upd H a (Exo a C (some dx) b cx)) dx (Xdt dx [(f, y)]) c=some v := fun c v q n => by rw [ak (neD c v q), ak (neA' c v q n)];exact q
  refine h _ dx hfr nea (I.un (t' := tk') ⟨fun c o q n _ _ => S.keep c o (neA c n) (nin c o q) q, fun c o q n _ _ => ⟨o.slots, S.keep c o (neA c n) (nin c o q) q⟩,
    fun c o q n _ => by rw [ak (nin c o q), ak (neA c n)];exact n, fun c o q _ => ?_, fun c xs q => same c _ q (by intro z;cases z), fun c o v q => same c _ q (by intro z;cases z), fun c ps q => ⟨#[], by rw [same c _ q (by intro z;cases z)];simp⟩⟩ fun c v q => ?_)
  · by_cases z : c=a
    · subst z;exact ⟨_, S.exc⟩
    · exact ⟨o, S.keep c o z (nin c o q) q⟩
  · by_cases z : c=dx
    · subst z
      rw [ag] at q;cases q
      refine nM ⟨_, S.ns, fun n => ?_, fun n hn => ?_⟩
      · show eU (List.lookup n [(f, y)]) (if n=f then some u else none)
        by_cases z : n=f
        · subst z;rw [if_pos rfl, sk, sE];exact ry
        · rw [if_neg z, sk, ub.mpr z];exact True.intro
      · by_cases z : n=f
        · subst z;exact rF
        · exact absurd (show (if n=f then some u else none)=none by rw [if_neg z]) hn
    · rw [ak z] at q
      by_cases y' : c=a
      · subst y'
        rw [ag] at q;cases q
        exact fR ⟨_, vs, S.exc, g2, rfl, g4, g5, g6⟩
      · rw [ak y'] at q
        have hc := I.hok c v q
        refine hc.stay (fun p o hp r => S.keep p o ?_ (nin p o r) r) (fun p hp => same p _ hp (by intro z;cases z)) fun p xs hp => same p _ hp (by intro z;cases z)
        rcases hp with rfl | hp
        · exact y'
        · exact neA' p _ hp (by intro z;cases z)
end
def qU (K : PySem.W.Frag)(ta tv : TE)(f : Str) : TS := fun D σ H => tv σ H fun y H1 => ta σ H1 fun x H2 => ∃ a C b cx, x = .ref a ∧ H2 a=some (Exo a C none b cx) ∧ XAt K C ∧ PySem.W.findIn K (.ref C) f=some none ∧
  ∀ dx, H2 dx=none → dx≠a → D.nx σ (upd (upd H2 a (Exo a C (some dx) b cx)) dx (Xdt dx [(f, y)]))
section
variable {X : Cx} {o e value : Expr} {es : List Expr} {f x : Str} {p pos pos' apos : Pos} {ta tv te : TE} {t : TA} {R : Addr} {E : XK}
theorem nN (ha : PE X o ta)(hv : PE X value tv)(hs : swapsWith value (some (.Attribute o f pos')) pos.line X.env=pure false) : PS X (.Assign [.Attribute o f pos'] value pos) (qU X.K ta tv f) := by
  intro pins s σ H D I h
  refine plainObj_wpAny_Assign_Attribute (thn (hv pins s σ H _ I h) fun u s1 ⟨y, H1, I1, ry, q⟩ => thn (ha pins s1 σ H1 _ I1 q) fun ov s2 zq1 => ?_) hs
  obtain ⟨z, H2, I2, rx, a, C, b, cx, ex, ea, c, n, q2⟩ := zq1
  subst ex
  obtain rfl : ov=Value.ref a := rx
  exact jL I2 ea c n ry fun s3 dx h1 h2 I3 => ⟨σ, _, I3, q2 dx h1 h2⟩
def nO (K : PySem.W.Frag)(t : TA) : TE := fun σ H Q => t σ H fun vs H1 => ∃ a C d b cx rest, vs = .ref a::rest ∧ rest.length≤1000 ∧ H1 a=some (Exo a C d b cx) ∧ XAt K C ∧ Q .non H1
structure lV (K : PySem.W.Frag) (R : Addr) : Prop where
  rd : PySem.W.readsIn K R (.type "type")=true
  at_ : PySem.W.findCls K (.ref R) (.type "type") "__init__" = some (.val (.builtin "ValueError.__init__"))
  ga : PySem.W.specialIn K (.ref R) "__getattribute__" = some (some (.builtin "type.__getattribute__"))
  hd : PySem.W.handedIn (.builtin "ValueError.__init__")=true
theorem jM {pins : List (Addr × Obj)}{σ : St}{H : Hp}{s : Shared}{A : Around}{F : Value → Shared → Prop}{Q : Value → Shared → Prop}{a C : Addr}{d : Option Addr}{b cx : Bool}{rest : List Value}(I : Inv X pins σ H s)(ea : H a=some (Exo a C d b cx))(x : XAt X.K C)(hl : rest.length≤1000)
    (h : ∀ s', Inv X pins σ H s' → Q .none s') : wpAny (model X.prog X.w) A (call (.builtin "ValueError.__init__") (.ref a::rest)) Q F s := by
  obtain ⟨oe, vs, g1, g2, g3, g4, g5, g6⟩ := bx I.hok ea
  obtain ⟨bm, xc⟩ := x.cl
  obtain ⟨hh, g, dr, tk, os⟩ := s
  refine tK (nL I.kIn xc g1 g2 g4 g5 (by rw [sq];omega) (h _ ?_))
  have I1 := I.kept (h' := hh.push (fS rest)) (t' := tk) (fun b u q => fu _ q)
  have g1' := fu (h := hh) (fS rest) g1
  have hd' := sj g4 (·.setIfInBounds 0 (Value.ref hh.objs.size))
  have e' := sf (Obj.mapFields (·.setIfInBounds 0 (Value.ref hh.objs.size))) g1' (so hd')
  have I2 := I1.write (t' := tk) (x := a) (e := a) (h' := (hh.push (fS rest)).update a (Obj.mapFields (·.setIfInBounds 0 (Value.ref hh.objs.size)))) (o := Exo a C d b cx) (by rw [ea];exact True.intro) (.inl rfl) (fun c o hc q => (rD _ _ (Ne.symm hc)).trans q) ⟨_, e'⟩
    (fR ⟨_, _, e', (uK _ _).trans g2, by
      rw [← g3]
      obtain ⟨c1, c2, c3, c4⟩ := oe
      cases c3 <;> rfl, hd', by rw [Array.size_setIfInBounds];exact g5, (fun z => by rw [sI (by decide)];exact g6.1 z), fun z => by rw [sI (by decide)];exact g6.2 z⟩)
  rwa [dv ea] at I2
theorem jN {pl : Sem Bool}(B : lV X.K R)(hg : Gl X x)(hm : X.mg x=some (.ref R))(ha : PA X (e::es) t)(hdb : (x == ("__debug__" : Str))=false := by decide)
    (hst : starEach (e::es) X.env=(false, eval e X.env)::starEach es X.env := by rfl) (hpl : (backTo pos (starEach es X.env)).any (·.1)=false := by rfl)
    (ht : eval (.Call (.Attribute (.Name x p) "__init__" apos) (e::es) [] pos) X.env=(do
      let ov ← eval (.Name x p) X.env
      standAt apos.atName
      let (f, first) ← holding [ov] (getMethod ov "__init__" pl)
      callWith pos f first (backTo pos (starEach (e::es) X.env)) (backToKw pos (keywordEach [] X.env))) := by rfl) :
    PE X (.Call (.Attribute (.Name x p) "__init__" apos) (e::es) [] pos) (nO X.K t) := by
  intro pins s σ H Q I h
  refine PySem.W.methodCall_KW (pl := pl) (bI I hg hm ?_ hdb) ht
  refine PySem.W.method_cls I.kIn B.ga (PySem.W.cls_value I.kIn B.rd B.at_ B.hd ?_)
  refine tR (thn (ha pos pins _ σ H _ (I.tok _) h) fun us s2 zq3 => ?_) hst hpl
  obtain ⟨vs, H2, I2, r, a, C, d, b, cx, rest, ev, hl, ea, xa, q2⟩ := zq3
  subst ev
  cases r with
  | cons r1 r2 =>
    obtain rfl : _=Value.ref a := r1
    exact jM I2 ea xa (by rw [← r2.length];exact hl) fun s3 I3 => ⟨.non, H2, I3, rfl, q2⟩
def nQ (K : PySem.W.Frag)(te : TE)(E : XK) : TS := fun D σ H => te σ H fun v H1 => ∃ a C d cx, v = .ref a ∧ H1 a=some (Exo a C d true cx) ∧ XAt K C ∧ E (.ref a) none (upd H1 a (Exo a C d false cx))
theorem eB (hx : kG X E)(hc : X.calm=true)(he : PE X e te) : PS X (.Raise (some e) none pos) (nQ X.K te E) := by
  intro pins s σ H D I h
  rw [arm_exec_Raise]
  refine q8 (wpAny_standAt ?_)
  unfold raiseStmt
  refine q8 (q8 (thn (he pins s σ H _ I h) fun v s1 ⟨y, H1, I1, ry, a, C, d, cx, ey, ea, xa, q⟩ => q8 (wpAny_standAt (rm ?_))))
  subst ey
  obtain rfl : v=Value.ref a := ry
  have fin := hx pins σ H1 s1 a C d cx I1 ea q
  obtain ⟨⟨oc, od, odt, osl⟩, vs, g1, g2, g3, g4, g5, g6⟩ := bx I1.hok ea
  simp only at g2 g3 g4
  subst g2 g3 g4
  obtain ⟨bm, xc⟩ := xa.cl
  obtain ⟨T, nm, q, N, bs, sn, sub, ab, col, dd, k0, k1, k2, k3, k5, hC⟩ := xc.at I1.kIn
  have hcB : (Value.ref C::bm).contains (.type "BaseException")=true := by rw [tw, T.hasType ur.hasBase, uZ]
  have hh := I1.ok.hd hc
  obtain ⟨hp, g, dr, tk, os⟩ := s1
  repeat (first | with_reducible refine rW g1 ?_ | with_reducible refine rW hC ?_ | (with_reducible refine sP hC ?_;rw [hcB]) | wp_step)
  rw [g6.1 rfl]
  refine rm ?_
  rw [if_neg (by decide)]
  exact rm (wpAny_raiseNew_none hh fin)
end
end L2
namespace L2
open PySem PySem.Spec PyProof.Rows
theorem XCl.mro {K : PySem.W.Frag}{C : Addr}{bm : List Value}{h : Heap}(x : XCl K C bm)(X : K.In h){T : String}{b : Bool}(hb : bmV.contains (.type T)=b) : PySem.W.mroIn K C (.type T)=some b := by
  have T' := PySem.W.tail_of_in X x.tl
  obtain ⟨dd, cd, k0, k1, k2, k3, k5, hl, hm, hd, hh⟩ := x.obj
  unfold PySem.W.mroIn PySem.W.clsIn
  rw [hl, Option.bind_some, hm, if_neg (by simp), tw, T'.hasType hb]
  rfl
theorem XCl.cls {K : PySem.W.Frag}{C : Addr}{bm : List Value}(x : XCl K C bm) : ∃ cd, PySem.W.clsIn K C=some cd ∧ cd.hasDict=true := by
  obtain ⟨dd, cd, k0, k1, k2, k3, k5, hl, hm, hd, hh⟩ := x.obj
  exact ⟨cd, by unfold PySem.W.clsIn;rw [hl], hh⟩
section
variable {prog : Program} {w : World} {A : Around} {E : Value → Shared → Prop} {s : Shared} {K : PySem.W.Frag} {C a : Addr} {bm : List Value} {oe : Obj} {od : Option Obj} {name : Str} {fill expr : Bool} {tk : Tok}
theorem fT {Q : Value → Shared → Prop}(X : K.In s.heap)(I : PySem.W.InstAt s.heap a oe C od)(x : XAt K C)
    (h : wpAny (model prog w) A.in1 (Builtin.«object.__getattribute__» ⟨[.ref a, .str name tk], []⟩) (fun fin s' => match fin with | .done (.ret v) => wpAny (model prog w) A (handedOut v) Q E s' | _ => False) (fun _ _ => False) s) :
    wpAny (model prog w) A (getAttrBy (.ref a) (.str name tk) fill expr) Q E s := by
  obtain ⟨bm, xc⟩ := x.cl
  have hmB := xc.mro X (T := "BaseException") (b := true) ur.hasBase
  have L0 := I.type (M := model prog w)
  unfold getAttrBy
  refine ua (q8 (L0.here (q8 ((sY X x.ga).here ?_))))
  dsimp only
  rw [show (onTheHeap (Value.ref C) && Value.builtin "BaseException.__getattribute__" == Value.builtin "object.__getattribute__")=false from by rw [show (Value.builtin "BaseException.__getattribute__" == Value.builtin "object.__getattribute__")=false from by decide +kernel, Bool.and_false], if_neg (by decide)]
  unfold getAttrByItsOwn
  refine q8 ((PySem.W.looks_hook (mc := .ref C) (r := none) X (by rw [if_pos (show onTheHeap (Value.ref C)=true from rfl)];exact x.gn)).here (q8 (t_ (ua ?_))))
  unfold callGetattribute
  rw [show (expr && onTheHeap (Value.builtin "BaseException.__getattribute__"))=false from Bool.and_false _, if_neg (by decide)]
  unfold boundAndCalled
  rw [PySem.F.attr_ValueError.ga.bind]
  refine q8 (rm ?_)
  show wpAny _ _ (call (.builtin "BaseException.__getattribute__") [.ref a, .str name tk]) _ _ _
  refine tK (tY PySem.F.attr_ValueError.ga.plain PySem.F.entry_bexc_ga ?_)
  have hk : builtinKind "BaseException.__getattribute__" = some .slot := by decide +kernel
  have hsp : splitId "BaseException.__getattribute__" = some ("BaseException", "__getattribute__") := by decide +kernel
  have LI : PySem.W.Looks (model prog w) s.heap (isInstance (.ref a) (.type "BaseException")) true := L0.andThen (PySem.W.looks_mroIn X hmB)
  refine @PySem.W.check_slot (model prog w) _ _ s "BaseException.__getattribute__" "BaseException" "__getattribute__" (.ref a) [.str name tk] [] _ hk hsp LI (PySem.F.args_bexc_ga (.ref a) (.str name tk)) ?_
  refine rO h (fun fin s' z => ?_) fun _ _ z => z.elim
  rcases fin with (_ | _ | _ | _) | _ <;> first | exact z | exact z.elim
theorem jO {v : Value}{Q : Fin → Shared → Prop}(X : K.In s.heap)(I : PySem.W.InstAt s.heap a oe C od)(hf : PySem.W.findObj K C od name=some (.value v))(h : Q (.done (.ret v)) s) :
    wpAny (model prog w) A (Builtin.«object.__getattribute__» ⟨[.ref a, .str name tk], []⟩) Q E s := by
  have L0 := I.type (M := model prog w)
  have L1 := PySem.W.looks_find (M := model prog w) X I hf
  refine q8 (rm (q8 (rm (q8 (L0.here (q8 (L1.here ?_)))))))
  exact rm h
theorem lW {g b : Value}{Q : Fin → Shared → Prop}(X : K.In s.heap)(I : PySem.W.InstAt s.heap a oe C od)(hf : PySem.W.findObj K C od name=some (.bind g b))
    (h : wpAny (model prog w) A (call g [b, .ref a, .ref C]) (fun v s' => Q (.done (.ret v)) s') E s) :
    wpAny (model prog w) A (Builtin.«object.__getattribute__» ⟨[.ref a, .str name tk], []⟩) Q E s := by
  have L0 := I.type (M := model prog w)
  have L1 := PySem.W.looks_find (M := model prog w) X I hf
  refine q8 (rm (q8 (rm (q8 (L0.here (q8 (L1.here ?_)))))))
  show wpAny _ _ (holding [b] (call g [b, .ref a, .ref C]) >>= ret) _ _ _
  exact q8 (ua (rO h (fun v s' z => rm z) fun _ _ z => z))
end
theorem XCl.hasDict {K : PySem.W.Frag}{C : Addr}{bm : List Value}(x : XCl K C bm) : PySem.W.hasDictIn K C=true := by
  obtain ⟨cd, h1, h2⟩ := x.cls
  unfold PySem.W.hasDictIn
  rw [h1]
  exact h2
structure XCa (K : PySem.W.Frag) (C : Addr) : Prop where
  at_ : XAt K C
  ca : PySem.W.findIn K (.ref C) "__class__" = some (some (.builtin "object.__class__"))
  gt : PySem.W.specialIn K (.builtin "object.__class__") "__get__" = some (some (.builtin "getset_descriptor.__get__"))
  tk : PySem.W.takesIn K (.builtin "object.__class__")=some true
theorem jP {K : PySem.W.Frag}{C a : Addr}(x : XCa K C) : PySem.W.KitX K (.ref a) (.ref C) (fun h => ∃ oe od, PySem.W.InstAt h a oe C (some od)) where
  ty := fun _ _ _ zq1 => (by obtain ⟨_, _, I⟩ := zq1;exact I.type)
  it := fun _ _ X _ => by
    obtain ⟨bm, xc⟩ := x.at_.cl
    obtain ⟨dd, cd, k0, k1, k2, k3, k5, ho, _⟩ := xc.obj
    intro A' Q' E' s' k q
    unfold isType loadHead
    exact q8 (wpAny_loadPart (k _ _ (X _ _ ho)) (rm q))
  ne := fun h tp dd its n sl X htp => by
    obtain ⟨bm, xc⟩ := x.at_.cl
    obtain ⟨dd, cd, k0, k1, k2, k3, k5, ho, _⟩ := xc.obj
    refine Bool.eq_false_iff.mpr fun q => ?_
    have e : C=tp := Value.ref.inj (u3.mp q)
    subst e
    have z := rT Obj.data (rl ((X _ _ ho).symm.trans htp))
    cases z
  ca := fun {prog w A E Q s} X ⟨oe, od, I⟩ k => by
    obtain ⟨bm, xc⟩ := x.at_.cl
    obtain ⟨cd, hc, _⟩ := xc.cls
    have hf : PySem.W.findObj K C (some od) "__class__" = some (.bind (.builtin "getset_descriptor.__get__") (.builtin "object.__class__")) := PySem.W.findObj_data (by rw [hc];rfl) x.ca x.gt x.tk
    refine q8 (wpAny_mkText ?_)
    unfold getAttrBy?
    refine q8 (t_ ?_)
    refine fT (s := { s with toks := s.toks+1 }) X I x.at_ (lW (s := { s with toks := s.toks+1 }) X I hf (tK ?_))
    exact PySem.W.class_get (s := { s with toks := s.toks+1 }) (ox := oe) (od := some od) X I (xc.mro X uM.hasOwner) (PySem.W.handed_on rfl (rm k))
section
variable {X : Cx} {pins : List (Addr × Obj)} {σ : St} {H : Hp} {s : Shared} {A : Around} {E : Value → Shared → Prop} {a C dx : Addr} {b cx : Bool} {fs : List (Str × V)} {f : Str} {v : V}
theorem fU (I : Inv X pins σ H s)(ea : H a=some (Exo a C (some dx) b cx))(ed : H dx=some (Xdt dx fs)) : ∃ oe od, PySem.W.InstAt s.heap a oe C (some od) ∧ ∃ mA : Str → Option Value, (∀ n, PySem.W.lookIn n od=some (mA n)) ∧ ∀ n, eU (fs.lookup n) (mA n) := by
  obtain ⟨oe, vs, g1, g2, g3, g4, g5, g6⟩ := bx I.hok ea
  obtain ⟨mA, n1, n2, n3⟩ := lU I.hok ed
  obtain ⟨od, ho, hl⟩ := dQ n1
  exact ⟨oe, od, ⟨g1, g2, by unfold PySem.W.notCls;rw [g4], by rw [g3];exact ho⟩, mA, hl, n2⟩
theorem lX {ex : Bool}{Q : Value → Shared → Prop}(I : Inv X pins σ H s)(ea : H a=some (Exo a C (some dx) b cx))(ed : H dx=some (Xdt dx fs))(x : XAt X.K C)(hna : PySem.W.findIn X.K (.ref C) f=some none)(l : fs.lookup f=some v)
    (h : ∀ u s', Inv X pins σ H s' → aL v u → Q u s') : wpAny (model X.prog X.w) A (getAttr (.ref a) f ex) Q E s := by
  obtain ⟨oe, od, J, mA, hl, r⟩ := fU I ea ed
  obtain ⟨bm, xc⟩ := x.cl
  obtain ⟨u, hu, ru⟩ := eU.some_of (v := v) (o := mA f) (by rw [← l];exact r f)
  have hf : PySem.W.findObj X.K C (some od) f=some (.value u) := PySem.W.findObj_own xc.hasDict hna rfl (by rw [hl, hu])
  refine q8 (wpAny_mkText ?_)
  refine fT (s := { s with toks := s.toks+1 }) I.kIn J x (jO (s := { s with toks := s.toks+1 }) I.kIn J hf ?_)
  exact PySem.W.handed_on (gO ru) (h u _ (I.tok _) ru)
end
def tFx (K : PySem.W.Frag)(ta : TE)(f : Str) : TE := fun σ H Q => ta σ H fun x H1 => ∃ a C b cx dx fs v, x = .ref a ∧ H1 a=some (Exo a C (some dx) b cx) ∧ H1 dx=some (Xdt dx fs) ∧ XAt K C ∧ PySem.W.findIn K (.ref C) f=some none ∧ fs.lookup f=some v ∧ Q v H1
inductive pH (K : PySem.W.Frag)(xs : List V)(H : Hp)(Q : VK) : Prop
  | mk : ∀ a C b cx dx fs c t r, (xs=[.ref a, c]) → (H a=some (Exo a C (some dx) b cx)) → (H dx=some (Xdt dx fs)) → (XCa K C) → ((∀ u, aL c u → u=t)) → (PySem.W.kitOne K (.ref C) t=some r) → (Q (.bl r) H) → pH K xs H Q
section
variable {X : Cx} {e : Expr} {f : Str} {pos : Pos} {ta : TE}
theorem pI (he : PE X e ta)(hb : attributeBase e f X.env (eval e X.env)=eval e X.env) : PE X (.Attribute e f pos) (tFx X.K ta f) := by
  intro pins s σ H Q I h
  refine la hb (thn (he pins s σ H _ I h) fun u s1 zq2 => ?_)
  obtain ⟨x, H1, I1, rx, a, C, b, cx, dx, fs, v, ex, ea, ed, c, n, l, q⟩ := zq2
  subst ex
  obtain rfl : u=Value.ref a := rx
  exact lX I1 ea ed c n l fun u' s2 I2 ru => ⟨v, H1, I2, ru, q⟩
theorem jQ : bD X (.builtin "isinstance") (pH X.K) := by
  intro pins s σ H xs us Q I r h
  obtain ⟨a, C, b, cx, dx, fs, c, t, rr, rfl, ea, ed, x, hc, e, q⟩ := h
  obtain ⟨u, u2, rfl, rx, r2⟩ := k9 r
  obtain rfl := hc _ r2
  obtain rfl : u=Value.ref a := rx
  obtain ⟨oe, od, J, _⟩ := fU I ea ed
  exact rQ (jP x) I.kIn ⟨oe, _, J⟩ e (fun z => nomatch z) fun tk => ⟨.bl rr, H, I.tok _, rfl, q⟩
end
end L2
namespace L2
open PySem PySem.Spec PyProof.Rows
abbrev Hd (X : Cx)(v : Value) : Cx := { X with A := X.A.mark (some v), calm := false, xe := fun _ _ => False }
theorem Inv.hold {X : Cx}{pins : List (Addr × Obj)}{σ : St}{H : Hp}{s : Shared}(I : Inv X pins σ H s)(v : Value) : Inv (Hd X v) pins σ H s :=
  ⟨⟨I.ok.mod, I.ok.kind, I.ok.glob, I.ok.blt, I.ok.above, I.ok.inj, I.ok.has, I.ok.cab, (fun z => by cases z), I.ok.frames, I.ok.stk, I.ok.exf, I.ok.bs, I.ok.bsz, I.ok.noex, I.ok.exfs, I.ok.funs, I.ok.frf⟩, I.os, I.bare, I.base, I.loc, I.cell, I.free, I.freeC, I.pin, I.hok, I.len⟩
theorem Inv.offHold {X : Cx}{pins : List (Addr × Obj)}{σ : St}{H : Hp}{s : Shared}{v : Value}(ok : X.Ok)(I : Inv (Hd X v) pins σ H s) : Inv X pins σ H s :=
  ⟨ok, I.os, I.bare, I.base, I.loc, I.cell, I.free, I.freeC, I.pin, I.hok, I.len⟩
def XE (X : Cx)(pins : List (Addr × Obj))(σ : St)(E : XK)(e : Value)(s' : Shared) : Prop :=
  ∃ a C d c H', e = .ref a ∧ Inv X pins σ H' s' ∧ H' a=some (Exo a C d false c) ∧ Flt s'.heap a .none ∧ E (.ref a) none H'
def PEE (X : Cx)(E : XK)(e : Expr)(t : TE) : Prop :=
  ∀ (pins : List (Addr × Obj)) (s : Shared) (σ : St) (H : Hp) (Q : VK), Inv X pins σ H s → t σ H Q → wpAny (model X.prog X.w) X.A (eval e X.env) (EP X pins σ Q) (XE X pins σ E) s
section
variable {X : Cx} {pins : List (Addr × Obj)} {σ : St} {H : Hp} {s : Shared}
theorem XE.of {E : XK}{e : Value}{s' : Shared}(I : Inv X pins σ H s)(h : CXe X.prog X.w X.stack H s E e s') : XE X pins σ E e s' := by
  obtain ⟨a, C, d, c, H', he, os, bare, un, hok, ha, hf, hE⟩ := h
  exact ⟨a, C, d, c, H', he, I.call' os un hok bare (fun b z => absurd z (by simp)), ha, hf, hE⟩
theorem dw {M : Model}{A : Around}{E : Value → Shared → Prop}{i : Nat}{x : Str}{pos : Pos}{Q : Unit → Shared → Prop}(I : Inv X pins σ H s)(hN : X.N.Nodup)(hi : X.N[i]? = some x)(hx : X.env.scope.names.lookup x=some .local)
    (h : ∀ s', Inv X pins (σ.set i none) H s' → Q () s') : wpAny M A (do bindName X.env x .none;unbindBehindTheSuite X.env x pos) Q E s := by
  have hcls : (X.env.scope.kind == .class || (X.env.scope.kind == .module && X.env.locals != X.env.globals))=false := by rw [I.ok.kind];rfl
  have hiσ : i < σ.length := by rw [I.len];exact (rb.mp hi).1
  have hk : X.env.kindOf x=some .local := hx
  refine q8 (wpAny_bindName (bc (v := .non) (u := .none) I hN hi (.inl hx) rfl (fun s₁ J => ?_) (.inr hx)))
  obtain ⟨m, hn, hl⟩ := id J.loc
  have hm : (m x).isSome=true := by
    obtain ⟨u, _, q⟩ := hl i x .non hi (by rw [sC hiσ]) (.inl hx)
    rcases q with ⟨_, e⟩ | ⟨e, _⟩
    · rw [e];rfl
    · rcases e with e | e <;> (rw [hk] at e;cases e)
  unfold unbindBehindTheSuite
  refine wpAny_onRaise ?_
  unfold unbindName
  refine q8 (wpAny_point (q8 ?_))
  unfold deleteName
  simp only [hk, hcls]
  rw [if_neg (by decide)]
  refine q8 (wpAny_nsDel_keeps hn fun h₂ v hn₂ hs₂ => ?_)
  simp only [hm, ug, Option.isSome_some, Bool.not_true, ux, u6]
  refine rm (wpAny_point (h _ ?_))
  have I := J
  have cne := I.cne
  obtain ⟨oL, _, _, hoL, _⟩ := id hn
  have ne : ∀ b o, X.s₀.heap.get? b=some o → b≠X.env.locals := fun b o e => rC (q_ (q9 e) I.ok.above)
  refine ⟨I.ok, I.os, I.bare, ⟨fun b o e n hb hx => (hs₂.2 b (ne b o e)).trans (I.base.keep b o e n hb hx), fun b o e n hb hx => ?_, I.base.free, fun b o e hx => ?_, I.base.tups, I.base.frzs, I.base.tbls⟩, ⟨_, hn₂, fun j y v' e1 e2 e3 => ?_⟩, fun y c e => ?_, I.free, I.freeC, fun p hp => ?_, fun b ob e => ?_, by simpa using I.len⟩
  · obtain ⟨sl, e1⟩ := I.base.slot b o e n hb hx
    exact ⟨sl, (hs₂.2 b (ne b o e)).trans e1⟩
  · obtain ⟨o', e1⟩ := I.base.there b o e hx
    exact ⟨o', (hs₂.2 b (ne b o e)).trans e1⟩
  · by_cases hj : j=i
    · subst hj
      rw [sC (by exact hiσ)] at e2
      cases e2
    · rw [su (Ne.symm hj)] at e2
      obtain ⟨u', r', q⟩ := hl j y v' e1 (by rw [su (Ne.symm hj)];exact e2) e3
      refine ⟨u', r', ?_⟩
      rcases q with ⟨k, e⟩ | ⟨k, c, e, z⟩
      · refine .inl ⟨k, ?_⟩
        have : y≠x := fun e => hj (ck hN e1 (e ▸ hi))
        simp [this, e]
      · exact .inr ⟨k, c, e, z.sameBut hs₂ (cne y c e)⟩
  · obtain ⟨w', z⟩ := I.cell y c e
    exact ⟨w', z.sameBut hs₂ (cne y c e)⟩
  · obtain ⟨e, n, ne, nf, d⟩ := I.pin p hp
    exact ⟨(hs₂.2 p.1 ne).trans e, n, ne, nf, d⟩
  · refine (I.hok b ob e).stay (fun c w' hc q => (hs₂.2 c ?_).trans q) (fun _ q => q) fun _ _ q => q
    rintro rfl
    rcases hc with rfl | hc
    · rw [I.free] at e;cases e
    · rw [I.free] at hc;cases hc
end
section
variable {M : Model} {A : Around} {E : Value → Shared → Prop} {s : Shared}
theorem lY {base : Heap}{env : Env}{outer : List Env}{L e : Addr}{oe : Obj}{vs : Array Value}{Q : Unit → Shared → Prop}
    (hfr : A.frames=some (env::outer)) (hl : s.heap.FunFrames base (env::outer)) (hf : env.frame=some L)
    (he : s.heap.get? e=some oe) (hd : oe.data = .fields vs) (h1 : vs[1]? = some .none ∨ Flt s.heap e .none)
    (h : ∀ h', Nts (frs (env::outer)) e .none s.heap h' → Q () { s with heap := h' }) : wpAny M A (noteFrame (.ref e) env) (fun _ s₂ => wpAny M A (setFlight (.ref e) none) Q E s₂) E s := by
  refine nJ hfr hl hf he hd h1 fun h₁ N => ?_
  obtain ⟨k1, k2, k3, T, hT, k4⟩ := N
  refine fj (s := { s with heap := h₁ }) k4 fun h₂ f1 f2 f3 _ => h h₂ ⟨fun b o hb hbe q => f2 b o (fun z => ?_) (k1 b o hb hbe q), fun b o hb q => ?_, fun oe vs q qd => ?_, T, hT, f1⟩
  · exact absurd (q_ (q9 q) (z ▸ hT)) (rG _)
  · obtain ⟨sl, q'⟩ := k2 b o hb q
    exact ⟨sl, f2 b _ (fun z => absurd (q_ (q9 q) (z ▸ hT)) (rG _)) q'⟩
  · obtain ⟨oe', vs', q1, q2⟩ := k3 oe vs q qd
    exact ⟨oe', vs', f2 e _ (fun z => absurd (q_ (q9 q) (z ▸ hT)) (rG _)) q1, q2⟩
theorem nS {K : PySem.W.Frag}{C R e : Addr}{bm bm' : List Value}{oe : Obj}{h : Heap}{g : Array GenState}{d : Drawn}{t : Nat}{os : OsState}{Q : Bool → Shared → Prop}(X : K.In h)(xC : XCl K C bm)(xR : XCl K R bm')(he : h.get? e=some oe)(hcls : oe.cls = .ref C)
    (hq : Q ((Value.ref C::bm).contains (.ref R)) ⟨h, g, d, t, os⟩) : wpAny M A (excMatches (.ref e) (.ref R)) Q E ⟨h, g, d, t, os⟩ := by
  obtain ⟨T, nm, q, N, bs, sn, sub, ab, col, dd, k0, k1, k2, k3, k5, hC⟩ := xC.at X
  obtain ⟨T', nm', q', N', bs', sn', sub', ab', col', dd', k0', k1', k2', k3', k5', hR⟩ := xR.at X
  have hcB : (Value.ref R::bm').contains (.type "BaseException")=true := by rw [tw, T'.hasType ur.hasBase, uZ]
  have f := tc_notTuple
  generalize hb : (Value.ref C::bm).contains (.ref R)=b at hq
  unfold excMatches
  repeat (first | (with_reducible refine rW he ?_;rw [hcls]) | with_reducible refine rW hR ?_ | (with_reducible refine sP hR ?_;rw [hcB]) | (with_reducible refine sP hC ?_;rw [hb]) | wp_step)
  cases b <;> (wp_walk;exact hq)
end
end L2
namespace L2
open PySem PySem.Spec PyProof.Rows
structure mN (P : Program) (w : World) (K : PySem.W.Frag) (mg : Str → Option Value) (base : Heap) (x : Str) (ps : List Str) (k : Nat) (sp : Sp) : Prop where
  ex : ∃ (f : Addr) (fd : FuncData), mg x=some (.ref f) ∧ PySem.W.keepIn K (.ref f)=true ∧ cB K fd ps [] ∧ fE P w K mg base (CXe P w) k f fd ps sp
theorem Df.okX {P : Program}{w : World}{K : PySem.W.Frag}{mg : Str → Option Value}{base : Heap}{x : Str}{st : Stmt}{N ps : List Str}{k : Nat}{sp : Sp}(D : Df K mg x st)(S : aw N ps (ah st))
    (hb : ∀ (kV doc pm : Value) (an : Option Addr) (cdv ct : Value) (us : List Value), us.length=ps.length → bindArgs (PySem.W.fnOf x x (aM st) (aA st) (ah st) .none kV doc pm an cdv ct) ⟨us, []⟩=pure (ps.zip us))
    (len : ∀ vs H Q E, sp vs H Q E → vs.length=ps.length)
    (hbody : ∀ (f : Addr) (cdv : Value) (A : Around) (outer : List Env) (s : Shared) (H : Hp) (vs : List V) (Q : VK) (E : XK), bp k (A.deeper (envOfC x (ah st) s.heap.objs.size f cdv)) → sp vs H Q E →
      ∃ t, PSs (eY (CXe P w) P w K mg base N x (ah st) f cdv A outer s H E) (aA st) t ∧ t { nx := fun _ H' => Q .non H', rt := Q } (start N vs) H) : mN P w K mg base x ps (k+1) sp := by
  obtain ⟨f, fd, hm, F⟩ := D.ex
  refine ⟨f, fd, hm, F.kp, F.binds hb, ?_⟩
  obtain ⟨oc, od, kV, doc, pm, an, cdv, ct, osl, rfl, lk, hcd⟩ := F.ex
  exact lp lk hcd S len fun A outer s H vs Q E hr hsp => hbody f cdv A outer s H vs Q E hr hsp
section
variable {X : Cx} {E : XK} {x : Str} {ps : List Str} {k j : Nat} {sp : Sp} {e a b : Expr} {es : List Expr} {t : TA} {te tb : TE} {tt : TT} {p pos pos' : Pos}
theorem kH (F : mN X.prog X.w X.K X.mg X.base x ps j sp)(hr : bp k X.A)(hj : j≤k)(hx : dR (CXe X.prog X.w) X E)(hg : Gl X x)(ha : PA X (e::es) t)
    (hdb : (x == ("__debug__" : Str))=false := by decide) (he : starEach (e::es) X.env=(false, eval e X.env)::starEach es X.env := by rfl) (hpl : (backTo pos (starEach es X.env)).any (·.1)=false := by rfl) :
    PE X (.Call (.Name x p) (e::es) [] pos) (lj sp [] E t) := by
  obtain ⟨f, fd, hm, hk, hb, F⟩ := F.ex
  exact gR F (hr.mono hj) hg hm hk hb .nil hx ha hdb he hpl
def PSE (X : Cx)(E : XK)(st : List Stmt)(t : TS) : Prop :=
  ∀ (pins : List (Addr × Obj)) (s : Shared) (σ : St) (H : Hp) (D : cZ), Inv X pins σ H s → t D σ H → wpAny (model X.prog X.w) X.A (execs st X.env) (SP X pins D) (XE X pins σ E) s
theorem lZ {i : Nat}(hN : X.N.Nodup)(hi : X.N[i]? = some x)(hx : Loc X.env.scope x)(he : PEE X E e te)(hs : swapsWith e (some (.Name x pos')) pos.line X.env=pure false := by rfl)(hf : X.fn x=true ∨ X.env.scope.names.lookup x=some .local := by first | exact .inl rfl | exact .inr rfl | assumption) :
    PSE X E [.Assign [.Name x pos'] e pos] (pZ te (kQ i)) := by
  intro pins s σ H D I h
  refine sZ (tJ (thn (he pins s σ H _ I h) fun v s1 zq1 => ?_) hs)
  obtain ⟨y, H1, I1, r1, q1⟩ := zq1
  exact bc I1 hN hi hx r1 (fun s2 I2 => tq ⟨_, H1, I2, q1⟩) hf
def cZ.gone (D : cZ)(i : Nat) : cZ := { nx := fun σ H => D.nx (σ.set i none) H, rt := D.rt, bk := fun σ H => D.bk (σ.set i none) H, ct := fun σ H => D.ct (σ.set i none) H }
def qV (K : PySem.W.Frag)(R : Addr)(i : Nat)(tb : XK → TS)(ts : TS) : TS := fun D σ H =>
  tb (fun v _ H' => ∃ a C d c bm, v = .ref a ∧ H' a=some (Exo a C d false c) ∧ XCl K C bm ∧ (Value.ref C::bm).contains (.ref R)=true ∧ ts (D.gone i) (σ.set i (some (.ref a))) H') D σ H
set_option maxHeartbeats 800000 in
theorem nU {n r : Str}{i : Nat}{R : Addr}{bmR : List Value}{body suite : List Stmt}{b₀ : Stmt}{np hpos : Pos}{tb : XK → TS}{ts : TS}(hst : X.stack=X.env::X.outer)(hfr : X.env.frame=some X.env.locals)(hN : X.N.Nodup)(hi : X.N[i]? = some n)(hloc : X.env.scope.names.lookup n=some .local)
    (hg : Gl X r) (hm : X.mg r=some (.ref R)) (xR : XCl X.K R bmR) (hb : ∀ E, PSE X E body (tb E)) (hs : ∀ v, PSs (Hd X v) (b₀ :: suite) ts) (hdb : (r == ("__debug__" : Str))=false := by decide) :
    PS X (.Try body [.ExceptHandler (some (.Name r np)) (some n) (b₀ :: suite) hpos] [] [] pos) (qV X.K R i tb ts) := by
  intro pins s σ H D I h
  refine wpAny_Try_except (rO (hb _ pins s σ H D I h) (fun f s₁ hf => ?_) fun e s₁ he => ?_)
  · cases f with
    | next => exact tq hf
    | brk => exact hf
    | cont => exact hf
    | ret u => exact hf
  · obtain ⟨a, C, d, cx, H', rfl, I1, ha, hF, a', C', d', cx', bm, ea', ha', xC, hc, ht⟩ := he
    cases ea'
    have hCC : C=C' := by
      obtain ⟨oe, vs, g1, g2, _⟩ := bx I1.hok ha
      obtain ⟨oe', vs', g1', g2', _⟩ := bx I1.hok ha'
      rw [g1] at g1';cases g1'
      rw [g2] at g2';cases g2';rfl
    subst hCC
    obtain ⟨oe, vs, g1, g2, g3, g4, g5, g6⟩ := bx I1.hok ha
    refine lY (base := X.base) (env := X.env) (outer := X.outer) (L := X.env.locals) (by rw [I.ok.frames, hst]) (by rw [← hst];exact I1.stack) hfr g1 g4 (.inr hF) fun h' Nt => ?_
    obtain ⟨un, hok⟩ := iu I1.hok ha (by rw [← hst];exact I1.stkFree) Nt
    have J := I1.call' (s' := { s₁ with heap := h' }) rfl (by rw [hst];exact un) hok I1.bare (fun b z => absurd z (by simp))
    rw [dv ha] at J
    obtain ⟨T, _, hT⟩ := Nt.fly
    have JH := J.hold (.ref a)
    refine wpAny_handleBy_cons (codeAny_handlers_test ?_) (by intro q;cases q)
    refine bI (X := Hd X (.ref a)) JH hg hm ?_ hdb
    obtain ⟨oe2, vs2, k1, k2, _⟩ := bx J.hok ha
    refine nS J.kIn xC xR k1 k2 ?_
    rw [hc]
    refine codeAny_handlers_suite_as ?_
    refine fj (s := { s₁ with heap := h' }) hT fun h2 _ _ _ same => ?_
    have J2 : Inv (Hd X (.ref a)) pins σ H' { s₁ with heap := h2 } := JH.kept (t' := s₁.toks) (fun b u q => (same rfl b).trans q)
    refine bc (X := Hd X (.ref a)) J2 hN hi (.inl hloc) (v := .ref a) rfl (fun s₃ J3 => ?_) (.inr hloc)
    refine rO (hs (.ref a) pins s₃ _ H' (D.gone i) J3 ht) (fun f s₄ hf => ?_) fun _ _ z => False.elim z
    cases f with
    | next => obtain ⟨σ', H2, J4, q⟩ := hf;exact dw (J4.offHold I.ok) hN hi hloc fun s' K' => ⟨_, H2, K', q⟩
    | brk => obtain ⟨σ', H2, J4, q⟩ := hf;exact dw (J4.offHold I.ok) hN hi hloc fun s' K' => ⟨_, H2, K', q⟩
    | cont => obtain ⟨σ', H2, J4, q⟩ := hf;exact dw (J4.offHold I.ok) hN hi hloc fun s' K' => ⟨_, H2, K', q⟩
    | ret u => obtain ⟨v, σ', H2, J4, rv, q⟩ := hf;exact dw (J4.offHold I.ok) hN hi hloc fun s' K' => ⟨v, _, H2, K', rv, q⟩
end
end L2
namespace L2
open PySem PySem.Spec PyProof.Rows
section
variable {K : PySem.W.Frag} {C R N : Addr} {dd d0 : Option Addr} {c0 oc : Value} {cd cdR : ClassData} {k0 k1 k2 k3 k5 : Option Value} {sl sl' : Array (Option Value)} {es : Array DictEntry} {n : Nat} {bm bm' : List Value}
theorem eC : PySem.W.tailIn K bmV bmV=true := by
  unfold PySem.W.tailIn
  rw [sE];rfl
theorem l0 (l : K.lookup N=some ⟨oc, d0, .dict es n, sl'⟩)(h : (es.toList.all fun e => match e.key with | .str _ _ => true | _ => false)=true) : PySem.W.nsOkIn K N=true := by
  unfold PySem.W.nsOkIn;rw [l];dsimp only;rw [← Array.all_toList];exact h
theorem jR (l : K.lookup R=some ⟨c0, d0, .cls cdR, sl⟩)(ok : PySem.W.nsOkIn K cdR.ns=true)(ni : PySem.W.nsIn K cdR.ns "__init__" = some none)(t : PySem.W.tailIn K bmV bm=true) : PySem.W.tailIn K bmV (.ref R::bm)=true := by
  unfold PySem.W.tailIn
  simp only [l, ok, ni, t, sE, Bool.and_self, uZ]
theorem kI (l : K.lookup C=some ⟨.type "type", dd, .cls cd, #[k0, k1, k2, k3, some (.builtin "ValueError.__new__"), k5]⟩)(m : cd.mro = .ref C::bm)(h1 : cd.hasDel=false)(h2 : cd.hasDict=true)(t : PySem.W.tailIn K bmV bm=true)(kp : PySem.W.keepIn K (.ref C)=true) : XCl K C bm :=
  ⟨⟨dd, cd, k0, k1, k2, k3, k5, l, m, h1, h2⟩, t, kp⟩
theorem nW {h : Heap}{T : String}{b : Bool}(X : K.In h)(xC : XCl K C bm)(hk : PySem.W.kitMeta T=true)(hb : bmV.contains (.type T)=b) : PySem.W.kitOne K (.ref C) (.type T)=some b := by
  unfold PySem.W.kitOne
  rw [if_neg (show ¬ (Value.ref C == Value.type T)=true from by simp)]
  unfold PySem.W.kitCls
  simp only [hk, ug]
  exact xC.mro X hb
end
def jS : List (Str × V) → List (Str × V) → List (Str × V)
  | acc, [] => acc
  | acc, (f, y)::r => jS (qb f y acc) r
inductive iD (names : List Str)(C : Addr)(vs : List V)(H : Hp)(Q : VK)(E : XK) : Prop
  | mk : ∀ a ys b cx, (vs = .ref a::ys) → (ys.length=names.length) → (H a=some (Exo a C none b cx)) → (∀ dx, H dx=none → dx≠a → Q .non (upd (upd H a (Exo a C (some dx) b cx)) dx (Xdt dx (jS [] (names.zip ys))))) → iD names C vs H Q E
end L2
namespace L2
open PySem PySem.Spec PyProof.Rows
structure XMk (P : Program) (w : World) (K : PySem.W.Frag) (mg : Str → Option Value) (base : Heap) (x : Str) (C : Addr) (names : List Str) (k : Nat) : Prop where
  at_ : mg x=some (.ref C)
  ca : XCa K C
  no : ∀ f∈names, PySem.W.findIn K (.ref C) f=some none
  ex : ∃ (f : Addr) (fd : FuncData) (bm : List Value), XCl K C bm ∧ PySem.W.findIn K (.ref C) "__init__" = some (some (.ref f)) ∧ PySem.W.isFn K (.ref f)=true ∧ cB K fd ("self" :: names) [] ∧ fE P w K mg base CX0 k f fd ("self" :: names) (iD names C)
def pJ (C : Addr)(names : List Str)(t : TA) : TE := fun σ H Q => t σ H fun ys H1 => ys.length=names.length ∧ names.length≤900 ∧ ∀ a dx, H1 a=none → H1 dx=none → dx≠a →
  Q (.ref a) (upd (upd H1 a (Exo a C (some dx) true true)) dx (Xdt dx (jS [] (names.zip ys))))
section
variable {X : Cx} {x : Str} {C : Addr} {names : List Str} {k j : Nat} {e : Expr} {es : List Expr} {t : TA} {p pos : Pos}
theorem nX (M : XMk X.prog X.w X.K X.mg X.base x C names j)(hr : bp k X.A)(hj : j+1≤k)(hg : Gl X x)(ha : PA X (e::es) t)
    (hdb : (x == ("__debug__" : Str))=false := by decide) (he : starEach (e::es) X.env=(false, eval e X.env)::starEach es X.env := by rfl) (hpl : (backTo pos (starEach es X.env)).any (·.1)=false := by rfl) :
    PE X (.Call (.Name x p) (e::es) [] pos) (pJ C names t) := by
  obtain ⟨f, fd, bm, xc, hi, hf, hb, F⟩ := M.ex
  intro pins s σ H Q I h
  refine sF (bI I hg M.at_ ?_ hdb)
  refine uu (h₀ := X.base) I.ok.mod.kin xc.kp (thn (ha pos pins s σ H _ I h) fun us s1 ⟨vs, H1, I1, r, hl, hn, q⟩ => ⟨I1.kIn, ?_⟩) he hpl
  refine iB (k := j) xc hi hf F (hr.mono hj) hb I1 r ⟨by omega, fun a h0 => ⟨a, vs, true, true, rfl, hl, ag .., fun dx hdx ne => ⟨rfl, ?_⟩⟩⟩
  rw [cu]
  exact q a dx h0 (by rw [ak ne] at hdx;exact hdx) ne
end
section
variable {K : PySem.W.Frag} {C dx a : Addr} {b : Bool} {H : Hp}
end
section
variable {X : Cx} {K : PySem.W.Frag} {e : Expr} {f : Str} {pos : Pos} {ta : TE}
theorem aU (hK : X.K=K) : bD X (.builtin "isinstance") (pH K) := by subst hK; exact jQ
theorem nY (hK : X.K=K)(he : PE X e ta)(hb : attributeBase e f X.env (eval e X.env)=eval e X.env) : PE X (.Attribute e f pos) (tFx K ta f) := by subst hK; exact pI he hb
end
end L2
namespace L2
open PySem PySem.Spec PyProof.Rows
section
variable {X : Cx} {E : XK} {e a b c : Expr} {te ta tb : TE} {tA : TT} {pos : Pos}
end
end L2
namespace L2
open PySem PySem.Spec PyProof.Rows
section
variable {X : Cx} {x : Str} {ps : List Str} {k j : Nat} {sp : Sp} {e : Expr} {es : List Expr} {t : TA} {p pos : Pos}
end
section
variable {prog : Program} {w : World} {A : Around} {E : Value → Shared → Prop} {h : Heap} {g : Array GenState} {d : Drawn} {t : Nat} {os : OsState} {K : PySem.W.Frag} {C : Addr} {bm : List Value}
end
end L2
namespace L2
open PySem PySem.Spec PyProof.Rows
def cxL (CX : CXT)(P : Program)(w : World)(K : PySem.W.Frag)(mg : Str → Option Value)(base : Heap)(N : List Str)(qual : Str)(scope : Scope)(f : Addr)(cd : Value)(cl : List (Str × Addr))(A : Around)(outer : List Env)(s : Shared)(H : Hp)(E : XK) : Cx where
  prog := P
  w := w
  K := K
  mg := mg
  base := base
  A := A.deeper (PySem.W.envX qual scope s.heap.objs.size f cd cl)
  N := N
  s₀ := s
  H₀ := H
  env := PySem.W.envX qual scope s.heap.objs.size f cd cl
  outer := outer
  stack := PySem.W.envX qual scope s.heap.objs.size f cd cl::outer
  ex := []
  calm := true
  fn := fun _ => false
  pn := []
  xe := fun e s' => wpAny (model P w) (A.deeper (PySem.W.envX qual scope s.heap.objs.size f cd cl)) (leaving (PySem.W.envX qual scope s.heap.objs.size f cd cl) e) (fun _ s'' => CX outer H s E e s'') (fun e' s'' => CX outer H s E e' s'') s'
structure dz (p fr : Str) (scope : Scope) : Prop where
  kind : scope.kind = .function
  co : scope.isCoroutine=false
  gen : scope.isGenerator=false
  ne : p≠fr
  par : scope.names.lookup p=some .local
  free : scope.names.lookup fr=some .free
  nocell : ∀ x∈scope.names, x.2 ≠ .cell
  only : ∀ y∈scope.names, y.2 = .free → y.1=fr
section
variable {CX : CXT} {P : Program} {w : World} {K : PySem.W.Frag} {mg : Str → Option Value} {base : Heap} {p fr qual : Str} {scope : Scope} {f c c' : Addr} {cd : Value} {A : Around} {outer : List Env} {s : Shared} {H : Hp} {E : XK}
theorem l7 {u1 u : Value}{v1 y : V}{h₁ : Heap}{tk : Nat}(S : dz p fr scope)(hd : A.handled=none)(e0 : gQ P w K mg base A outer s H)(r1 : aL v1 u1)(ru : aL y u)(hc : s.heap.IsCell c (some u))(hHc : H c=none)
    (hns : h₁.Ns s.heap.objs.size (fun x => [(p, u1)].reverse.lookup x)) (hk : ∀ b o, s.heap.get? b=some o → h₁.get? b=some o) :
    Inv (cxL CX P w K mg base [p, fr] qual scope f cd [(fr, c)] A outer s H E) [] [some v1, some y] H { s with heap := h₁, toks := tk } := by
  have noA : ∀ b : Addr, b∉(cxL CX P w K mg base [p, fr] qual scope f cd [(fr, c)] A outer s H E).ex := fun b z => absurd (show b∈([] : List Addr) from z) (by simp)
  have lk : ∀ x d, ([(fr, c)] : List (Str × Addr)).lookup x=some d → x=fr ∧ d=c := fun x d e => by
    rw [sk] at e
    cases hb : x == fr with
    | true => rw [hb] at e;exact ⟨eq_of_beq hb, (rl e).symm⟩
    | false => rw [hb] at e;cases e
  have lk2 : ([(fr, c)] : List (Str × Addr)).lookup fr=some c := by rw [sk, sE]
  have hc1 : h₁.IsCell c (some u) := by
    obtain ⟨o, ho, hd⟩ := hc
    exact ⟨o, hk _ _ ho, hd⟩
  refine ⟨⟨e0.mod, S.kind, rfl, rfl, rh _, fun y z d h1 h2 => ?_, fun y hy => ?_, fun y d h _ => ?_, fun _ => hd, Around.frames_deeper e0.frames, .inr ⟨rfl, rfl⟩, fun b z => absurd z (noA b), e0.bs, e0.bsz, fun b _ _ => noA b, fun b z => absurd z (noA b), e0.funs, e0.frf⟩,
    rfl, e0.bare, Un.kept hk, ⟨_, hns, fun i x v h1 h2 h3 => ?_⟩, fun x d h => ?_, e0.hok.fresh (rh _), fun x d h => ?_, fun q hq => absurd (show q∈([] : List (Addr × Obj)) from hq) (by simp), e0.hok.kept hk, rfl⟩
  · exact (lk _ _ h1).1.trans (lk _ _ h2).1.symm
  · have hy : scope.names.lookup y=some .cell ∨ scope.names.lookup y=some .free := hy
    rcases hy with hy | hy
    · exact absurd rfl (S.nocell _ (rR hy))
    · have := S.only _ (rR hy) rfl
      have this : y=fr := this
      rw [this]
      exact ⟨c, lk2⟩
  · exact absurd (show false=true from h) (by decide)
  · match i, h1, h2 with
    | 0, h1, h2 =>
      have e1 : p=x := rl h1
      have e2 : v1=v := rl (rl h2)
      subst e1
      subst e2
      refine ⟨u1, r1, .inl ⟨S.par, ?_⟩⟩
      show List.lookup p [(p, u1)]=some u1
      rw [sk, sE]
    | 1, h1, h2 =>
      have e1 : fr=x := rl h1
      have e2 : y=v := rl (rl h2)
      subst e1
      subst e2
      exact ⟨u, ru, .inr ⟨.inr S.free, c, lk2, hc1⟩⟩
    | i+2, h1, h2 => exact absurd (show (none : Option Str)=some x from h1) (by simp)
  · obtain ⟨rfl, rfl⟩ := lk _ _ h
    exact ⟨_, hc1⟩
  · obtain ⟨rfl, rfl⟩ := lk _ _ h
    exact hHc
theorem l8 {k : Nat}{params : Arguments}{body : Expr}{pm ctv u1 u : Value}{v1 y : V}{Q : VK}(S : dz p fr scope)(hf : s.heap.get? f=some (PySem.W.kla_obj "<lambda>" qual params body scope [(fr, c)] pm c' ctv))(hcd : s.heap.CodeRec (.ref c') qual)
    (hc : s.heap.IsCell c (some u)) (ru : aL y u) (hHc : H c=none) (hb : bindArgs (PySem.W.kla_fn "<lambda>" qual params body scope [(fr, c)] pm (.ref c') ctv) ⟨[u1], []⟩=pure [(p, u1)]) (hr : bp (k+1) A) (e0 : gQ P w K mg base A outer s H) (r1 : aL v1 u1)
    (hbody : bp k (A.deeper (PySem.W.envX qual scope s.heap.objs.size f (.ref c') [(fr, c)])) → ∃ t, PE (cxL CX P w K mg base [p, fr] qual scope f (.ref c') [(fr, c)] A outer s H E) body t ∧ t [some v1, some y] H Q) :
    codeAny (model P w) A (.call (.ref f) ⟨[u1], []⟩) (CR CX outer P w H s Q E) s := by
  have lim : s.heap.NoLimit := e0.mod.nolimit.keeps fun b o e => (e0.bs b o e).1
  refine PySem.W.kla_callFunE hr.depth hf rfl S.co S.gen rfl hcd ?_
  rw [hb]
  refine rm (wpAny_newFunctionEnv S.nocell (by intro z hz;rw [rZ] at hz;rw [hz];exact S.par) (fun h₁ hns hsb => ⟨lim.fresh _ hsb, ?_⟩) S.kind)
  have hk₁ : ∀ b o, s.heap.get? b=some o → h₁.get? b=some o := fun b o e => hsb.extBut b o (rC (q9 e)) (fu _ e)
  obtain ⟨t, ht, hq⟩ := hbody (hr.deeper _)
  have I := l7 (CX := CX) (qual := qual) (f := f) (cd := .ref c') (E := E) (tk := s.toks+([(p, u1)] : List (Str × Value)).length) S hr.hd e0 r1 ru hc hHc hns hk₁
  refine PySem.W.kla_codeExpr (rO (ht [] _ _ H Q I hq) (fun v s' hs => ?_) fun e s' hs => hs)
  obtain ⟨v2, H2, J, rv, q⟩ := hs
  exact ⟨v2, H2, J.os, J.bare, J.base, J.hok, rv, q⟩
theorem iE {cl : List (Str × Addr)}{N : List Str}{pins : List (Addr × Obj)}{σ : St}{H1 : Hp}{s1 : Shared}{a C : Addr}{d : Option Addr}{b cx : Bool}(I : Inv (cxL (CXe P w) P w K mg base N qual scope f cd cl A outer s H E) pins σ H1 s1)
    (ha : H1 a=some (Exo a C d b cx)) (hf : b=true ∨ Flt s1.heap a .none) (hE : E (.ref a) none (upd H1 a (Exo a C d false cx))) : (cxL (CXe P w) P w K mg base N qual scope f cd cl A outer s H E).xe (.ref a) s1 := by
  obtain ⟨⟨oe, vs, g1, g2, g3, g4, g5, g6, _⟩, _, _⟩ := I.hok a _ ha
  refine kF (base := base) (outer := outer) I.ok.frames I.stack rfl g1 g4 (hf.imp (fun z => g6 z) id) fun h' Nt => ?_
  obtain ⟨un, hok⟩ := iu I.hok ha I.stkFree Nt
  have J := I.call' (s' := { s1 with heap := h' }) rfl un hok I.bare (fun b z => absurd z (by simp))
  obtain ⟨T, _, hT⟩ := Nt.fly
  exact ⟨a, C, d, cx, _, rfl, J.os, J.bare, J.base, J.hok, ag .., ⟨T, hT⟩, hE⟩
theorem cW {cl : List (Str × Addr)}{N : List Str} : dR (CXe P w) (cxL (CXe P w) P w K mg base N qual scope f cd cl A outer s H E) E := by
  intro pins σ H1 s1 e s' I ⟨a, C, d, cx, H', he, os, bare, un, hok, ha, hf, hE⟩
  subst he
  have J := I.call' os un hok bare (fun b z => absurd z (by simp))
  exact iE J ha (.inr hf) (by rw [dv ha];exact hE)
end
def Cd (c' : Addr)(q : Str) : HO := .ext fun h => ∃ oc vs t, h.get? c'=some oc ∧ oc.data = .fields vs ∧ vs[1]? = some (.str q t)
theorem pK {P : Program}{w : World}{H : Hp}{h : Heap}{c' : Addr}{q : Str}(x : h.CodeRec (.ref c') q) : aP P w H h c' (Cd c' q) := by
  obtain ⟨c₂, oc, vs, t, e2, hoc, hd, hv⟩ := x
  cases e2
  refine ⟨⟨oc, vs, t, hoc, hd, hv⟩, ⟨oc, hoc⟩, ?_⟩
  rintro h1 h2 ⟨oc, vs, t, e, hd, hv⟩ k
  exact ⟨oc, vs, t, k _ e, hd, hv⟩
theorem nZ {P : Program}{w : World}{H : Hp}{h : Heap}{c' : Addr}{q : Str}(ok : HOk P w H h)(x : H c'=some (Cd c' q)) : h.CodeRec (.ref c') q := by
  obtain ⟨⟨oc, vs, t, e, hd, hv⟩, _, _⟩ := ok _ _ x
  exact ⟨c', oc, vs, t, rfl, e, hd, hv⟩
def Tab (H : Hp)(P0 : Addr)(q : Str) : Prop := ∃ ps, H P0=some (.tbl ps) ∧ TriplesOk ps.toList ∧ ∀ pos cv, codeAmong pos ps.toList=some cv → ∃ c', cv = .ref c' ∧ H c'=some (Cd c' q)
theorem Tab.same {H H' : Hp}{P0 : Addr}{q : Str}(s : ∀ b o, H b=some o → H' b=some o)(h : Tab H P0 q) : Tab H' P0 q := by
  obtain ⟨ps, e, t, k⟩ := h
  exact ⟨ps, s _ _ e, t, fun pos cv ec => let ⟨c', e1, e2⟩ := k pos cv ec;⟨c', e1, s _ _ e2⟩⟩
structure Mkr (base : Heap) (mg : Str → Option Value) (c0 P0 : Addr) : Prop where
  code : PySem.W.CodeHd base c0 P0
  blt : base.BuiltinsAt mg P0
theorem gj {pos pos' : Pos}{c cv : Value} : ∀ l : List Value, TriplesOk l → codeAmong pos (l++[rawInt pos'.line, rawInt pos'.col, c])=some cv → codeAmong pos l=some cv ∨ cv=c := by
  intro l h e
  fun_induction TriplesOk l with
  | case1 =>
    simp only [List.nil_append, codeAmong, rawInt] at e
    split at e
    · exact .inr (rl e).symm
    · cases e
  | case2 a t b u x rest ih =>
    simp only [List.cons_append, codeAmong] at e ⊢
    split
    · rename_i hc
      rw [if_pos hc] at e
      exact .inl e
    · rename_i hc
      rw [if_neg hc] at e
      exact ih h e
  | case3 l h1 h2 => exact h.elim
section
variable {X : Cx} {pins : List (Addr × Obj)} {σ : St} {H : Hp} {s : Shared}
theorem jT {c0 P0 : Addr}{q fr : Str}{c : Addr}{params : Arguments}{body : Expr}{scope : Scope}{pos : Pos}{line : Nat}{Q : Value → Shared → Prop}(I : Inv X pins σ H s)(hcode : X.env.code = .ref c0)(M : Mkr X.base X.mg c0 P0)(hT : Tab H P0 q)
    (hclos : closureFor scope X.env=pure [(fr, c)])
    (h : ∀ f c' pm ctv s' H', Inv X pins σ H' s' → s'.heap.get? f=some (PySem.W.kla_obj "<lambda>" q params body scope [(fr, c)] pm c' ctv) → H' f=none → f∉frs X.stack → H' c'=some (Cd c' q) → Tab H' P0 q → (∀ b o, b≠P0 → H b=some o → H' b=some o) → (∀ b o, s.heap.get? b=some o → H b=none → s'.heap.get? b=some o) → Q (.ref f) s') :
    wpAny (model X.prog X.w) X.A (makeFunction "<lambda>" q params (.expr body) scope X.env [] [] [] pos line) Q X.xe s := by
  obtain ⟨ps, hP, tri, cds⟩ := hT
  have hg : s.heap.Ns mainGlobals X.mg := I.mod.glob.keeps I.bk
  have hPo : s.heap.get? P0=some (PySem.W.tabObj ps) := I.hok _ _ hP
  have C : PySem.W.CodeHd s.heap c0 P0 := M.code.keeps I.bk
  have B : s.heap.BuiltinsAt X.mg P0 := by
    obtain ⟨bm, ob, b1, b2, b3, b4, b5, b6, b7, b8⟩ := M.blt
    exact ⟨bm, ob, b1, b2, b3, b4, I.bk _ _ b5, b6, b7, b8⟩
  have hgP : mainGlobals≠P0 := fun z => by
    obtain ⟨o, es, ep, e, hd, _⟩ := I.mod.glob
    have := (I.bs _ _ e).2
    rw [z, hP] at this
    cases this
  have fsN : ∀ a, s.heap.objs.size≤a → a∉frs X.stack := fun a ha z => by
    rcases rN.mp (I.stkSub _ z) with z | z
    · exact absurd I.lt (by rw [← z];exact Nat.not_lt.mpr ha)
    · exact I.nofs ha z
  cases hcm : codeAmong pos ps.toList with
  | some cv =>
    obtain ⟨c', rfl, hc'⟩ := cds pos cv hcm
    refine PySem.W.kla_makeFunctionHit (mg := X.mg) hclos I.ok.glob hg hcode C hPo tri hcm B fun ctv h' tk hk hsz => ?_
    have k2 : ∀ b o, s.heap.get? b=some o → (h'.push (PySem.W.kla_obj "<lambda>" q params body scope [(fr, c)] ((X.mg "__name__").getD .none) c' ctv)).get? b=some o := fun b o e => fu _ (hk b o e)
    exact h h'.objs.size c' _ ctv _ H (I.kept k2) (ri _ rfl) (I.hok.fresh hsz) (fsN _ hsz) hc' ⟨ps, hP, tri, cds⟩ (fun b o _ e => e) fun b o e _ => k2 b o e
  | none =>
    refine PySem.W.kla_makeFunction (mg := X.mg) hclos I.ok.glob hg hcode C hPo tri hcm hgP B fun c' ctv h' tk hx hge hlt hrec htb => ?_
    have hc0 : H c'=none := I.hok.fresh hge
    have nPc : P0≠c' := fun z => by rw [z, hc0] at hP;cases hP
    have hsz : s.heap.objs.size≤h'.objs.size := rJ hge (tP hlt)
    have hf0 : H h'.objs.size=none := I.hok.fresh hsz
    have nfc : h'.objs.size≠c' := u_ hlt
    have nfP : h'.objs.size≠P0 := fun z => by rw [z, hP] at hf0;cases hf0
    let fo := PySem.W.kla_obj "<lambda>" q params body scope [(fr, c)] ((X.mg "__name__").getD .none) c' ctv
    have k2 : ∀ b o, b≠P0 → s.heap.get? b=some o → (h'.push fo).get? b=some o := fun b o nb e => fu _ (hx b o nb e)
    have hH' : ∀ b, b≠P0 → b≠c' → (upd (upd H P0 (.tbl (ps ++ #[rawInt pos.line, rawInt pos.col, .ref c']))) c' (Cd c' q)) b=H b := fun b n1 n2 => by rw [ak n2, ak n1]
    have hHP : (upd (upd H P0 (.tbl (ps ++ #[rawInt pos.line, rawInt pos.col, .ref c']))) c' (Cd c' q)) P0=some (.tbl (ps ++ #[rawInt pos.line, rawInt pos.col, .ref c'])) := by rw [ak nPc, ag]
    have hHc : (upd (upd H P0 (.tbl (ps ++ #[rawInt pos.line, rawInt pos.col, .ref c']))) c' (Cd c' q)) c'=some (Cd c' q) := ag
    generalize upd (upd H P0 (.tbl (ps ++ #[rawInt pos.line, rawInt pos.col, .ref c']))) c' (Cd c' q)=H' at hH' hHP hHc
    have nP : ∀ b, H b=none → b≠P0 := fun b n z => by rw [z, hP] at n;cases n
    have nc : ∀ b o, s.heap.get? b=some o → b≠c' := fun b o e z => absurd (q9 e) (by rw [z];exact Nat.not_lt.mpr hge)
    have ncH : ∀ b o, H b=some o → b≠c' := fun b o e z => by rw [z, hc0] at e;cases e
    have keepH : ∀ b o, b≠P0 → H b=some o → H' b=some o := fun b o n e => by rw [hH' b n (ncH b o e)];exact e
    have un : Un X.fs [] H H' s.heap (h'.push fo) := by
      refine ⟨fun b o e n _ _ => k2 b o (nP b n) e, fun b o e n _ _ => ⟨o.slots, k2 b o (nP b n) e⟩, fun b o e n _ => ?_, fun b o e _ => ?_, fun b xs e => ?_, fun b o u e => ?_, fun b qs e => ?_⟩
      · rw [hH' b (nP b n) (nc b o e)];exact n
      · by_cases hb : b=P0
        · rw [hb];exact ⟨_, fu _ htb⟩
        · exact ⟨o, k2 b o hb e⟩
      · exact keepH b _ (fun z => by rw [z, hP] at e;cases e) e
      · exact keepH b _ (fun z => by rw [z, hP] at e;cases e) e
      · by_cases hb : b=P0
        · subst hb
          rw [hP] at e
          cases e
          exact ⟨_, hHP⟩
        · exact ⟨#[], by rw [keepH b _ hb e];simp⟩
    have hok : HOk X.prog X.w H' (h'.push fo) := fun b u e => by
      by_cases hb : b=P0
      · subst hb
        rw [hHP] at e
        cases e
        exact fu _ htb
      · by_cases hb2 : b=c'
        · subst hb2
          rw [hHc] at e
          cases e
          obtain ⟨c₂, oc, vs, t, e2, hoc, hd, hv⟩ := hrec
          cases e2
          exact pK ⟨_, oc, vs, t, rfl, fu _ hoc, hd, hv⟩
        · rw [hH' b hb hb2] at e
          have notP : ∀ {x : Addr} {o : HO}, H x=some o → (∀ ps, o ≠ .tbl ps) → x≠P0 := fun {x o} hx n z => by
            rw [z, hP] at hx
            cases hx
            exact n _ rfl
          refine (I.hok b u e).stay (fun x v hx qx => k2 x v ?_ qx) (fun x hx => keepH x _ (notP hx (by intro ps z;cases z)) hx) fun x xs hx => keepH x _ (notP hx (by intro ps z;cases z)) hx
          rcases hx with rfl | hx
          · exact hb
          · exact notP hx (by intro ps z;cases z)
    have J := I.un (t' := tk) un hok
    refine h h'.objs.size c' _ ctv _ H' J (ri _ rfl) ?_ (fsN _ hsz) hHc ⟨_, hHP, ?_, fun p' cv ec => ?_⟩ keepH fun b o e n => k2 b o (nP b n) e
    · rw [hH' _ nfP nfc];exact hf0
    · rw [Array.toList_append]
      exact TriplesOk_snoc _ _ _ _ tri
    · rw [Array.toList_append] at ec
      rcases gj _ tri ec with z | z
      · obtain ⟨c2, e1, e2⟩ := cds p' cv z
        refine ⟨c2, e1, keepH c2 _ (fun z => ?_) e2⟩
        rw [z, hP] at e2
        cases e2
      · exact ⟨c', z, hHc⟩
end
end L2
namespace PySem
end PySem
namespace L2
open PySem PySem.Spec PyProof.Rows Wd
section
variable {X : Cx}
end
end L2
namespace L2
open PySem PySem.Spec PyProof.Rows Wd
end L2
namespace L2
open PySem PySem.Spec PyProof.Rows Wd
section
variable {X : Cx}
end
end L2
namespace Wd
def img (ws : List (List L))(x : L) : List L := if x.val < 6 then ws.getD x.val [] else bk (ws.getD (x.val - 6) [])
def sub (ws : List (List L))(u : List L) : List L := u.flatMap (img ws)
def InM (n : Nat)(u : List L) : Prop := ∀ x∈u, x.val % 6 < n
end Wd
namespace PySem
section
variable {prog : Program} {w : World} {A : Around} {E : Value → Shared → Prop}
end
end PySem
namespace L2
open PySem PySem.Spec PyProof.Rows Wd
section
variable {X : Cx} {pos : Pos}
end
end L2
namespace L2
open PySem PySem.Spec PyProof.Rows Wd
section
variable {X : Cx}
end
end L2
namespace Kx
open PySem PySem.Spec PyProof.Rows L2 Wd
end Kx
namespace L2
open PySem PySem.Spec PyProof.Rows Wd
section
variable {X : Cx}
end
end L2
namespace Wd
structure Srf (u : List L) : Prop where
  ne : u≠[]
  nd : u.Nodup
  iv : ∀ x∈u, inv x∈u
  le : u.length≤12
end Wd
namespace Kx
open PySem PySem.Spec PyProof.Rows L2 Wd
theorem iF (u : List L)(x : L)(i : Nat) : StrLaws.At (toS u) (toS [x]) (toS u).length i ↔ u[i]? = some x := by
  unfold StrLaws.At
  rw [af, af, StrLaws.subAt_eq, af, aR, aR, u3, ← List.map_drop, ← List.map_take]
  simp only [tV]
  constructor
  · rintro ⟨h1, h2⟩
    have h2 := b9 h2
    have : (u.drop i).take 1=[u[i]] := by rw [uG (by omega)];rfl
    rw [this] at h2
    rw [rP (by omega)]
    exact rT some (List.cons.inj h2).1
  · intro h
    obtain ⟨hl, e⟩ := rb.mp h
    refine ⟨by omega, ?_⟩
    rw [uG hl, e]
    rfl
theorem n8 {u : List L}{x : L}(h : x∈u) : ∃ rest, Builtin.Str.occurrences (toS u) (toS [x]) 0 (toS u).length 1=u.idxOf x::rest := by
  have hlt := List.idxOf_lt_length_of_mem h
  have hx : u[u.idxOf x]? = some x := by rw [rP hlt];exact rT some (List.getElem_idxOf hlt)
  rcases StrLaws.occ_head (toS u) (toS [x]) 1 (rh 1) with ⟨h0, hn⟩ | ⟨i, r, h0, hi, hn⟩
  · exact absurd ((iF u x _).mpr hx) (hn _)
  · refine ⟨r, ?_⟩
    rw [h0]
    have hi := (iF u x i).mp hi
    have : i=u.idxOf x := by
      rcases Nat.lt_trichotomy i (u.idxOf x) with h1 | h1 | h1
      · have q := List.not_of_lt_findIdx (p := (· == x)) h1
        obtain ⟨hl, e⟩ := rb.mp hi
        exact absurd (u3.mpr e) (by simpa using q)
      · exact h1
      · exact absurd ((iF u x _).mpr hx) (hn _ h1)
    rw [this]
end Kx
namespace Wd
def aJ (u : List L)(i : Nat)(sd : Int) : L := u.getD (((i : Int)+sd) % (u.length : Int)).toNat 0
structure mO (n : Nat) (u : List L) : Prop where
  len : u.length=2*n
  nd : u.Nodup
  ins : InM n u
theorem dA {u : List L}(h : u≠[])(i : Nat)(sd : Int) : u[(((i : Int)+sd) % (u.length : Int)).toNat]? = some (aJ u i sd) := by
  have hp := sO.mpr h
  have h1 := sH ((i : Int)+sd) (show (u.length : Int)≠0 by omega)
  have h2 := sR ((i : Int)+sd) (show (0 : Int) < (u.length : Int) by omega)
  unfold aJ
  rw [sm, rP (by omega)]
  rfl
theorem far_mem {u : List L}(h : u≠[])(i : Nat)(sd : Int) : aJ u i sd∈u := rM (dA h i sd)
theorem n9 {n : Nat}(h6 : n≤6){x : L}(hx : x.val % 6 < n) : x∈([0, 1, 2, 3, 4, 5] : List L).take n++([6, 7, 8, 9, 10, 11] : List L).take n := by
  have q : ∀ (n : Fin 7) (x : L), x.val % 6 < n.val → x∈([0, 1, 2, 3, 4, 5] : List L).take n.val++([6, 7, 8, 9, 10, 11] : List L).take n.val := by decide
  exact q ⟨n, by omega⟩ x hx
theorem jU {n : Nat}{u : List L}(h1 : 1≤n)(h6 : n≤6)(p : u.Perm (([0, 1, 2, 3, 4, 5] : List L).take n++([6, 7, 8, 9, 10, 11] : List L).take n)) : mO n u := by
  have q : ∀ n : Fin 7, (([0, 1, 2, 3, 4, 5] : List L).take n.val++([6, 7, 8, 9, 10, 11] : List L).take n.val).length=2*n.val ∧ (([0, 1, 2, 3, 4, 5] : List L).take n.val++([6, 7, 8, 9, 10, 11] : List L).take n.val).Nodup ∧ ∀ x∈([0, 1, 2, 3, 4, 5] : List L).take n.val++([6, 7, 8, 9, 10, 11] : List L).take n.val, x.val % 6 < n.val := by decide
  obtain ⟨a, b, c⟩ := q ⟨n, by omega⟩
  exact ⟨by rw [p.length_eq, a], p.nodup_iff.mpr b, fun x hx => c x (p.mem_iff.mp hx)⟩
end Wd
namespace L2
open PySem PySem.Spec PyProof.Rows Wd
section
variable {X : Cx}
end
end L2
namespace Kx
open PySem PySem.Spec PyProof.Rows L2 Wd
inductive n_ (vs : List V)(H : Hp)(Q : VK)(u3_ : XK) : Prop
  | mk : ∀ (u : List L) (t : Addr) (i : Nat) (sd : Int), (vs=[tx u, .ref t]) → (H t=some (.tup [.int (i : Int), .int sd])) → (u≠[]) → (u.length≤100) → (Q (tx [aJ u i sd]) H) → n_ vs H Q u3_
end Kx
namespace L2
open PySem PySem.Spec PyProof.Rows Wd
section
variable {X : Cx}
end
end L2
namespace L2
open PySem PySem.Spec PyProof.Rows
section
variable {X : Cx} {pins : List (Addr × Obj)} {σ : St} {H : Hp} {s : Shared}
theorem iG {x : Str}{i : Nat}{pos : Pos}{v : V}{Q : Value → Shared → Prop}(I : Inv X pins σ H s)(hN : X.N[i]? = some x)(hv : Vis X.env.scope x)(e : σ[i]? = some (some v))(h : ∀ u, aL v u → Q u s)
    (hd : (x == ("__debug__" : Str))=false := by decide) (hcd : (x == ("__classdict__" : Str))=false := by decide) : wpAny (model X.prog X.w) X.A (eval (.Name x pos) X.env) Q X.xe s := by
  obtain ⟨m, hn, hl⟩ := I.loc
  obtain ⟨u, r, l⟩ := hl i x v hN e hv
  rcases l with ⟨hk, hm⟩ | ⟨hk, c, hc, hcell⟩
  · exact tI (sG I.ok.kind hk hn hm (h u r)) hd
  · rcases hk with hk | hk
    · exact tI (ue I.ok.kind hk hc hcell (h u r)) hd
    · exact tI (wpAny_loadName_free I.ok.kind hk hc hcell (h u r) hcd) hd
theorem iH {M : Model}{A : Around}{E : Value → Shared → Prop}{i : Nat}{x : Str}{v : V}{u : Value}{Q : Unit → Shared → Prop}(I : Inv X pins σ H s)(hN : X.N.Nodup)(hi : X.N[i]? = some x)(hk : X.env.scope.names.lookup x=some .local)(r : aL v u)
    (h : ∀ h' m, Inv X pins (σ.set i (some v)) H { s with heap := h', toks := s.toks+1 } → h'.Ns X.env.locals m → m x=some u → Q () { s with heap := h', toks := s.toks+1 }) : wpAny M A (storeName X.env x u) Q E s := by
  obtain ⟨m, hn, hl⟩ := id I.loc
  have hcls : (X.env.scope.kind == .class || (X.env.scope.kind == .module && X.env.locals != X.env.globals))=false := by rw [I.ok.kind];rfl
  have hiσ : i < σ.length := by rw [I.len];exact (rb.mp hi).1
  have cne := I.cne
  have tracked : ∀ {a : Addr} {h' : Heap}, (∃ o, s.heap.get? a=some o ∧ H a=none) → Heap.SameBut a s.heap h' → HOk X.prog X.w H h' := fun {a h'} ha hs b ob e => by
    obtain ⟨_, _, hfree⟩ := ha
    refine (I.hok b ob e).stay (fun c w' hc q => (hs.2 c ?_).trans q) (fun _ q => q) fun _ _ q => q
    rintro rfl
    rcases hc with rfl | hc
    · rw [hfree] at e;cases e
    · rw [hfree] at hc;cases hc
  refine wpAny_storeName_local hk hn (fun h' hn' hs => ?_) hcls
  obtain ⟨oL, _, _, hoL, _⟩ := id hn
  refine h _ _ ⟨I.ok, I.os, I.bare, ⟨fun b o e n hb hx => ?_, fun b o e n hb hx => ?_, I.base.free, fun b o e hx => ?_, I.base.tups, I.base.frzs, I.base.tbls⟩, ⟨_, hn', fun j y v' e1 e2 e3 => ?_⟩, fun y c e => ?_, I.free, I.freeC, fun p hp => ?_, tracked ⟨oL, hoL, I.free⟩ hs, by simpa using I.len⟩ hn' (by simp)
  · exact (hs.2 b (rC (q_ (q9 e) I.ok.above))).trans (I.base.keep b o e n hb hx)
  · obtain ⟨sl, e1⟩ := I.base.slot b o e n hb hx
    exact ⟨sl, (hs.2 b (rC (q_ (q9 e) I.ok.above))).trans e1⟩
  · obtain ⟨o', e1⟩ := I.base.there b o e hx
    exact ⟨o', (hs.2 b (rC (q_ (q9 e) I.ok.above))).trans e1⟩
  · by_cases hj : j=i
    · subst hj
      rw [hi] at e1;cases e1
      rw [sC hiσ] at e2
      cases e2
      exact ⟨u, r, .inl ⟨hk, by simp⟩⟩
    · rw [su (Ne.symm hj)] at e2
      obtain ⟨u', r', q⟩ := hl j y v' e1 e2 e3
      refine ⟨u', r', ?_⟩
      rcases q with ⟨k, e⟩ | ⟨k, c, e, z⟩
      · refine .inl ⟨k, ?_⟩
        have : y≠x := fun e => hj (ck hN e1 (e ▸ hi))
        simp [this, e]
      · exact .inr ⟨k, c, e, z.sameBut hs (cne y c e)⟩
  · obtain ⟨w', z⟩ := I.cell y c e
    exact ⟨w', z.sameBut hs (cne y c e)⟩
  · obtain ⟨e, n, ne, nf, d⟩ := I.pin p hp
    exact ⟨(hs.2 p.1 ne).trans e, n, ne, nf, d⟩
inductive tMv (iz iw ix iy : Nat)(u : TS)(D : cZ)(σ : St)(H : Hp) : Prop
  | mk : ∀ (S : Str) (p : Addr) (i : Int) (r : List V) (c : Nat), σ[iz]? = some (some (.str S)) → σ[iw]? = some (some (.ref p)) → H p=some (.tup (.int i::r)) → S.length≤1000 → atI S.cps.toList i=some c →
      u D ((σ.set ix (some (.str ⟨#[c]⟩))).set iy (some (.str (Txt.replace S ⟨#[c]⟩ "")))) H → tMv iz iw ix iy u D σ H
theorem iI {iz iw ix iy : Nat}{z w x y : Str}{rest : List Stmt}{u : TS}{k0 k1 : Nat}{p1 p2 p3 p4 p5 p6 p7 p8 p9 p10 p11 p12 p13 p14 : Pos}
    (hN : X.N.Nodup) (hNz : X.N[iz]? = some z) (hNw : X.N[iw]? = some w) (hNx : X.N[ix]? = some x) (hNy : X.N[iy]? = some y)
    (hkz : X.env.scope.names.lookup z=some .local) (hkw : X.env.scope.names.lookup w=some .local) (hkx : X.env.scope.names.lookup x=some .local) (hky : X.env.scope.names.lookup y=some .local)
    (hne : ix≠iz) (hp1 : c8 (.Constant (.int 0) k0 p4)) (hp2 : c8 (.Subscript (.Name w p3) (.Constant (.int 0) k0 p4) p5)) (h2 : PSs X rest u)
    (hs1 : swapsWith (.Subscript (.Name z p2) (.Subscript (.Name w p3) (.Constant (.int 0) k0 p4) p5) p6) (some (.Name x p1)) p7.line X.env=pure false := by rfl)
    (hs2 : swapsWith (.Call (.Attribute (.Name z p9) "replace" p10) [.Name x p11, .Constant (.str "") k1 p12] [] p13) (some (.Name y p8)) p14.line X.env=pure false := by rfl)
    (hd1 : (z == ("__debug__" : Str))=false := by decide) (hd2 : (w == ("__debug__" : Str))=false := by decide) (hd3 : (x == ("__debug__" : Str))=false := by decide)
    (hc1 : (z == ("__classdict__" : Str))=false := by decide) (hc2 : (w == ("__classdict__" : Str))=false := by decide)
    (hbase : attributeBase (.Name z p9) "replace" X.env (eval (.Name z p9) X.env)=eval (.Name z p9) X.env := by rfl)
    (hfew : ((backTo p13 (starEach [.Name x p11, .Constant (.str "") k1 p12] X.env)).all (fun x => !x.1) && (backToKw p13 (keywordEach [] X.env)).all (fun x => x.1.isSome)
      && decide (([.Name x p11, .Constant (.str "") k1 p12] : List Expr).length+([] : List Keyword).length+(if ([] : List Keyword).isEmpty then 0 else 1) < 30))=true := by rfl)
    (hline : (p10.endLine == p13.line)=true := by rfl)
    (hst : backTo p13 (starEach [.Name x p11, .Constant (.str "") k1 p12] X.env)=[(false, eval (.Name x p11) X.env), (false, eval (.Constant (.str "") k1 p12) X.env)] := by rfl) :
    PSs X (.Assign [.Name x p1] (.Subscript (.Name z p2) (.Subscript (.Name w p3) (.Constant (.int 0) k0 p4) p5) p6) p7 :: .Assign [.Name y p8] (.Call (.Attribute (.Name z p9) "replace" p10) [.Name x p11, .Constant (.str "") k1 p12] [] p13) p14::rest) (tMv iz iw ix iy u) := by
  intro pins s σ H D I h
  obtain ⟨S, p, i, r, c, hz, hw, hp, hS, hc, q⟩ := h
  have hn63 := b_
  have l16 : sizeLine=16777216 := sq
  have ixlt : ix < σ.length := by rw [I.len];exact (rb.mp hNx).1
  refine sZ (tJ (uJ (iG I hNz (.inl hkz) hz (fun uz rz => uJ (iG I hNw (.inl hkw) hw (fun uw rw' => wpAny_Constant_int ?_) hd2 hc2)) hd1 hc1)) hs1)
  cases rw'
  obtain ⟨tz, rfl⟩ := rz
  have I1 := I.tok (s.toks+1)
  obtain ⟨its, rv, pl, hsz⟩ := I1.tuple (SqT.of hp)
  obtain ⟨u0, e0, t0, rfl⟩ := rv.get (i := 0) rfl
  have hl := rv.length
  have hl : its.length=r.length+1 := hl.symm
  refine tF (x := .int i t0) pl.typeIs slot_tuple_getitem.lookup (getItem_tuple (j := 0) pl (by decide) (by decide) (by rw [seqIndex_of (by decide) (by rw [rj];omega)];rfl) (by simpa using e0) ⟨rfl, ?_⟩) (hp1 _ _)
  obtain ⟨j, a1, a2, a3, a4, a5⟩ := c7 hc
  have hlS : S.cps.toList.length=S.length := by simp [Str.length]
  rw [hlS] at a1 a4 a5
  refine tail_any (tL _ S tz) slot_str_getitem.lookup (getItem_str (c := c) (by
    have e1 : decide (i < -(2 ^ 63 : Int))=false := rf (by omega)
    have e2 : decide (i≥2 ^ 63)=false := rf (by omega)
    rw [e1, e2, u5]) (by rw [a1];simpa using a2) ?_) (hp2 _ _)
  refine iH (I1.tok _) hN hNx hkx (v := .str ⟨#[c]⟩) ⟨_, rfl⟩ fun h' m I2 hm hmx => ?_
  refine sZ (tJ (wpAny_Call_method_late hbase hfew hline rfl (iG I2 hNz (.inl hkz) (by rw [su hne];exact hz) (fun uz rz => ?_) hd1 hc1)) hs2)
  obtain ⟨tz2, rfl⟩ := rz
  refine ⟨"str", "str.replace", r6, PySem.F.slot_str_replace, PySem.F.type_str_replace, tL _ _ _, (fun _ e => nomatch e), ?_⟩
  rw [hst]
  refine tG rfl (Calls.evalArgs_plain ?_)
  refine si (tI (sG I2.ok.kind hkx hm hmx ?_) hd3)
  refine si (Calls.Constant_str (sW ?_))
  have hyz : ((⟨#[c]⟩ : Str) == ("" : Str))=false := by
    cases e : ((⟨#[c]⟩ : Str) == ("" : Str)) with
    | false => rfl
    | true =>
      have e := eq_of_beq e
      have : (⟨#[c]⟩ : Str).length=("" : Str).length := by rw [e]
      have h0 : ("" : Str).length=0 := by decide +kernel
      rw [h0] at this
      exact absurd this (by show ¬ 1=0;decide)
  have e0 : ("" : Str).length=0 := by decide +kernel
  refine SC.replace (by show s.toks+1≠0;omega) (by show s.toks+1+1+1≠0;omega) (by show s.toks+1≠s.toks+1+1+1;omega) hyz (by rw [e0];omega) fun t' k => ?_
  have I3 := I2.tok k
  refine bc I3 hN hNy (.inl hky) (v := .str (Txt.replace S ⟨#[c]⟩ "")) ⟨_, rfl⟩ (fun s' I4 => ?_) (.inr hky)
  exact h2 pins s' _ H D I4 q
end
end L2
namespace L2
open PySem PySem.Spec PyProof.Rows
abbrev SpS := List Env → Shared → Sp
structure pL (P : Program) (w : World) (K : PySem.W.Frag) (mg : Str → Option Value) (base : Heap) (k : Nat) (f : Addr) (fd : FuncData) (ps : List Str) (sp : SpS) : Prop where
  len : ∀ outer s vs H Q E, sp outer s vs H Q E → vs.length=ps.length
  run : ∀ (A : Around) (outer : List Env) (s : Shared) (H : Hp) (args : Args) (us : List Value) (vs : List V) (Q : VK) (E : XK), bp k A → gQ P w K mg base A outer s H → BindsTo s fd args (ps.zip us) → aI vs us → sp outer s vs H Q E →
    codeAny (model P w) A (.call (.ref f) args) (CR CX0 outer P w H s Q E) s
structure oO (P : Program) (w : World) (K : PySem.W.Frag) (mg : Str → Option Value) (base : Heap) (x : Str) (ps : List Str) (k : Nat) (sp : SpS) : Prop where
  ex : ∃ (f : Addr) (fd : FuncData), mg x=some (.ref f) ∧ PySem.W.keepIn K (.ref f)=true ∧ cB K fd ps [] ∧ pL P w K mg base k f fd ps sp
theorem Df.okS {P : Program}{w : World}{K : PySem.W.Frag}{mg : Str → Option Value}{base : Heap}{x : Str}{st : Stmt}{N ps : List Str}{k : Nat}{sp : SpS}(D : Df K mg x st)(S : aw N ps (ah st))
    (hb : ∀ (kV doc pm : Value) (an : Option Addr) (cdv ct : Value) (us : List Value), us.length=ps.length → bindArgs (PySem.W.fnOf x x (aM st) (aA st) (ah st) .none kV doc pm an cdv ct) ⟨us, []⟩=pure (ps.zip us))
    (len : ∀ outer s vs H Q E, sp outer s vs H Q E → vs.length=ps.length)
    (hbody : ∀ (f : Addr) (cdv : Value) (A : Around) (outer : List Env) (s : Shared) (H : Hp) (vs : List V) (Q : VK) (E : XK), bp k (A.deeper (envOfC x (ah st) s.heap.objs.size f cdv)) → sp outer s vs H Q E →
      ∃ t, PSs (eY CX0 P w K mg base N x (ah st) f cdv A outer s H E).nox (aA st) t ∧ t { nx := fun _ H' => Q .non H', rt := Q } (start N vs) H) : oO P w K mg base x ps (k+1) sp := by
  obtain ⟨f, fd, hm, F⟩ := D.ex
  refine ⟨f, fd, hm, F.kp, F.binds hb, ?_⟩
  obtain ⟨oc, od, kV, doc, pm, an, cdv, ct, osl, rfl, lk, hcd⟩ := F.ex
  refine ⟨len, fun A outer s H args us vs Q E hr e0 hbi r hsp => ?_⟩
  have hl := len _ _ _ _ _ _ hsp
  have KX : K.In s.heap := e0.mod.kin.keeps fun b o e => (e0.bs b o e).1
  have lim : s.heap.NoLimit := e0.mod.nolimit.keeps fun b o e => (e0.bs b o e).1
  have hkind : ∀ y∈ps.zip us, (ah st).names.lookup y.1=some .local ∨ ((ah st).names.lookup y.1=some .cell ∧ ((cellsFrom (s.heap.objs.size+1) (ah st).names []).lookup y.1).isSome=true) := fun ⟨n, v⟩ hy => by
    rcases S.par n (uf hy).1 with q | q
    · exact .inl q
    · exact .inr ⟨q, tD _ _ _ (.inl q)⟩
  refine codeAny_call_function hr.depth (KX _ _ lk) rfl S.co S.gen rfl (PySem.W.codeRec_of KX hcd) (hbi _ _ _ _ ?_)
  refine uq S.kind hkind fun env he s1 x1 => ?_
  subst he
  refine ⟨lim.keeps x1.toInCall.keep, codeAny_func ?_⟩
  obtain ⟨t, ht, hq⟩ := hbody f cdv A outer s H vs Q E (hr.deeper _) hsp
  have I : Inv (eY CX0 P w K mg base N x (ah st) f cdv A outer s H E) [] (start N vs) H s1 := dY S hr.hd e0 hl r x1
  refine rO (ht.nox [] s1 (start N vs) H _ I hq) (fun fl s' hs => ?_) fun e s' hs => hs
  have fin : ∀ {σ' : St} {H' : Hp} {v : V} {u : Value}, Inv (eY CX0 P w K mg base N x (ah st) f cdv A outer s H E) [] σ' H' s' → aL v u → Q v H' → CE outer P w H s Q u s' :=
    fun {σ' H' v u} J rv q => ⟨v, H', J.os, J.bare, J.base, J.hok, rv, q⟩
  cases fl with
  | ret u =>
    obtain ⟨v, σ', H', J, rv, q⟩ := hs
    exact fin J rv q
  | next =>
    obtain ⟨σ', H', J, q⟩ := hs
    exact fin (v := V.non) (u := Value.none) J rfl q
  | brk =>
    obtain ⟨_, _, _, q⟩ := hs
    exact False.elim q
  | cont =>
    obtain ⟨_, _, _, q⟩ := hs
    exact False.elim q
structure oP (P : Program) (w : World) (K : PySem.W.Frag) (mg : Str → Option Value) (base : Heap) (k : Nat) (outer : List Env) (s : Shared) (H : Hp) (f c' : Addr) (q : Str) (spx : Sp) : Prop where
  fn : PySem.W.FnAt f s.heap
  fr : H f=none
  nf : f∉frs outer
  run : ∀ (A : Around) (outer' : List Env) (s' : Shared) (H' : Hp) (u1 : Value) (v1 : V) (Q : VK) (E : XK), bp k A → gQ P w K mg base A outer' s' H' → (∀ b o, s.heap.get? b=some o → H b=none → b∉frs outer → s'.heap.get? b=some o ∧ H' b=none) →
    H' c'=some (Cd c' q) → aL v1 u1 → spx [v1] H' Q E → codeAny (model P w) A (.call (.ref f) ⟨[u1], []⟩) (CR (CXe P w) outer' P w H' s' Q E) s'
inductive qq (i : Nat)(f c' : Addr)(q : Str)(spx : Sp)(E : XK)(te : TE)(σ : St)(H : Hp)(Q : VK) : Prop
  | mk : σ[i]? = some (some (.ref f)) → te σ H (fun v H1 => H1 c'=some (Cd c' q) ∧ spx [v] H1 Q E) → qq i f c' q spx E te σ H Q
section
variable {X : Cx} {E : XK} {x : Str} {j k i : Nat} {f c' : Addr} {q : Str} {spx : Sp} {e : Expr} {te : TE} {p pos : Pos}
theorem l9 (hA : oP X.prog X.w X.K X.mg X.base j X.outer X.s₀ X.H₀ f c' q spx)(hex : X.ex=[])(hr : bp k X.A)(hj : j≤k)(hi : X.N[i]? = some x)(hv : X.env.scope.names.lookup x=some .local)(he : PE X.nox e te)
    (hdb : (x == ("__debug__" : Str))=false := by decide) (hcd : (x == ("__classdict__" : Str))=false := by decide) (hs : starEach [e] X.env=(false, eval e X.env)::starEach [] X.env := by rfl) (hpl : (backTo pos (starEach [] X.env)).any (·.1)=false := by rfl) :
    PEE X E (.Call (.Name x p) [e] [] pos) (qq i f c' q spx E te) := by
  intro pins s σ H Q I h
  obtain ⟨hσ, h⟩ := h
  have kp : ∀ {s1 : Shared} {H1 : Hp}, Inv X pins σ H1 s1 → ∀ b o, X.s₀.heap.get? b=some o → X.H₀ b=none → b∉frs X.outer → s1.heap.get? b=some o ∧ H1 b=none := fun J b o eb nb fb =>
    ⟨J.base.keep b o eb nb fb (by rw [hex];simp), J.base.free b o eb nb (by rw [hex];simp)⟩
  have fnA : ∀ {s1 : Shared} {H1 : Hp}, Inv X pins σ H1 s1 → PySem.W.FnAt f s1.heap := fun J => by
    obtain ⟨oc, od, fd, sl, ef⟩ := hA.fn
    exact ⟨oc, od, fd, sl, (kp J _ _ ef hA.fr hA.nf).1⟩
  refine sF ?_
  obtain ⟨m, hn, hl⟩ := I.loc
  obtain ⟨u, r, l⟩ := hl i x _ hi hσ (.inl hv)
  obtain rfl : u=Value.ref f := r
  have hm : m x=some (.ref f) := by
    rcases l with ⟨_, hm⟩ | ⟨hk, _⟩
    · exact hm
    · have hk' : X.env.scope.names.lookup x=some .cell ∨ X.env.scope.names.lookup x=some .free := hk
      rcases hk' with z | z <;> (rw [hv] at z;cases z)
  refine tI (sG I.ok.kind hv hn hm ?_) hdb
  refine PySem.W.callWith_F (fnA I) ?_ hs hpl
  rw [hs]
  show wpAny _ _ (spliced ((false, eval e X.env)::backTo pos (starEach [] X.env))) _ _ s
  refine si (rO (he pins s σ H _ (I.wish _) h) (fun u1 s1 z => ?_) fun _ _ z => False.elim z)
  obtain ⟨v1, H1, I0, r1, hc1, q1⟩ := z
  have I1 : Inv X pins σ H1 s1 := I0.unwish
  refine sW ⟨fnA I1, ?_⟩
  refine tK (tQ (hA.run X.A X.stack s1 H1 u1 v1 Q E (hr.mono hj) I1.env0 (kp I1) hc1 r1 q1) fun r s' hq => ?_)
  cases r with
  | error e => exact XE.of I1 hq
  | ok fl =>
    cases fl with
    | ret u => exact I1.after hq
    | next => exact False.elim hq
    | brk => exact False.elim hq
    | cont => exact False.elim hq
theorem jV {a b : Expr}{ta tb : TE}{x1 : Nat}(ha : PE X.nox a ta)(hb : PEE X E b tb)(h1 : starEach [a, b] X.env=(false, eval a X.env)::starEach [b] X.env := by rfl)(h2 : starEach [b] X.env=(false, eval b X.env)::starEach [] X.env := by rfl) :
    PEE X E (.Tuple [a, b] x1 pos) (qe (lb ta (lb tb qc))) := by
  intro pins s σ H Q I hq
  refine wpAny_Tuple_spliced ?_
  rw [h1]
  show wpAny _ _ (spliced ((false, eval a X.env)::backTo pos (starEach [b] X.env))) _ _ s
  refine si (rO (ha pins s σ H _ (I.wish _) hq) (fun u s1 z => ?_) fun _ _ z => False.elim z)
  obtain ⟨v, H1, I0, r1, q1⟩ := z
  have I1 : Inv X pins σ H1 s1 := I0.unwish
  rw [h2]
  show wpAny _ _ (spliced ((false, eval b X.env)::backTo pos (starEach [] X.env))) _ _ s1
  refine si (thn (hb pins s1 σ H1 _ I1 q1) fun u2 s2 z => ?_)
  obtain ⟨v2, H2, I2, r2, hz, q⟩ := z
  refine sW ?_
  have r : aI [v, v2] [u, u2] := .cons r1 (.cons r2 .nil)
  refine ⟨by rw [← r.length];exact hz, ?_⟩
  have hf : H2 s2.heap.objs.size=none := I2.hok.fresh (rh _)
  refine ⟨.ref s2.heap.objs.size, upd H2 s2.heap.objs.size (.tup [v, v2]), I2.laid (t' := s2.toks) (fun b u e => fu _ e) (rh _) ?_, rfl, q _ hf⟩
  exact ⟨hz, [u, u2], r, ⟨_, ri _ rfl, rfl, _, rfl⟩, .new _ _ rfl⟩
end
inductive oa (P : Program)(w : World)(K : PySem.W.Frag)(mg : Str → Option Value)(base : Heap)(k : Nat)(sp : SpS)(i : Nat)(P0 : Addr)(q p fr : Str)(scope : Scope)(body : Expr)(te : TE)(σ : St)(H : Hp)(Q : VK) : Prop
  | mk : ∀ (y : V), σ[i]? = some (some y) → te σ H (fun v H1 => Tab H1 P0 q ∧ ∀ (outer : List Env) (s : Shared) (H2 : Hp) (f c' : Addr), Tab H2 P0 q → H2 c'=some (Cd c' q) → (∀ b o, b≠P0 → H1 b=some o → H2 b=some o) →
      (∀ spx : Sp, (∀ (A : Around) (outer' : List Env) (s' : Shared) (H' : Hp) (c : Addr) (v1 : V) (Q : VK) (E : XK), bp k (A.deeper (PySem.W.envX q scope s'.heap.objs.size f (.ref c') [(fr, c)])) → spx [v1] H' Q E →
          ∃ t, PE (cxL (CXe P w) P w K mg base [p, fr] q scope f (.ref c') [(fr, c)] A outer' s' H' E) body t ∧ t [some v1, some y] H' Q) → oP P w K mg base (k+1) outer s H2 f c' q spx) → sp outer s [v, .ref f] H2 Q E0) → oa P w K mg base k sp i P0 q p fr scope body te σ H Q
theorem iJ {X : Cx}{x fr pr q : Str}{i j k m : Nat}{c0 P0 : Addr}{sp : SpS}{a body : Expr}{te : TE}{params : Arguments}{scope : Scope}{p pos lpos : Pos}{ps : List Str}(F : oO X.prog X.w X.K X.mg X.base x ps j sp)(hr : bp k X.A)(hj : j≤k)(hg : Gl X x)
    (M : Mkr X.base X.mg c0 P0) (hcode : X.env.code = .ref c0) (hq : X.env.qual ++ "<lambda>" = q) (ha : PE X a te) (S : dz pr fr scope) (hi : X.N[i]? = some fr) (hv : X.env.scope.names.lookup fr=some .cell) (hfn : X.fn fr=true)
    (hnm : scope.names.filter (fun y => y.2 == NameKind.free)=[(fr, NameKind.free)])
    (hdf : defaultsOf params X.env=([], []))
    (hbi : ∀ (c : Addr) (pm cd ctv u1 : Value), bindArgs (PySem.W.kla_fn "<lambda>" q params body scope [(fr, c)] pm cd ctv) ⟨[u1], []⟩=pure [(pr, u1)])
    (hdb : (x == ("__debug__" : Str))=false := by decide) (h1 : starEach [a, .Lambda params body scope lpos] X.env=(false, eval a X.env)::starEach [.Lambda params body scope lpos] X.env := by rfl)
    (h2 : starEach [.Lambda params body scope lpos] X.env=(false, eval (.Lambda params body scope lpos) X.env)::starEach [] X.env := by rfl) (hpl : (backTo pos (starEach [.Lambda params body scope lpos] X.env)).any (·.1)=false := by rfl) :
    PE X (.Call (.Name x p) [a, .Lambda params body scope lpos] [] pos) (oa X.prog X.w X.K X.mg X.base m sp i P0 q pr fr scope body te) := by
  obtain ⟨f, fd, hm, hk, hb, F⟩ := F.ex
  intro pins s σ H Q I h
  obtain ⟨y, hσ, h⟩ := h
  refine sF (bI I hg hm ?_ hdb)
  obtain ⟨c, hc⟩ := I.ok.has fr (.inl hv)
  have hclos : closureFor scope X.env=pure [(fr, c)] := by
    rw [bS (env := X.env) (scope := scope) fun y hy e => ?_]
    · congr 1
      have all : ∀ (names : List (Str × NameKind)) (acc : List (Str × Addr)), eP X.env.cells names acc=((names.filter (fun y => y.2 == NameKind.free)).map fun y => (y.1, (X.env.cells.lookup y.1).getD 0)).reverse++acc := by
        intro names
        induction names with
        | nil => intro acc;rfl
        | cons z r ih =>
          intro acc
          obtain ⟨zx, zk⟩ := z
          unfold eP
          by_cases hz : (zk == NameKind.free)=true
          · simp only [hz, ug]
            rw [ih, List.filter_cons_of_pos (by exact hz)]
            simp
          · rw [uP (by exact hz), ← ih acc]
            simp [hz]
      rw [all, hnm]
      show [(fr, (X.env.cells.lookup fr).getD 0)]++[]=[(fr, c)]
      rw [hc]
      rfl
    · have e1 := S.only y hy e
      rw [e1]
      exact ⟨c, hc⟩
  have cfs : c∉frs X.stack := fun z => by
    rcases rN.mp (I.stkSub _ z) with z | z
    · exact I.cne fr c hc z
    · obtain ⟨_, o, ho, _⟩ := I.ok.funs.mem z
      exact absurd (q9 ho) (Nat.not_lt.mpr (I.ok.cab fr c hfn hc))
  refine uu (h₀ := X.base) I.ok.mod.kin hk ?_ h1 hpl
  rw [h1]
  show wpAny _ _ (spliced ((false, eval a X.env)::backTo pos (starEach [.Lambda params body scope lpos] X.env))) _ _ s
  refine si (thn (ha pins s σ H _ I h) fun u s1 z => ?_)
  obtain ⟨v, H1, I1, r1, hT, hsp⟩ := z
  rw [h2]
  show wpAny _ _ (spliced ((false, eval (.Lambda params body scope lpos) X.env)::backTo pos (starEach [] X.env))) _ _ s1
  refine si (PySem.W.kla_eval hdf ?_)
  rw [hq]
  refine jT I1 hcode M hT hclos fun g c' pm ctv s2 H2 I2 hg2 hgn hgf hc' hT2 hk2 hu2 => ?_
  refine sW ⟨I2.kIn, ?_⟩
  have asks : ∀ spx : Sp, (∀ (A : Around) (outer' : List Env) (s' : Shared) (H' : Hp) (c : Addr) (v1 : V) (Q : VK) (E : XK), bp m (A.deeper (PySem.W.envX q scope s'.heap.objs.size g (.ref c') [(fr, c)])) → spx [v1] H' Q E →
          ∃ t, PE (cxL (CXe X.prog X.w) X.prog X.w X.K X.mg X.base [pr, fr] q scope g (.ref c') [(fr, c)] A outer' s' H' E) body t ∧ t [some v1, some y] H' Q) → oP X.prog X.w X.K X.mg X.base (m+1) X.stack s2 H2 g c' q spx := fun spx hbody => by
    refine ⟨⟨_, _, _, _, hg2⟩, hgn, hgf, fun A outer' s' H' u1 v1 Q E hrA e0 kp hcd r hs => ?_⟩
    obtain ⟨mm, hn, hl⟩ := I2.loc
    obtain ⟨uc, ruc, lk⟩ := hl i fr y hi hσ (.inr (.inl hv))
    have hcell : s2.heap.IsCell c (some uc) := by
      rcases lk with ⟨z, _⟩ | ⟨_, c2, e2, z⟩
      · have z : X.env.scope.names.lookup fr=some .local := z
        rw [hv] at z;cases z
      · rw [hc] at e2;cases e2;exact z
    obtain ⟨o, ho, hd⟩ := hcell
    obtain ⟨ho', hHc'⟩ := kp c o ho (I2.freeC fr c hc) cfs
    exact l8 S (kp g _ hg2 hgn hgf).1 (nZ e0.hok hcd) ⟨o, ho', hd⟩ ruc hHc' (hbi c pm (.ref c') ctv u1) hrA e0 r fun hrm => hbody A outer' s' H' c v1 Q E hrm hs
  have hs := hsp X.stack s2 H2 g c' hT2 hc' hk2 asks
  have r2 : aI [v, .ref g] [u, Value.ref g] := .cons r1 (.cons rfl .nil)
  have hl : ([u, Value.ref g]++[]).length=ps.length := by rw [sy, ← r2.length];exact F.len _ _ _ _ _ _ hs
  have hbb := hb s2 [u, .ref g] I2.kIn hl
  rw [sy] at hbb
  refine tK (tQ (F.run X.A X.stack s2 H2 ⟨[u, .ref g], []⟩ [u, .ref g] [v, .ref g] Q E0 (hr.mono hj) I2.env0 hbb r2 hs) fun r s' hq => ?_)
  cases r with
  | error e => exact (show False from hq).elim
  | ok fl =>
    cases fl with
    | ret u => exact I2.after hq
    | next => exact False.elim hq
    | brk => exact False.elim hq
    | cont => exact False.elim hq
end L2
namespace L2
open PySem PySem.Spec PyProof.Rows
theorem l_ {H : Hp}{P0 : Addr}{q : Str}(h : H P0=some (.tbl #[])) : Tab H P0 q := ⟨_, h, trivial, fun pos cv e => by cases (show (none : Option Value)=some cv from e)⟩
theorem iK {P : Program}{w : World}{K : PySem.W.Frag}{mg mb : Str → Option Value}{CX : CXT}{k : Nat}{fa a c0 P0 : Addr}{fd : FuncData}{x : Str}{sp : Sp}{s₁ : Shared}{vs : List Value}{ns : List Int}
    (KX : K.In s₁.heap) (hns : s₁.heap.Ns mainGlobals mg) (hb : s₁.heap.Ns builtinsNs mb) (hbb : ∀ x : Str, x ≠ "__name__" → mb x=bootBuiltins x) (hlim : s₁.heap.NoLimit) (hg : s₁.gens=#[])
    (ha : s₁.heap.get? a=some { cls := .type "list", data := .seq vs.toArray }) (hi : IntsAre vs ns) (hl : ns.length≤sizeLine) (hr : bp k callerA)
    (C : PySem.W.CodeHd s₁.heap c0 P0) (hP : s₁.heap.get? P0=some (PySem.W.tabObj #[])) (hB : s₁.heap.BuiltinsAt mg P0) (hKP : K.lookup P0=none)
    (F : ∀ base : Heap, K.In base → base.Ns mainGlobals mg → Mkr base mg c0 P0 → fE P w K mg base CX k fa fd [x] sp) (hbind : ∀ (s : Shared) (u : Value), BindsTo s fd ⟨[u], []⟩ [(x, u)])
    (hsp : ∀ H : Hp, SqL K H a (ns.map V.int) → H P0=some (.tbl #[]) → sp [.ref a] H (fun v _ => v = .bl true) fun _ _ _ => False)
    (hCX : ∀ H e s', CX [] H s₁ (fun _ _ _ => False) e s' → False) :
    codeAny (model P w) callerA (.call (.ref fa) ⟨[.ref a], []⟩) (fun r s' => r = .ok (.ret (.bool true)) ∧ OldK s₁.heap s'.heap ∧ s'.os=s₁.os ∧ AllBare s'.gens) s₁ := by
  have rv := d8 hi
  have lenV := hi.length
  have naP : a≠P0 := fun z => by rw [z, hP] at ha;cases ha
  have core : ∀ H : Hp, H P0=some (.tbl #[]) → (∀ b, b≠P0 → H b=none ∨ ∃ o xs, H b=some (.frz o (.lst xs))) → SqL K H a (ns.map V.int) → HOk P w H s₁.heap → (∀ b, b≠P0 → H b≠none → b=a) → (H a≠none → K.lookup a=none) →
      codeAny (model P w) callerA (.call (.ref fa) ⟨[.ref a], []⟩) (fun r s' => r = .ok (.ret (.bool true)) ∧ OldK s₁.heap s'.heap ∧ s'.os=s₁.os ∧ AllBare s'.gens) s₁ := by
    intro H hHP hO hS hok hA hK
    have base_of : ∀ {b : Addr} {o : Obj}, s₁.heap.get? b=some o → H b=none → (i_ s₁.heap H).get? b=some o := fun e n => jd e n
    have noX : ∀ {b : Addr} {o : Obj}, s₁.heap.get? b=some o → (∀ its n, o.data ≠ .seq its n) → b≠P0 → H b=none := fun {b o} e d nb => by
      cases q : H b with
      | none => rfl
      | some u =>
        have e' : b=a := hA b nb (by rw [q];simp)
        subst e'
        rw [ha] at e;cases e
        exact absurd rfl (d _ _)
    have noA : ∀ {b : Addr} {o : Obj} {es : Array DictEntry} {ep : Nat}, s₁.heap.get? b=some o → o.data = .dict es ep → H b=none := fun {b o es ep} e d => noX e (fun its n z => by rw [d] at z;cases z) fun z => by
      rw [z, hP] at e
      cases e
      cases d
    have nsK : ∀ {b : Addr} {m : Str → Option Value}, s₁.heap.Ns b m → (i_ s₁.heap H).Ns b m := fun {b m} ⟨o, es, ep, e, d, r⟩ => ⟨o, es, ep, base_of e (noA e d), d, r⟩
    have hKb : K.In (i_ s₁.heap H) := fun b o e => base_of (KX b o e) (by
      cases q : H b with
      | none => rfl
      | some u =>
        have nb : b≠P0 := fun z => by rw [z, hKP] at e;cases e
        have e' : b=a := hA b nb (by rw [q];simp)
        subst e'
        rw [hK (by rw [q];simp)] at e;cases e)
    have hM : Mod K mg (i_ s₁.heap H) := ⟨hKb, nsK hns, ⟨mb, nsK hb, hbb⟩, let ⟨mc, h1, h2⟩ := hlim;⟨mc, nsK h1, h2⟩⟩
    have mk : Mkr (i_ s₁.heap H) mg c0 P0 := by
      refine ⟨?_, ?_⟩
      · obtain ⟨o, vs', file, tf, flags, tg, inF, text, tt, e1, e2, e3, e4, e5, e6, e7, e8, e9, e10⟩ := C
        exact ⟨o, vs', file, tf, flags, tg, inF, text, tt, base_of e1 (noX e1 (fun its n z => by rw [e3] at z;cases z) e10), e2, e3, e4, e5, e6, e7, e8, e9, e10⟩
      · obtain ⟨bm, ob, b1, b2, b3, b4, b5, b6, b7, b8⟩ := hB
        exact ⟨bm, ob, b1, b2, b3, b4, base_of b5 (noX b5 (fun its n z => by rw [b8] at z;cases z) b4), b6, b7, b8⟩
    have e0 : gQ P w K mg (i_ s₁.heap H) callerA [] s₁ H := ⟨rfl, hM, fun b o e => kL e, uB (gx _ _), trivial, fun b hb => absurd (show b∈([] : List Addr) from hb) (by simp), hok, .of_eq hg⟩
    refine tQ ((F _ hKb (nsK hns) mk).run callerA [] s₁ H ⟨[.ref a], []⟩ [.ref a] [.ref a] _ _ hr e0 (hbind s₁ (.ref a)) (.cons rfl .nil) (hsp H hS hHP)) fun r s' h => ?_
    cases r with
    | error e => exact (hCX H e s' h).elim
    | ok fl =>
      cases fl with
      | next => exact False.elim h
      | brk => exact False.elim h
      | cont => exact False.elim h
      | ret u =>
        obtain ⟨v, H', os, bare, un, hok', r', q⟩ := h
        have q' : v = .bl true := q
        subst q'
        obtain rfl : u=Value.bool true := r'
        have keepB : ∀ b o, b≠P0 → s₁.heap.get? b=some o → s'.heap.get? b=some o := fun b o nb e => by
          cases q : H b with
          | none => exact un.keep b o e q (by intro z;exact absurd (show b∈([] : List Addr) from z) (by simp)) (by simp)
          | some u =>
            rcases hO b nb with z | ⟨ob, xs, z⟩
            · rw [q] at z;cases z
            · have z2 := un.frzs b ob _ z
              obtain ⟨e1, _⟩ := hok b _ z
              obtain ⟨e2, _⟩ := hok' b _ z2
              rw [e] at e1;cases e1
              exact e2
        obtain ⟨more, hm⟩ := un.tbls P0 _ hHP
        have hT : s'.heap.get? P0=some (PySem.W.tabObj (#[]++more)) := hok' P0 _ hm
        refine ⟨rfl, ⟨fun b o e => ?_, fun b o e => ?_⟩, os, bare⟩
        · by_cases hb : b=P0
          · subst hb
            rw [hP] at e
            cases e
            exact .inr (.inl ⟨(C.tab hP).isCodeTable, rfl, #[], more, rfl, hT⟩)
          · exact .inl (keepB b o hb e)
        · by_cases hb : b=P0
          · rw [hb];exact ⟨_, hT⟩
          · exact ⟨o, keepB b o hb e⟩
  have tblOk : ∀ {H : Hp}, aP P w H s₁.heap P0 (.tbl #[]) := hP
  cases hk : K.lookup a with
  | some o =>
    have e := KX a o hk
    rw [ha] at e
    cases e
    refine core (fun b => if b=P0 then some (.tbl #[]) else none) (if_pos rfl) (fun b nb => .inl (if_neg nb)) (.inr ⟨_, vs.toArray, _, hk, rfl, rfl, rfl, by rw [rj, lenV];exact hl, by simpa using rv⟩) (fun b u z => ?_) (fun b nb z => absurd (if_neg nb) z) fun z => absurd (if_neg naP) z
    by_cases hb : b=P0
    · have z' := (if_pos hb).symm.trans z
      cases z'
      subst hb
      exact tblOk
    · have z' := (if_neg hb).symm.trans z
      cases z'
  | none =>
    refine core (fun b => if b=P0 then some (.tbl #[]) else if b=a then some (.frz { cls := .type "list", data := .seq vs.toArray } (.lst (ns.map V.int))) else none) (if_pos rfl) (fun b nb => ?_) (.inl (.inr ⟨{ cls := .type "list", data := .seq vs.toArray }, (if_neg naP).trans (if_pos rfl)⟩)) (fun b u z => ?_) (fun b nb z => ?_) fun _ => hk
    · by_cases hb : b=a
      · exact .inr ⟨_, _, (if_neg nb).trans (if_pos hb)⟩
      · exact .inl ((if_neg nb).trans (if_neg hb))
    · by_cases hp : b=P0
      · have z' := (if_pos hp).symm.trans z
        cases z'
        subst hp
        exact tblOk
      · by_cases hb : b=a
        · have z' := ((if_neg hp).trans (if_pos hb)).symm.trans z
          cases z'
          subst hb
          exact ⟨ha, by rw [rn];exact hl, vs, _, rv, ha⟩
        · have z' := ((if_neg hp).trans (if_neg hb)).symm.trans z
          cases z'
    · by_cases hb : b=a
      · exact hb
      · exact absurd ((if_neg nb).trans (if_neg hb)) z
theorem jW {l : PySem.W.OpenLaw}{n k : Nat}{q : Program}{loose : List Str}{XP : (Str → Option Value) → Heap → Prop}{YP : World → Heap → Prop}{d dt : DefRec}{K : Params → PySem.W.Frag}{CX : World → CXT}{sp : World → Addr → Sp}{x tn : Str}
    (hn : l.most=some n) (hn2 : n≤sizeLine) (hdf : d.params.defaults=[]) (hr : bp k callerA)
    (hY : ∀ (w : World) (h : Heap), YP w h → (K w.params).In h) (hrec : (recsOf q).find? (fun e => e.name == tn)=some dt)
    (F : ∀ (w : World) (mg : Str → Option Value) (fa : Addr) (h : Heap), (K w.params).In h → h.Ns mainGlobals mg → mg d.name=some (.ref fa) →
      ∃ (c0 P0 : Addr) (fd : FuncData), PySem.W.tabIn (K w.params) tn=some (c0, P0) ∧ (K w.params).lookup P0=none ∧ (∀ (s : Shared) (u : Value), BindsTo s fd ⟨[u], []⟩ [(x, u)]) ∧
        ∀ base : Heap, (K w.params).In base → base.Ns mainGlobals mg → Mkr base mg c0 P0 → fE l.prog w (K w.params) mg base (CX w) k fa fd [x] (sp w P0))
    (hsp : ∀ (w : World) (H : Hp) (a P0 : Addr) (ns : List Int), ns.length≤n → H P0=some (.tbl #[]) → SqL (K w.params) H a (ns.map V.int) → sp w P0 [.ref a] H (fun v _ => v = .bl true) fun _ _ _ => False)
    (hCX : ∀ (w : World) (H : Hp) (s : Shared) (e : Value) (s' : Shared), CX w [] H s (fun _ _ _ => False) e s' → False) :
    PySem.W.WalkO q loose XP YP l.row.toRowW d [] (fun f vs => PySem.call f vs) := by
  refine Att.attach_call hn hdf fun w s₀ s₁ mg mb fa o pm cd doc a vs ns G Y ho hd hcd hmg hobj hints hlen hg => ?_
  have KX := hY w _ Y
  obtain ⟨c0, P0, fd, ht, hKP, hb, hF⟩ := F w mg fa _ KX G.T.g hmg
  obtain ⟨C, hP⟩ := PySem.W.tab_of G.T KX hrec ht
  have hB : s₁.heap.BuiltinsAt mg P0 := by
    obtain ⟨bm, ob, b1, b2, b3, b4, b5, b6⟩ := G.T.bmain
    refine ⟨bm, ob, b1, b2, ?_, ?_, b3, b4, b5, b6⟩
    · intro z
      obtain ⟨o, es, ep, e, hd, _⟩ := G.T.g
      rw [z, e] at b3;cases b3;rw [hd] at b6;cases b6
    · intro z
      rw [z, hP] at b3;cases b3;cases b4
  exact iK KX G.T.g G.T.b G.T.builtins G.T.nolimit hg hobj hints (rJ hlen hn2) hr C hP hB hKP hF hb (fun H hS hH => hsp w H a P0 ns hlen hH hS) fun H e s' => hCX w H s₁ e s'
end L2
namespace Wd
section
variable {α : Type}
theorem iL {w : List α}{x : α}(h : x∈w) : ∃ A B, w=A++x::B := by
  obtain ⟨A, B, e⟩ := List.append_of_mem h
  exact ⟨A, B, e⟩
end
end Wd
namespace Wd
section
variable {α : Type}
end
end Wd
namespace Wd
end Wd
namespace Wd
def J (u v : List L) : Prop := ∀ x y, u.getLast? = some x → v.head? = some y → y≠inv x
end Wd
namespace Wd
end Wd
namespace L2
open PySem PySem.Spec PyProof.Rows Wd
end L2
namespace Wd
end Wd
namespace Wd
section
variable {α : Type}
end
end Wd
namespace Wd
section
variable {α : Type}
end
end Wd
namespace Wd
end Wd
namespace Wd
end Wd
namespace L2
open PySem PySem.Spec PyProof.Rows
section
variable {X : Cx}
end
end L2
namespace L2
open PySem PySem.Spec PyProof.Rows
section
variable {prog : Program} {w : World} {A : Around} {E : Value → Shared → Prop} {s : Shared}
theorem eD {Q : List Value → Shared → Prop}(hh : A.handled=none)(z : Str)(t : Tok)(hn : z.cps.size≤sizeLine)
    (k : ∀ (h' : Heap) (tk : Nat) (acc : Array Value), (∀ b o, s.heap.get? b=some o → h'.get? b=some o) → s.heap.objs.size < h'.objs.size → ItemsOf (SignAt z) acc z.cps.size → Q acc.toList { s with heap := h', toks := tk }) :
    wpAny (model prog w) A (collect (.str z t)) Q E s := by
  unfold collect
  refine (q8 (wpAny_runValue (codeAny_builtin F.entry_proto_collect ?_)))
  rw [Around.under_plainId F.plain_proto_collect _]
  show wpAny _ A.in1 (newList [] >>= fun q => again (.builtin "list.__iadd__" ⟨[q, .str z t], []⟩)) _ _ s
  refine (q8 (uL (rm ⟨plainId_quiet F.plain_list_iadd _, codeAny_builtin F.entry_list_iadd ?_⟩)))
  rw [Around.under_plainId F.plain_list_iadd _]
  have hS : (s.heap.push { cls := .type "list", data := .seq ([] : List Value).toArray }).get? s.heap.objs.size=some { cls := .type "list", data := .seq #[] } := ri _ rfl
  show wpAny _ A.in1 (Builtin.List.listExtendWith (.ref s.heap.objs.size) (.str z t) (.ref s.heap.objs.size)) _ _ { s with heap := s.heap.push { cls := .type "list", data := .seq ([] : List Value).toArray } }
  refine wpAny_extend_str (R := fun r s' => match r with
    | .ok (.ret v) => wpAny (model prog w) A (match v with
      | .ref a => do
        match (← load a).data with
        | .seq xs _ => pure xs.toList
        | _ => unsupported "internal:collect"
      | _ => unsupported "internal:collect") Q E s'
    | .ok _ => False
    | .error e => E e s') (s := { s with heap := s.heap.push { cls := .type "list", data := .seq ([] : List Value).toArray } }) (hn := hn) hh z t s.heap.objs.size (.ref s.heap.objs.size) _ hS fun h' tk acc c' hk hS' hacc => ?_
  show wpAny _ A (load s.heap.objs.size >>= _) _ _ { s with heap := h', toks := tk }
  exact q8 (wpAny_load hS' (rm (k h' tk acc (fun b o e => hk b o (rC (q9 e)) (fu _ e)) (q9 hS') hacc)))
end
section
variable {X : Cx}
def bH (z : Str) : List Str := z.cps.toList.map fun c => ⟨#[c]⟩
theorem ma (z : Str) : cO z=(bH z).map V.str := by unfold cO bH; rw [uA]; rfl
inductive a7  (xs : List V)(H : Hp)(Q : VK) : Prop
  | mk : ∀ z, (xs=[.str z]) → (z.length < 64) → (∀ p zs, H p=none → zs.Perm (bH z) → sortedS zs=true → Q (.ref p) (upd H p (.lst (zs.map V.str)))) → a7 xs H Q
theorem bj (hc : X.calm=true) : bD X (.builtin "sorted") a7 := by
  intro pins s σ H xs us Q I r h
  obtain ⟨z, rfl, hz, q⟩ := h
  obtain ⟨u, rfl, t, rfl⟩ := bX r
  have l16 : sizeLine=16777216 := sq
  refine (Calls.call_function_entry kind_sorted plain_sorted entry_sorted (args_sorted1 _) ?_)
  unfold Builtin.«sorted»
  refine (q8 (m := checkCount "sorted" 1 1 _) (rm ?_))
  refine q8 (eD (A := X.A.in1) (I.ok.hd hc) z t (by have : z.cps.size < 64 := hz;omega) fun h' tk acc hk hlt hI => ?_)
  have hv : aI (cO z) acc.toList := cU hI
  rw [ma] at hv
  have hS := b0 hv
  have hlen : acc.toList.length=z.length := by
    rw [← hv.length, rn]
    unfold bH
    rw [rn, se]
    rfl
  refine (q8 (wpAny_newList ?_))
  have hoL : (h'.push (seqObj "list" acc.toList.toArray 0)).get? h'.objs.size=some (seqObj "list" acc.toList.toArray 0) := ri _ rfl
  refine (q8 (ua (tX slot_list_sort ⟨_, hoL, rfl⟩ entry_list_sort (list_sort_treeK strKind_oneLt hoL hS.keysOf (fun v₁ v₂ rest e => keyKind_strs (by rw [← e];exact hS)) (by omega) fun st' a1 a2 => ⟨_, rfl, ?_⟩) (args_list_sort _))))
  obtain ⟨zs, h1, h2, h3⟩ := sorted_out_str hS a1 a2
  refine rm ⟨_, rfl, ?_⟩
  obtain ⟨e, he⟩ := sortedHeap_at (out := (arrOf st').map (·.2)) hoL
  have hzl : (zs.map V.str).length≤sizeLine := by
    rw [rn, h2.length_eq]
    unfold bH
    rw [rn, se]
    have : z.cps.size < 64 := hz
    omega
  have old : ∀ b o, s.heap.get? b=some o → (sortedHeap (h'.push (seqObj "list" acc.toList.toArray 0)) h'.objs.size acc.toList ((arrOf st').map (·.2))).get? b=some o := fun b o eb => by
    have e1 := hk b o eb
    have e2 := q9 e1
    rw [sortedHeap_old (rC e2) (by rw [uD];exact Nat.lt_succ_of_lt e2)]
    exact fu _ e1
  have I2 : Inv X pins σ (upd H h'.objs.size (.lst (zs.map V.str))) { s with heap := sortedHeap (h'.push (seqObj "list" acc.toList.toArray 0)) h'.objs.size acc.toList ((arrOf st').map (·.2)), toks := tk } :=
    I.laid old (tP hlt) ⟨hzl, ((arrOf st').map (·.2)).toList, e, cg h1, by rw [Array.toArray_toList];exact he⟩
  exact ⟨.ref h'.objs.size, _, I2, rfl, q _ zs (I.hok.fresh (tP hlt)) h2 h3⟩
end
end L2
namespace Wd
def rfI (u : List L)(a b : L) : Int := ((u.idxOf b : Int) - (u.idxOf a : Int)) % (u.length : Int)
def ic (u : List L)(x z : L) : Int := if rfI u x z < rfI u x (inv x) then 1 else 0
def sd (u : List L)(x y : L) : Int := ic u x y - ic u x (inv y)
def lt6 (j : Nat) : L := if h : j < 12 then ⟨j, h⟩ else 0
end Wd
namespace L2
open PySem PySem.Spec PyProof.Rows
section
variable {X : Cx}
inductive og (x : V)(y : V)(H : Hp)(Q : VK) : Prop
  | mk : ∀ (a b : Addr) (ys zs : List Str), (x = .ref a) → (y = .ref b) → (H a=some (.lst (ys.map V.str))) → (H b=some (.lst (zs.map V.str))) → (Q (.bl (decide (ys=zs))) H) → og x y H Q
theorem fV (hu : X.A.units+64 < cLine) : OpR X (compareOp .Eq) og := by
  intro pins s σ H x y v u Q I rx ry h
  obtain ⟨a, b, ys, zs, ex, ey, ha, hb, q⟩ := h
  by_cases hl : ys.length=zs.length
  · exact jJ hu pins s σ H x y v u Q I rx ry ⟨a, b, ys, zs, ex, ey, ha, hb, hl, q⟩
  · subst ex ey
    cases rx
    cases ry
    obtain ⟨its, n, rv, ea, _⟩ := I.lst ha
    obtain ⟨its2, n2, rv2, eb, _⟩ := I.lst hb
    have l1 := rv.length
    have l2 := rv2.length
    rw [rn] at l1 l2
    refine EqBoolInt.of_rc (SeqAt.RcAt.lists_lengths (⟨_, ea, rfl, _, rfl⟩ : s.heap.IsList a its.toArray) (⟨_, eb, rfl, _, rfl⟩ : s.heap.IsList b its2.toArray) (by simp;omega) (by omega)) ?_
    rw [rf (fun e => hl (by rw [e]))] at q
    exact ⟨.bl false, H, I, rfl, q⟩
end
end L2
namespace Kx
open PySem PySem.Spec PyProof.Rows L2 Wd
theorem eE : ∀ (r : List Str) (x : Str), risingS x r=true → (x::r).Pairwise fun a b => a.cps.toList≤b.cps.toList
  | [], x, _ => by simp
  | z::r, x, h => by
    have l := cf (z::r) x h
    unfold risingS at h
    rw [sD] at h
    exact List.Pairwise.cons (fun y hy => l.2 y (rq _ hy)) (eE r z h.2)
theorem eF {l : List Str}(h : sortedS l=true) : l.Pairwise fun a b => a.cps.toList≤b.cps.toList := by
  cases l with
  | nil => exact .nil
  | cons x r => exact eE r x h
theorem gk {a b : List Str}(ha : sortedS a=true)(hb : sortedS b=true)(p : a.Perm b) : a=b :=
  List.Perm.eq_of_pairwise (fun x y _ _ h1 h2 => Str.ext' (Array.toList_inj.mp (List.le_antisymm h1 h2))) (eF ha) (eF hb) p
theorem gm {x y : Str} : (bH x).Perm (bH y) ↔ x.cps.toList.Perm y.cps.toList := by
  unfold bH
  constructor
  · intro h
    have := h.map (fun s : Str => s.cps.getD 0 0)
    rw [uA, uA] at this
    have e : ((fun s : Str => s.cps.getD 0 0) ∘ fun c => (⟨#[c]⟩ : Str))=id := by funext c;rfl
    rw [e, List.map_id, List.map_id] at this
    exact this
  · intro h
    exact h.map _
def md (k : Nat) : List L := (List.range k).map lt6++bk ((List.range k).map lt6)
def iM (z : Str) : Bool := decide (2≤z.length) && decide (z.length≤12) && decide (z.cps.toList.Perm ((md (z.length / 2)).map cp))
def me : V → Bool
  | .str z => iM z
  | _ => false
theorem iN {x : V}(ns : ∀ z, x ≠ .str z) : me x=false := by
  cases x with
  | str z => exact absurd rfl (ns z)
  | _ => rfl
theorem cX {α : Type}[DecidableEq α] : ∀ (T Z : List α), T.Nodup → (∀ t∈T, t∈Z) → T.length=Z.length → Z.Perm T
  | [], Z, _, _, h => by
    have : Z=[] := sr h.symm
    rw [this]
  | t::T, Z, nd, hs, hl => by
    rw [r9] at nd
    have ht := hs t rF
    refine (List.perm_cons_erase ht).trans (List.Perm.cons t (cX T (Z.erase t) nd.2 (fun x hx => ?_) ?_))
    · have hne : x≠t := fun e => nd.1 (e ▸ hx)
      exact (List.mem_erase_of_ne hne).mpr (hs x (rq _ hx))
    · rw [List.length_erase_of_mem ht]
      simp only [rS] at hl
      omega
end Kx
namespace L2
open PySem PySem.Spec PyProof.Rows
section
variable {prog : Program} {w : World} {A : Around} {E : Value → Shared → Prop} {s : Shared}
end
section
variable {X : Cx}
end
end L2
namespace L2
open PySem PySem.Spec PyProof.Rows Wd
section
variable {X : Cx}
inductive bU  (xs : List V)(H : Hp)(Q : VK) : Prop
  | mk : ∀ v d, (xs=[v]) → (Dt H v d) → (Sh d) → ((∀ i, d = .int i → i.natAbs.log2 < 1920)) → (Q (.str d.shown) H) → bU xs H Q
theorem bL (hg : X.A.guards=some [])(hu : X.A.units+64 < cLine) : bD X (.builtin "repr") bU := by
  intro pins s σ H xs us Q I r h
  obtain ⟨v, d, rfl, q, S, hi, hQ⟩ := h
  obtain ⟨u, rfl, ru⟩ := bX r
  cases q with
  | non => cases ru;exact P.repr_of_none ⟨.str _, H, I.tok _, ⟨_, rfl⟩, hQ⟩
  | bl b => cases ru;exact P.repr_of_bool ⟨.str _, H, I.tok _, ⟨_, rfl⟩, hQ⟩
  | int i => obtain ⟨t, rfl⟩ := ru;exact P.repr_of_int (hi i rfl) ⟨.str _, H, I.tok _, ⟨_, rfl⟩, hQ⟩
  | str x => obtain ⟨t, rfl⟩ := ru;exact P.repr_of_str ⟨.str _, H, I.tok _, ⟨_, rfl⟩, hQ⟩ S.sz
  | lst e qs => exact aW hg hu pins s σ H _ _ Q I (.cons ru .nil) ⟨_, _, rfl, .lst e qs, S, hQ⟩
  | tup e qs => exact aW hg hu pins s σ H _ _ Q I (.cons ru .nil) ⟨_, _, rfl, .tup e qs, S, hQ⟩
end
theorem oh {d : PyData}(h : d.leavesShort 40=true)(hw : d.weight≤2 ^ 18) : d.shown.length≤sizeLine := by
  have := PyData.shown_le 40 (by decide) d h
  have e : sizeLine=16777216 := sq
  rw [e]
  omega
structure Sm (d : PyData) : Prop where
  sh : d.showable=true
  nd : d.hasDict=false
  dp : d.depth≤4
  lv : d.leavesShort 40=true
  wt : d.weight≤400
  nt : ∀ i, d = .int i → i.natAbs.log2 < 1920
theorem iO {u : List L}(h : u.length≤400) : Sm (.str (toS u)) := by
  obtain ⟨h1, h2, h3, h4⟩ := Kx.fN [u]
  refine ⟨rfl, rfl, sx _, ?_, ?_, fun i e => by cases e⟩
  · have h4 : (PyData.leavesShort 13 (.str (toS u)) && true)=true := h4
    rwa [Bool.and_true] at h4
  · show (toS u).cps.size≤400
    rw [bB]
    exact h
theorem oi {ds : List PyData}(h : ∀ d∈ds, Sm d) : PyData.showableAll ds=true ∧ PyData.hasDictAll ds=false ∧ PyData.depthAll ds≤4 ∧ PyData.leavesShortAll 40 ds=true ∧ PyData.weightAll ds≤ds.length*401 := by
  induction ds with
  | nil => exact ⟨rfl, rfl, sx _, rfl, sx _⟩
  | cons d r ih =>
    obtain ⟨a, b, c, e, f⟩ := ih fun x hx => h x (rq _ hx)
    have S := h d rF
    refine ⟨?_, ?_, ?_, ?_, ?_⟩
    · show (PyData.showable d && PyData.showableAll r)=true
      rw [S.sh, a];rfl
    · show (PyData.hasDict d || PyData.hasDictAll r)=false
      rw [S.nd, b];rfl
    · show max (PyData.depth d) (PyData.depthAll r)≤4
      have := S.dp
      omega
    · show (PyData.leavesShort 40 d && PyData.leavesShortAll 40 r)=true
      rw [S.lv, e];rfl
    · show PyData.weight d+1+PyData.weightAll r≤(r.length+1)*401
      have := S.wt
      omega
theorem mf {ds : List PyData}(h : ∀ d∈ds, Sm d)(hl : ds.length≤100) : Sh (.tuple ds) := by
  obtain ⟨a, b, c, e, f⟩ := oi h
  have : ds.length*401≤100*401 := Nat.mul_le_mul_right _ hl
  exact ⟨a, b, by show PyData.depthAll ds+1≤10;omega, oh e (by show PyData.weightAll ds≤2 ^ 18;omega)⟩
end L2
namespace Kx
open PySem PySem.Spec PyProof.Rows L2 Wd
end Kx
namespace Kx
open PySem PySem.Spec PyProof.Rows L2 Wd
end Kx
namespace L2
open PySem PySem.Spec PyProof.Rows Wd
section
variable {X : Cx}
inductive fW  (x : V)(y : V)(H : Hp)(Q : VK) : Prop
  | mk : ∀ a b, (x = .bl a) → (y = .bl b) → (Q (.bl (a == b)) H) → fW x y H Q
theorem oj : OpR X (compareOp .Is) fW := by
  intro pins s σ H x y v u Q I rx ry h
  obtain ⟨a, b, rfl, rfl, q⟩ := h
  cases rx
  cases ry
  refine wpAny_is_plain (by cases a <;> cases b <;> rfl) ⟨.bl _, H, I, ?_, q⟩
  cases a <;> cases b <;> rfl
end
end L2
namespace Wd
def nm (N : List L)(x : L) : L := if x.val < 6 then N.getD x.val 0 else inv (N.getD (x.val - 6) 0)
end Wd
namespace L2
open PySem PySem.Spec PyProof.Rows Wd
section
variable {X : Cx}
end
end L2
namespace Kx
open PySem PySem.Spec PyProof.Rows L2 Wd
end Kx
namespace Wd
section
variable {α : Type}
theorem iP {h : α → List α} : ∀ {l : List α}, (∀ x∈l, h x=[x]) → l.flatMap h=l
  | [], _ => rfl
  | x::r, k => by rw [tN, k x rF, iP fun y hy => k y (rq _ hy)];rfl
end
def sld (u : List L)(e g : L)(b : Bool) : List L := u.flatMap fun x => if x=g then (if b then [x, e] else [e, x]) else if x=e then [] else [x]
theorem eG {u : List L}{e g : L}(nd : u.Nodup)(he : e∈u)(hg : g∈u)(ne : g≠e)(b : Bool) :
    ∃ A B C D, u=A++e::B ∧ A++B=C++g::D ∧ sld u e g b=(if b then C++g::e::D else C++e::g::D) := by
  obtain ⟨A, B, rfl⟩ := iL he
  have nd2 : (e::(A++B)).Nodup := (uS.nodup_iff).mp nd
  have ni := (r9.mp nd2).1
  have nd3 := (r9.mp nd2).2
  have hg2 : g∈A++B := by
    rcases tm.mp hg with h | h
    · exact rY _ h
    · rcases rN.mp h with h | h
      · exact absurd h ne
      · exact ro _ h
  obtain ⟨C, D, e1⟩ := iL hg2
  refine ⟨A, B, C, D, rfl, e1, ?_⟩
  have e2 : sld (A++e::B) e g b=sld (A++B) e g b := by
    unfold sld
    rw [tj, tj, tN, if_neg (fun z => ne z.symm), if_pos rfl]
    rfl
  rw [e2, e1]
  rw [e1] at nd3 ni
  have nd4 : (g::(C++D)).Nodup := (uS.nodup_iff).mp nd3
  have ng := (r9.mp nd4).1
  have hid : ∀ l : List L, (∀ x∈l, x∈C++D) → (l.flatMap fun x => if x=g then (if b then [x, e] else [e, x]) else if x=e then [] else [x])=l := fun l hl => iP fun x hx => by
    have hx := hl x hx
    have a : ¬ x=g := fun z => ng (z ▸ hx)
    have a2 : ¬ x=e := fun z => ni (by
      subst z
      rcases tm.mp hx with h | h
      · exact rY _ h
      · exact ro _ (rq _ h))
    rw [if_neg a, if_neg a2]
  unfold sld
  rw [tj, tN, if_pos rfl, hid C fun x hx => rY _ hx, hid D fun x hx => ro _ hx]
  cases b <;> rfl
theorem jX {u : List L}{e g : L}(nd : u.Nodup)(he : e∈u)(hg : g∈u)(ne : g≠e)(b : Bool) : (sld u e g b).Perm u := by
  obtain ⟨A, B, C, D, rfl, e1, e2⟩ := eG nd he hg ne b
  rw [e2]
  refine List.Perm.trans ?_ uS.symm
  rw [e1]
  cases b with
  | true =>
    have : (C++g::e::D : List L)=(C++[g])++e::D := by simp
    rw [if_pos rfl, this]
    refine uS.trans ?_
    simp
  | false => exact uS
end Wd
namespace Wd
open Kx
end Wd
namespace PySem
open Sem (wp)
end PySem
namespace PySem
open Sem (wp)
section
variable {K : Type} [DecidableEq K] {prog : Program} {w : World} {knd : KeyKind prog w K} {A : Around} {E : Value → Shared → Prop} {s : Shared}
section
variable {R : Result → Shared → Prop} {I : Addr} {fp wr : List Addr} {G : Array GenState → Array GenState → Prop} {n : Nat} {P : Nat → Value → Prop} {St : Nat → Shared → Prop}
end
end
end PySem
namespace PySem
open Sem (wp)
section
variable {prog : Program} {w : World} {A : Around} {E : Value → Shared → Prop} {s : Shared}
end
end PySem
namespace PySem
open Sem (wp)
section
variable {prog : Program} {w : World} {A : Around} {E : Value → Shared → Prop} {s : Shared}
end
end PySem
namespace PySem
open Sem (wp)
section
variable {prog : Program} {w : World} {A : Around} {E : Value → Shared → Prop} {s : Shared}
end
end PySem
namespace Tv
open PySem PyProof.Rows
section
variable {prog : Program} {w : World} {A : Around} {E : Value → Shared → Prop} {s : Shared} {κ : KeyKind} {kd : SortKind}
end
end Tv
namespace Tv
open PySem PyProof.Rows
end Tv
namespace Tv
open PySem PyProof.Rows
variable {κ : KeyKind} {kd : SortKind}
end Tv
namespace Tv
open PySem PyProof.Rows
section
variable {prog : Program} {w : World} {A : Around} {E : Value → Shared → Prop} {s : Shared} {κ : KeyKind} {kd : SortKind}
end
end Tv
namespace Tv
open PySem PyProof.Rows
variable {κ : KeyKind} {kd : SortKind}
section
variable {prog : Program} {w : World} {A : Around} {E : Value → Shared → Prop} {s : Shared}
end
end Tv
namespace Tv
open PySem PyProof.Rows
variable {κ : KeyKind} {kd : SortKind}
section
variable {prog : Program} {w : World} {A : Around} {E : Value → Shared → Prop} {s : Shared}
end
end Tv
namespace Tv
open PySem PyProof.Rows
variable {κ : KeyKind} {kd : SortKind}
section
variable {prog : Program} {w : World} {A : Around} {E : Value → Shared → Prop} {s : Shared}
end
end Tv
namespace Tv
open PySem PyProof.Rows
variable {κ : KeyKind} {kd : SortKind}
section
variable {prog : Program} {w : World} {A : Around} {E : Value → Shared → Prop} {s : Shared}
end
end Tv
namespace Tv
open PySem PyProof.Rows
variable {κ : KeyKind} {kd : SortKind}
section
variable {prog : Program} {w : World} {A : Around} {E : Value → Shared → Prop} {s : Shared}
end
end Tv
namespace Tv
open PySem PyProof.Rows
variable {κ : KeyKind} {kd : SortKind}
section
variable {prog : Program} {w : World} {A : Around} {E : Value → Shared → Prop} {s : Shared}
end
end Tv
namespace Ts
open PySem PyProof.Rows
section
variable {κ : KeyKind} {prog : Program} {w : World} {A : Around} {E : Value → Shared → Prop} {s : Shared}
end
end Ts
namespace L2
open PySem PySem.Spec PyProof.Rows
section
variable {prog : Program} {w : World} {A : Around} {E : Value → Shared → Prop} {s : Shared}
end
section
variable {X : Cx}
end
section
variable {prog : Program} {w : World} {A : Around} {E : Value → Shared → Prop} {s : Shared}
end
section
variable {X : Cx}
end
end L2
namespace Wd
open PySem L2
def lcp : List L → List L → List L
  | x::u, y::v => if x=y then x::lcp u v else []
  | _, _ => []
def qW (t o : List L) : Bool := decide (o≠t) && decide (t.length≤6*(lcp t o).length)
end Wd
namespace Kx
open PySem PySem.Spec PyProof.Rows L2 Wd
theorem nl : ¬ ("letter" : Str) = "number" := by decide +kernel
theorem nt : ¬ ("turn" : Str) = "number" := by decide +kernel
theorem tl : ¬ ("turn" : Str) = "letter" := by decide +kernel
end Kx
namespace Kx
open PySem PySem.Spec PyProof.Rows L2 Wd
end Kx
namespace Wd
open PySem L2
end Wd
namespace Kx
open PySem L2 Wd
end Kx
namespace PySem
open Sem (wp)
section
variable {prog : Program} {w : World} {A : Around} {E : Value → Shared → Prop} {s : Shared} {z TI TO i1 i2 : Addr} {x y : Str} {t u : Tok} {k c d : Nat} {a b : Value}
end
end PySem
namespace L2
open PySem PySem.Spec PyProof.Rows
section
variable {X : Cx}
end
end L2
namespace PySem
end PySem
namespace L2
open PySem PySem.Spec PyProof.Rows Wd
section
variable {X : Cx}
end
end L2
namespace HT
open PySem PySem.Spec PyProof.Rows
section
variable {prog : Program} {w : World} {A : Around} {E : Value → Shared → Prop} {s : Shared}
end
end HT
namespace L2
open PySem PySem.Spec PyProof.Rows Wd
section
variable {X : Cx}
end
end L2
namespace L2
open PySem PySem.Spec PyProof.Rows Wd
section
variable {X : Cx}
end
end L2
namespace HT
open PySem PySem.Spec PyProof.Rows PySem.SeqAt
end HT
namespace L2
open PySem PySem.Spec PyProof.Rows Wd
section
variable {X : Cx}
end
end L2
namespace Wd
end Wd
namespace Kx
open PySem PySem.Spec PyProof.Rows L2 Wd
def fst (c : Option (Int × Int)) : Int := match c with | some (i, _) => i | none => 0
end Kx
namespace Kx
open PySem PySem.Spec PyProof.Rows L2 Wd
end Kx
namespace Kx
open PySem PySem.Spec PyProof.Rows L2 Wd
def iv (r : List Nat) : List V := r.map fun i : Nat => V.int (i : Int)
end Kx
namespace Kx
open PySem PySem.Spec PyProof.Rows L2 Wd
def oTx : Option (List L) → V
  | some w => tx w
  | none => .non
end Kx
namespace Kx
open PySem PySem.Spec PyProof.Rows L2 Wd
theorem jY {K : PySem.W.Frag}{C : Addr} : PySem.W.kitOne K (.ref C) (.ref C)=some true := by unfold PySem.W.kitOne; rw [if_pos (by simp)]
theorem bC {K : PySem.W.Frag}{C R : Addr}{bm : List Value}{dd' : Option Addr}{cd' : ClassData}{sl' : Array (Option Value)}(xC : XCl K C bm)(hl' : K.lookup R=some ⟨.type "type", dd', .cls cd', sl'⟩) : PySem.W.kitOne K (.ref C) (.ref R)=some ((Value.ref C::bm).contains (.ref R)) := by
  obtain ⟨dd, cd, k0, k1, k2, k3, k5, hl, hm, hd, hh⟩ := xC.obj
  unfold PySem.W.kitOne
  by_cases q : (Value.ref C == Value.ref R)=true
  · rw [if_pos q, u3.mp q];simp
  · rw [if_neg q]
    unfold PySem.W.kitCls
    have h1 : (PySem.W.clsIn K R).isSome=true := by unfold PySem.W.clsIn;rw [hl'];rfl
    have h2 : PySem.W.typeIn K (.ref R)=some (.type "type") := by
      show (K.lookup R).map (·.cls)=_
      rw [hl'];rfl
    simp only [h1, h2, sE, Bool.and_self, ug]
    unfold PySem.W.subIn PySem.W.mroIn PySem.W.clsIn
    simp only [hl, Option.bind_some, hm, List.isEmpty_cons, ux, u6]
end Kx
namespace L2
open PySem PySem.Spec PyProof.Rows Wd
section
variable {X : Cx}
end
end L2
namespace Kx
open PySem PySem.Spec PyProof.Rows L2 Wd
def oL (o : Option (List L)) : List V := o.toList.map tx
end Kx
namespace Kx
open PySem PySem.Spec PyProof.Rows L2 Wd
theorem aQ {n : Nat}(h : n≤16777216) : n≤sizeLine := by rw [aZ]; exact h
theorem mh {t u : TS}{D : cZ}{σ : L2.St}{H : Hp}(h : t D σ H) : eW t u D σ true H := o_ h
theorem pM {t u : TS}{D : cZ}{σ : L2.St}{H : Hp}(h : u D σ H) : eW t u D σ false H := o9 h
theorem qr {u : TT}{σ : L2.St}{Q : Bool → Hp → Prop}{H : Hp}(h : Q true H) : gE u σ Q true H := o_ h
theorem qt {u : TT}{σ : L2.St}{Q : Bool → Hp → Prop}{H : Hp}(h : u σ H Q) : gE u σ Q false H := o9 h
theorem pN {u : TT}{σ : L2.St}{Q : Bool → Hp → Prop}{H : Hp}(h : u σ H Q) : gD u σ Q true H := o_ h
end Kx
namespace L2
open PySem PySem.Spec PyProof.Rows Wd
def pO : Sp := fun _ _ _ _ => False
theorem Df.never {P : Program}{w : World}{K : PySem.W.Frag}{mg : Str → Option Value}{base : Heap}{x : Str}{st : Stmt}{ps : List Str}{k : Nat}(D : Df K mg x st)
    (hb : ∀ (kV doc pm : Value) (an : Option Addr) (cdv ct : Value) (us : List Value), us.length=ps.length → bindArgs (PySem.W.fnOf x x (aM st) (aA st) (ah st) .none kV doc pm an cdv ct) ⟨us, []⟩=pure (ps.zip us)) : Fnc P w K mg base x ps k pO := by
  obtain ⟨f, fd, hm, F⟩ := D.ex
  exact ⟨f, fd, hm, F.kp, F.binds hb, ⟨fun _ _ _ _ h => h.elim, fun _ _ _ _ _ _ _ _ _ _ _ _ _ h => h.elim⟩⟩
end L2
namespace Kx
open PySem PySem.Spec PyProof.Rows L2 Wd
theorem eI : bootBuiltins "ValueError" = some (.type "ValueError") := by first | rfl | decide +kernel | kernel_rfl
theorem nkF {Q : Bool → Hp → Prop}{H : Hp}(h : Q true H) : eV Q false H := h
theorem nkT {Q : Bool → Hp → Prop}{H : Hp}(h : Q false H) : eV Q true H := h
def Ok3 (z : Str) : Prop := z.length≤500 ∧ (PyData.str z).canLay0=true
inductive E3 (H : Hp) : V → Prop
  | non : E3 H .non
  | bl (b : Bool) : E3 H (.bl b)
  | int (i : Int) : E3 H (.int i)
  | str (z : Str) (h : Ok3 z) : E3 H (.str z)
  | tupA {a : Addr} (h : H a=some (.tup [.str "a"])) : E3 H (.ref a)
  | nilL {a : Addr} (h : H a=some (.lst [])) : E3 H (.ref a)
theorem E3.mono {H H' : Hp}(st : ∀ a xs, H a=some (.tup xs) → H' a=some (.tup xs))(sl : ∀ a, H a=some (.lst []) → H' a=some (.lst [])){x : V}(h : E3 H x) : E3 H' x := by
  cases h with
  | non => exact .non
  | bl b => exact .bl b
  | int i => exact .int i
  | str z h => exact .str z h
  | tupA h => exact .tupA (st _ _ h)
  | nilL h => exact .nilL (sl _ h)
theorem E3.sb {H H' : Hp}{f : Addr}(F : Fd H f)(s : bT f H H'){x : V}(h : E3 H x) : E3 H' x := h.mono (fun _ _ e => s _ _ (F.neT e) e) fun _ e => s _ _ (F.nl e) e
inductive T3 (H : Hp) : V → Option (List V) → Prop
  | non : T3 H .non none
  | str (z : Str) : T3 H (.str z) none
  | int (i : Int) : T3 H (.int i) none
  | bl (b : Bool) : T3 H (.bl b) none
  | lst {a : Addr} {xs : List V} (h : H a=some (.lst xs)) : T3 H (.ref a) none
  | tup {a : Addr} {xs : List V} (h : H a=some (.tup xs)) (p : ∀ y∈xs, E3 H y) (hl : xs.length≤50) : T3 H (.ref a) (some xs)
theorem T3.sb {H H' : Hp}{f : Addr}(F : Fd H f)(s : bT f H H'){x : V}{o : Option (List V)}(h : T3 H x o) : T3 H' x o := by
  cases h with
  | non => exact .non
  | str z => exact .str z
  | int i => exact .int i
  | bl b => exact .bl b
  | lst h => exact .lst (s _ _ (F.nl h) h)
  | tup h p hl => exact .tup (s _ _ (F.neT h) h) (fun y hy => (p y hy).sb F s) hl
def XP (C : Addr)(H : Hp)(a : Addr)(z : Str)(k : Nat) : Prop := ∃ dx, H a=some (Exo a C (some dx) false) ∧ H dx=some (Xdt dx [("word", .str z), ("at", .int (k : Nat))])
end Kx
namespace Kx
open PySem PySem.Spec PyProof.Rows L2 Wd
end Kx
namespace Ts
open PySem PyProof.Rows
end Ts
namespace L2
open PySem PySem.Spec PyProof.Rows Wd Ts
section
variable {prog : Program} {w : World} {A : Around} {E : Value → Shared → Prop} {s : Shared}
end
section
variable {X : Cx}
end
end L2
namespace PySem
open Sem (wp)
section
variable {prog : Program} {w : World} {A : Around} {E : Value → Shared → Prop} {s : Shared}
section
variable {R : Result → Shared → Prop} {I : Addr} {fp wr : List Addr} {G : Array GenState → Array GenState → Prop} {n : Nat} {P : Nat → Value → Prop} {St : Nat → Shared → Prop}
end
end
end PySem
namespace L2
open PySem PySem.Spec PyProof.Rows Wd
section
variable {X : Cx}
end
end L2
namespace L2
open PySem PySem.Spec PyProof.Rows Wd
section
variable {X : Cx}
end
theorem gp (u : List L)(e : L) : Txt.replace (toS u) ⟨#[cp e]⟩ "" = toS (u.filter (fun x => decide (x≠e))) := by
  have h := replace_strikes (toS u) (cp e)
  have e0 : ("" : Str)=⟨#[]⟩ := by decide +kernel
  rw [e0]
  have h2 : (toS (u.filter (fun x => decide (x≠e)))).cps.toList=(toS u).cps.toList.filter (· != cp e) := by
    rw [aR, aR, List.filter_map]
    congr 1
    refine List.filter_congr fun x _ => ?_
    show decide (x≠e)=(cp x != cp e)
    by_cases z : x=e
    · subst z;simp
    · rw [rp z]
      have : cp x≠cp e := fun q => z (kr x e q)
      simp [this]
  have h3 : (Txt.replace (toS u) ⟨#[cp e]⟩ ⟨#[]⟩).cps=(toS (u.filter (fun x => decide (x≠e)))).cps := Array.toList_inj.mp (h.trans h2.symm)
  generalize Txt.replace (toS u) ⟨#[cp e]⟩ ⟨#[]⟩=z at h3
  cases z
  cases hh : toS (u.filter (fun x => decide (x≠e)))
  rw [hh] at h3
  exact rT Str.mk h3
end L2
namespace Kx
open PySem PySem.Spec PyProof.Rows L2 Wd
inductive fq (vs : List V)(H : Hp)(Q : VK)(u3_ : XK) : Prop
  | mk : ∀ (d : Addr) (n : Nat), (vs=[.ref d, .int (n : Int)]) → (Fd H d) → (1≤n) → (n≤6) → (∀ (u : List L) (H' : Hp), mO n u → (∀ x : L, x.val % 6 < n → x∈u) → Fd H' d → bT d H H' → Q (tx u) H') → fq vs H Q u3_
inductive ft (vs : List V)(H : Hp)(Q : VK)(u3_ : XK) : Prop
  | mk : ∀ (u : List L) (t : Addr) (i : Nat) (sd : Int) (e : L), (vs=[tx u, .ref t]) → (H t=some (.tup [.int (i : Int), .int sd])) → (u.Nodup) → (u.length≤12) → (inv (aJ u i sd)∈u) → (u[i]? = some e) → (aJ u i sd≠inv e) → (∀ (H' : Hp), aG H H' → Q (tx (sld u e (inv (aJ u i sd)) (decide (sd=1)))) H') → ft vs H Q u3_
end Kx
namespace L2
open PySem PySem.Spec PyProof.Rows
structure DfC (K : PySem.W.Frag) (mg : Str → Option Value) (x : Str) (st : Stmt) (c0 : Addr) : Prop where
  ex : ∃ (f : Addr) (oc : Value) (od : Option Addr) (kV doc pm : Value) (an : Option Addr) (ct : Value) (osl : Array (Option Value)), mg x=some (.ref f) ∧
    K.lookup f=some ⟨oc, od, .func (PySem.W.fnOf x x (aM st) (aA st) (ah st) .none kV doc pm an (.ref c0) ct), osl⟩ ∧ PySem.W.codeIn K (.ref c0) x=true ∧ PySem.W.keepIn K (.ref f)=true
theorem DfC.ok {P : Program}{w : World}{K : PySem.W.Frag}{mg : Str → Option Value}{base : Heap}{x : Str}{st : Stmt}{c0 : Addr}{N ps : List Str}{k : Nat}{sp : Sp}(D : DfC K mg x st c0)(S : aw N ps (ah st))
    (hb : ∀ (kV doc pm : Value) (an : Option Addr) (cdv ct : Value) (us : List Value), us.length=ps.length → bindArgs (PySem.W.fnOf x x (aM st) (aA st) (ah st) .none kV doc pm an cdv ct) ⟨us, []⟩=pure (ps.zip us))
    (len : ∀ vs H Q E, sp vs H Q E → vs.length=ps.length)
    (hbody : ∀ (f : Addr) (A : Around) (outer : List Env) (s : Shared) (H : Hp) (vs : List V) (Q : VK) (E : XK), bp k (A.deeper (envOfC x (ah st) s.heap.objs.size f (.ref c0))) → sp vs H Q E →
      ∃ t, PSs (eY CX0 P w K mg base N x (ah st) f (.ref c0) A outer s H E).nox (aA st) t ∧ t { nx := fun _ H' => Q .non H', rt := Q } (start N vs) H) : Fnc P w K mg base x ps (k+1) sp := by
  obtain ⟨f, oc, od, kV, doc, pm, an, ct, osl, hm, lk, hcd, kp⟩ := D.ex
  refine ⟨f, _, hm, kp, .all (hb kV doc pm an (.ref c0) ct), lp lk hcd S len fun A outer s H vs Q E hr hsp => ?_⟩
  obtain ⟨t, h, q⟩ := hbody f A outer s H vs Q E hr hsp
  exact ⟨t, h.nox, q⟩
theorem Tab.sb {H H' : Hp}{P0 d : Addr}{q : Str}(F : Fd H d)(s : bT d H H')(h : Tab H P0 q) : Tab H' P0 q := by
  obtain ⟨ps, e, t, k⟩ := h
  obtain ⟨c, i, l, tt, ns, h1, _⟩ := F.ex
  refine ⟨ps, s _ _ (fun z => by rw [z, h1] at e;cases e) e, t, fun pos cv ec => ?_⟩
  obtain ⟨c', e1, e2⟩ := k pos cv ec
  exact ⟨c', e1, s _ _ (fun z => by rw [z, h1] at e2;cases e2) e2⟩
theorem Fd.tab {H H' : Hp}{P0 d : Addr}{q : Str}(F : Fd H d)(T : Tab H P0 q)(s : bT P0 H H') : Fd H' d := by
  obtain ⟨ps, e, _⟩ := T
  obtain ⟨c, i, l, tt, ns, h1, h2, h3, h4⟩ := F.ex
  exact ⟨c, i, l, tt, ns, s _ _ (fun z => by rw [z, e] at h1;cases h1) h1, s _ _ (fun z => by rw [z, e] at h2;cases h2) h2, h3, h4⟩
theorem Tab.ne {H : Hp}{P0 b : Addr}{q : Str}{o : HO}(T : Tab H P0 q)(h : H b=some o)(n : ∀ ps, o ≠ .tbl ps) : b≠P0 := by
  obtain ⟨ps, e, _⟩ := T
  intro z
  rw [z, e] at h
  cases h
  exact n _ rfl
section
variable {X : Cx}
inductive cK (xs : List V)(H : Hp)(Q : VK) : Prop
  | mk : ∀ (i j : Int), (xs=[.int i, .int j]) → (∀ p, H p=none → Q (.ref p) (upd H p (.rng i j))) → cK xs H Q
theorem iQ : bD X (.type "range") cK := by
  intro pins s σ H xs us Q I r h
  obtain ⟨i, j, rfl, q⟩ := h
  obtain ⟨u, u2, rfl, ⟨t, rfl⟩, ⟨t2, rfl⟩⟩ := k9 r
  refine call_range_2 ⟨.ref s.heap.objs.size, _, I.laid (o := .rng i j) (fun b ob q => fu _ q) (rh _) ⟨_, _, _, ri _ rfl⟩, rfl, q _ (I.hok.fresh (rh _))⟩
inductive bo (xs : List V)(H : Hp)(Q : VK) : Prop
  | mk : ∀ (p : Addr) (lo : Int) (n : Nat), (xs=[.ref p]) → (H p=some (.rng lo (lo+(n : Int)))) → (-1000≤lo) → (lo≤1000) → (n≤1000) → (∀ l, H l=none → Q (.ref l) (upd H l (.lst ((List.range n).map fun i : Nat => V.int (lo+(i : Int)))))) → bo xs H Q
theorem cP (hc : X.calm=true) : bD X (.type "list") bo := by
  intro pins s σ H xs us Q I r h
  obtain ⟨p, lo, n, rfl, hp, hl1, hl2, hn, q⟩ := h
  obtain ⟨u, rfl, rx⟩ := bX r
  cases rx
  obtain ⟨t, u, v, e⟩ := (show aP X.prog X.w H s.heap p (.rng lo (lo+(n : Int))) from I.hok p _ hp)
  refine call_list_range (n := n) (I.ok.hd hc) e (small_one (by omega) (by omega) (by omega) (by omega)) (by rw [rangeSize_one];split <;> omega) (by omega) fun h' tk acc' c' kp e hI => ?_
  have hv : aI ((List.range n).map fun i : Nat => V.int (lo+(i : Int))) acc'.toList := by
    have all : ∀ (m : Nat) (us : List Value) (k : Nat), us.length=m → (∀ (j : Nat) (v : Value), us[j]? = some v → ∃ t, v = .int (lo+(k : Int)+(j : Int)) t) → aI ((List.range' k m).map fun i : Nat => V.int (lo+(i : Int))) us := by
      intro m
      induction m with
      | zero =>
        intro us k hl _
        have : us=[] := sr hl
        subst this
        exact .nil
      | succ m ih =>
        intro us k hl hj
        cases us with
        | nil => cases hl
        | cons a us =>
          rw [List.range'_succ, rK]
          obtain ⟨t, rfl⟩ := hj 0 a rfl
          refine .cons ⟨t, by simp⟩ (ih us (k+1) (by simpa using hl) fun j v e => ?_)
          obtain ⟨t, rfl⟩ := hj (j+1) v (by simpa using e)
          exact ⟨t, by congr 1;omega⟩
    rw [List.range_eq_range']
    refine all n acc'.toList 0 (by rw [se];exact hI.1) fun j v e => ?_
    obtain ⟨t, rfl⟩ := hI.2 j v (by simpa using e)
    exact ⟨t, by congr 1;omega⟩
  refine ⟨.ref s.heap.objs.size, _, I.laid kp (rh _) (show aP X.prog X.w _ h' _ (.lst _) from ⟨?_, acc'.toList, c', hv, by simpa using e⟩), rfl, q _ (I.hok.fresh (rh _))⟩
  rw [rn, List.length_range, sq]
  omega
end
end L2
namespace Kx
open PySem PySem.Spec PyProof.Rows L2 Wd
def slW (u : List L)(z sd : Int) : Option (List L) := if 0≤z ∧ z < (u.length : Int) then (if aJ u z.toNat sd=inv (u.getD z.toNat 0) then none else some (sld u (u.getD z.toNat 0) (inv (aJ u z.toNat sd)) (decide (sd=1)))) else none
theorem mi {u : List L}{z sd : Int}(h : ¬ (0≤z ∧ z < (u.length : Int))) : slW u z sd=none := by unfold slW; rw [if_neg h]
theorem eJ {u : List L}{i : Nat}{sd : Int}{e : L}(he : u[i]? = some e) : slW u (i : Int) sd=if aJ u i sd=inv e then none else some (sld u e (inv (aJ u i sd)) (decide (sd=1))) := by
  have hi := (rb.mp he).1
  unfold slW
  rw [if_pos ⟨by omega, by omega⟩, rE, sm, he]
  rfl
theorem bV {u : List L}{z sd : Int} : (slW u z sd=none ∧ ¬ (0≤z ∧ z < (u.length : Int))) ∨ ∃ i e, z=((i : Nat) : Int) ∧ u[i]? = some e := by
  by_cases h : 0≤z ∧ z < (u.length : Int)
  · refine .inr ⟨z.toNat, u[z.toNat]'(by omega), by omega, rP _⟩
  · exact .inl ⟨mi h, h⟩
def XS (C : Addr)(H : Hp)(a : Addr)(k : Nat) : Prop := ∃ dx c, H a=some (Exo a C (some dx) false c) ∧ H dx=some (Xdt dx [("place", .int (k : Nat))])
theorem kJ {C : Addr}{H : Hp}{a dx : Addr}{k : Nat}{c c' : Bool}(ha : H a=none)(hd : H dx=none)(ne : dx≠a) :
    XS C (upd (upd (upd H a (Exo a C (some dx) true c)) dx (Xdt dx (jS [] ((["place"] : List Str).zip [.int (k : Nat)])))) a (Exo a C (some dx) false c')) a k := by
  refine ⟨dx, c', ag, ?_⟩
  rw [ak ne, ag]
  rfl
theorem eK {H : Hp}{a dx : Addr}{o o' o2 : HO}(ha : H a=none)(hd : H dx=none) : aG H (upd (upd (upd H a o) dx o') a o2) := fun b u e => by
  have ne : ∀ {x : Addr}, H x=none → b≠x := fun h z => by rw [z, h] at e;cases e
  rw [ak (ne ha), ak (ne hd), ak (ne ha)];exact e
inductive fX (vs : List V)(H : Hp)(Q : VK)(u3_ : XK) : Prop
  | mk : ∀ (u : List L) (t : Addr) (z sd : Int), (vs=[tx u, .ref t]) → (H t=some (.tup [.int z, .int sd])) → (u≠[]) → (u.length≤100) → (∀ H', aG H H' → Q (.bl (slW u z sd).isSome) H') → fX vs H Q u3_
inductive dC (CS : Addr)(vs : List V)(H : Hp)(Q : VK)(E : XK) : Prop
  | mk : ∀ (u : List L) (t : Addr) (z sd : Int), (vs=[tx u, .ref t]) → (H t=some (.tup [.int z, .int sd])) → (Srf u) → (∀ v, slW u z sd=some v → ∀ H', aG H H' → Q (tx v) H') → (slW u z sd=none → ∀ b H', XS CS H' b 0 → aG H H' → E (.ref b) none H') → dC CS vs H Q E
inductive dD (CS : Addr)(vs : List V)(H : Hp)(Q : VK)(E : XK) : Prop
  | mk : ∀ (u : List L) (t : Addr) (z sd : Int), (vs=[tx u, .ref t]) → (H t=some (.tup [.int z, .int sd])) → (Srf u) → (slW u z sd=none) → (∀ b H', XS CS H' b 0 → aG H H' → E (.ref b) none H') → dD CS vs H Q E
inductive fv (vs : List V)(H : Hp)(Q : VK)(u3_ : XK) : Prop
  | mk : ∀ (u : List L) (z sd : Int), (vs=[tx u, .int z, .int sd]) → (u≠[]) → (u.length≤12) → (∀ H', aG H H' → Q (oTx (slW u z sd)) H') → fv vs H Q u3_
def iR (P : Program)(w : World)(K : PySem.W.Frag)(mg : Str → Option Value)(base : Heap)(k : Nat)(CS : Addr) : SpS := fun outer s vs H Q _ => ∃ (x : V) (f c' : Addr) (q : Str) (spx : Sp) (R : V → Hp → Prop) (N : Nat → Hp → Prop), vs=[x, .ref f] ∧ oP P w K mg base k outer s H f c' q spx ∧ H c'=some (Cd c' q) ∧
  (∀ (Q' : VK) (E' : XK), (∀ v H1, R v H1 → Q' v H1) → (∀ i b H1, N i H1 → XS CS H1 b i → E' (.ref b) none H1) → spx [x] H Q' E') ∧
  (∀ v H1 p H2, R v H1 → aG H1 H2 → H2 p=some (.tup [.str "told", v]) → Q (.ref p) H2) ∧ (∀ i H1 p H2, N i H1 → aG H1 H2 → H2 p=some (.tup [.str "slide", .int (i : Nat)]) → Q (.ref p) H2)
abbrev qR : Str := ("_law_right" : Str) ++ ".<locals>." ++ "<lambda>"
inductive dE (P0 : Addr)(vs : List V)(H : Hp)(Q : VK)(u3_ : XK) : Prop
  | mk : ∀ (u : List L) (n : Nat) (z sd : Int), (vs=[tx u, .int z, .int sd]) → (mO n u) → (∀ x : L, x.val % 6 < n → x∈u) → (1≤n) → (n≤6) → (Tab H P0 qR) → (∀ H', Tab H' P0 qR → bT P0 H H' → Q (.bl true) H') → dE P0 vs H Q u3_
theorem mj {n : Nat}{u : List L}(R : mO n u)(hx : ∀ x : L, x.val % 6 < n → x∈u)(h1 : 1≤n)(h6 : n≤6) : Srf u := by
  have hl := R.len
  refine ⟨fun e => by rw [e] at hl;simp at hl;omega, R.nd, fun x hxu => hx _ ?_, by omega⟩
  have := R.ins x hxu
  revert this
  have : ∀ y : L, (inv y).val % 6=y.val % 6 := by decide
  rw [this]
  exact id
theorem gq {n : Nat}{u : List L}(R : mO n u)(h6 : n≤6) : u.Perm (md n) := by
  have all : ∀ m : Fin 7, (md m.val).length=2*m.val ∧ ∀ x : L, x.val % 6 < m.val → x∈md m.val := by decide
  obtain ⟨e1, e2⟩ := all ⟨n, by omega⟩
  exact (cX u (md n) R.nd (fun t ht => e2 t (R.ins t ht)) (by rw [R.len];exact e1.symm)).symm
theorem iS {n : Nat}{u v : List L}(R : mO n u)(h1 : 1≤n)(h6 : n≤6)(p : v.Perm u) : me (tx v)=true := by
  have hl := R.len
  have hv := p.length_eq
  show iM (toS v)=true
  unfold iM
  rw [af, aR, rp (show 2≤v.length by omega), rp (show v.length≤12 by omega)]
  have : v.length / 2=n := by omega
  rw [this, rp ((p.trans (gq R h6)).map cp)]
  rfl
theorem far_mem {u : List L}(S : Srf u)(i : Nat)(sd : Int) : aJ u i sd∈u := rM (dA S.ne i sd)
theorem jZ {u v : List L}{z sd : Int}(S : Srf u)(h : slW u z sd=some v) : v.Perm u := by
  rcases bV (u := u) (z := z) (sd := sd) with ⟨e, _⟩ | ⟨i, e, rfl, he⟩
  · rw [e] at h;cases h
  · rw [eJ he] at h
    split at h
    · cases h
    · rename_i hc
      cases h
      exact jX S.nd (rM he) (S.iv _ (far_mem S i sd)) (fun q => hc (by rw [← q, hX])) _
end Kx
namespace Kx
open PySem PySem.Spec PyProof.Rows L2 Wd
def top (i : Nat) : Stmt := PySem.Challenge.pw_ringwords_k62_slides.main.body.getD i (.Pass ⟨0, 0, 0, 0⟩)
theorem mP {α : Type}{us : List α}(h : us.length=1) : ∃ a0, us=[a0] := by
  cases us with
  | nil => cases h
  | cons a0 us =>
    cases us with
    | nil => exact ⟨a0, rfl⟩
    | cons b us => cases h
theorem kK {α : Type}{us : List α}(h : us.length=2) : ∃ a0 a1, us=[a0, a1] := by
  cases us with
  | nil => cases h
  | cons a0 us =>
    cases us with
    | nil => cases h
    | cons a1 us =>
      cases us with
      | nil => exact ⟨a0, a1, rfl⟩
      | cons b us => cases h
theorem pP {α : Type}{us : List α}(h : us.length=3) : ∃ a0 a1 a2, us=[a0, a1, a2] := by
  cases us with
  | nil => cases h
  | cons a0 us =>
    cases us with
    | nil => cases h
    | cons a1 us =>
      cases us with
      | nil => cases h
      | cons a2 us =>
        cases us with
        | nil => exact ⟨a0, a1, a2, rfl⟩
        | cons b us => cases h
end Kx
namespace Kx
open PySem PySem.Spec PyProof.Rows L2 Wd
section
variable {P : Program} {w : World} {K : PySem.W.Frag} {mg : Str → Option Value} {base : Heap} {aB : Addr}
abbrev iT : Stmt := top 27
theorem ml : aw ["_law_feed_here", "_law_many", "_law_cell", "_law_mixed", "_law_found"] ["_law_feed_here", "_law_many"] (ah iT) := ⟨rfl, rfl, rfl, by decide +kernel, rfl, by decide +kernel, by decide +kernel⟩
theorem om (D : Df K mg "_law_draw" iT)(T : Bt K w mg aB) : Fnc P w K mg base "_law_draw" ["_law_feed_here", "_law_many"] 1 fL := by
  have sc := ml
  refine D.ok sc (fun _ _ _ _ _ _ us hl => by obtain ⟨_, _, rfl⟩ := kK hl;rfl) (fun vs H Q E h => ?_) (fun f cdv A outer s H vs Q E hr h => ?_)
  · obtain ⟨d, m, rfl, _⟩ := h
    rfl
  · obtain ⟨d, m, rfl, F, m0, m1, k⟩ := h
    have hu := lG hr
    refine ⟨_, (@aj _ _ _ _ _ (@dh _ _ _ _ _ _ _ _ _ hu (pv 0) ay (@az _ _ _ _ _ _ _ _ bM (@a9 _ _ _ _ _ _ hu (pv 0) ay (fun _ _ => rfl)) ao) rfl) (@aj _ _ _ _ _ (@cj _ _ _ _ _ _ _ _ (@bf _ _ _ _ _ _ _ _ eX (@a9 _ _ _ _ _ _ hu (pv 0) ay (fun _ _ => rfl)) ao (a6 _)) (@aj _ _ _ _ _ (@aC _ _ (2) _ _ _ _ sc.nd rfl (Or.inl rfl) (@bq _ _ _ _ _ _ _ fc (@a9 _ _ _ _ _ _ hu (pv 0) ay (fun _ _ => rfl)) (@az _ _ _ _ _ _ _ _ bN (@a9 _ _ _ _ _ _ hu (pv 0) ay (fun _ _ => rfl)) (@ar _ _ _ _ _ _ _ _ _ br (by rfl) T.len r_ (@aa _ _ _ _ _ (@a9 _ _ _ _ _ _ hu (pv 0) ay (fun _ _ => rfl)) ai (by rfl)) (by decide) (by decide) (by rfl) (by rfl))) (fun _ _ => rfl)) (by rfl) (by first | exact .inl rfl | exact .inr rfl | assumption)) (@aj _ _ _ _ _ (@dh _ _ _ _ _ _ _ _ _ hu (pv 0) ay (@az _ _ _ _ _ _ _ _ bM (@a9 _ _ _ _ _ _ hu (pv 0) ay (fun _ _ => rfl)) ao) rfl) (@aj _ _ _ _ _ (@cj _ _ _ _ _ _ _ _ (@bf _ _ _ _ _ _ _ _ kY (pv 2) (@az _ _ _ _ _ _ _ _ gI ao ao) (a6 _)) (@aj _ _ _ _ _ (@aC _ _ (3) _ _ _ _ sc.nd rfl (Or.inl rfl) (@az _ _ _ _ _ _ _ _ bN (@az _ _ _ _ _ _ _ _ dO (@az _ _ _ _ _ _ _ _ bM (@az _ _ _ _ _ _ _ _ bN (pv 2) ao) (@az _ _ _ _ _ _ _ _ dO ao (@a9 _ _ _ _ _ _ hu (pv 0) ay (fun _ _ => rfl)))) ao) ao) (by rfl) (by first | exact .inl rfl | exact .inr rfl | assumption)) (@aj _ _ _ _ _ (@aC _ _ (3) _ _ _ _ sc.nd rfl (Or.inl rfl) (@az _ _ _ _ _ _ _ _ bN (@az _ _ _ _ _ _ _ _ dO (@az _ _ _ _ _ _ _ _ bM (@az _ _ _ _ _ _ _ _ cy (pv 3) ao) (@az _ _ _ _ _ _ _ _ dO ao (@a9 _ _ _ _ _ _ hu (pv 0) ay (fun _ _ => rfl)))) ao) ao) (by rfl) (by first | exact .inl rfl | exact .inr rfl | assumption)) (@aq _ _ _ (@aN _ _ _ _ (@az _ _ _ _ _ _ _ _ bN (@az _ _ _ _ _ _ _ _ cy (pv 3) ao) (pv 1)))))) aX) (@aq _ _ _ (@dh _ _ _ _ _ _ _ _ _ hu (pv 0) ay (pv 2) rfl))))) aX) (@aj _ _ _ _ _ (@aC _ _ (4) _ _ _ _ sc.nd rfl (Or.inl rfl) (@az _ _ _ _ _ _ _ _ bN (@a9 _ _ _ _ _ _ hu (pv 0) ay (fun _ _ => rfl)) (pv 1)) (by rfl) (by first | exact .inl rfl | exact .inr rfl | assumption)) (@aj _ _ _ _ _ (@dh _ _ _ _ _ _ _ _ _ hu (pv 0) ay (@az _ _ _ _ _ _ _ _ cy (@a9 _ _ _ _ _ _ hu (pv 0) ay (fun _ _ => rfl)) (pv 1)) rfl) (@aq _ _ _ (@aN _ _ _ _ (pv 4))))))), ?_⟩
    obtain ⟨c, i, l, t, ns, hd, hc, hne, h64⟩ := F.ex
    have dc : c≠d := gw hc hd (by intro z;cases z)
    have fin : ∀ (r i' l' t' : Int), 0≤r → r < m → Q (.int r) (upd H d (.dK (fkv c i' l' t'))) := fun r i' l' t' h0 h1 =>
      k r _ h0 h1 ⟨c, i', l', t', ns, ag, by rw [ak dc];exact hc, hne, h64⟩ bT.upd
    have c1 : ∀ o, (upd H d o) c=some (.lst (ns.map V.int)) := fun o => by rw [ak dc];exact hc
    have hl0 : (0 : Int) < ((ns.map V.int).length : Int) := by
      rw [rn]
      have := sO.mpr hne
      omega
    refine ⟨_, rfl, d, _, rfl, dg hd (ib c i l t), _, _, rfl, rfl, _, rfl, d, _, rfl, dp hd (cH c i l t) (nD c i l t _), ?_⟩
    refine ⟨_, rfl, d, _, rfl, dg ag (et c i l _), rfl, _, rfl, ?_⟩
    refine mM (fun _ => ?_) (fun _ => ?_)
    rotate_left
    · refine ⟨_, rfl, d, _, rfl, dg ag (et c _ _ _), _, rfl, _, _, rfl, rfl, m0, ?_⟩
      refine ⟨_, rfl, d, _, rfl, dg ag (et c _ _ _), _, rfl, _, _, rfl, rfl, ⟨m0, by omega⟩, _, rfl, d, _, rfl, dp ag (cH c _ _ _) (ie c _ _ _ _), ?_⟩
      refine ⟨_, rfl, ?_⟩
      rw [cu]
      exact fin _ _ _ _ (sH _ (by omega)) (sR _ m0)
    obtain ⟨n, hn⟩ := lS hne i
    refine ⟨_, rfl, d, _, rfl, dg ag (ia c i l _), _, rfl, d, _, rfl, dg ag (qo c i l _), _, rfl, d, _, rfl, dg ag (ia c i l _), c, _, rfl, .inl (SqL.of (c1 _)), _, _, rfl, rfl, hl0, c, _, _, _, rfl, rfl, SqL.of (c1 _), hn, ?_⟩
    refine ⟨_, rfl, d, _, rfl, dg ag (qo c i l _), _, _, rfl, rfl, _, rfl, d, _, rfl, dp ag (cH c i l _) (qT c i l _ _), ?_⟩
    rw [cu]
    refine ⟨_, rfl, _, _, rfl, rfl, ⟨by decide, by decide, by decide⟩, _, _, rfl, rfl, _, rfl, ?_⟩
    refine mM (fun _ => ?_) (fun _ => ?_)
    · refine ⟨_, rfl, _, _, rfl, rfl, (by show (0 : Int) < 2147483629;decide), _, rfl, d, _, rfl, dg ag (ib c _ l _), _, _, rfl, rfl, .inl ⟨by decide, by decide⟩, _, _, rfl, rfl, _, _, rfl, rfl, .inr ⟨by decide, by decide⟩, _, _, rfl, rfl, (by show (0 : Int) < 2147483647;decide), ?_⟩
      refine ⟨_, rfl, _, _, rfl, rfl, ⟨by decide, by decide⟩, _, rfl, d, _, rfl, dg ag (ib c _ l _), _, _, rfl, rfl, .inl ⟨by decide, by decide⟩, _, _, rfl, rfl, _, _, rfl, rfl, .inr ⟨by decide, by decide⟩, _, _, rfl, rfl, (by show (0 : Int) < 2147483587;decide), ?_⟩
      refine ⟨_, rfl, _, _, rfl, rfl, ⟨by decide, by decide⟩, _, rfl, _, _, rfl, rfl, m0, ?_⟩
      exact fin _ _ _ _ (sH _ (by omega)) (sR _ m0)
    · refine ⟨_, rfl, _, rfl, d, _, rfl, dp ag (cH c _ l _) (ie c _ l _ _), ?_⟩
      rw [cu]
      refine ⟨_, rfl, d, _, rfl, dg ag (et c _ _ _), _, rfl, _, _, rfl, rfl, m0, ?_⟩
      refine ⟨_, rfl, d, _, rfl, dg ag (et c _ _ _), _, rfl, _, _, rfl, rfl, ⟨m0, by omega⟩, _, rfl, d, _, rfl, dp ag (cH c _ _ _) (ie c _ _ _ _), ?_⟩
      refine ⟨_, rfl, ?_⟩
      rw [cu]
      exact fin _ _ _ _ (sH _ (by omega)) (sR _ m0)
abbrev iU : Stmt := top 26
theorem mn : aw ["_law_script"] ["_law_script"] (ah iU) := ⟨rfl, rfl, rfl, by decide +kernel, rfl, by decide +kernel, by decide +kernel⟩
theorem oo (D : Df K mg "_law_feed" iU)(T : Bt K w mg aB) : Fnc P w K mg base "_law_feed" ["_law_script"] 1 (ig K) := by
  have sc := mn
  refine D.ok sc (fun _ _ _ _ _ _ us hl => by obtain ⟨_, rfl⟩ := mP hl;rfl) (fun vs H Q E h => ?_) (fun f cdv A outer s H vs Q E hr h => ?_)
  · obtain ⟨a, ns, rfl, _⟩ := h
    rfl
  · obtain ⟨a, ns, rfl, hS, hlen, k⟩ := h
    have hu := lG hr
    refine ⟨_, (@aq _ _ _ (@aN _ _ _ _ (@lF _ _ _ _ _ (@cm _ _ _ _ _ _ _ _ _ ay (@az _ _ _ _ _ _ _ _ gU (@a_ _ _ _ _ _ _ _ _ _ d4 (by rfl) T.list ij (@aa _ _ _ _ _ (@bA _ _ _ _ _ _ _ _ _ _ lr (pv 0) bY (@bZ _ _ _ ao)) ai (by rfl)) (by decide) (by decide) (by rfl) (by rfl)) (@az _ _ _ _ _ _ _ _ kl (@cc _ _ _ _ (@aa _ _ _ _ _ ao ai (by rfl))) (@a_ _ _ _ _ _ _ _ _ _ dP (by rfl) T.int nE (@aa _ _ _ _ _ (@bJ _ _ _ _ _ _ _ _ eX (@ar _ _ _ _ _ _ _ _ _ br (by rfl) T.len r_ (@aa _ _ _ _ _ (pv 0) ai (by rfl)) (by decide) (by decide) (by rfl) (by rfl)) ao (a6 _)) ai (by rfl)) (by decide) (by decide) (by rfl) (by rfl)))) (@cm _ _ _ _ _ _ _ _ _ ay ao (@cm _ _ _ _ _ _ _ _ _ ay ao (@cm _ _ _ _ _ _ _ _ _ ay ao lE)))) rfl rfl (by simp) (by decide)))), ?_⟩
    intro p hp
    have s1 : aG H (upd H p (.dK [])) := aG.new hp
    have p1 : (upd H p (.dK [])) p=some (.dK []) := ag
    generalize upd H p (.dK [])=H1 at s1 p1
    refine ⟨_, rfl, _, rfl, a, _, rfl, s1.seq hS, fun q1 hq1 => ?_⟩
    rw [pD hlen]
    have s2 : aG H1 (upd H1 q1 (.lst (ns.map V.int))) := aG.new hq1
    have l2 : (upd H1 q1 (.lst (ns.map V.int))) q1=some (.lst (ns.map V.int)) := ag
    generalize upd H1 q1 (.lst (ns.map V.int))=H2 at s2 l2 ⊢
    refine ⟨q1, _, rfl, .inl (SqL.of l2), fun q2 hq2 => ?_⟩
    have s3 : aG H2 (upd H2 q2 (.lst (ns.map V.int))) := aG.new hq2
    have l3 : (upd H2 q2 (.lst (ns.map V.int))) q2=some (.lst (ns.map V.int)) := ag
    generalize upd H2 q2 (.lst (ns.map V.int))=H3 at s3 l3 ⊢
    refine ⟨(by show 1≤sizeLine;decide), fun q4 hq4 => ?_⟩
    have s4 : aG H3 (upd H3 q4 (.lst [V.int 0])) := aG.new hq4
    have l4 : (upd H3 q4 (.lst [V.int 0])) q4=some (.lst [V.int 0]) := ag
    generalize upd H3 q4 (.lst [V.int 0])=H4 at s4 l4 ⊢
    have s14 : aG H H4 := ((s1.trans s2).trans s3).trans s4
    refine ⟨_, rfl, a, _, rfl, .inl (s14.seq hS), rfl, .inr ⟨_, rfl, q4, _, _, rfl, rfl, l4, ?_, ?_, ?_, fun q5 hq5 => ?_⟩⟩
    · split <;> decide
    · split <;> decide
    · split <;> decide
    have s5 : aG H4 (upd H4 q5 (.lst (List.replicate ((if decide (V.int ((ns.map V.int).length : Int)=V.int 0)=true then 1 else 0 : Int)).toNat [V.int 0]).flatten)) := aG.new hq5
    have l5 : (upd H4 q5 (.lst (List.replicate ((if decide (V.int ((ns.map V.int).length : Int)=V.int 0)=true then 1 else 0 : Int)).toNat [V.int 0]).flatten)) q5=_ := ag
    generalize upd H4 q5 (.lst (List.replicate ((if decide (V.int ((ns.map V.int).length : Int)=V.int 0)=true then 1 else 0 : Int)).toNat [V.int 0]).flatten)=H5 at s5 l5 ⊢
    refine ⟨q2, q5, _, _, rfl, rfl, s5 _ _ (s4 _ _ l3), l5, ?_, fun q6 hq6 => ?_⟩
    · have e : (List.replicate ((if decide (V.int ((ns.map V.int).length : Int)=V.int 0)=true then 1 else 0 : Int)).toNat [V.int 0]).flatten.length≤1 := by split <;> decide
      have e2 : sizeLine=16777216 := sq
      have e3 : (ns.map V.int).length=ns.length := rn ..
      omega
    have el : ns.map V.int++(List.replicate ((if decide (V.int ((ns.map V.int).length : Int)=V.int 0)=true then 1 else 0 : Int)).toNat [V.int 0]).flatten=(if ns=[] then [0] else ns).map V.int := by
      cases ns with
      | nil => rfl
      | cons n r =>
        have en : ¬ (decide (V.int (((n::r).map V.int).length : Int)=V.int 0)=true) := by
          rw [rn, rS]
          simp only [V.int.injEq, decide_eq_true_eq]
          omega
        rw [if_neg en, if_neg (by simp)]
        simp
    rw [el]
    have s6 : aG H5 (upd H5 q6 (.lst ((if ns=[] then [0] else ns).map V.int))) := aG.new hq6
    have l6 : (upd H5 q6 (.lst ((if ns=[] then [0] else ns).map V.int))) q6=_ := ag
    generalize upd H5 q6 (.lst ((if ns=[] then [0] else ns).map V.int))=H6 at s6 l6 ⊢
    have p6 : H6 p=some (.dK []) := s6 _ _ (s5 _ _ (s4 _ _ (s3 _ _ (s2 _ _ p1))))
    have pq : q6≠p := gw l6 p6 (by intro z;cases z)
    refine ⟨p6, fkv q6 0 0 0, rfl, (by show 4≤15;decide), ?_⟩
    rw [pA]
    refine k p _ hp ⟨q6, 0, 0, 0, (if ns=[] then [0] else ns), ag, by rw [ak pq];exact l6, ?_, ?_⟩ fun b o e => ?_
    · split
      · simp
      · assumption
    · split
      · decide
      · omega
    · rw [ak (av e hp)]
      exact s6 _ _ (s5 _ _ (s14 _ _ e))
end
end Kx
namespace Kx
open PySem PySem.Spec PyProof.Rows L2 Wd
section
variable {P : Program} {w : World} {K : PySem.W.Frag} {mg : Str → Option Value} {base : Heap} {aB : Addr}
abbrev iV : Stmt := top 13
theorem mq : aw ["word"] ["word"] (ah iV) := ⟨rfl, rfl, rfl, by decide +kernel, rfl, by decide +kernel, by decide +kernel⟩
theorem oq (D : Df K mg "back" iV)(T : Bt K w mg aB) : Fnc P w K mg base "back" ["word"] 1 kx := by
  have sc := mq
  refine D.ok sc (fun _ _ _ _ _ _ us hl => by obtain ⟨_, rfl⟩ := mP hl;rfl) (fun vs H Q E h => ?_) (fun f cdv A outer s H vs Q E hr h => ?_)
  · obtain ⟨u, rfl, _⟩ := h
    rfl
  · obtain ⟨u, rfl, hu, k⟩ := h
    have l16 := aZ
    refine ⟨_, (@aq _ _ _ (@aN _ _ _ _ (@ju _ _ _ _ _ _ _ _ _ _ _ _ r6 PySem.F.slot_str_join PySem.F.type_str_join lJ ay (@aa _ _ _ _ _ (@lH _ _ _ _ _ _ _ (["letter"]) (["letter"]) ([]) _ _ _ _ (@nz _ _ _ _ _ _ rfl (by kernel_rfl)) rfl (@lK _ _ _ _ _ _ rfl T.reversed gg (@aa _ _ _ _ _ (pv 0) ai (by rfl)) (by rfl)) (fun _ _ _ _ => @bW _ _ (0) _ (show (["letter"] : List Str).Nodup from by decide +kernel) rfl (Or.inl rfl) (by first | exact .inl rfl | exact .inr rfl | assumption)) (fun _ _ _ _ => jz) (fun _ _ _ _ => by (exact (@lL _ _ _ _ _ _ _ _ _ T.dB rfl rfl rfl T.mgB (pv 0) (fun _ _ => rfl) (by decide)))) (by intro _ ;rfl)) ai (by rfl)) (by rfl) (by rfl) (by rfl) (by rfl) (by rfl)))), ?_⟩
    refine ⟨rfl, _, rfl, _, rfl, (by rw [af];omega), ?_⟩
    refine lI (own := ["letter"]) (cap := []) (J := pd (toS u)) u.length (fun i ys σ H' => H'=H ∧ ys=eQ ((bk u).take i) ∧ ∃ v, σ = [v]) ⟨rfl, rfl, none, rfl⟩ (fun i ys σ H' hi ⟨_, e, _⟩ => ?_) (by omega) (fun i ys σ H' hi _ => ?_) (fun ys σ H' _ => ?_) ?_ ?_
    · rw [e, aY, rL];omega
    · show i < (toS u).cps.size;rw [bB];exact hi
    · show _=(toS u).cps.size;rw [bB]
    · rintro i ys σ H1 x H2 N hi ⟨rfl, rfl, v, rfl⟩ ⟨rfl, c, hc, rfl⟩ hN
      rw [bB] at hc
      obtain ⟨y, hy, e⟩ := fh hc
      obtain ⟨t, ht⟩ := T.gB y
      refine ⟨_, rfl, toS [y], toS [inv y], t, by rw [e], ht, hN _ _ _ ⟨rfl, ?_, _, rfl⟩⟩
      rw [cI (nF u hi hy), ← ik]
      rfl
    · rintro ys σ H1 l ⟨rfl, rfl, v, rfl⟩ hl
      rw [tH (by rw [bu];exact rh _)]
      refine ⟨_, l, (bk u).map fun x => toS [x], rfl, rfl, SqL.of (by rw [ag, jG]), ip _ (by rw [bu];omega), ?_⟩
      rw [il]
      exact k _ (aG.new hl)
abbrev fw : Stmt := top 28
theorem j0 : aw ["_law_word", "_law_found", "_law_sign"] ["_law_word"] (ah fw) := ⟨rfl, rfl, rfl, by decide +kernel, rfl, by decide +kernel, by decide +kernel⟩
theorem mr (D : Df K mg "_law_back" fw) : Fnc P w K mg base "_law_back" ["_law_word"] 1 kx := by
  have sc := j0
  refine D.ok sc (fun _ _ _ _ _ _ us hl => by obtain ⟨_, rfl⟩ := mP hl;rfl) (fun vs H Q E h => ?_) (fun f cdv A outer s H vs Q E hr h => ?_)
  · obtain ⟨u, rfl, _⟩ := h
    rfl
  · obtain ⟨u, rfl, hu, k⟩ := h
    have l16 := aZ
    refine ⟨_, (@aj _ _ _ _ _ (@aC _ _ (1) _ _ _ _ sc.nd rfl (Or.inl rfl) ay (by rfl) (by first | exact .inl rfl | exact .inr rfl | assumption)) (@aj _ _ _ _ _ (@dM _ _ _ _ _ _ _ _ tB rfl (@kn _ _ _ _ (pv 0)) (@bW _ _ (2) _ sc.nd rfl (Or.inl rfl) (by first | exact .inl rfl | exact .inr rfl | assumption)) (@aq _ _ _ (@aC _ _ (1) _ _ _ _ sc.nd rfl (Or.inl rfl) (@az _ _ _ _ _ _ _ _ aK (@ji _ _ _ _ _ _ _ _ (@bf _ _ _ _ _ _ _ _ gN (pv 2) ay rfl) (@gT _ _ _ _ _ _ _ _ _ r6 PySem.F.slot_str_upper PySem.F.type_str_upper jA (pv 2) (by rfl) (by rfl)) (@gT _ _ _ _ _ _ _ _ _ r6 uT uU fH (pv 2) (by rfl) (by rfl))) (pv 1)) (by rfl) (by first | exact .inl rfl | exact .inr rfl | assumption))) (by intro _ ;rfl)) (@aq _ _ _ (@aN _ _ _ _ (pv 1))))), ?_⟩
    refine ⟨_, rfl, _, rfl, hJ (z := toS u) (fun i σ H' => ∃ v, σ = [some (tx u), some (tx (bk (u.take i))), v] ∧ H'=H) ⟨none, (by rw [List.take_zero];show _=[some (tx u), some (tx []), none];rw [ku];rfl), rfl⟩ ?_ ?_⟩
    · rintro i c σ H1 hc ⟨v, rfl, rfl⟩
      obtain ⟨x, hx, e⟩ := fh hc
      rw [e]
      have hi : i < u.length := (rb.mp hx).1
      have fin : ∀ z, z=toS [inv x] → ∃ v', [some (tx u), some (V.str (z++toS (bk (u.take i)))), some (V.str (toS [x]))]=[some (tx u), some (tx (bk (u.take (i+1)))), v'] ∧ H1=H1 := fun z ez => by
        refine ⟨some (V.str (toS [x])), ?_, rfl⟩
        rw [ez, ky, cI hx, hZ]
        rfl
      have room : ∀ z, z=toS [inv x] → z.length+(toS (bk (u.take i))).length≤sizeLine := fun z ez => by
        rw [ez, af, af, bu, rL]
        simp only [tV]
        omega
      refine ⟨_, rfl, _, _, rfl, rfl, _, rfl, ?_⟩
      rw [jE]
      refine mM (fun h => ?_) (fun h => ?_)
      · have h : x.val < 6 := by simpa using h
        exact ⟨_, rfl, rfl, _, rfl, rfl, (by rw [af];show 1≤5592405;decide), _, rfl, _, _, rfl, rfl, room _ (ej h), fin _ (ej h)⟩
      · have h : ¬ x.val < 6 := by simpa using h
        exact ⟨_, rfl, rfl, _, rfl, rfl, (by rw [af];show 1≤5592405;decide), _, rfl, _, _, rfl, rfl, room _ (er h), fin _ (er h)⟩
    · rintro σ H1 ⟨v, rfl, rfl⟩
      rw [bB, s_]
      exact ⟨_, rfl, k _ (aG.refl _)⟩
end
end Kx
namespace Kx
open PySem PySem.Spec PyProof.Rows L2 Wd
section
variable {P : Program} {w : World} {K : PySem.W.Frag} {mg : Str → Option Value} {base : Heap} {aB : Addr}
abbrev mv : Stmt := top 12
theorem ot : aw ["letter"] ["letter"] (ah mv) := ⟨rfl, rfl, rfl, by decide +kernel, rfl, by decide +kernel, by decide +kernel⟩
theorem pQ (D : Df K mg "number_of" mv)(T : Bt K w mg aB)(S : ∃ t, mg "SMALL" = some (.str "abcdef" t)) : Fnc P w K mg base "number_of" ["letter"] 1 nG := by
  have sc := ot
  refine D.ok sc (fun _ _ _ _ _ _ us hl => by obtain ⟨_, rfl⟩ := mP hl;rfl) (fun vs H Q E h => ?_) (fun f cdv A outer s H vs Q E hr h => ?_)
  · obtain ⟨x, rfl, _⟩ := h
    rfl
  · obtain ⟨x, rfl, k⟩ := h
    obtain ⟨tS, mgS⟩ := S
    refine ⟨_, (@aq _ _ _ (@aN _ _ _ _ (@ju _ _ _ _ _ _ _ _ _ _ _ _ r6 uV uW fO (@a8 _ _ (.str "abcdef") _ _ rfl mgS ⟨_, rfl⟩ (by decide)) (@aa _ _ _ _ _ (@gT _ _ _ _ _ _ _ _ _ r6 uT uU fH (pv 0) (by rfl) (by rfl)) ai (by rfl)) (by rfl) (by rfl) (by rfl) (by rfl) (by rfl)))), ?_⟩
    exact ⟨rfl, _, rfl, rfl, _, rfl, rfl, (by rw [af];show 1≤5592405;decide), _, _, _, _, rfl, rfl, nH x, k⟩
abbrev pR : Stmt := top 18
theorem pS : aw ["surface", "slide"] ["surface", "slide"] (ah pR) := ⟨rfl, rfl, rfl, by decide +kernel, rfl, by decide +kernel, by decide +kernel⟩
theorem qX (D : Df K mg "neighbour" pR)(T : Bt K w mg aB) : Fnc P w K mg base "neighbour" ["surface", "slide"] 1 n_ := by
  have sc := pS
  refine D.ok sc (fun _ _ _ _ _ _ us hl => by obtain ⟨_, _, rfl⟩ := kK hl;rfl) (fun vs H Q E h => ?_) (fun f cdv A outer s H vs Q E hr h => ?_)
  · obtain ⟨u, t, i, sd, rfl, _⟩ := h
    rfl
  · obtain ⟨u, t, i, sd, rfl, ht, hne, hul, k⟩ := h
    have l16 := aZ
    have hp := sO.mpr hne
    have hw : (toS u).length≤sizeLine := by rw [af];omega
    refine ⟨_, (@aq _ _ _ (@aN _ _ _ _ (@bq _ _ _ _ _ _ _ bP (pv 0) (@az _ _ _ _ _ _ _ _ bN (@az _ _ _ _ _ _ _ _ bM (@bq _ _ _ _ _ _ _ cR (pv 1) ao (fun _ _ => rfl)) (@bq _ _ _ _ _ _ _ cR (pv 1) ao (fun _ _ => rfl))) (@ar _ _ _ _ _ _ _ _ _ aD (by rfl) T.len r_ (@aa _ _ _ _ _ (pv 0) ai (by rfl)) (by decide) (by decide) (by rfl) (by rfl))) (fun _ _ => rfl)))), ?_⟩
    refine ⟨_, rfl, _, rfl, t, _, _, _, rfl, rfl, SqT.of ht, rfl, _, rfl, t, _, _, _, rfl, rfl, SqT.of ht, rfl, _, _, rfl, rfl, _, rfl, _, rfl, hw, _, _, rfl, rfl, (by show (0 : Int) < ((toS u).length : Int);rw [af];omega), ?_⟩
    have h1 := sH ((i : Int)+sd) (show (u.length : Int)≠0 by omega)
    have ha : atI (toS u).cps.toList (((i : Int)+sd) % ((toS u).length : Int))=some (cp (aJ u i sd)) := by
      rw [af]
      exact cG (k := (((i : Int)+sd) % (u.length : Int)).toNat) (by omega) (dA hne i sd)
    exact ⟨_, _, _, rfl, rfl, hw, ha, k⟩
abbrev mw : Stmt := top 17
theorem ou : aw ["surface", "slide"] ["surface", "slide"] (ah mw) := ⟨rfl, rfl, rfl, by decide +kernel, rfl, by decide +kernel, by decide +kernel⟩
theorem pT (D : Df K mg "can_slide" mw)(T : Bt K w mg aB)(F_back : Fnc P w K mg base "back" ["word"] 1 kx)(F_nb : Fnc P w K mg base "neighbour" ["surface", "slide"] 1 n_) : Fnc P w K mg base "can_slide" ["surface", "slide"] 2 fX := by
  have sc := ou
  refine D.ok sc (fun _ _ _ _ _ _ us hl => by obtain ⟨_, _, rfl⟩ := kK hl;rfl) (fun vs H Q E h => ?_) (fun f cdv A outer s H vs Q E hr h => ?_)
  · obtain ⟨u, t, z, sd, rfl, _⟩ := h
    rfl
  · obtain ⟨u, t, z, sd, rfl, ht, hne, hul, k⟩ := h
    have l16 := aZ
    have hw : (toS u).length≤sizeLine := by rw [af];omega
    refine ⟨_, (@aq _ _ _ (@aN _ _ _ _ (@ka _ _ _ _ _ _ _ (@jo _ _ _ _ _ _ _ _ _ _ _ _ jm kY ao (@bq _ _ _ _ _ _ _ cR (pv 1) ao (fun _ _ => rfl)) (@ar _ _ _ _ _ _ _ _ _ aD (by rfl) T.len r_ (@aa _ _ _ _ _ (pv 0) ai (by rfl)) (by decide) (by decide) (by rfl) (by rfl)) (by with_unfolding_all rfl)) (@j_ _ _ _ _ _ (@bJ _ _ _ _ _ _ _ _ m6 (@aV _ _ _ _ _ _ _ _ _ _ _ F_nb hr (by decide) rfl (@aa _ _ _ _ _ (pv 0) (@aa _ _ _ _ _ (pv 1) ai (by rfl)) (by rfl)) (by decide) (by rfl) (by rfl)) (@aV _ _ _ _ _ _ _ _ _ _ _ F_back hr (by decide) rfl (@aa _ _ _ _ _ (@bq _ _ _ _ _ _ _ bP (pv 0) (@bq _ _ _ _ _ _ _ cR (pv 1) ao (fun _ _ => rfl)) (fun _ _ => rfl)) ai (by rfl)) (by decide) (by rfl) (by rfl)) (a6 _)))))), ?_⟩
    rcases bV (u := u) (z := z) (sd := sd) with ⟨e0, off⟩ | ⟨i, e, rfl, he⟩
    · rw [e0] at k
      by_cases h0 : 0≤z
      · refine ⟨_, rfl, t, _, _, _, rfl, rfl, SqT.of ht, rfl, _, _, rfl, rfl, _, rfl, jb (rp h0) ?_⟩
        exact ⟨_, rfl, _, rfl, hw, _, _, rfl, rfl, _, rfl, kA (by rw [af];exact rf (by omega)) (k _ (aG.refl _))⟩
      · exact ⟨_, rfl, t, _, _, _, rfl, rfl, SqT.of ht, rfl, _, _, rfl, rfl, _, rfl, kA (rf h0) ⟨_, rfl, kA rfl (k _ (aG.refl _))⟩⟩
    · have hi : i < u.length := (rb.mp he).1
      have ae : atI (toS u).cps.toList (i : Int)=some (cp e) := cG rfl he
      refine ⟨_, rfl, t, _, _, _, rfl, rfl, SqT.of ht, rfl, _, _, rfl, rfl, _, rfl, jb (rp (by omega)) ?_⟩
      refine ⟨_, rfl, _, rfl, hw, _, _, rfl, rfl, _, rfl, jb (by rw [af];exact rp (by omega)) ?_⟩
      refine ⟨_, rfl, _, rfl, u, t, i, sd, rfl, ht, hne, hul, ?_⟩
      refine ⟨_, rfl, _, rfl, t, _, _, _, rfl, rfl, SqT.of ht, rfl, _, _, _, rfl, rfl, hw, ae, [e], rfl, (by show 1≤5000;decide), fun H1 s1 => ⟨rfl, ?_⟩⟩
      show Q (.bl (!decide (tx [aJ u i sd]=tx (bk [e])))) H1
      rw [fK, fJ]
      have := k H1 s1
      rw [eJ he] at this
      have e2 : (if aJ u i sd=inv e then none else some (sld u e (inv (aJ u i sd)) (decide (sd=1))) : Option (List L)).isSome=!decide ([aJ u i sd]=[inv e]) := by
        by_cases h : aJ u i sd=inv e
        · rw [if_pos h, rp (by rw [h])];rfl
        · rw [if_neg h, rf (show ¬ [aJ u i sd]=[inv e] by simpa using h)];rfl
      rwa [e2] at this
abbrev ow : Stmt := top 20
theorem pU (D : Df K mg "putting_ahead" ow) : Fnc P w K mg base "putting_ahead" ["many", "end", "other"] 1 pO := D.never (fun _ _ _ _ _ _ us hl => by obtain ⟨_, _, _, rfl⟩ := pP hl; rfl)
end
end Kx
namespace Kx
open PySem PySem.Spec PyProof.Rows L2 Wd
section
variable {P : Program} {w : World} {K : PySem.W.Frag} {mg : Str → Option Value} {base : Heap} {aB : Addr}
theorem j1 {u : List L}{e g : L}(nd : u.Nodup)(he : e∈u)(hg : g∈u)(ne : g≠e) : g∈u.filter (fun x => decide (x≠e)) ∧
    ∀ b : Bool, ((u.filter (fun x => decide (x≠e))).take ((u.filter (fun x => decide (x≠e))).idxOf g+(if b then 1 else 0)))++[e]++((u.filter (fun x => decide (x≠e))).drop ((u.filter (fun x => decide (x≠e))).idxOf g+(if b then 1 else 0)))=sld u e g b := by
  refine ⟨uX.mpr ⟨hg, rp ne⟩, fun b => ?_⟩
  obtain ⟨A, B, C, D, rfl, e1, e2⟩ := eG nd he hg ne b
  have nd2 : (e::(A++B)).Nodup := (uS.nodup_iff).mp nd
  have ni := (r9.mp nd2).1
  have nd3 := (r9.mp nd2).2
  have ef : (A++e::B).filter (fun x => decide (x≠e))=C++g::D := by
    rw [List.filter_append, uP (by simp), ← List.filter_append, e1]
    refine List.filter_eq_self.mpr fun x hx => rp fun z => ?_
    subst z
    exact ni (by rw [e1];exact hx)
  rw [e1] at nd3
  have nd4 : (g::(C++D)).Nodup := (uS.nodup_iff).mp nd3
  have ng := (r9.mp nd4).1
  have ei : (C++g::D).idxOf g=C.length := by
    rw [List.idxOf_append, if_neg (fun h => ng (rY _ h)), List.idxOf_cons_self, Nat.zero_add]
  rw [ef, e2, ei]
  cases b with
  | true =>
    rw [if_pos rfl, if_pos rfl]
    have : C++g::D=(C++[g])++D := by simp
    have hl : C.length+1=(C++[g]).length := by simp
    rw [this, hl, List.take_left, List.drop_left]
    simp
  | false =>
    rw [if_neg (by decide), if_neg (by decide), Nat.add_zero, List.take_left, List.drop_left]
    simp
abbrev fz : Stmt := top 19
theorem j2 : aw ["surface", "slide", "end", "left", "place"] ["surface", "slide"] (ah fz) := ⟨rfl, rfl, rfl, by decide +kernel, rfl, by decide +kernel, by decide +kernel⟩
theorem mx (D : Df K mg "moved" fz)(T : Bt K w mg aB)(F_back : Fnc P w K mg base "back" ["word"] 1 kx)(F_nb : Fnc P w K mg base "neighbour" ["surface", "slide"] 1 n_) : Fnc P w K mg base "moved" ["surface", "slide"] 2 ft := by
  have sc := j2
  refine D.ok sc (fun _ _ _ _ _ _ us hl => by obtain ⟨_, _, rfl⟩ := kK hl;rfl) (fun vs H Q E h => ?_) (fun f cdv A outer s H vs Q E hr h => ?_)
  · obtain ⟨u, t, i, sd, e, rfl, _⟩ := h
    rfl
  · obtain ⟨u, t, i, sd, e, rfl, ht, nd, hul, hg, he, hc, k⟩ := h
    have l16 := aZ
    have hi : i < u.length := (rb.mp he).1
    have hne : u≠[] := sO.mp (by omega)
    refine ⟨_, (@iI _ (0) (1) (2) (3) _ _ _ _ _ _ _ _ _ _ _ _ _ _ _ _ _ _ _ _ _ _ sc.nd rfl rfl rfl rfl rfl rfl rfl rfl (by decide) (fun _ _ => rfl) (fun _ _ => rfl) (@aj _ _ _ _ _ (@aC _ _ (4) _ _ _ _ sc.nd rfl (Or.inl rfl) (@ju _ _ _ _ _ _ _ _ _ _ _ _ r6 uV uW fO (pv 3) (@aa _ _ _ _ _ (@aV _ _ _ _ _ _ _ _ _ _ _ F_back hr (by decide) rfl (@aa _ _ _ _ _ (@aV _ _ _ _ _ _ _ _ _ _ _ F_nb hr (by decide) rfl (@aa _ _ _ _ _ (pv 0) (@aa _ _ _ _ _ (pv 1) ai (by rfl)) (by rfl)) (by decide) (by rfl) (by rfl)) ai (by rfl)) (by decide) (by rfl) (by rfl)) ai (by rfl)) (by rfl) (by rfl) (by rfl) (by rfl) (by rfl)) (by rfl) (by first | exact .inl rfl | exact .inr rfl | assumption)) (@aj _ _ _ _ _ (@cj _ _ _ _ _ _ _ _ (@bf _ _ _ _ _ _ _ _ eX (@bq _ _ _ _ _ _ _ cR (pv 1) ao (fun _ _ => rfl)) ao (a6 _)) (@aq _ _ _ (@mY _ _ (4) _ _ _ _ _ _ sc.nd rfl (Or.inl rfl) ao mZ (by first | exact .inl rfl | exact .inr rfl | assumption))) aX) (@aq _ _ _ (@aN _ _ _ _ (@az _ _ _ _ _ _ _ _ aK (@az _ _ _ _ _ _ _ _ aK (@bA _ _ _ _ _ _ _ _ _ _ d9 (pv 3) bY (@bZ _ _ _ (pv 4))) (pv 2)) (@bA _ _ _ _ _ _ _ _ _ _ d9 (pv 3) (@bZ _ _ _ (pv 4)) bY)))))) (by rfl) (by rfl) (by decide) (by decide) (by decide) (by decide) (by decide) (by rfl) (by rfl) (by rfl) (by rfl)), ?_⟩
    refine ⟨toS u, t, (i : Int), [.int sd], cp e, rfl, rfl, ht, by rw [af];omega, cG rfl he, ?_⟩
    rw [gp]
    have ne' : inv (aJ u i sd)≠e := fun z => hc (by rw [← z, hX])
    obtain ⟨hm, hb⟩ := j1 nd (rM he) hg ne'
    have hfl : (u.filter (fun x => decide (x≠e))).length≤u.length := List.length_filter_le _ _
    generalize u.filter (fun x => decide (x≠e))=l at hm hb hfl ⊢
    obtain ⟨rest, ho⟩ := n8 hm
    refine ⟨_, rfl, rfl, _, rfl, _, rfl, u, t, i, sd, rfl, ht, hne, by omega, [aJ u i sd], rfl, (by show 1≤5000;decide), fun H2 s2 => ?_⟩
    rw [fJ]
    refine ⟨_, _, _, rest, rfl, rfl, ho, ?_⟩
    have ht2 := s2 _ _ ht
    have hwl : (toS l).length≤sizeLine := by rw [af];omega
    have hil : l.idxOf (inv (aJ u i sd)) < l.length := List.idxOf_lt_length_iff.mpr hm
    generalize inv (aJ u i sd)=g at hb hil k ⊢
    refine ⟨_, rfl, t, _, _, _, rfl, rfl, SqT.of ht2, rfl, rfl, _, rfl, ?_⟩
    by_cases hs : sd=1
    · refine jb (rp (rT V.int hs)) ?_
      have hb := hb true
      rw [if_pos rfl] at hb
      rw [rp hs] at k
      have e1 : (l.idxOf g : Int)+1=((l.idxOf g+1 : Nat) : Int) := by omega
      refine ⟨_, rfl, _, _, rfl, rfl, ?_⟩
      refine ⟨_, rfl, _, rfl, _, rfl, _, rfl, hwl, _, rfl, _, _, rfl, rfl, ?_, _, rfl, _, rfl, _, rfl, _, rfl, hwl, _, _, rfl, rfl, ?_, ?_⟩
      all_goals rw [show ((fun i j : Int => i+j) (l.idxOf g : Int) 1)=((l.idxOf g+1 : Nat) : Int) from e1, aT, eg _ (by omega), rE, cT]
      · rw [af, af, rL];show _+1≤_;omega
      · rw [aT, cn _ (by omega), rE, au, af, af, rB, rL, tW];show _+1+_≤_;omega
      · rw [aT, cn _ (by omega), rE, au, au, hb]
        exact k _ s2
    · refine kA (rf (fun z => hs (V.int.inj z))) ?_
      have hb := hb false
      rw [if_neg (by decide), Nat.add_zero] at hb
      rw [rf hs] at k
      refine ⟨_, rfl, _, rfl, _, rfl, _, rfl, hwl, _, rfl, _, _, rfl, rfl, ?_, _, rfl, _, rfl, _, rfl, _, rfl, hwl, _, _, rfl, rfl, ?_, ?_⟩
      all_goals rw [aT, eg _ (by omega), rE, cT]
      · rw [af, af, rL];show _+1≤_;omega
      · rw [aT, cn _ (by omega), rE, au, af, af, rB, rL, tW];show _+1+_≤_;omega
      · rw [aT, cn _ (by omega), rE, au, au, hb]
        exact k _ s2
abbrev fA : Stmt := top 15
theorem j3 : aw ["surface", "slide"] ["surface", "slide"] (ah fA) := ⟨rfl, rfl, rfl, by decide +kernel, rfl, by decide +kernel, by decide +kernel⟩
theorem my {CS : Addr}(D : Df K mg "slid" fA)(T : Bt K w mg aB)(F_can : Fnc P w K mg base "can_slide" ["surface", "slide"] 2 fX)(F_moved : Fnc P w K mg base "moved" ["surface", "slide"] 2 ft)(M_slide : XMk P w K mg base "NoSlide" CS ["place"] 1) : mN P w K mg base "slid" ["surface", "slide"] 3 (dC CS) := by
  have sc := j3
  refine D.okX sc (fun _ _ _ _ _ _ us hl => by obtain ⟨_, _, rfl⟩ := kK hl;rfl) (fun vs H Q E h => ?_) (fun f cdv A outer s H vs Q E hr h => ?_)
  · obtain ⟨u, t, z, sd, rfl, _⟩ := h
    rfl
  · obtain ⟨u, t, z, sd, rfl, ht, S, k0, k1⟩ := h
    have l16 := aZ
    have hle := S.le
    refine ⟨_, (@aj _ _ _ _ _ (@cj _ _ _ _ _ _ _ _ (@cw _ _ _ _ (@bO _ _ _ (@aV _ _ _ _ _ _ _ _ _ _ _ F_can hr (by decide) rfl (@aa _ _ _ _ _ (pv 0) (@aa _ _ _ _ _ (pv 1) ai (by rfl)) (by rfl)) (by decide) (by rfl) (by rfl)) (fun _ => rfl))) (@aq _ _ _ (@eB _ _ _ _ _ cV rfl (@nX _ _ _ _ _ _ _ _ _ _ _ M_slide hr (by decide) rfl (@aa _ _ _ _ _ ao ai (by rfl)) (by decide) (by rfl) (by rfl)))) aX) (@aq _ _ _ (@aN _ _ _ _ (@aV _ _ _ _ _ _ _ _ _ _ _ F_moved hr (by decide) rfl (@aa _ _ _ _ _ (pv 0) (@aa _ _ _ _ _ (pv 1) ai (by rfl)) (by rfl)) (by decide) (by rfl) (by rfl))))), ?_⟩
    refine ⟨_, rfl, _, rfl, u, t, z, sd, rfl, ht, S.ne, by omega, fun H1 s1 => ⟨_, rfl, ?_⟩⟩
    cases e : slW u z sd with
    | none =>
      refine nkF (mh ?_)
      exact ⟨rfl, by decide, fun b dx hb hd ne => ⟨b, CS, some dx, true, rfl, by rw [ak ne.symm, ag], M_slide.ca.1, k1 e b _ (kJ (k := 0) hb hd ne) (s1.trans (eK hb hd))⟩⟩
    | some v =>
      refine nkT (pM ?_)
      rcases bV (u := u) (z := z) (sd := sd) with ⟨e0, _⟩ | ⟨i, a, rfl, he⟩
      · rw [e0] at e;cases e
      · have e' := e
        rw [eJ he] at e'
        have hc : aJ u i sd≠inv a := fun z => by rw [if_pos z] at e';cases e'
        rw [if_neg hc] at e'
        have e' := rl e'
        refine ⟨_, rfl, _, rfl, u, t, i, sd, a, rfl, s1 _ _ ht, S.nd, S.le, S.iv _ (far_mem S i sd), he, hc, fun H2 s2 => ?_⟩
        rw [e']
        exact k0 v e _ (s1.trans s2)
abbrev iW : Stmt := top 16
theorem mz : aw ["surface", "slide", "end", "many", "beside"] ["surface", "slide"] (ah iW) := ⟨rfl, rfl, rfl, by decide +kernel, rfl, by decide +kernel, by decide +kernel⟩
theorem oy {CS : Addr}(D : Df K mg "maps_of" iW)(T : Bt K w mg aB)(F_back : Fnc P w K mg base "back" ["word"] 1 kx)(F_can : Fnc P w K mg base "can_slide" ["surface", "slide"] 2 fX)(F_nb : Fnc P w K mg base "neighbour" ["surface", "slide"] 1 n_)(F_put : Fnc P w K mg base "putting_ahead" ["many", "end", "other"] 1 pO)(M_slide : XMk P w K mg base "NoSlide" CS ["place"] 1) : mN P w K mg base "maps_of" ["surface", "slide"] 3 (dD CS) := by
  have sc := mz
  refine D.okX sc (fun _ _ _ _ _ _ us hl => by obtain ⟨_, _, rfl⟩ := kK hl;rfl) (fun vs H Q E h => ?_) (fun f cdv A outer s H vs Q E hr h => ?_)
  · obtain ⟨u, t, z, sd, rfl, _⟩ := h
    rfl
  · obtain ⟨u, t, z, sd, rfl, ht, S, e, k1⟩ := h
    have l16 := aZ
    have hle := S.le
    refine ⟨_, (@aj _ _ _ _ _ (@cj _ _ _ _ _ _ _ _ (@cw _ _ _ _ (@bO _ _ _ (@aV _ _ _ _ _ _ _ _ _ _ _ F_can hr (by decide) rfl (@aa _ _ _ _ _ (pv 0) (@aa _ _ _ _ _ (pv 1) ai (by rfl)) (by rfl)) (by decide) (by rfl) (by rfl)) (fun _ => rfl))) (@aq _ _ _ (@eB _ _ _ _ _ cV rfl (@nX _ _ _ _ _ _ _ _ _ _ _ M_slide hr (by decide) rfl (@aa _ _ _ _ _ ao ai (by rfl)) (by decide) (by rfl) (by rfl)))) aX) (@aj _ _ _ _ _ (@aC _ _ (2) _ _ _ _ sc.nd rfl (Or.inl rfl) (@bq _ _ _ _ _ _ _ bP (pv 0) (@bq _ _ _ _ _ _ _ cR (pv 1) ao (fun _ _ => rfl)) (fun _ _ => rfl)) (by rfl) (by first | exact .inl rfl | exact .inr rfl | assumption)) (@aj _ _ _ _ _ (@aC _ _ (3) _ _ _ _ sc.nd rfl (Or.inl rfl) (@az _ _ _ _ _ _ _ _ cy (@ar _ _ _ _ _ _ _ _ _ aD (by rfl) T.len r_ (@aa _ _ _ _ _ (pv 0) ai (by rfl)) (by decide) (by decide) (by rfl) (by rfl)) ao) (by rfl) (by first | exact .inl rfl | exact .inr rfl | assumption)) (@aj _ _ _ _ _ (@aC _ _ (4) _ _ _ _ sc.nd rfl (Or.inl rfl) (@aV _ _ _ _ _ _ _ _ _ _ _ F_nb hr (by decide) rfl (@aa _ _ _ _ _ (pv 0) (@aa _ _ _ _ _ (pv 1) ai (by rfl)) (by rfl)) (by decide) (by rfl) (by rfl)) (by rfl) (by first | exact .inl rfl | exact .inr rfl | assumption)) (@aq _ _ _ (@aN _ _ _ _ (@cA _ _ _ _ _ (@aa _ _ _ _ _ (@aV _ _ _ _ _ _ _ _ _ _ _ F_put hr (by decide) rfl (@aa _ _ _ _ _ (pv 3) (@aa _ _ _ _ _ (pv 2) (@aa _ _ _ _ _ (pv 4) ai (by rfl)) (by rfl)) (by rfl)) (by decide) (by rfl) (by rfl)) (@aa _ _ _ _ _ (@aV _ _ _ _ _ _ _ _ _ _ _ F_put hr (by decide) rfl (@aa _ _ _ _ _ (pv 3) (@aa _ _ _ _ _ (pv 2) (@aa _ _ _ _ _ (@aV _ _ _ _ _ _ _ _ _ _ _ F_back hr (by decide) rfl (@aa _ _ _ _ _ (pv 4) ai (by rfl)) (by decide) (by rfl) (by rfl)) ai (by rfl)) (by rfl)) (by rfl)) (by decide) (by rfl) (by rfl)) ai (by rfl)) (by rfl))))))))), ?_⟩
    refine ⟨_, rfl, _, rfl, u, t, z, sd, rfl, ht, S.ne, by omega, fun H1 s1 => ⟨_, rfl, ?_⟩⟩
    rw [e]
    refine nkF (mh ?_)
    exact ⟨rfl, by decide, fun b dx hb hd ne => ⟨b, CS, some dx, true, rfl, by rw [ak ne.symm, ag], M_slide.ca.1, k1 b _ (kJ (k := 0) hb hd ne) (s1.trans (eK hb hd))⟩⟩
end
end Kx
namespace Kx
open PySem PySem.Spec PyProof.Rows L2 Wd
@[irreducible] def sml (m : Int) : List L := ([0, 1, 2, 3, 4, 5] : List L).take m.toNat
theorem iX {m : Int}(h : 1≤m) : Txt.slice ("abcdef" : Str) none (some m)=toS (sml m) := by
  rw [← lP, aT, eg _ (by omega)]
  unfold sml
  rfl
theorem mB {k x : Nat}(hk : k≤6)(hx : x < k) : (sml (k : Int))[x]? = some (lt6 x) := by
  have q : ∀ x : Fin 6, ([0, 1, 2, 3, 4, 5] : List L)[x.val]? = some (lt6 x.val) := by decide
  unfold sml
  rw [uI (by omega)]
  exact q ⟨x, by omega⟩
theorem iY {k : Nat}(hk : k≤6) : (sml (k : Int)).length=k := by
  unfold sml
  rw [rL]
  show min _ 6=k
  omega
inductive iZ (vs : List V)(H : Hp)(Q : VK)(u3_ : XK) : Prop
  | mk : ∀ (z : Str) (k : Nat), (vs=[.str z]) → (z.length / 2=k) → (1≤k) → (k≤6) → (Q (tx (sml (k : Int))) H) → iZ vs H Q u3_
inductive i0 (K : PySem.W.Frag)(vs : List V)(H : Hp)(Q : VK)(u3_ : XK) : Prop
  | mk : ∀ x, (vs=[x]) → (Th K H x) → (∀ H', aG H H' → Q (.bl (me x)) H') → i0 K vs H Q u3_
theorem j4 {k : Nat}(hk : k≤6) : sml (k : Int)=(List.range k).map lt6 := by
  apply List.ext_getElem?
  intro i
  by_cases hi : i < k
  · rw [mB hk hi, rV, List.getElem?_range hi]
    rfl
  · rw [List.getElem?_eq_none (by rw [iY hk];omega), List.getElem?_eq_none (by simp;omega)]
section
variable {P : Program} {w : World} {K : PySem.W.Frag} {mg : Str → Option Value} {base : Heap} {aB : Addr}
abbrev mD : Stmt := top 24
theorem oz : aw ["surface"] ["surface"] (ah mD) := ⟨rfl, rfl, rfl, by decide +kernel, rfl, by decide +kernel, by decide +kernel⟩
theorem pV (D : Df K mg "letters_of" mD)(T : Bt K w mg aB)(S : ∃ t, mg "SMALL" = some (.str "abcdef" t)) : Fnc P w K mg base "letters_of" ["surface"] 1 iZ := by
  have sc := oz
  refine D.ok sc (fun _ _ _ _ _ _ us hl => by obtain ⟨_, rfl⟩ := mP hl;rfl) (fun vs H Q E h => ?_) (fun f cdv A outer s H vs Q E hr h => ?_)
  · obtain ⟨z, k, rfl, _⟩ := h
    rfl
  · obtain ⟨z, k, rfl, hl, h1, h6, q⟩ := h
    obtain ⟨tS, mgS⟩ := S
    have l16 := aZ
    refine ⟨_, (@aq _ _ _ (@aN _ _ _ _ (@bA _ _ _ _ _ _ _ _ _ _ d9 (@a8 _ _ (.str "abcdef") _ _ rfl mgS ⟨_, rfl⟩ (by decide)) bY (@bZ _ _ _ (@az _ _ _ _ _ _ _ _ cy (@ar _ _ _ _ _ _ _ _ _ aD (by rfl) T.len r_ (@aa _ _ _ _ _ (pv 0) ai (by rfl)) (by decide) (by decide) (by rfl) (by rfl)) ao))))), ?_⟩
    refine ⟨_, rfl, _, rfl, (by omega), _, _, rfl, rfl, ⟨by decide, by decide⟩, _, rfl, _, rfl, (by rw [ir];omega), ?_⟩
    have e : (z.length : Int) / 2=(k : Int) := by omega
    rw [e, iX (by omega)]
    exact q
abbrev dF : Stmt := top 23
theorem i3 : aw ["thing", "letters"] ["thing"] (ah dF) := ⟨rfl, rfl, rfl, by decide +kernel, rfl, by decide +kernel, by decide +kernel⟩
theorem j5 (D : Df K mg "is_surface" dF)(T : Bt K w mg aB)(M : ∃ t, mg "MOST_ENDS" = some (.int 12 t))(F_let : Fnc P w K mg base "letters_of" ["surface"] 1 iZ)(F_back : Fnc P w K mg base "back" ["word"] 1 kx) : Fnc P w K mg base "is_surface" ["thing"] 2 (i0 K) := by
  have sc := i3
  refine D.ok sc (fun _ _ _ _ _ _ us hl => by obtain ⟨_, rfl⟩ := mP hl;rfl) (fun vs H Q E h => ?_) (fun f cdv A outer s H vs Q E hr h => ?_)
  · obtain ⟨x, rfl, _⟩ := h
    rfl
  · obtain ⟨x, rfl, hx, k⟩ := h
    have l16 := aZ
    obtain ⟨tE, mgE⟩ := M
    refine ⟨_, (@aj _ _ _ _ _ (@cj _ _ _ _ _ _ _ _ (@PW.pt _ _ _ (@kO _ _ _ _ _ _ _ (@cw _ _ _ _ (@bO _ _ _ (@ar _ _ _ _ _ _ _ _ _ (@jI _ (K) rfl) (by rfl) T.isinstance aF (@aa _ _ _ _ _ (pv 0) (@aa _ _ _ _ _ (@gC _ _ (.ty "str") _ _ rfl T.str pC rfl (by decide) (by decide)) ai (by rfl)) (by rfl)) (by decide) (by decide) (by rfl) (by rfl)) (fun _ => rfl))) (@gF _ _ _ _ (@cw _ _ _ _ (@fC _ _ _ _ _ _ _ _ _ _ _ _ jm jm ao (@ar _ _ _ _ _ _ _ _ _ aD (by rfl) T.len r_ (@aa _ _ _ _ _ (pv 0) ai (by rfl)) (by decide) (by decide) (by rfl) (by rfl)) (@a8 _ _ (.int 12) _ _ rfl mgE ⟨_, rfl⟩ (by decide)) (by with_unfolding_all rfl)))))) (@aq _ _ _ (@aN _ _ _ _ fZ)) aX) (@aj _ _ _ _ _ (@aC _ _ (1) _ _ _ _ sc.nd rfl (Or.inl rfl) (@aV _ _ _ _ _ _ _ _ _ _ _ F_let hr (by decide) rfl (@aa _ _ _ _ _ (pv 0) ai (by rfl)) (by decide) (by rfl) (by rfl)) (by rfl) (by first | exact .inl rfl | exact .inr rfl | assumption)) (@aq _ _ _ (@aN _ _ _ _ (@bJ _ _ _ _ _ _ _ _ (@fV _ (by exact hr.units)) (@ar _ _ _ _ _ _ _ _ _ (@bj _ rfl) (by rfl) T.sorted fM (@aa _ _ _ _ _ (pv 0) ai (by rfl)) (by decide) (by decide) (by rfl) (by rfl)) (@ar _ _ _ _ _ _ _ _ _ (@bj _ rfl) (by rfl) T.sorted fM (@aa _ _ _ _ _ (@az _ _ _ _ _ _ _ _ aK (pv 1) (@aV _ _ _ _ _ _ _ _ _ _ _ F_back hr (by decide) rfl (@aa _ _ _ _ _ (pv 1) ai (by rfl)) (by decide) (by rfl) (by rfl))) ai (by rfl)) (by decide) (by decide) (by rfl) (by rfl)) (a6 _)))))), ?_⟩
    cases hx with
    | oth ty e ns =>
      rw [iN ns] at k
      exact ⟨_, rfl, _, _, _, _, rfl, ty, e, false, rfl, qr (mh (k _ (aG.refl _)))⟩
    | str z hz =>
      have hzl : z.length≤sizeLine := by omega
      have k : ∀ H', aG H H' → Q (.bl (iM z)) H' := k
      unfold iM at k
      refine ⟨_, rfl, _, _, _, _, rfl, .str z, lT, true, rfl, qt ?_⟩
      refine ⟨_, rfl, z, rfl, hzl, _, _, rfl, rfl, _, rfl, ?_⟩
      by_cases h1 : 2≤z.length
      · rw [rp h1, Bool.true_and] at k
        refine jb (rp (by omega)) ⟨_, _, rfl, rfl, _, rfl, ?_⟩
        by_cases h2 : z.length≤12
        · rw [rp h2, Bool.true_and] at k
          refine kA (by rw [rp (by omega)];rfl) ?_
          refine ⟨_, rfl, z, z.length / 2, rfl, rfl, by omega, by omega, ?_⟩
          have hk6 : z.length / 2≤6 := by omega
          have hsl := iY hk6
          refine ⟨_, rfl, z, rfl, by omega, fun p1 zs1 hp1 pm1 st1 => ?_⟩
          refine ⟨_, rfl, _, rfl, sml ((z.length / 2 : Nat) : Int), rfl, by omega, fun H1 s1 => ⟨_, _, rfl, rfl, (by rw [af, af, bu];omega), ?_⟩⟩
          rw [au]
          refine ⟨_, rfl, (by rw [af, rB, bu];omega), fun p2 zs2 hp2 pm2 st2 => ?_⟩
          have f1 := s1 _ _ (ag (H := H) (a := p1) (o := .lst (zs1.map V.str)))
          refine ⟨p1, p2, zs1, zs2, rfl, rfl, (aG.new hp2) _ _ f1, ag, ?_⟩
          have e : decide (zs1=zs2)=decide (z.cps.toList.Perm ((md (z.length / 2)).map cp)) := by
            have pe : (bH z).Perm (bH (toS (sml ((z.length / 2 : Nat) : Int)++bk (sml ((z.length / 2 : Nat) : Int))))) ↔ z.cps.toList.Perm ((md (z.length / 2)).map cp) := by
              rw [gm, aR, j4 hk6]
              rfl
            rw [sT, uy, uy, ← pe]
            constructor
            · intro e
              exact pm1.symm.trans (e ▸ pm2)
            · intro pm
              exact gk st1 st2 (pm1.trans (pm.trans pm2.symm))
          rw [e]
          exact k _ (((aG.new hp1).trans s1).then hp2)
        · rw [rf h2, tO] at k
          exact jb (by rw [rf (by omega)];rfl) (k _ (aG.refl _))
      · rw [rf h1, tO, tO] at k
        exact kA (rf (by omega)) ⟨_, rfl, mh (k _ (aG.refl _))⟩
end
end Kx
namespace Kx
open PySem PySem.Spec PyProof.Rows L2 Wd
theorem cY {α : Type} : ∀ {xs : List α} {k : Nat} {x : α}, xs[k]? = some x → xs.Perm (x::xs.eraseIdx k)
  | [], k, x, h => by simp at h
  | y::r, 0, x, h => by simp at h;subst h;exact List.Perm.refl _
  | y::r, k+1, x, h => by
    have := cY (xs := r) (k := k) (x := x) (by simpa using h)
    exact (List.Perm.cons y this).trans (List.Perm.swap _ _ _)
theorem mE {H : Hp}{d l : Addr}{z : Str}{o : HO}{xs : List V}(F : Fd H d)(h : H l=some (.lst xs))(n : l≠d)(hx : V.str z∈xs) : Fd (L2.upd H l o) d := by
  obtain ⟨c, i, ll, t, ns, h1, h2, h3, h4⟩ := F.ex
  have hc : c≠l := fun e => by
    subst e
    rw [h2] at h
    have h := HO.lst.inj (rl h)
    rw [← h] at hx
    obtain ⟨k, _, e⟩ := tU.mp hx
    cases e
  exact ⟨c, i, ll, t, ns, by rw [ak (fun e => n e.symm)];exact h1, by rw [ak hc];exact h2, h3, h4⟩
theorem gr (W : List L) : L2.cO (toS W)=eQ W := by
  unfold L2.cO eQ
  rw [aR, uA]
  rfl
theorem eL {α β : Type}(g : α → β) : ∀ (xs : List α) (k : Nat), (xs.map g).eraseIdx k=(xs.eraseIdx k).map g
  | [], k => by simp
  | x::r, 0 => by simp
  | x::r, k+1 => by
    rw [rK, uQ, uQ, rK, eL g r k]
theorem gs (W : List L)(k : Nat) : (eQ W).eraseIdx k=eQ (W.eraseIdx k) := eL _ W k
section
variable {P : Program} {w : World} {K : PySem.W.Frag} {mg : Str → Option Value} {base : Heap} {aB : Addr}
abbrev i4 : Stmt := top 29
theorem mF : aw ["_law_feed_here", "_law_many", "_law_left", "_law_found", "_law_k"] ["_law_feed_here", "_law_many"] (ah i4) := ⟨rfl, rfl, rfl, by decide +kernel, rfl, by decide +kernel, by decide +kernel⟩
theorem oA (D : Df K mg "_law_surface" i4)(T : Bt K w mg aB)(F_draw : Fnc P w K mg base "_law_draw" ["_law_feed_here", "_law_many"] 1 fL) : Fnc P w K mg base "_law_surface" ["_law_feed_here", "_law_many"] 2 fq := by
  have sc := mF
  refine D.ok sc (fun _ _ _ _ _ _ us hl => by obtain ⟨_, _, rfl⟩ := kK hl;rfl) (fun vs H Q E h => ?_) (fun f cdv A outer s H vs Q E hr h => ?_)
  · obtain ⟨d, n, rfl, _⟩ := h
    rfl
  · obtain ⟨d, n, rfl, F, h1, h6, k⟩ := h
    have l16 := aZ
    refine ⟨_, (@aj _ _ _ _ _ (@aC _ _ (2) _ _ _ _ sc.nd rfl (Or.inl rfl) (@a_ _ _ _ _ _ _ _ _ _ (@cJ _ rfl) (by rfl) T.list ij (@aa _ _ _ _ _ (@az _ _ _ _ _ _ _ _ aK (@bA _ _ _ _ _ _ _ _ _ _ d9 ay bY (@bZ _ _ _ (pv 1))) (@bA _ _ _ _ _ _ _ _ _ _ d9 ay bY (@bZ _ _ _ (pv 1)))) ai (by rfl)) (by decide) (by decide) (by rfl) (by rfl)) (by rfl) (by first | exact .inl rfl | exact .inr rfl | assumption)) (@aj _ _ _ _ _ (@aC _ _ (3) _ _ _ _ sc.nd rfl (Or.inl rfl) ay (by rfl) (by first | exact .inl rfl | exact .inr rfl | assumption)) (@aj _ _ _ _ _ (@dM _ _ _ _ _ _ _ _ tB rfl (@dI _ _ _ _ _ _ rfl T.range (@aa _ _ _ _ _ (@az _ _ _ _ _ _ _ _ dO ao (pv 1)) ai (by rfl)) (by rfl)) (@bW _ _ (4) _ sc.nd rfl (Or.inl rfl) (by first | exact .inl rfl | exact .inr rfl | assumption)) (@aq _ _ _ (@aC _ _ (3) _ _ _ _ sc.nd rfl (Or.inl rfl) (@az _ _ _ _ _ _ _ _ aK (pv 3) (@ju _ _ _ _ _ _ _ _ _ _ _ _ PySem.F.plainAttrs_list PySem.F.slot_list_pop PySem.F.type_list_pop jw (pv 2) (@aa _ _ _ _ _ (@aV _ _ _ _ _ _ _ _ _ _ _ F_draw hr (by decide) rfl (@aa _ _ _ _ _ (pv 0) (@aa _ _ _ _ _ (@ar _ _ _ _ _ _ _ _ _ br (by rfl) T.len r_ (@aa _ _ _ _ _ (pv 2) ai (by rfl)) (by decide) (by decide) (by rfl) (by rfl)) ai (by rfl)) (by rfl)) (by decide) (by rfl) (by rfl)) ai (by rfl)) (by rfl) (by rfl) (by rfl) (by rfl) (by rfl))) (by rfl) (by first | exact .inl rfl | exact .inr rfl | assumption))) (by intro _ ;rfl)) (@aq _ _ _ (@aN _ _ _ _ (pv 3)))))), ?_⟩
    refine ⟨_, rfl, _, rfl, _, rfl, (by rw [ir];omega), _, rfl, _, rfl, _, rfl, (by rw [kz];omega), _, _, rfl, rfl, ?_, ?_⟩
    · have q1 := tT ("abcdef" : Str) none (some (n : Int))
      have q2 := tT ("ABCDEF" : Str) none (some (n : Int))
      rw [ir] at q1
      rw [kz] at q2
      omega
    rw [jH (by omega)]
    have hsl : (sg (n : Int)).length=2*n := by rw [iq (by omega) (by omega)];omega
    refine ⟨_, rfl, (by rw [af, hsl];omega), fun l hl => ?_⟩
    rw [gr]
    have nl := F.ne hl
    refine ⟨_, rfl, _, _, rfl, rfl, (Or.inl ⟨by decide, by decide⟩), ?_⟩
    refine ⟨_, rfl, by omega, by omega, ?_⟩
    rw [show ((2 : Int)*(n : Int)).toNat=2*n by omega]
    refine dN (lo := 0) (n := 2*n) (fun i σ H' => ∃ (v : Option V) (W left : List L), σ = [some (.ref d), some (.int (n : Int)), some (.ref l), some (tx W), v] ∧ H' l=some (.lst (eQ left)) ∧ (W++left).Perm (sg (n : Int)) ∧ W.length=i ∧ Fd H' d ∧ bT d H H') ⟨none, [], sg (n : Int), (by rw [ku];rfl), ag, List.Perm.refl _, rfl, F.new hl, (aG.new hl).b⟩ ?_ ?_
    · rintro i σ H1 hi ⟨v, W, left, rfl, f1, pW, hW, F1, sb1⟩
      have hll : left.length=2*n - i := by
        have := pW.length_eq
        rw [rB, hW, hsl] at this
        omega
      refine ⟨_, rfl, _, rfl, .inl ⟨rfl, _, SqL.of f1⟩, _, rfl, _, rfl, l, _, rfl, .inl (SqL.of f1), d, _, rfl, F1, by rw [aY];omega, by rw [aY];omega, fun r H2 r0 r1 F2 sb2 => ?_⟩
      rw [aY] at r1
      have f2 := sb2 _ _ nl f1
      have hrk : r.toNat < left.length := by omega
      have gy : left[r.toNat]? = some left[r.toNat] := rP hrk
      generalize left[r.toNat]=y at gy
      refine ⟨l, _, r, r.toNat, tx [y], rfl, rfl, f2, by omega, by omega, (gS (by unfold ixN;rw [if_pos r0, if_pos (by rw [aY];omega)])).1, (by unfold eQ;rw [rV, gy];rfl), ?_⟩
      rw [gs]
      refine ⟨_, _, rfl, rfl, (by rw [af, af];show _+1≤_;omega), ?_⟩
      rw [au]
      have hy : V.str (toS [y])∈eQ left := by
        unfold eQ
        exact tU.mpr ⟨y, rM gy, rfl⟩
      refine ⟨_, W++[y], left.eraseIdx r.toNat, rfl, ag, ?_, by rw [rB, hW];rfl, mE F2 f2 nl hy, fun b o n' e => ?_⟩
      · refine List.Perm.trans ?_ pW
        rw [List.append_assoc]
        exact List.Perm.append_left W (cY gy).symm
      · rw [ak (av e hl)]
        exact sb2 _ _ n' (sb1 _ _ n' e)
    · rintro σ H1 ⟨v, W, left, rfl, f1, pW, hW, F1, sb1⟩
      have hll : left.length=0 := by
        have := pW.length_eq
        rw [rB, hW, hsl] at this
        omega
      have : left=[] := sr hll
      subst this
      rw [sy] at pW
      have pW' : W.Perm (([0, 1, 2, 3, 4, 5] : List L).take n++([6, 7, 8, 9, 10, 11] : List L).take n) := by
        unfold sg at pW
        rwa [rE] at pW
      refine ⟨_, rfl, k W _ (jU h1 h6 pW') (fun x hx => pW'.mem_iff.mpr (n9 h6 hx)) F1 sb1⟩
end
end Kx
namespace Kx
open PySem PySem.Spec PyProof.Rows L2 Wd
section
variable {P : Program} {w : World} {K : PySem.W.Frag} {mg : Str → Option Value} {base : Heap} {aB : Addr}
theorem j6 (l : List L)(e g x : L)(b : Bool) : sld (l++[x]) e g b=sld l e g b++(if x=g then (if b then [x, e] else [e, x]) else if x=e then [] else [x]) := by
  unfold sld
  rw [tj, tN, List.flatMap_nil, sy]
theorem i5 (e g : L)(b : Bool) : ∀ l : List L, (sld l e g b).length≤2*l.length
  | [] => sx _
  | x::r => by
    have ih := i5 e g b r
    have : sld (x::r) e g b=(if x=g then (if b then [x, e] else [e, x]) else if x=e then [] else [x])++sld r e g b := rfl
    rw [this, rB, rS]
    have : (if x=g then (if b then [x, e] else [e, x]) else if x=e then [] else [x] : List L).length≤2 := by
      split
      · cases b <;> exact rh _
      · split
        · exact sx _
        · show 1≤2
          decide
    omega
theorem mG {α : Type}(a b : α)(sd : Int) : atI [a, b] (if decide (V.int sd=V.int 1)=true then 1 else 0)=some (if decide (sd=1)=true then b else a) := by
  by_cases h : sd=1
  · rw [rp (rT V.int h), rp h];rfl
  · rw [rf (fun z => h (V.int.inj z)), rf h];rfl
abbrev i6 : Stmt := top 30
theorem mH : aw ["_law_row", "_law_place", "_law_side", "_law_goal", "_law_found", "_law_sign"] ["_law_row", "_law_place", "_law_side"] (ah i6) := ⟨rfl, rfl, rfl, by decide +kernel, rfl, by decide +kernel, by decide +kernel⟩
theorem oB (D : Df K mg "_law_slid" i6)(T : Bt K w mg aB)(F_lback : Fnc P w K mg base "_law_back" ["_law_word"] 1 kx) : Fnc P w K mg base "_law_slid" ["_law_row", "_law_place", "_law_side"] 2 fv := by
  have sc := mH
  refine D.ok sc (fun _ _ _ _ _ _ us hl => by obtain ⟨_, _, _, rfl⟩ := pP hl;rfl) (fun vs H Q E h => ?_) (fun f cdv A outer s H vs Q E hr h => ?_)
  · obtain ⟨u, z, sd, rfl, _⟩ := h
    rfl
  · obtain ⟨u, z, sd, rfl, hne, hul, k⟩ := h
    have l16 := aZ
    have hw : (toS u).length≤sizeLine := by rw [af];omega
    refine ⟨_, (@aj _ _ _ _ _ (@cj _ _ _ _ _ _ _ _ (@PW.pt _ _ _ (@kO _ _ _ _ _ _ _ (@cw _ _ _ _ (@fC _ _ _ _ _ _ _ _ _ _ _ _ jm kY ao (pv 1) (@ar _ _ _ _ _ _ _ _ _ aD (by rfl) T.len r_ (@aa _ _ _ _ _ (pv 0) ai (by rfl)) (by decide) (by decide) (by rfl) (by rfl)) (by with_unfolding_all rfl))) (@gF _ _ _ _ (@bf _ _ _ _ _ _ _ _ eX (@bq _ _ _ _ _ _ _ bP (pv 0) (@az _ _ _ _ _ _ _ _ bN (@az _ _ _ _ _ _ _ _ bM (pv 1) (pv 2)) (@ar _ _ _ _ _ _ _ _ _ aD (by rfl) T.len r_ (@aa _ _ _ _ _ (pv 0) ai (by rfl)) (by decide) (by decide) (by rfl) (by rfl))) (fun _ _ => rfl)) (@aV _ _ _ _ _ _ _ _ _ _ _ F_lback hr (by decide) rfl (@aa _ _ _ _ _ (@bq _ _ _ _ _ _ _ bP (pv 0) (pv 1) (fun _ _ => rfl)) ai (by rfl)) (by decide) (by rfl) (by rfl)) (a6 _))))) (@aq _ _ _ (@aN _ _ _ _ gA)) aX) (@aj _ _ _ _ _ (@aC _ _ (3) _ _ _ _ sc.nd rfl (Or.inl rfl) (@aV _ _ _ _ _ _ _ _ _ _ _ F_lback hr (by decide) rfl (@aa _ _ _ _ _ (@bq _ _ _ _ _ _ _ bP (pv 0) (@az _ _ _ _ _ _ _ _ bN (@az _ _ _ _ _ _ _ _ bM (pv 1) (pv 2)) (@ar _ _ _ _ _ _ _ _ _ aD (by rfl) T.len r_ (@aa _ _ _ _ _ (pv 0) ai (by rfl)) (by decide) (by decide) (by rfl) (by rfl))) (fun _ _ => rfl)) ai (by rfl)) (by decide) (by rfl) (by rfl)) (by rfl) (by first | exact .inl rfl | exact .inr rfl | assumption)) (@aj _ _ _ _ _ (@aC _ _ (4) _ _ _ _ sc.nd rfl (Or.inl rfl) ay (by rfl) (by first | exact .inl rfl | exact .inr rfl | assumption)) (@aj _ _ _ _ _ (@dM _ _ _ _ _ _ _ _ tB rfl (@kn _ _ _ _ (pv 0)) (@bW _ _ (5) _ sc.nd rfl (Or.inl rfl) (by first | exact .inl rfl | exact .inr rfl | assumption)) (@aq _ _ _ (@cj _ _ _ _ _ _ _ _ (@bf _ _ _ _ _ _ _ _ eX (pv 5) (pv 3) (a6 _)) (@aq _ _ _ (@aC _ _ (4) _ _ _ _ sc.nd rfl (Or.inl rfl) (@az _ _ _ _ _ _ _ _ aK (pv 4) (@bq _ _ _ _ _ _ _ fc (@cc _ _ _ _ (@aa _ _ _ _ _ (@az _ _ _ _ _ _ _ _ aK (@bq _ _ _ _ _ _ _ bP (pv 0) (pv 1) (fun _ _ => rfl)) (pv 5)) (@aa _ _ _ _ _ (@az _ _ _ _ _ _ _ _ aK (pv 5) (@bq _ _ _ _ _ _ _ bP (pv 0) (pv 1) (fun _ _ => rfl))) ai (by rfl)) (by rfl))) (@a_ _ _ _ _ _ _ _ _ _ dP (by rfl) T.int nE (@aa _ _ _ _ _ (@bJ _ _ _ _ _ _ _ _ eX (pv 2) ao (a6 _)) ai (by rfl)) (by decide) (by decide) (by rfl) (by rfl)) (fun _ _ => rfl))) (by rfl) (by first | exact .inl rfl | exact .inr rfl | assumption))) (@aq _ _ _ (@cj _ _ _ _ _ _ _ _ (@bf _ _ _ _ _ _ _ _ m6 (pv 5) (@bq _ _ _ _ _ _ _ bP (pv 0) (pv 1) (fun _ _ => rfl)) (a6 _)) (@aq _ _ _ (@aC _ _ (4) _ _ _ _ sc.nd rfl (Or.inl rfl) (@az _ _ _ _ _ _ _ _ aK (pv 4) (pv 5)) (by rfl) (by first | exact .inl rfl | exact .inr rfl | assumption))) aX)))) (by intro _ ;rfl)) (@aq _ _ _ (@aN _ _ _ _ (pv 4))))))), ?_⟩
    rcases bV (u := u) (z := z) (sd := sd) with ⟨e0, off⟩ | ⟨i, e, rfl, he⟩
    · rw [e0] at k
      by_cases h0 : 0≤z
      · refine ⟨_, rfl, _, _, rfl, rfl, _, rfl, jb (rp h0) ?_⟩
        exact ⟨_, rfl, _, rfl, hw, _, _, rfl, rfl, _, rfl, jb (by rw [af, rf (by omega)];rfl) (k _ (aG.refl _))⟩
      · exact ⟨_, rfl, _, _, rfl, rfl, _, rfl, kA (rf h0) ⟨_, rfl, qr (mh (k _ (aG.refl _)))⟩⟩
    have k1 : ∀ H', aG H H' → aJ u i sd=inv e → Q .non H' := fun H' s' h => by
      have := k H' s'
      rw [eJ he, if_pos h] at this
      exact this
    have k2 : ∀ H', aG H H' → aJ u i sd≠inv e → Q (tx (sld u e (inv (aJ u i sd)) (decide (sd=1)))) H' := fun H' s' h => by
      have := k H' s'
      rw [eJ he, if_neg h] at this
      exact this
    have hi : i < u.length := (rb.mp he).1
    have ae : atI (toS u).cps.toList (i : Int)=some (cp e) := cG rfl he
    have h1 := sH ((i : Int)+sd) (show (u.length : Int)≠0 by omega)
    have ha : atI (toS u).cps.toList (((i : Int)+sd) % ((toS u).length : Int))=some (cp (aJ u i sd)) := by
      rw [af]
      exact cG (k := (((i : Int)+sd) % (u.length : Int)).toNat) (by omega) (dA hne i sd)
    have hp : (fun x j : Int => 0 < j) ((i : Int)+sd) ((toS u).length : Int) := by show (0 : Int) < ((toS u).length : Int);rw [af];omega
    refine ⟨_, rfl, _, _, rfl, rfl, _, rfl, jb (rp (by omega)) ?_⟩
    refine ⟨_, rfl, _, rfl, hw, _, _, rfl, rfl, _, rfl, kA (by rw [af, rp (by omega)];rfl) ?_⟩
    refine ⟨_, rfl, _, rfl, _, rfl, _, _, rfl, rfl, _, rfl, _, rfl, hw, _, _, rfl, rfl, hp, _, _, _, rfl, rfl, hw, ha, ?_⟩
    refine ⟨_, rfl, _, rfl, _, _, _, rfl, rfl, hw, ae, [e], rfl, (by show 1≤5000;decide), fun H1 s1 => ⟨rfl, _, rfl, ?_⟩⟩
    show if decide (tx [aJ u i sd]=tx (bk [e]))=true then _ else _
    rw [fK, fJ]
    refine mM (fun h => ?_) (fun h => ?_)
    · have h : aJ u i sd=inv e := by simpa using h
      exact k1 _ s1 h
    · have h : ¬ aJ u i sd=inv e := by simpa using h
      refine ⟨_, rfl, _, rfl, _, rfl, _, _, rfl, rfl, _, rfl, _, rfl, hw, _, _, rfl, rfl, hp, _, _, _, rfl, rfl, hw, ha, [aJ u i sd], rfl, (by show 1≤5000;decide), fun H2 s2 => ?_⟩
      rw [fJ]
      refine ⟨_, rfl, _, rfl, hJ (z := toS u) (fun j σ H' => ∃ (v : Option V), σ = [some (tx u), some (.int (i : Int)), some (.int sd), some (tx [inv (aJ u i sd)]), some (tx (sld (u.take j) e (inv (aJ u i sd)) (decide (sd=1)))), v] ∧ aG H H') ⟨none, rfl, s1.trans s2⟩ ?_ ?_⟩
      · rintro j c σ H3 hc ⟨v, rfl, s3⟩
        obtain ⟨x, hx, ex⟩ := fh hc
        rw [ex]
        have hj : j < u.length := (rb.mp hx).1
        have hz := i5 e (inv (aJ u i sd)) (decide (sd=1)) (u.take j)
        have hz2 : (u.take j).length≤12 := by rw [rL];omega
        have eS := j6 (u.take j) e (inv (aJ u i sd)) x (decide (sd=1))
        rw [← cI hx] at eS
        rw [eS]
        generalize sld (u.take j) e (inv (aJ u i sd)) (decide (sd=1))=Z at hz ⊢
        generalize inv (aJ u i sd)=g
        refine ⟨_, rfl, _, rfl, rfl, _, rfl, ?_⟩
        show if decide (tx [x]=tx [g])=true then _ else _
        rw [fK]
        refine mM (fun h => ?_) (fun h => ?_)
        · have h : x=g := by simpa using h
          refine ⟨_, rfl, _, rfl, _, rfl, _, _, _, rfl, rfl, hw, ae, _, rfl, _, _, rfl, rfl, (by rw [af];show 1+1≤_;omega), ?_⟩
          refine ⟨_, rfl, _, rfl, _, rfl, _, _, _, rfl, rfl, hw, ae, _, _, rfl, rfl, (by rw [af];show 1+1≤_;omega), (aQ (n := 2) (by decide)), fun p hp => ?_⟩
          refine ⟨_, rfl, rfl, .inr ⟨_, rfl, p, _, _, _, rfl, rfl, SqL.of ag, mG _ _ sd, ?_⟩⟩
          rw [if_pos h]
          cases decide (sd=1) with
          | true =>
            refine ⟨_, _, rfl, rfl, (by rw [cT, au, af, af, rB];show _+(1+1)≤_;omega), ?_⟩
            rw [cT, au, au]
            exact ⟨_, rfl, s3.then hp⟩
          | false =>
            refine ⟨_, _, rfl, rfl, (by rw [cT, au, af, af, rB];show _+(1+1)≤_;omega), ?_⟩
            rw [cT, au, au]
            exact ⟨_, rfl, s3.then hp⟩
        · have h : ¬ x=g := by simpa using h
          rw [if_neg h]
          refine ⟨_, rfl, _, rfl, _, rfl, _, _, _, rfl, rfl, hw, ae, rfl, _, rfl, ?_⟩
          show if (!decide (tx [x]=tx [e]))=true then _ else _
          rw [fK]
          refine mM (fun h2 => ?_) (fun h2 => ?_)
          · have h2 : ¬ x=e := by simpa using h2
            rw [if_neg h2]
            refine ⟨_, rfl, _, rfl, _, _, rfl, rfl, (by rw [af, af];show _+1≤_;omega), ?_⟩
            rw [au]
            exact ⟨_, rfl, s3⟩
          · have h2 : x=e := by simpa using h2
            rw [if_pos h2, sy]
            exact ⟨_, rfl, s3⟩
      · rintro σ H3 ⟨v, rfl, s3⟩
        rw [bB, s_]
        exact ⟨_, rfl, k2 _ s3 h⟩
end
end Kx
namespace Kx
open PySem PySem.Spec PyProof.Rows L2 Wd
section
variable {P : Program} {w : World} {K : PySem.W.Frag} {mg : Str → Option Value} {base : Heap} {aB : Addr}
def qY (st : Stmt)(j : Nat) : Stmt := match st with | .ClassDef (body := b) .. => b.getD j (.Pass ⟨0, 0, 0, 0⟩) | _ => .Pass ⟨0, 0, 0, 0⟩
abbrev cL : Stmt := qY (top 4) 0
theorem i7 : aw ["self", "place"] ["self", "place"] (ah cL) := ⟨rfl, rfl, rfl, by decide +kernel, rfl, by decide +kernel, by decide +kernel⟩
theorem j7 {R C f : Addr}{fd : FuncData}(D : Fun K "__init__" "NoSlide.__init__" cL f fd)(B : lV K R)(hR : mg "RingError" = some (.ref R))(x : XAt K C)(n0 : PySem.W.findIn K (.ref C) "place" = some none) :
    cB K fd ["self", "place"] [] ∧ fE P w K mg base CX0 1 f fd ["self", "place"] (iD ["place"] C) := by
  have sc := i7
  refine ⟨D.binds fun _ _ _ _ _ _ us hl => match us, hl with | [_, _], _ => rfl, D.ok sc (fun vs H Q E h => ?_) (fun cdv A outer s H vs Q E hr h => ?_)⟩
  · obtain ⟨a, ys, b, c, rfl, hl, _⟩ := h
    rw [rS, hl];rfl
  · obtain ⟨a, ys, b, c, rfl, hl, ea, k⟩ := h
    match ys, hl with
    | [y], _ =>
    refine ⟨_, (@aj _ _ _ _ _ (@kP _ _ _ _ (@jN _ _ _ _ _ _ _ _ _ _ B rfl hR (@aa _ _ _ _ _ (pv 0) (@aa _ _ _ _ _ ay ai (by rfl)) (by rfl)) (by decide) (by rfl) (by rfl) (by rfl)) (by rfl))
      (@aq _ _ _ (@nN _ _ _ _ _ _ _ _ (pv 0) (pv 1) (by rfl)))), ?_⟩
    refine ⟨_, rfl, a, C, none, b, c, [_], rfl, by simp, ea, x, ?_⟩
    refine ⟨_, rfl, _, rfl, a, C, b, c, rfl, ea, x, n0, fun dx hdx ne => ?_⟩
    exact k dx hdx ne
end
end Kx
namespace Kx
open PySem PySem.Spec PyProof.Rows L2 Wd
section
variable {P : Program} {w : World} {K : PySem.W.Frag} {mg : Str → Option Value} {base : Heap} {aB : Addr}
abbrev i8 : Stmt := top 31
theorem mI : aw ["_law_slides", "_law_ask", "_law_found", "e", "_law_others"] ["_law_slides", "_law_ask"] (ah i8) := ⟨rfl, rfl, rfl, by decide +kernel, rfl, by decide +kernel, by decide +kernel⟩
structure qu (K : PySem.W.Frag) (mg : Str → Option Value) (CT CR : Addr) (bmT bmR : List Value) (c : Nat → Addr) : Prop where
  nT : mg "NoSlide" = some (.ref CT)
  nR : mg "RingError" = some (.ref CR)
  nV : mg "ValueError" = none
  n0 : mg "NoBand" = some (.ref (c 0))
  n1 : mg "NoPaper" = some (.ref (c 1))
  n2 : mg "NoStep" = some (.ref (c 2))
  n3 : mg "NoSurface" = some (.ref (c 3))
  n4 : mg "NoRow" = some (.ref (c 4))
  n5 : mg "NoWay" = some (.ref (c 5))
  xT : XCl K CT bmT
  up : (Value.ref CT::bmT).contains (.ref CR)=true
  k0 : PySem.W.kitOne K (.ref CT) (.ref (c 0))=some false
  k1 : PySem.W.kitOne K (.ref CT) (.ref (c 1))=some false
  k2 : PySem.W.kitOne K (.ref CT) (.ref (c 2))=some false
  k3 : PySem.W.kitOne K (.ref CT) (.ref (c 3))=some false
  k4 : PySem.W.kitOne K (.ref CT) (.ref (c 4))=some false
  k5 : PySem.W.kitOne K (.ref CT) (.ref (c 5))=some false
  kt : PySem.W.kitOne K (.ref CT) (.ref CT)=some true
  kv : PySem.W.kitOne K (.ref CT) (.type "ValueError")=some true
  ca : XCa K CT
  xp : PySem.W.findIn K (.ref CT) "place" = some none
theorem oC {CT CR : Addr}{bmT bmR : List Value}{c : Nat → Addr}(D : Df K mg "_law_told" i8)(T : Bt K w mg aB)(C : qu K mg CT CR bmT bmR c)(xR : XCl K CR bmR) : oO P w K mg base "_law_told" ["_law_slides", "_law_ask"] 6 (iR P w K mg base 5 CT) := by
  have sc := mI
  have cNoSlide := C.nT
  have cRingError := C.nR
  have TV := C.nV
  have cNoBand := C.n0
  have cNoPaper := C.n1
  have cNoStep := C.n2
  have cNoSurface := C.n3
  have cNoRow := C.n4
  have cNoWay := C.n5
  refine D.okS sc (fun _ _ _ _ _ _ us hl => by obtain ⟨_, _, rfl⟩ := kK hl;rfl) (fun outer s vs H Q E h => ?_) (fun f cdv A outer s H vs Q E hr h => ?_)
  · obtain ⟨x, f, c', q, spx, R, N, rfl, _⟩ := h
    rfl
  · obtain ⟨x, f, c', q, spx, R, N, rfl, hA, hc', hsp, kR, kN⟩ := h
    have l16 := aZ
    have hu := lG hr
    refine ⟨_, (@aj _ _ _ _ _ (@aC _ _ (2) _ _ _ _ sc.nd rfl (Or.inl rfl) gA (by rfl) (by first | exact .inl rfl | exact .inr rfl | assumption)) (@aj _ _ _ _ _ (@nU _ _ _ _ (3) _ _ _ _ _ _ _ _ _ rfl rfl sc.nd rfl rfl rfl cRingError xR (fun _ => (@lZ _ _ _ _ _ _ _ (2) sc.nd rfl (Or.inl rfl) (@jV _ _ _ _ _ _ _ _ ay (@l9 _ _ _ _ _ (1) _ _ _ _ _ _ _ _ hA rfl hr (by decide) rfl rfl (pv 0) (by decide) (by decide) (by rfl) (by rfl)) (by rfl) (by rfl)) (by rfl) (by first | exact .inl rfl | exact .inr rfl | assumption))) (fun _ => (@aj _ _ _ _ _ (@aC _ _ (4) _ _ _ _ sc.nd rfl (Or.inl rfl) (@cc _ _ _ _ (@aa _ _ _ _ _ (@ar _ _ _ _ _ _ _ _ _ (@aU _ (K) rfl) (by rfl) T.isinstance aF (@aa _ _ _ _ _ (pv 3) (@aa _ _ _ _ _ (@a8 _ _ (.ref _) _ _ rfl cNoBand rfl (by decide)) ai (by rfl)) (by rfl)) (by decide) (by decide) (by rfl) (by rfl)) (@aa _ _ _ _ _ (@ar _ _ _ _ _ _ _ _ _ (@aU _ (K) rfl) (by rfl) T.isinstance aF (@aa _ _ _ _ _ (pv 3) (@aa _ _ _ _ _ (@a8 _ _ (.ref _) _ _ rfl cNoPaper rfl (by decide)) ai (by rfl)) (by rfl)) (by decide) (by decide) (by rfl) (by rfl)) (@aa _ _ _ _ _ (@ar _ _ _ _ _ _ _ _ _ (@aU _ (K) rfl) (by rfl) T.isinstance aF (@aa _ _ _ _ _ (pv 3) (@aa _ _ _ _ _ (@a8 _ _ (.ref _) _ _ rfl cNoStep rfl (by decide)) ai (by rfl)) (by rfl)) (by decide) (by decide) (by rfl) (by rfl)) (@aa _ _ _ _ _ (@ar _ _ _ _ _ _ _ _ _ (@aU _ (K) rfl) (by rfl) T.isinstance aF (@aa _ _ _ _ _ (pv 3) (@aa _ _ _ _ _ (@a8 _ _ (.ref _) _ _ rfl cNoSurface rfl (by decide)) ai (by rfl)) (by rfl)) (by decide) (by decide) (by rfl) (by rfl)) ai (by rfl)) (by rfl)) (by rfl)) (by rfl))) (by rfl) (by first | exact .inl rfl | exact .inr rfl | assumption)) (@aj _ _ _ _ _ (@aC _ _ (4) _ _ _ _ sc.nd rfl (Or.inl rfl) (@az _ _ _ _ _ _ _ _ gU (pv 4) (@cc _ _ _ _ (@aa _ _ _ _ _ (@ar _ _ _ _ _ _ _ _ _ (@aU _ (K) rfl) (by rfl) T.isinstance aF (@aa _ _ _ _ _ (pv 3) (@aa _ _ _ _ _ (@a8 _ _ (.ref _) _ _ rfl cNoRow rfl (by decide)) ai (by rfl)) (by rfl)) (by decide) (by decide) (by rfl) (by rfl)) (@aa _ _ _ _ _ (@ar _ _ _ _ _ _ _ _ _ (@aU _ (K) rfl) (by rfl) T.isinstance aF (@aa _ _ _ _ _ (pv 3) (@aa _ _ _ _ _ (@a8 _ _ (.ref _) _ _ rfl cNoWay rfl (by decide)) ai (by rfl)) (by rfl)) (by decide) (by decide) (by rfl) (by rfl)) (@aa _ _ _ _ _ (@mW _ _ _ _ (@ar _ _ _ _ _ _ _ _ _ (@aU _ (K) rfl) (by rfl) T.isinstance aF (@aa _ _ _ _ _ (pv 3) (@aa _ _ _ _ _ (@gC _ _ (.ty "ValueError") _ _ rfl TV eI rfl (by decide) (by decide)) ai (by rfl)) (by rfl)) (by decide) (by decide) (by rfl) (by rfl))) ai (by rfl)) (by rfl)) (by rfl)))) (by rfl) (by first | exact .inl rfl | exact .inr rfl | assumption)) (@aj _ _ _ _ _ (@aC _ _ (2) _ _ _ _ sc.nd rfl (Or.inl rfl) (@cA _ _ _ _ _ (@aa _ _ _ _ _ ay (@aa _ _ _ _ _ fZ ai (by rfl)) (by rfl))) (by rfl) (by first | exact .inl rfl | exact .inr rfl | assumption)) (@aq _ _ _ (@cj _ _ _ _ _ _ _ _ (@PW.pt _ _ _ (@mV _ _ _ _ _ _ _ (@pF _ _ _ (@ar _ _ _ _ _ _ _ _ _ (@aU _ (K) rfl) (by rfl) T.isinstance aF (@aa _ _ _ _ _ (pv 3) (@aa _ _ _ _ _ (@a8 _ _ (.ref _) _ _ rfl cNoSlide rfl (by decide)) ai (by rfl)) (by rfl)) (by decide) (by decide) (by rfl) (by rfl)) (fun _ => rfl)) (@kM _ _ _ _ (@bf _ _ _ _ _ _ _ _ (@gh _ (K) rfl) fZ (pv 4) rfl)))) (@aq _ _ _ (@aC _ _ (2) _ _ _ _ sc.nd rfl (Or.inl rfl) (@cA _ _ _ _ _ (@aa _ _ _ _ _ ay (@aa _ _ _ _ _ (@nY _ (K) _ _ _ _ rfl (pv 3) rfl) ai (by rfl)) (by rfl))) (by rfl) (by first | exact .inl rfl | exact .inr rfl | assumption))) aX)))))) (by decide)) (@aq _ _ _ (@aN _ _ _ _ (pv 2))))), ?_⟩
    refine ⟨rfl, _, rfl, hc', hsp _ _ (fun v H1 hR => ⟨(aQ (n := 2) (by decide)), fun p hp => ⟨_, rfl, kR v H1 p _ hR (aG.new hp) ag⟩⟩) fun i b H1 hN xs => ?_⟩
    obtain ⟨dx, cx, fa, fd⟩ := xs
    refine ⟨b, CT, some dx, cx, bmT, rfl, fa, C.xT, C.up, ?_⟩
    refine ⟨_, rfl, b, CT, false, cx, dx, _, _, _, false, rfl, fa, fd, C.ca, (fun u r => r), C.k0, ?_⟩
    refine ⟨_, rfl, b, CT, false, cx, dx, _, _, _, false, rfl, fa, fd, C.ca, (fun u r => r), C.k1, ?_⟩
    refine ⟨_, rfl, b, CT, false, cx, dx, _, _, _, false, rfl, fa, fd, C.ca, (fun u r => r), C.k2, ?_⟩
    refine ⟨_, rfl, b, CT, false, cx, dx, _, _, _, false, rfl, fa, fd, C.ca, (fun u r => r), C.k3, (aQ (n := 4) (by decide)), fun l1 hl1 => ?_⟩
    have s1 : aG H1 (upd H1 l1 (.lst [.bl false, .bl false, .bl false, .bl false])) := aG.new hl1
    have f1 : (upd H1 l1 (.lst [.bl false, .bl false, .bl false, .bl false])) l1=some (.lst [.bl false, .bl false, .bl false, .bl false]) := ag
    generalize upd H1 l1 (.lst [.bl false, .bl false, .bl false, .bl false])=H2 at s1 f1 ⊢
    have fa2 := s1 _ _ fa
    have fd2 := s1 _ _ fd
    refine ⟨_, rfl, _, rfl, b, CT, false, cx, dx, _, _, _, false, rfl, fa2, fd2, C.ca, (fun u r => r), C.k4, ?_⟩
    refine ⟨_, rfl, b, CT, false, cx, dx, _, _, _, false, rfl, fa2, fd2, C.ca, (fun u r => r), C.k5, ?_⟩
    refine ⟨_, rfl, b, CT, false, cx, dx, _, _, _, true, rfl, fa2, fd2, C.ca, (fun u r => r), C.kv, ?_⟩
    refine ⟨_, rfl, (aQ (n := 3) (by decide)), fun l2 hl2 => ?_⟩
    have s2 : aG H2 (upd H2 l2 (.lst [.bl false, .bl false, .bl (!true)])) := aG.new hl2
    have f2 : (upd H2 l2 (.lst [.bl false, .bl false, .bl (!true)])) l2=some (.lst [.bl false, .bl false, .bl (!true)]) := ag
    generalize upd H2 l2 (.lst [.bl false, .bl false, .bl (!true)])=H3 at s2 f2 ⊢
    refine ⟨l1, l2, _, _, rfl, rfl, s2 _ _ f1, f2, (aQ (n := 7) (by decide)), fun l3 hl3 => ?_⟩
    have s3 : aG H3 (upd H3 l3 (.lst ([.bl false, .bl false, .bl false, .bl false]++[.bl false, .bl false, .bl (!true)]))) := aG.new hl3
    have f3 : (upd H3 l3 (.lst ([.bl false, .bl false, .bl false, .bl false]++[.bl false, .bl false, .bl (!true)]))) l3=some (.lst [.bl false, .bl false, .bl false, .bl false, .bl false, .bl false, .bl false]) := ag
    generalize upd H3 l3 (.lst ([.bl false, .bl false, .bl false, .bl false]++[.bl false, .bl false, .bl (!true)]))=H4 at s3 f3 ⊢
    refine ⟨(aQ (n := 2) (by decide)), fun t ht => ?_⟩
    have s4 : aG H4 (upd H4 t (.tup [.str "other", .bl true])) := aG.new ht
    generalize upd H4 t (.tup [.str "other", .bl true])=H5 at s4 ⊢
    have s25 := (s2.trans s3).trans s4
    have fa5 := s25 _ _ fa2
    have fd5 := s25 _ _ fd2
    refine ⟨_, rfl, b, CT, false, cx, dx, _, _, _, true, rfl, fa5, fd5, C.ca, (fun u r => r), C.kt, _, rfl, pN ?_⟩
    refine ⟨_, rfl, l3, _, rfl, .inl (SqL.of (s4 _ _ f3)), rfl, rfl, _, rfl, mh ?_⟩
    refine ⟨_, rfl, b, CT, false, cx, dx, _, _, rfl, fa5, fd5, C.ca.1, C.xp, rfl, (aQ (n := 2) (by decide)), fun p hp => ⟨_, rfl, kN i H1 p _ hN ((s1.trans s25).then hp) ag⟩⟩
end
end Kx
namespace Kx
open PySem PySem.Spec PyProof.Rows L2 Wd
section
variable {P : Program} {w : World} {K : PySem.W.Frag} {mg : Str → Option Value} {base : Heap} {aB : Addr}
abbrev cM : Stmt := top 32
theorem j8 : aw ["_law_row", "_law_place", "_law_side", "_law_due", "_law_found", "_law_maps"] ["_law_row", "_law_place", "_law_side"] (ah cM) := ⟨rfl, rfl, rfl, by decide +kernel, rfl, by decide +kernel, by decide +kernel⟩
theorem i9 : Sm (.str "told") := ⟨rfl, rfl, by decide, by decide +kernel, by decide +kernel, fun i e => by cases e⟩
theorem dG : Sm (.str "slide") := ⟨rfl, rfl, by decide, by decide +kernel, by decide +kernel, fun i e => by cases e⟩
theorem fB : Sm (.int (0 : Nat)) := ⟨by decide, rfl, by decide, by decide +kernel, by decide +kernel, fun i e => by cases e; decide⟩
theorem eM {a b : PyData}(ha : Sm a)(hb : Sm b) : Sh (.tuple [a, b]) := mf (fun d hd => by
  rcases rN.mp hd with rfl | hd
  · exact ha
  · rw [rZ] at hd
    rw [hd]
    exact hb) (by simp)
theorem mJ {CT c0 P0 : Addr}(D : DfC K mg "_law_right" cM c0)(T : Bt K w mg aB)(M : Mkr base mg c0 P0)(F_slid : Fnc P w K mg base "_law_slid" ["_law_row", "_law_place", "_law_side"] 2 fv)(F_told : oO P w K mg base "_law_told" ["_law_slides", "_law_ask"] 6 (iR P w K mg base 5 CT))(F_pslid : mN P w K mg base "slid" ["surface", "slide"] 3 (dC CT))(F_maps : mN P w K mg base "maps_of" ["surface", "slide"] 3 (dD CT))(F_issurf : Fnc P w K mg base "is_surface" ["thing"] 2 (i0 K)) : Fnc P w K mg base "_law_right" ["_law_row", "_law_place", "_law_side"] 7 (dE P0) := by
  have sc := j8
  refine D.ok sc (fun _ _ _ _ _ _ us hl => by obtain ⟨_, _, _, rfl⟩ := pP hl;rfl) (fun vs H Q E h => ?_) (fun f A outer s H vs Q E hr h => ?_)
  · obtain ⟨u, n, z, sd, rfl, _⟩ := h
    rfl
  · obtain ⟨u, n, z, sd, rfl, R, hall, n1, n6, hT, k⟩ := h
    have l16 := aZ
    have S := mj R hall n1 n6
    have hle := S.le
    refine ⟨_, (@aj _ _ _ _ _ (@aC _ _ (3) _ _ _ _ sc.nd rfl (Or.inl rfl) (@aV _ _ _ _ _ _ _ _ _ _ _ F_slid hr (by decide) rfl (@aa _ _ _ _ _ (pv 0) (@aa _ _ _ _ _ (pv 1) (@aa _ _ _ _ _ (pv 2) ai (by rfl)) (by rfl)) (by rfl)) (by decide) (by rfl) (by rfl)) (by rfl) (by first | exact .inl rfl | exact .inr rfl | assumption)) (@aj _ _ _ _ _ (@aC _ _ (4) _ _ _ _ sc.nd rfl (Or.inl rfl) (@iJ _ _ _ _ _ (0) _ _ (4) _ _ _ _ _ _ _ _ _ _ _ _ F_told hr (by decide) rfl M rfl rfl (@cA _ _ _ _ _ (@aa _ _ _ _ _ (pv 1) (@aa _ _ _ _ _ (pv 2) ai (by rfl)) (by rfl))) (by exact ⟨rfl, rfl, rfl, by decide, rfl, rfl, by decide +kernel, by decide +kernel⟩) rfl rfl rfl (by decide +kernel) rfl (fun _ _ _ _ _ => rfl) (by decide) (by rfl) (by rfl) (by rfl)) (by rfl) (by first | exact .inl rfl | exact .inr rfl | assumption)) (@aj _ _ _ _ _ (@cj _ _ _ _ _ _ _ _ (@bf _ _ _ _ _ _ _ _ m7 (pv 3) gA (a6 _)) (@aj _ _ _ _ _ (@aC _ _ (5) _ _ _ _ sc.nd rfl (Or.inl rfl) (@iJ _ _ _ _ _ (0) _ _ (4) _ _ _ _ _ _ _ _ _ _ _ _ F_told hr (by decide) rfl M rfl rfl (@cA _ _ _ _ _ (@aa _ _ _ _ _ (pv 1) (@aa _ _ _ _ _ (pv 2) ai (by rfl)) (by rfl))) (by exact ⟨rfl, rfl, rfl, by decide, rfl, rfl, by decide +kernel, by decide +kernel⟩) rfl rfl rfl (by decide +kernel) rfl (fun _ _ _ _ _ => rfl) (by decide) (by rfl) (by rfl) (by rfl)) (by rfl) (by first | exact .inl rfl | exact .inr rfl | assumption)) (@aq _ _ _ (@aN _ _ _ _ (@bJ _ _ _ _ _ _ _ _ (@fV _ (by exact hr.units)) (@cc _ _ _ _ (@aa _ _ _ _ _ (@ar _ _ _ _ _ _ _ _ _ (@bL _ (by exact hr.gd) (by exact hr.units)) (by rfl) T.repr eA (@aa _ _ _ _ _ (pv 4) ai (by rfl)) (by decide) (by decide) (by rfl) (by rfl)) (@aa _ _ _ _ _ (@ar _ _ _ _ _ _ _ _ _ (@bL _ (by exact hr.gd) (by exact hr.units)) (by rfl) T.repr eA (@aa _ _ _ _ _ (pv 5) ai (by rfl)) (by decide) (by decide) (by rfl) (by rfl)) ai (by rfl)) (by rfl))) (@az _ _ _ _ _ _ _ _ kl (@cc _ _ _ _ (@aa _ _ _ _ _ (@ar _ _ _ _ _ _ _ _ _ (@aW _ (by exact hr.gd) (by exact hr.units)) (by rfl) T.repr eA (@aa _ _ _ _ _ (@cA _ _ _ _ _ (@aa _ _ _ _ _ ay (@aa _ _ _ _ _ ao ai (by rfl)) (by rfl))) ai (by rfl)) (by decide) (by decide) (by rfl) (by rfl)) ai (by rfl))) ao) (a6 _))))) aX) (@aq _ _ _ (@aN _ _ _ _ (@ka _ _ _ _ _ _ _ (@bJ _ _ _ _ _ _ _ _ eX (@ar _ _ _ _ _ _ _ _ _ (@bL _ (by exact hr.gd) (by exact hr.units)) (by rfl) T.repr eA (@aa _ _ _ _ _ (pv 4) ai (by rfl)) (by decide) (by decide) (by rfl) (by rfl)) (@ar _ _ _ _ _ _ _ _ _ (@aW _ (by exact hr.gd) (by exact hr.units)) (by rfl) T.repr eA (@aa _ _ _ _ _ (@cA _ _ _ _ _ (@aa _ _ _ _ _ ay (@aa _ _ _ _ _ (pv 3) ai (by rfl)) (by rfl))) ai (by rfl)) (by decide) (by decide) (by rfl) (by rfl)) (a6 _)) (@j_ _ _ _ _ _ (@bJ _ _ _ _ _ _ _ _ oj (@aV _ _ _ _ _ _ _ _ _ _ _ F_issurf hr (by decide) rfl (@aa _ _ _ _ _ (pv 3) ai (by rfl)) (by decide) (by rfl) (by rfl)) fZ (a6 _))))))))), ?_⟩
    refine ⟨_, rfl, _, rfl, _, rfl, u, z, sd, rfl, S.ne, S.le, fun H1 s1 => ?_⟩
    have T1 := hT.same s1
    have nP : ∀ {H' : Hp} {t : Addr}, Tab H' P0 qR → H' t=none → t≠P0 := fun T' ht z => by
      obtain ⟨ps, e, _⟩ := T'
      rw [← z, ht] at e
      cases e
    refine ⟨tx u, rfl, _, rfl, _, rfl, (aQ (n := 2) (by decide)), fun t ht => ⟨T1.same (aG.new ht), fun outer' s' H2 g c' T2 hc2 k2 asks => ?_⟩⟩
    have t2 := k2 t _ (nP T1 ht) ag
    have sb2 : bT P0 H H2 := fun b o nb e => k2 b o nb (aG.new ht _ _ (s1 _ _ e))
    clear k2
    refine ⟨.ref t, g, c', _, fun vs H' Q E => dC CT [tx u, vs.headD .non] H' Q E, fun v H3 => ∃ w, slW u z sd=some w ∧ v=tx w ∧ aG H2 H3, fun i H3 => i=0 ∧ slW u z sd=none ∧ aG H2 H3, rfl, asks _ (fun A outer' s'' H' c v1 Q E hrm hs => ⟨_, kH F_pslid hrm (by decide) cW rfl (aa (pv 1) (aa (pv 0) ai)), ⟨_, rfl, _, rfl, hs⟩⟩), hc2, fun Q' E' hR hN => ⟨u, t, z, sd, rfl, t2, S, fun v e H' s' => hR _ _ ⟨v, e, rfl, s'⟩, fun e b H' xs s' => hN 0 b H' ⟨rfl, e, s'⟩ xs⟩, ?_, ?_⟩
    · rintro v H3 p H4 ⟨wd, e, rfl, s3⟩ s4 f4
      rw [e]
      have s24 := s3.trans s4
      have pm := jZ S e
      have wl : wd.length≤12 := by rw [pm.length_eq];exact S.le
      refine ⟨_, rfl, rfl, _, rfl, pM ?_⟩
      refine ⟨_, rfl, .ref p, _, rfl, .tup f4 (.cons (.str _) (.cons (.str _) .nil)), eM i9 (iO (by omega)), (fun i e => by cases e), ?_⟩
      refine ⟨_, rfl, (aQ (n := 2) (by decide)), fun p2 hp2 => ?_⟩
      refine ⟨p2, _, rfl, .tup ag (.cons (.str _) (.cons (.str _) .nil)), eM i9 (iO (by omega)), ?_⟩
      refine ⟨rfl, _, rfl, jb (by simp) ?_⟩
      have s5 := s24.then (o := .tup [.str "told", tx wd]) hp2
      refine ⟨_, rfl, tx wd, rfl, .str _ (by rw [af];omega), fun H6 s6 => ?_⟩
      rw [iS R n1 n6 pm]
      exact ⟨_, _, rfl, rfl, k _ ((T2.same s5).same s6) (fun b o nb e => s6 _ _ (s5 _ _ (sb2 b o nb e)))⟩
    · rintro i H3 p H4 ⟨rfl, e, s3⟩ s4 f4
      rw [e]
      have s24 := s3.trans s4
      have T4 := T2.same s24
      refine ⟨_, rfl, rfl, _, rfl, mh ?_⟩
      refine ⟨tx u, rfl, _, rfl, _, rfl, (aQ (n := 2) (by decide)), fun t5 ht5 => ⟨T4.same (aG.new ht5), fun outer' s' H6 g6 c6 T6 hc6 k6 asks6 => ?_⟩⟩
      have t6 := k6 t5 _ (nP T4 ht5) ag
      have p6 := k6 p _ (T4.ne f4 (by intro ps z;cases z)) (aG.new ht5 _ _ f4)
      have sb6 : bT P0 H H6 := fun b o nb e => k6 b o nb (aG.new ht5 _ _ (s24 _ _ (sb2 b o nb e)))
      refine ⟨.ref t5, g6, c6, _, fun vs H' Q E => dD CT [tx u, vs.headD .non] H' Q E, fun _ _ => False, fun i H3 => i=0 ∧ aG H6 H3, rfl, asks6 _ (fun A outer' s'' H' c v1 Q E hrm hs => ⟨_, kH F_maps hrm (by decide) cW rfl (aa (pv 1) (aa (pv 0) ai)), ⟨_, rfl, _, rfl, hs⟩⟩), hc6, fun Q' E' hR hN => ⟨u, t5, z, sd, rfl, t6, S, e, fun b H' xs s' => hN 0 b H' ⟨rfl, s'⟩ xs⟩, fun _ _ _ _ h => h.elim, ?_⟩
      rintro i H7 p8 H8 ⟨rfl, s7⟩ s8 f8
      have s68 := s7.trans s8
      refine ⟨_, rfl, .ref p, _, rfl, .tup (s68 _ _ p6) (.cons (.str _) (.cons (.int _) .nil)), eM dG fB, (fun i e => by cases e), ?_⟩
      refine ⟨_, rfl, .ref p8, _, rfl, .tup f8 (.cons (.str _) (.cons (.int _) .nil)), eM dG fB, (fun i e => by cases e), (aQ (n := 2) (by decide)), fun l1 hl1 => ?_⟩
      have s9 : aG H8 (upd H8 l1 (.lst [.str (PyData.shown (.tuple [.str "slide", .int (0 : Nat)])), .str (PyData.shown (.tuple [.str "slide", .int (0 : Nat)]))])) := aG.new hl1
      have f9 : (upd H8 l1 (.lst [.str (PyData.shown (.tuple [.str "slide", .int (0 : Nat)])), .str (PyData.shown (.tuple [.str "slide", .int (0 : Nat)]))])) l1=some (.lst ([PyData.shown (.tuple [.str "slide", .int (0 : Nat)]), PyData.shown (.tuple [.str "slide", .int (0 : Nat)])].map V.str)) := ag
      generalize upd H8 l1 (.lst [.str (PyData.shown (.tuple [.str "slide", .int (0 : Nat)])), .str (PyData.shown (.tuple [.str "slide", .int (0 : Nat)]))])=H9 at s9 f9 ⊢
      refine ⟨(aQ (n := 2) (by decide)), fun p10 hp10 => ?_⟩
      have s10 : aG H9 (upd H9 p10 (.tup [.str "slide", .int 0])) := aG.new hp10
      have f10 : (upd H9 p10 (.tup [.str "slide", .int 0])) p10=some (.tup [.str "slide", .int 0]) := ag
      generalize upd H9 p10 (.tup [.str "slide", .int 0])=H10 at s10 f10 ⊢
      refine ⟨p10, .tuple [.str "slide", .int (0 : Nat)], rfl, .tup f10 (.cons (.str _) (.cons (.int _) .nil)), eM dG fB, (aQ (n := 1) (by decide)), fun l2 hl2 => ?_⟩
      have s11 : aG H10 (upd H10 l2 (.lst [.str (PyData.shown (.tuple [.str "slide", .int (0 : Nat)]))])) := aG.new hl2
      have f11 : (upd H10 l2 (.lst [.str (PyData.shown (.tuple [.str "slide", .int (0 : Nat)]))])) l2=some (.lst [.str (PyData.shown (.tuple [.str "slide", .int (0 : Nat)]))]) := ag
      generalize upd H10 l2 (.lst [.str (PyData.shown (.tuple [.str "slide", .int (0 : Nat)]))])=H11 at s11 f11 ⊢
      refine ⟨l2, 2, _, rfl, rfl, f11, by decide, by decide, (aQ (n := 2) (by decide)), fun l3 hl3 => ?_⟩
      have s12 := aG.new (o := .lst (List.replicate (2 : Int).toNat [V.str (PyData.shown (.tuple [.str "slide", .int (0 : Nat)]))]).flatten) hl3
      refine ⟨l1, l3, _, [PyData.shown (.tuple [.str "slide", .int (0 : Nat)]), PyData.shown (.tuple [.str "slide", .int (0 : Nat)])], rfl, rfl, s12 _ _ (s11 _ _ (s10 _ _ f9)), ag, ?_⟩
      rw [rp rfl]
      have sA := (((s68.trans s9).trans s10).trans s11).trans s12
      exact k _ (T6.same sA) (fun b o nb e => sA _ _ (sb6 b o nb e))
end
end Kx
namespace Kx
open PySem PySem.Spec PyProof.Rows L2 Wd
section
variable {P : Program} {w : World} {K : PySem.W.Frag} {mg : Str → Option Value} {base : Heap} {aB : Addr}
inductive eN (K : PySem.W.Frag)(P0 : Addr)(vs : List V)(H : Hp)(Q : VK)(u3_ : XK) : Prop
  | mk : ∀ (a : Addr) (ns : List Int), (vs=[.ref a]) → (SqL K H a (ns.map V.int)) → (ns.length≤63) → (Tab H P0 qR) → (∀ H', Q (.bl true) H') → eN K P0 vs H Q u3_
abbrev eO : Stmt := top 33
theorem oE : aw ["_law_script", "_law_feed_here", "_law_k", "_law_row", "_law_places", "_law_place"] ["_law_script"] (ah eO) := ⟨rfl, rfl, rfl, by decide +kernel, rfl, by decide +kernel, by decide +kernel⟩
theorem pX {f : Addr}{fd : FuncData}{P0 : Addr}(D : Fun K "law" "law" eO f fd)(T : Bt K w mg aB)(F_feed : Fnc P w K mg base "_law_feed" ["_law_script"] 1 (ig K))(F_draw : Fnc P w K mg base "_law_draw" ["_law_feed_here", "_law_many"] 1 fL)(F_surf : Fnc P w K mg base "_law_surface" ["_law_feed_here", "_law_many"] 2 fq)(F_right : Fnc P w K mg base "_law_right" ["_law_row", "_law_place", "_law_side"] 7 (dE P0)) : fE P w K mg base CX0 9 f fd ["_law_script"] (eN K P0) := by
  have sc := oE
  refine D.ok sc (fun vs H Q E h => ?_) (fun cdv A outer s H vs Q E hr h => ?_)
  · obtain ⟨a, ns, rfl, _⟩ := h
    rfl
  · obtain ⟨a, ns, rfl, hS, hlen, hT, k⟩ := h
    have l16 := aZ
    refine ⟨_, (@aj _ _ _ _ _ (@aC _ _ (1) _ _ _ _ sc.nd rfl (Or.inl rfl) (@aV _ _ _ _ _ _ _ _ _ _ _ F_feed hr (by decide) rfl (@aa _ _ _ _ _ (pv 0) ai (by rfl)) (by decide) (by rfl) (by rfl)) (by rfl) (by first | exact .inl rfl | exact .inr rfl | assumption)) (@aj _ _ _ _ _ (@dM _ _ _ _ _ _ _ _ tB rfl (@dI _ _ _ _ _ _ rfl T.range (@aa _ _ _ _ _ ao ai (by rfl)) (by rfl)) (@bW _ _ (2) _ sc.nd rfl (Or.inl rfl) (by first | exact .inl rfl | exact .inr rfl | assumption)) (@aj _ _ _ _ _ (@aC _ _ (3) _ _ _ _ sc.nd rfl (Or.inl rfl) (@aV _ _ _ _ _ _ _ _ _ _ _ F_surf hr (by decide) rfl (@aa _ _ _ _ _ (pv 1) (@aa _ _ _ _ _ (@az _ _ _ _ _ _ _ _ bM ao (@aV _ _ _ _ _ _ _ _ _ _ _ F_draw hr (by decide) rfl (@aa _ _ _ _ _ (pv 1) (@aa _ _ _ _ _ ao ai (by rfl)) (by rfl)) (by decide) (by rfl) (by rfl))) ai (by rfl)) (by rfl)) (by decide) (by rfl) (by rfl)) (by rfl) (by first | exact .inl rfl | exact .inr rfl | assumption)) (@aj _ _ _ _ _ (@aC _ _ (4) _ _ _ _ sc.nd rfl (Or.inl rfl) (@az _ _ _ _ _ _ _ _ gU (@a_ _ _ _ _ _ _ _ _ _ (@cP _ rfl) (by rfl) T.list ij (@aa _ _ _ _ _ (@a_ _ _ _ _ _ _ _ _ _ iQ (by rfl) T.range boot_range (@aa _ _ _ _ _ (@kX _ _ _ _ _ _ gJ ao) (@aa _ _ _ _ _ (@az _ _ _ _ _ _ _ _ bM (@ar _ _ _ _ _ _ _ _ _ aD (by rfl) T.len r_ (@aa _ _ _ _ _ (pv 3) ai (by rfl)) (by decide) (by decide) (by rfl) (by rfl)) ao) ai (by rfl)) (by rfl)) (by decide) (by decide) (by rfl) (by rfl)) ai (by rfl)) (by decide) (by decide) (by rfl) (by rfl)) (@cc _ _ _ _ (@aa _ _ _ _ _ (@bq _ _ _ _ _ _ _ fc (@cc _ _ _ _ (@aa _ _ _ _ _ (@az _ _ _ _ _ _ _ _ gI ao ao) (@aa _ _ _ _ _ (@kX _ _ _ _ _ _ gJ (@az _ _ _ _ _ _ _ _ gI ao ao)) ai (by rfl)) (by rfl))) (@aV _ _ _ _ _ _ _ _ _ _ _ F_draw hr (by decide) rfl (@aa _ _ _ _ _ (pv 1) (@aa _ _ _ _ _ ao ai (by rfl)) (by rfl)) (by decide) (by rfl) (by rfl)) (fun _ _ => rfl)) ai (by rfl)))) (by rfl) (by first | exact .inl rfl | exact .inr rfl | assumption)) (@aq _ _ _ (@dM _ _ _ _ _ _ _ _ tB rfl (@kW _ _ _ _ (pv 4)) (@bW _ _ (5) _ sc.nd rfl (Or.inl rfl) (by first | exact .inl rfl | exact .inr rfl | assumption)) (@aq _ _ _ (@cj _ _ _ _ _ _ _ _ (@PW.pt _ _ _ (@kO _ _ _ _ _ _ _ (@cw _ _ _ _ (@bO _ _ _ (@aV _ _ _ _ _ _ _ _ _ _ _ F_right hr (by decide) rfl (@aa _ _ _ _ _ (pv 3) (@aa _ _ _ _ _ (pv 5) (@aa _ _ _ _ _ ao ai (by rfl)) (by rfl)) (by rfl)) (by decide) (by rfl) (by rfl)) (fun _ => rfl))) (@gF _ _ _ _ (@cw _ _ _ _ (@bO _ _ _ (@aV _ _ _ _ _ _ _ _ _ _ _ F_right hr (by decide) rfl (@aa _ _ _ _ _ (pv 3) (@aa _ _ _ _ _ (pv 5) (@aa _ _ _ _ _ (@kX _ _ _ _ _ _ gJ ao) ai (by rfl)) (by rfl)) (by rfl)) (by decide) (by rfl) (by rfl)) (fun _ => rfl)))))) (@aq _ _ _ (@aN _ _ _ _ fZ)) aX)) (by intro _ ;rfl))))) (by intro _ ;rfl)) (@aq _ _ _ (@aN _ _ _ _ fZ)))), ?_⟩
    refine ⟨_, rfl, a, ns, rfl, hS, hlen, fun d H1 _ F1 s1 => ?_⟩
    refine ⟨_, rfl, by decide, by decide, dN (lo := 0) (n := 4) (fun i σ H' => ∃ (b2 b3 b4 b5 : Option V), σ = [some (.ref a), some (.ref d), b2, b3, b4, b5] ∧ Fd H' d ∧ Tab H' P0 qR) ⟨none, none, none, none, rfl, F1, hT.same s1⟩ ?_ ?_⟩
    rotate_left
    · rintro σ H2 ⟨b2, b3, b4, b5, rfl, F2, T2⟩
      exact k _
    rintro i σ H2 hi ⟨b2, b3, b4, b5, rfl, F2, T2⟩
    refine ⟨_, rfl, _, rfl, d, _, rfl, F2, by decide, by decide, fun r H3 r0 r1 F3 sb3 => ⟨_, _, rfl, rfl, ?_⟩⟩
    have T3 := T2.sb F2 sb3
    obtain ⟨m, rfl⟩ := sN r0
    refine ⟨d, m+1, ?_, F3, by omega, by omega, fun u H4 R hall F4 sb4 => ?_⟩
    · show [V.ref d, V.int (1+(m : Int))]=_
      rw [show 1+(m : Int)=((m+1 : Nat) : Int) by omega]
    have T4 := T3.sb F3 sb4
    have hlu := R.len
    have lu := af u
    refine ⟨_, rfl, _, rfl, _, rfl, by omega, _, _, rfl, rfl, _, _, rfl, fun p hp => ?_⟩
    have s5 : aG H4 (upd H4 p (.rng (-2) ((toS u).length+2))) := aG.new hp
    have f5 : (upd H4 p (.rng (-2) ((toS u).length+2))) p=some (.rng (-2) (-2+((u.length+4 : Nat) : Int))) := by
      rw [ag, lu, show ((u.length : Nat) : Int)+2 = -2+((u.length+4 : Nat) : Int) by omega]
    generalize upd H4 p (.rng (-2) ((toS u).length+2))=H5 at s5 f5 ⊢
    refine ⟨p, -2, u.length+4, rfl, f5, by decide, by decide, by omega, fun l1 hl1 => ?_⟩
    have s6 := s5.then (o := .lst ((List.range (u.length+4)).map fun i : Nat => V.int (-2+(i : Int)))) hl1
    have f6 : (upd H5 l1 (.lst ((List.range (u.length+4)).map fun i : Nat => V.int (-2+(i : Int))))) l1=some (.lst ((List.range (u.length+4)).map fun i : Nat => V.int (-2+(i : Int)))) := ag
    generalize upd H5 l1 (.lst ((List.range (u.length+4)).map fun i : Nat => V.int (-2+(i : Int))))=H6 at s6 f6 ⊢
    refine ⟨_, _, rfl, rfl, ⟨by decide, by decide⟩, _, _, rfl, rfl, ⟨by decide, by decide⟩, _, rfl, (aQ (n := 2) (by decide)), fun l2 hl2 => ?_⟩
    have s7 := aG.new (o := .lst [.int (10 ^ (30 : Int).toNat), .int (-(10 ^ (30 : Int).toNat))]) hl2
    have f7 : (upd H6 l2 (.lst [.int (10 ^ (30 : Int).toNat), .int (-(10 ^ (30 : Int).toNat))])) l2=some (.lst [.int (10 ^ (30 : Int).toNat), .int (-(10 ^ (30 : Int).toNat))]) := ag
    generalize upd H6 l2 (.lst [.int (10 ^ (30 : Int).toNat), .int (-(10 ^ (30 : Int).toNat))])=H7 at s7 f7 ⊢
    have s47 := s6.trans s7
    have F7 := F4.same s47
    have T7 := T4.same s47
    refine ⟨_, rfl, d, _, rfl, F7, by decide, by decide, fun q H8 q0 q1 F8 sb8 => ?_⟩
    obtain ⟨zz, ez⟩ : ∃ zz : Int, atI [V.int (10 ^ (30 : Int).toNat), .int (-(10 ^ (30 : Int).toNat))] q=some (.int zz) := by
      rcases (show q=0 ∨ q=1 by omega) with rfl | rfl
      · exact ⟨_, rfl⟩
      · exact ⟨_, rfl⟩
    refine ⟨l2, _, _, _, rfl, rfl, SqL.of (sb8 _ _ (F7.nl f7) f7), ez, (aQ (n := 1) (by decide)), fun l3 hl3 => ?_⟩
    have T8 := T7.sb F7 sb8
    have g1 := sb8 _ _ (F7.nl (s7 _ _ f6)) (s7 _ _ f6)
    have s9 : aG H8 (upd H8 l3 (.lst [.int zz])) := aG.new hl3
    refine ⟨l1, l3, _, _, rfl, rfl, s9 _ _ g1, ag, (by rw [rn, List.length_range];show _+1≤sizeLine;omega), fun pl hpl => ?_⟩
    have s10 := s9.then (o := .lst (((List.range (u.length+4)).map fun i : Nat => V.int (-2+(i : Int)))++[.int zz])) hpl
    have hints : ∀ x∈((List.range (u.length+4)).map fun i : Nat => V.int (-2+(i : Int)))++[V.int zz], ∃ z, x = .int z := fun x hx => by
      rcases tm.mp hx with h | h
      · obtain ⟨i, _, rfl⟩ := tU.mp h
        exact ⟨_, rfl⟩
      · rw [rZ] at h
        exact ⟨_, h⟩
    generalize ((List.range (u.length+4)).map fun i : Nat => V.int (-2+(i : Int)))++[V.int zz]=zs at s10 hints ⊢
    have f10 : (upd (upd H8 l3 (.lst [.int zz])) pl (.lst zs)) pl=some (.lst zs) := ag
    generalize upd (upd H8 l3 (.lst [.int zz])) pl (.lst zs)=H10 at s10 f10 ⊢
    have F10 := F8.same s10
    have T10 := T8.same s10
    refine ⟨_, rfl, pl, rfl, ⟨_, SqL.of f10⟩, ?_⟩
    refine jl (xs := zs) (fun j σ H' => ∃ (b5 : Option V), σ = [some (.ref a), some (.ref d), some (.int (0+(i : Int))), some (tx u), some (.ref pl), b5] ∧ Fd H' d ∧ Tab H' P0 qR ∧ H' pl=some (.lst zs)) ⟨_, rfl, F10, T10, f10⟩ (fun j σ H' _ ⟨_, _, _, _, e⟩ => SqL.of e) ?_ ?_
    · rintro j x σ H11 hx ⟨b5, rfl, F11, T11, f11⟩
      obtain ⟨z, rfl⟩ := hints x (rM hx)
      refine ⟨_, rfl, _, rfl, u, m+1, z, 1, rfl, R, hall, by omega, by omega, T11, fun H12 T12 sb12 => ⟨_, rfl, nkT (qt ?_)⟩⟩
      have F12 := F11.tab T11 sb12
      have f12 := sb12 _ _ (T11.ne f11 (by intro ps z;cases z)) f11
      refine ⟨_, rfl, _, rfl, _, rfl, u, m+1, z, -1, rfl, R, hall, by omega, by omega, T12, fun H13 T13 sb13 => ⟨_, rfl, nkT (pM ?_)⟩⟩
      exact ⟨_, rfl, F12.tab T12 sb13, T13, sb13 _ _ (T12.ne f12 (by intro ps z;cases z)) f12⟩
    · rintro σ H11 ⟨b5, rfl, F11, T11, f11⟩
      exact ⟨_, _, _, _, rfl, F11, T11⟩
end
end Kx
namespace Kx
open PySem PySem.Spec PyProof.Rows L2 Wd
theorem pY {K : PySem.W.Frag}{h : Heap}{mg : Str → Option Value}{x : Str}{st : Stmt}{f : Addr}{oc : Value}{od an : Option Addr}{osl : Array (Option Value)}{kV doc pm cdv ct : Value}(X : K.In h)(G : h.Ns mainGlobals mg)(a : PySem.W.nsIn K mainGlobals x=some (some (.ref f)))
    (l : K.lookup f=some ⟨oc, od, .func (PySem.W.fnOf x x (aM st) (aA st) (ah st) .none kV doc pm an cdv ct), osl⟩) (c : PySem.W.codeIn K cdv x=true) (k : PySem.W.keepIn K (.ref f)=true) : Df K mg x st := ⟨f, _, rH X G a, g9 l c k⟩
inductive DI (K : PySem.W.Frag)(x : Str)(st : Stmt) : Prop
  | mk {f : Addr} {oc : Value} {od an : Option Addr} {osl : Array (Option Value)} {kV doc pm cdv ct : Value} (a : PySem.W.nsIn K mainGlobals x=some (some (.ref f))) (l : K.lookup f=some ⟨oc, od, .func (PySem.W.fnOf x x (aM st) (aA st) (ah st) .none kV doc pm an cdv ct), osl⟩) (c : PySem.W.codeIn K cdv x=true) (k : PySem.W.keepIn K (.ref f)=true) : DI K x st
theorem DI.df {K : PySem.W.Frag}{h : Heap}{mg : Str → Option Value}{x : Str}{st : Stmt}(d : DI K x st)(X : K.In h)(G : h.Ns mainGlobals mg) : Df K mg x st := by
  cases d with
  | mk a l c k => exact pY X G a l c k
inductive DL where
  | n
  | c (x : Str) (st : Stmt) (r : DL)
def DIs (K : PySem.W.Frag) : DL → Prop
  | .n => True
  | .c x st r => DI K x st ∧ DIs K r
theorem DIs.on {K : PySem.W.Frag}{x : Str}{st : Stmt}{r : DL}{f : Addr}{oc : Value}{od an : Option Addr}{osl : Array (Option Value)}{kV doc pm cdv ct : Value}(a : PySem.W.nsIn K mainGlobals x=some (some (.ref f)))(l : K.lookup f=some ⟨oc, od, .func (PySem.W.fnOf x x (aM st) (aA st) (ah st) .none kV doc pm an cdv ct), osl⟩)(c : PySem.W.codeIn K cdv x=true)(k : PySem.W.keepIn K (.ref f)=true)(hr : DIs K r) : DIs K (.c x st r) := ⟨.mk a l c k, hr⟩
theorem oF {l : PySem.W.OpenLaw}{w : World}{K : PySem.W.Frag}{h : Heap}{mg : Str → Option Value}{fa : Addr}(X : K.In h)(G : h.Ns mainGlobals mg)(hfa : mg "law" = some (.ref fa))
    {fQ9 c0Q9 P0Q9 : Addr} {odQ9 anQ9 : Option Addr} {slQ9 : Array (Option Value)} {ocQ9 kVQ9 dcQ9 pmQ9 ctQ9 : Value} {f17 : Addr} {od17 an17 : Option Addr} {sl17 : Array (Option Value)} {oc17 kV17 dc17 pm17 cd17 ct17 : Value} {aB : Addr} {es : Array DictEntry} {en : Nat} {tS : Tok} {tE : Tok}  {CR : Addr} {ddCR : Option Addr} {cdCR : ClassData} {sCR0 sCR1 sCR2 sCR3 sCR5 : Option Value}         {nsCR : Addr} {onCR : Value} {dnCR : Option Addr} {esCR : Array DictEntry} {nnCR : Nat} {snCR : Array (Option Value)}         {CT : Addr} {ddCT : Option Addr} {cdCT : ClassData} {sCT0 sCT1 sCT2 sCT3 sCT5 : Option Value}          {fCT : Addr} {ocCT kVCT dcCT pmCT cvCT ctCT : Value} {odCT anCT : Option Addr} {slCT : Array (Option Value)}    {ck0 : Addr} {ck1 : Addr} {ck2 : Addr} {ck3 : Addr} {ck4 : Addr} {ck5 : Addr} {dk0 : Option Addr} {xk0 : ClassData} {sk0 : Array (Option Value)}  {dk1 : Option Addr} {xk1 : ClassData} {sk1 : Array (Option Value)}  {dk2 : Option Addr} {xk2 : ClassData} {sk2 : Array (Option Value)}  {dk3 : Option Addr} {xk3 : ClassData} {sk3 : Array (Option Value)}  {dk4 : Option Addr} {xk4 : ClassData} {sk4 : Array (Option Value)}  {dk5 : Option Addr} {xk5 : ClassData} {sk5 : Array (Option Value)}  {t0 t1 t2 t3 t4 t5 t6 t7 t8 t9 t10 t11 : Tok}
    (hs : DIs K (.c "number_of" mv <| .c "back" iV <| .c "slid" fA <| .c "maps_of" iW <| .c "can_slide" mw <| .c "neighbour" pR <| .c "moved" fz <| .c "putting_ahead" ow <| .c "is_surface" dF <| .c "letters_of" mD <| .c "_law_feed" iU <| .c "_law_draw" iT <| .c "_law_back" fw <| .c "_law_surface" i4 <| .c "_law_slid" i6 <| .c "_law_told" i8 <| .n))
    (aQ9 : PySem.W.nsIn K mainGlobals "_law_right" = some (some (.ref fQ9)))
    (lQ9 : K.lookup fQ9=some ⟨ocQ9, odQ9, .func (PySem.W.fnOf "_law_right" "_law_right" (aM cM) (aA cM) (ah cM) .none kVQ9 dcQ9 pmQ9 anQ9 (.ref c0Q9) ctQ9), slQ9⟩)
    (cQ9 : PySem.W.codeIn K (.ref c0Q9) "_law_right" = true)
    (kQ9 : PySem.W.keepIn K (.ref fQ9)=true)
    (tQ9 : PySem.W.tabIn K "_law_right" = some (c0Q9, P0Q9))
    (nQ9 : K.lookup P0Q9=none)
    (a17 : PySem.W.nsIn K mainGlobals "law" = some (some (.ref f17)))
    (l17 : K.lookup f17=some ⟨oc17, od17, .func (PySem.W.fnOf "law" "law" (aM eO) (aA eO) (ah eO) .none kV17 dc17 pm17 an17 cd17 ct17), sl17⟩)
    (c17 : PySem.W.codeIn K cd17 "law" = true)
    (k17 : PySem.W.keepIn K (.ref f17)=true)
    (z_len : PySem.W.nsIn K mainGlobals "len" = some none)
    (z_repr : PySem.W.nsIn K mainGlobals "repr" = some none)
    (z_abs : PySem.W.nsIn K mainGlobals "abs" = some none)
    (z_max : PySem.W.nsIn K mainGlobals "max" = some none)
    (z_int : PySem.W.nsIn K mainGlobals "int" = some none)
    (z_list : PySem.W.nsIn K mainGlobals "list" = some none)
    (z_range : PySem.W.nsIn K mainGlobals "range" = some none)
    (z_reversed : PySem.W.nsIn K mainGlobals "reversed" = some none)
    (z_min : PySem.W.nsIn K mainGlobals "min" = some none)
    (z_sorted : PySem.W.nsIn K mainGlobals "sorted" = some none)
    (z_tuple : PySem.W.nsIn K mainGlobals "tuple" = some none)
    (z_isinstance : PySem.W.nsIn K mainGlobals "isinstance" = some none)
    (z_all : PySem.W.nsIn K mainGlobals "all" = some none)
    (z_str : PySem.W.nsIn K mainGlobals "str" = some none)
    (z_zip : PySem.W.nsIn K mainGlobals "zip" = some none)
    (aBk : PySem.W.nsIn K mainGlobals "BACKS" = some (some (.ref aB)))
    (lB : K.lookup aB=some ⟨.type "dict", none, .dict es en, #[]⟩)
    (kB : PySem.W.KeysLit w.params es.toList)
    (aS : PySem.W.nsIn K mainGlobals "SMALL" = some (some (.str "abcdef" tS)))
    (aE : PySem.W.nsIn K mainGlobals "MOST_ENDS" = some (some (.int 12 tE)))
    (zV : PySem.W.nsIn K mainGlobals "ValueError" = some none)
    (aCR : PySem.W.nsIn K mainGlobals "RingError" = some (some (.ref CR)))
    (lCR : K.lookup CR=some ⟨.type "type", ddCR, .cls cdCR, #[sCR0, sCR1, sCR2, sCR3, some (.builtin "ValueError.__new__"), sCR5]⟩)
    (mCR : cdCR.mro = .ref CR::bmV)
    (eCR : cdCR.hasDel=false)
    (dCR : cdCR.hasDict=true)
    (kCR : PySem.W.keepIn K (.ref CR)=true)
    (saCR : PySem.W.findIn K (.ref CR) "__setattr__" = some (some (.builtin "object.__setattr__")))
    (gaCR : PySem.W.findIn K (.ref CR) "__getattribute__" = some (some (.builtin "BaseException.__getattribute__")))
    (gnCR : PySem.W.findIn K (.ref CR) "__getattr__" = some (none))
    (caCR : PySem.W.findIn K (.ref CR) "__class__" = some (some (.builtin "object.__class__")))
    (nCR : cdCR.ns=nsCR)
    (oCR : K.lookup nsCR=some ⟨onCR, dnCR, .dict esCR nnCR, snCR⟩)
    (pCR : (esCR.toList.all fun e => match e.key with | .str _ _ => true | _ => false)=true)
    (qCR : PySem.W.nsIn K nsCR "__init__" = some none)
    (rdCR : PySem.W.readsIn K CR (.type "type")=true)
    (atCR : PySem.W.findCls K (.ref CR) (.type "type") "__init__" = some (.val (.builtin "ValueError.__init__")))
    (gtCR : PySem.W.specialIn K (.ref CR) "__getattribute__" = some (some (.builtin "type.__getattribute__")))
    (hdI : PySem.W.handedIn (.builtin "ValueError.__init__")=true)
    (cgt : PySem.W.specialIn K (.builtin "object.__class__") "__get__" = some (some (.builtin "getset_descriptor.__get__")))
    (ctk : PySem.W.takesIn K (.builtin "object.__class__")=some true)
    (aCT : PySem.W.nsIn K mainGlobals "NoSlide" = some (some (.ref CT)))
    (lCT : K.lookup CT=some ⟨.type "type", ddCT, .cls cdCT, #[sCT0, sCT1, sCT2, sCT3, some (.builtin "ValueError.__new__"), sCT5]⟩)
    (mCT : cdCT.mro = .ref CT :: .ref CR::bmV)
    (eCT : cdCT.hasDel=false)
    (dCT : cdCT.hasDict=true)
    (kCT : PySem.W.keepIn K (.ref CT)=true)
    (saCT : PySem.W.findIn K (.ref CT) "__setattr__" = some (some (.builtin "object.__setattr__")))
    (gaCT : PySem.W.findIn K (.ref CT) "__getattribute__" = some (some (.builtin "BaseException.__getattribute__")))
    (gnCT : PySem.W.findIn K (.ref CT) "__getattr__" = some (none))
    (caCT : PySem.W.findIn K (.ref CT) "__class__" = some (some (.builtin "object.__class__")))
    (xCT0 : PySem.W.findIn K (.ref CT) "place" = some none)
    (iCT : PySem.W.findIn K (.ref CT) "__init__" = some (some (.ref fCT)))
    (uCT : K.lookup fCT=some ⟨ocCT, odCT, .func (PySem.W.fnOf "__init__" "NoSlide.__init__" (aM cL) (aA cL) (ah cL) .none kVCT dcCT pmCT anCT cvCT ctCT), slCT⟩)
    (vCT : PySem.W.codeIn K cvCT "NoSlide.__init__" = true)
    (wCT : PySem.W.keepIn K (.ref fCT)=true)
    (jCT : PySem.W.isFn K (.ref fCT)=true)
    (ak0 : PySem.W.nsIn K mainGlobals "NoBand" = some (some (.ref ck0)))
    (ak1 : PySem.W.nsIn K mainGlobals "NoPaper" = some (some (.ref ck1)))
    (ak2 : PySem.W.nsIn K mainGlobals "NoStep" = some (some (.ref ck2)))
    (ak3 : PySem.W.nsIn K mainGlobals "NoSurface" = some (some (.ref ck3)))
    (ak4 : PySem.W.nsIn K mainGlobals "NoRow" = some (some (.ref ck4)))
    (ak5 : PySem.W.nsIn K mainGlobals "NoWay" = some (some (.ref ck5)))
    (lk0 : K.lookup ck0=some ⟨.type "type", dk0, .cls xk0, sk0⟩)
    (nk0 : (Value.ref CT :: .ref CR::bmV).contains (.ref ck0)=false)
    (lk1 : K.lookup ck1=some ⟨.type "type", dk1, .cls xk1, sk1⟩)
    (nk1 : (Value.ref CT :: .ref CR::bmV).contains (.ref ck1)=false)
    (lk2 : K.lookup ck2=some ⟨.type "type", dk2, .cls xk2, sk2⟩)
    (nk2 : (Value.ref CT :: .ref CR::bmV).contains (.ref ck2)=false)
    (lk3 : K.lookup ck3=some ⟨.type "type", dk3, .cls xk3, sk3⟩)
    (nk3 : (Value.ref CT :: .ref CR::bmV).contains (.ref ck3)=false)
    (lk4 : K.lookup ck4=some ⟨.type "type", dk4, .cls xk4, sk4⟩)
    (nk4 : (Value.ref CT :: .ref CR::bmV).contains (.ref ck4)=false)
    (lk5 : K.lookup ck5=some ⟨.type "type", dk5, .cls xk5, sk5⟩)
    (nk5 : (Value.ref CT :: .ref CR::bmV).contains (.ref ck5)=false)
    (gl0 : PySem.W.nsIn K aB "a" = some (some (.str "A" t0)))
    (gl1 : PySem.W.nsIn K aB "b" = some (some (.str "B" t1)))
    (gl2 : PySem.W.nsIn K aB "c" = some (some (.str "C" t2)))
    (gl3 : PySem.W.nsIn K aB "d" = some (some (.str "D" t3)))
    (gl4 : PySem.W.nsIn K aB "e" = some (some (.str "E" t4)))
    (gl5 : PySem.W.nsIn K aB "f" = some (some (.str "F" t5)))
    (gl6 : PySem.W.nsIn K aB "A" = some (some (.str "a" t6)))
    (gl7 : PySem.W.nsIn K aB "B" = some (some (.str "b" t7)))
    (gl8 : PySem.W.nsIn K aB "C" = some (some (.str "c" t8)))
    (gl9 : PySem.W.nsIn K aB "D" = some (some (.str "d" t9)))
    (gl10 : PySem.W.nsIn K aB "E" = some (some (.str "e" t10)))
    (gl11 : PySem.W.nsIn K aB "F" = some (some (.str "f" t11))) :
    ∃ (c0 P0 : Addr) (fd : FuncData), PySem.W.tabIn K "_law_right" = some (c0, P0) ∧ K.lookup P0=none ∧ (∀ (s : Shared) (v : Value), BindsTo s fd ⟨[v], []⟩ [("_law_script", v)]) ∧ ∀ base : Heap, K.In base → base.Ns mainGlobals mg → Mkr base mg c0 P0 → fE l.prog w K mg base CX0 9 fa fd ["_law_script"] (eN K P0) := by
  have e := hfa.symm.trans (rH X G a17)
  cases e
  have gB : ∀ x : L, ∃ t, PySem.W.nsIn K aB (toS [x])=some (some (.str (toS [inv x]) t)) := by
    have q : ∀ (x : L) (u v : Str) (t : Tok), PySem.W.nsIn K aB u=some (some (.str v t)) → toS [x]=u → toS [inv x]=v → ∃ t, PySem.W.nsIn K aB (toS [x])=some (some (.str (toS [inv x]) t)) := fun x u v t g e1 e2 => ⟨t, by rw [e1, e2];exact g⟩
    intro x
    match x with
    | ⟨0, _⟩ => exact q 0 "a" "A" _ gl0 (by decide +kernel) (by decide +kernel)
    | ⟨1, _⟩ => exact q 1 "b" "B" _ gl1 (by decide +kernel) (by decide +kernel)
    | ⟨2, _⟩ => exact q 2 "c" "C" _ gl2 (by decide +kernel) (by decide +kernel)
    | ⟨3, _⟩ => exact q 3 "d" "D" _ gl3 (by decide +kernel) (by decide +kernel)
    | ⟨4, _⟩ => exact q 4 "e" "E" _ gl4 (by decide +kernel) (by decide +kernel)
    | ⟨5, _⟩ => exact q 5 "f" "F" _ gl5 (by decide +kernel) (by decide +kernel)
    | ⟨6, _⟩ => exact q 6 "A" "a" _ gl6 (by decide +kernel) (by decide +kernel)
    | ⟨7, _⟩ => exact q 7 "B" "b" _ gl7 (by decide +kernel) (by decide +kernel)
    | ⟨8, _⟩ => exact q 8 "C" "c" _ gl8 (by decide +kernel) (by decide +kernel)
    | ⟨9, _⟩ => exact q 9 "D" "d" _ gl9 (by decide +kernel) (by decide +kernel)
    | ⟨10, _⟩ => exact q 10 "E" "e" _ gl10 (by decide +kernel) (by decide +kernel)
    | ⟨11, _⟩ => exact q 11 "F" "f" _ gl11 (by decide +kernel) (by decide +kernel)
  have T : Bt K w mg aB := ⟨rA X G z_len, rA X G z_repr, rA X G z_abs, rA X G z_max, rA X G z_int, rA X G z_list, rA X G z_range, rA X G z_reversed, rA X G z_min, rA X G z_sorted, rA X G z_tuple, rA X G z_isinstance, rA X G z_all, rA X G z_str, rA X G z_zip, rH X G aBk, ⟨es, en, lB, kB⟩, gB⟩
  have S : ∃ t, mg "SMALL" = some (.str "abcdef" t) := ⟨_, rH X G aS⟩
  have ME : ∃ t, mg "MOST_ENDS" = some (.int 12 t) := ⟨_, rH X G aE⟩
  have XCR : XCl K CR bmV := kI lCR mCR eCR dCR eC kCR
  have ACR : XAt K CR := ⟨⟨_, XCR⟩, saCR, gaCR, gnCR⟩
  have GCR : mg "RingError" = some (.ref CR) := rH X G aCR
  have BCR : lV K CR := ⟨rdCR, atCR, gtCR, hdI⟩
  have XCT : XCl K CT (.ref CR::bmV) := kI lCT mCT eCT dCT (jR lCR (by rw [nCR];exact l0 oCR pCR) (by rw [nCR];exact qCR) eC) kCT
  have ACT : XAt K CT := ⟨⟨_, XCT⟩, saCT, gaCT, gnCT⟩
  have CCT : XCa K CT := ⟨ACT, caCT, cgt, ctk⟩
  have ICT := fun base : Heap => j7 (P := l.prog) (w := w) (mg := mg) (base := base) (g9 uCT vCT wCT) BCR GCR ACT xCT0
  have MCT : ∀ base : Heap, XMk l.prog w K mg base "NoSlide" CT ["place"] 1 := fun base => ⟨rH X G aCT, CCT, by intro f hf;simp only [rN, List.not_mem_nil, or_false] at hf;rcases hf with rfl <;> assumption, ⟨_, _, _, XCT, iCT, jCT, (ICT base).1, (ICT base).2⟩⟩
  have TCL : qu K mg CT CR (.ref CR::bmV) bmV (fun n => [ck0, ck1, ck2, ck3, ck4, ck5].getD n ck0) := ⟨rH X G aCT, rH X G aCR, rA X G zV, rH X G ak0, rH X G ak1, rH X G ak2, rH X G ak3, rH X G ak4, rH X G ak5, XCT, by simp, (bC XCT lk0).trans (rT some nk0), (bC XCT lk1).trans (rT some nk1), (bC XCT lk2).trans (rT some nk2), (bC XCT lk3).trans (rT some nk3), (bC XCT lk4).trans (rT some nk4), (bC XCT lk5).trans (rT some nk5), jY, nW X XCT rfl rfl, CCT, xCT0⟩
  refine ⟨c0Q9, P0Q9, PySem.W.fnOf "law" "law" (aM eO) (aA eO) (ah eO) .none kV17 dc17 pm17 an17 cd17 ct17, tQ9, nQ9, fun s v => .of_eq rfl, fun base _ _ M => ?_⟩
  obtain ⟨h0, h1, h2, h3, h4, h5, h6, h7, h8, h9, h10, h11, h12, h13, h14, h15, _⟩ := hs
  have F_num := pQ (P := l.prog) (w := w) (base := base) (h0.df X G) T S
  have F_back := oq (P := l.prog) (w := w) (base := base) (h1.df X G) T
  have F_nb := qX (P := l.prog) (w := w) (base := base) (h5.df X G) T
  have F_can := pT (P := l.prog) (w := w) (base := base) (h4.df X G) T F_back F_nb
  have F_put := pU (P := l.prog) (w := w) (base := base) (h7.df X G) 
  have F_moved := mx (P := l.prog) (w := w) (base := base) (h6.df X G) T F_back F_nb
  have F_pslid := my (P := l.prog) (w := w) (base := base) (h2.df X G) T F_can F_moved (MCT _)
  have F_maps := oy (P := l.prog) (w := w) (base := base) (h3.df X G) T F_back F_can F_nb F_put (MCT _)
  have F_let := pV (P := l.prog) (w := w) (base := base) (h9.df X G) T S
  have F_issurf := j5 (P := l.prog) (w := w) (base := base) (h8.df X G) T ME F_let F_back
  have F_feed := oo (P := l.prog) (w := w) (base := base) (h10.df X G) T
  have F_draw := om (P := l.prog) (w := w) (base := base) (h11.df X G) T
  have F_lback := mr (P := l.prog) (w := w) (base := base) (h12.df X G) 
  have F_surf := oA (P := l.prog) (w := w) (base := base) (h13.df X G) T F_draw
  have F_slid := oB (P := l.prog) (w := w) (base := base) (h14.df X G) T F_lback
  have F_told := oC (P := l.prog) (w := w) (base := base) (h15.df X G) T TCL XCR
  have F_right := mJ (P := l.prog) (w := w) (base := base) (c0 := c0Q9) ⟨fQ9, _, _, _, _, _, _, _, _, rH X G aQ9, lQ9, cQ9, kQ9⟩ T M F_slid F_told F_pslid F_maps F_issurf
  exact pX (g9 l17 c17 k17) T F_feed F_draw F_surf F_right
theorem qZ {l : PySem.W.OpenLaw}{q : Program}{loose : List Str}{XP : (Str → Option Value) → Heap → Prop}{YP : World → Heap → Prop}{d : DefRec}{K : Params → PySem.W.Frag}(hn : l.most=some 63)(hdf : d.params.defaults=[])
    (hY : ∀ (w : World) (h : Heap), YP w h → (K w.params).In h) (hrec : ((recsOf q).find? (fun e => e.name == ("_law_right" : Str))).isSome=true)
    (F : ∀ (w : World) (mg : Str → Option Value) (fa : Addr) (h : Heap), (K w.params).In h → h.Ns mainGlobals mg → mg d.name=some (.ref fa) →
      ∃ (c0 P0 : Addr) (fd : FuncData), PySem.W.tabIn (K w.params) "_law_right" = some (c0, P0) ∧ (K w.params).lookup P0=none ∧ (∀ (s : Shared) (u : Value), BindsTo s fd ⟨[u], []⟩ [("_law_script", u)]) ∧ ∀ base : Heap, (K w.params).In base → base.Ns mainGlobals mg → Mkr base mg c0 P0 → fE l.prog w (K w.params) mg base CX0 9 fa fd ["_law_script"] (eN (K w.params) P0)) :
    PySem.W.WalkO q loose XP YP l.row.toRowW d [] (fun f vs => PySem.call f vs) := by
  obtain ⟨dt, hrec⟩ := uH.mp hrec
  exact L2.jW (n := 63) (k := 9) (x := "_law_script") (tn := "_law_right") (CX := fun _ => CX0) (sp := fun w P0 => eN (K w.params) P0) hn (by decide) hdf ⟨rfl, by decide, by decide, rfl⟩ hY hrec F (fun _ _ a P0 ns hl hT hS => ⟨a, ns, rfl, hS, hl, l_ hT, fun _ => rfl⟩) fun _ _ _ _ _ z => z
end Kx
namespace Kx
open PySem
def oG (s : String) : Str := ⟨⟨PySem.W.R.mapR Char.toNat (PySem.W.S.toListS s)⟩⟩
theorem j9 : Str.ofString=oG := by
  funext s
  rw [Str.ofString_eq_toList, PySem.W.S.toListS_eq]
  show _=(⟨⟨PySem.W.R.mapR Char.toNat (PySem.W.S.toListS s)⟩⟩ : Str)
  rw [← PySem.W.R.mapR_eq]
def apG (G : (String → Str) → Program)(x : String → Str) : Program := G x
def Gs : { G : (String → Str) → Program // apG G Str.ofString=PySem.Challenge.pw_ringwords_k62_slides } := by
  refine ⟨?G, ?h⟩
  case h =>
    delta PySem.Challenge.pw_ringwords_k62_slides
    generalize Str.ofString=x
    exact rfl
end Kx
def PySem.W.Fast.tw5703666925762994479 : PySem.Program := Kx.Gs.1 Kx.oG
theorem PySem.W.Fast.te5703666925762994479 : PySem.Challenge.pw_ringwords_k62_slides=PySem.W.Fast.tw5703666925762994479 := Kx.Gs.2.symm.trans (rT (Kx.apG Kx.Gs.1) Kx.j9)
theorem PySem.W.Fast.te7256205100361209355 : True := trivial
theorem PySem.W.Fast.tw17464342373077349730 : True := trivial
theorem PySem.W.Fast.tw16317143014217395658 : True := trivial
theorem PySem.W.Fast.tw8482939692687587988 : True := trivial
theorem PySem.W.Fast.tw17763788187871282635 : True := trivial
theorem PySem.W.Fast.tw4799789891327679878 : True := trivial
theorem PySem.W.Fast.tw18368110622095616400 : True := trivial
theorem PySem.W.Fast.tw9595218509829988681 : True := trivial
theorem PySem.W.Fast.tw7315616581770311348 : True := trivial
theorem PySem.W.Fast.tw7938122565152505709 : True := trivial
theorem PySem.W.Fast.tw14077592175563552192 : True := trivial
theorem PySem.W.Fast.tw2365601522013310063 : True := trivial
theorem PySem.W.Fast.tw4907205940965516167 : True := trivial
theorem PySem.W.Fast.tw8962198619637245716 : True := trivial
theorem PySem.W.Fast.tw12862944297646753617 : True := trivial
theorem PySem.W.Fast.tw12231577190676813482 : True := trivial
theorem PySem.W.Fast.tw15147574719955913899 : True := trivial
theorem PySem.W.Fast.tw14944860913095919292 : True := trivial
theorem PySem.W.Fast.tw5019404902697614380 : True := trivial
theorem PySem.W.Fast.tw942474479401307158 : True := trivial
theorem PySem.W.Fast.tw16693268774310977338 : True := trivial
theorem PySem.W.Fast.tw11448552611966319315 : True := trivial
theorem PySem.W.Fast.tw14684767676381124123 : True := trivial
theorem PySem.W.Fast.tw9193349095080385479 : True := trivial
theorem PySem.W.Fast.tw16795771984581685620 : True := trivial
theorem PySem.W.Fast.tw4251120712122244571 : True := trivial
theorem PySem.W.Fast.tw3645891829056370577 : True := trivial
theorem PySem.W.Fast.tw1566842425427307086 : True := trivial
theorem PySem.W.Fast.tw13675985485995535061 : True := trivial
theorem PySem.W.Fast.tw2076688314015345915 : True := trivial
theorem PySem.W.Fast.tw17500675249799555023 : True := trivial
theorem PySem.W.Fast.tw13370383145192327631 : True := trivial
theorem PySem.W.Fast.tw9097042669139787432 : True := trivial
theorem PySem.W.Fast.tw3478514840524958908 : True := trivial
theorem PySem.W.Fast.tw11568343768564343324 : True := trivial
theorem PySem.W.Fast.tw15047387612391110007 : True := trivial
theorem PySem.W.Fast.tw5511817195126313558 : True := trivial
theorem PySem.W.Fast.tw2486863440158060660 : True := trivial
theorem PySem.W.Fast.tw7924586894271647430 : True := trivial
theorem PySem.W.Fast.tw11570741421222245579 : True := trivial
theorem PySem.W.Fast.tw12133388658641260452 : True := trivial
theorem PySem.W.Fast.tw1320509263674265113 : True := trivial
theorem PySem.W.Fast.tw4908937777270578132 : True := trivial
theorem PySem.W.Fast.tw6203200732021962341 : True := trivial
theorem PySem.W.Fast.tw6653520443994074663 : True := trivial
theorem PySem.W.Fast.tw8043603429230326531 : True := trivial
theorem PySem.W.Fast.tw10797980618831443660 : True := trivial
theorem PySem.W.Fast.tw5740891129884346371 : True := trivial
theorem PySem.W.Fast.tw3817849951287072660 : True := trivial
theorem PySem.W.Fast.tw10772381899515182184 : True := trivial
theorem PySem.W.Fast.tw17087785051893255895 : True := trivial
theorem PySem.W.Fast.tw8964835423242790911 : True := trivial
theorem PySem.W.Fast.tw14569079501392890799 : True := trivial
theorem PySem.W.Fast.tw2703406429721277579 : True := trivial
theorem PySem.W.Fast.tw13943474937582867021 : True := trivial
theorem PySem.W.Fast.tw3742563570222784735 : True := trivial
theorem PySem.W.Fast.tw14264578811161744362 : True := trivial
theorem PySem.W.Fast.tw8220740592886890537 : True := trivial
theorem PySem.W.Fast.tw8099214873892539456 : True := trivial
theorem PySem.W.Fast.tw3835901926361474867 : True := trivial
theorem PySem.W.Fast.tw5558094388933305695 : True := trivial
theorem PySem.W.Fast.tw4510086426769628450 : True := trivial
theorem PySem.W.Fast.tw15440475942813738199 : True := trivial
theorem PySem.W.Fast.tw9220323637229806206 : True := trivial
theorem PySem.W.Fast.tw11788692524005704231 : True := trivial
theorem PySem.W.Fast.tw9820188425384753004 : True := trivial
theorem PySem.W.Fast.tw14795016175403268887 : True := trivial
theorem PySem.W.Fast.tw10732111774189868892 : True := trivial
theorem PySem.W.Fast.tw8409609650501064050 : True := trivial
theorem PySem.W.Fast.tw11803118981288136390 : True := trivial
theorem PySem.W.Fast.tw14072136223831816843 : True := trivial
theorem PySem.W.Fast.tw15781472795872083577 : True := trivial
theorem PySem.W.Fast.tw15397950387268935088 : True := trivial
theorem PySem.W.Fast.tw3193202483441130594 : True := trivial
theorem PySem.W.Fast.tw294980345848244893 : True := trivial
theorem PySem.W.Fast.tw10510945952876915798 : True := trivial
theorem PySem.W.Fast.tw2700680229927356797 : True := trivial
theorem PySem.W.Fast.tw15679762602562121796 : True := trivial
theorem PySem.W.Fast.tw12771052607815264153 : True := trivial
theorem PySem.W.Fast.tw18390034351176250413 : True := trivial
theorem PySem.W.Fast.tw5917476443337031230 : True := trivial
theorem PySem.W.Fast.tw4164672747410922090 : True := trivial
theorem PySem.W.Fast.tw9702329211596438331 : True := trivial
theorem PySem.W.Fast.tw6831553897285761997 : True := trivial
theorem PySem.W.Fast.tw3137498144973168227 : True := trivial
theorem PySem.W.Fast.tw15614376402114571091 : True := trivial
theorem PySem.W.Fast.tw3130359529803019395 : True := trivial
theorem PySem.W.Fast.tw7016791274406937298 : True := trivial
theorem PySem.W.Fast.tw2150001238890138504 : True := trivial
theorem PySem.W.Fast.tw6526247708566881999 : True := trivial
theorem PySem.W.Fast.tw10252348894877447095 : True := trivial
theorem PySem.W.Fast.tw15512245955985790248 : True := trivial
theorem PySem.W.Fast.tw15641024503450374119 : True := trivial
theorem PySem.W.Fast.tw12032907345132853852 : True := trivial
theorem PySem.W.Fast.tw5618627779935614853 : True := trivial
theorem PySem.W.Fast.tw16205879234735634512 : True := trivial
theorem PySem.W.Fast.tw18389480913406990925 : True := trivial
theorem PySem.W.Fast.tw14891464776359998973 : True := trivial
theorem PySem.W.Fast.tw5393273654848888770 : True := trivial
theorem PySem.W.Fast.tw10866247316826289046 : True := trivial
theorem PySem.W.Fast.tw16635940746101068276 : True := trivial
theorem PySem.W.Fast.tw286445703319167127 : True := trivial
theorem PySem.W.Fast.tw7641233283965190376 : True := trivial
theorem PySem.W.Fast.tw652035902001549093 : True := trivial
theorem PySem.W.Fast.tw13585589098625303334 : True := trivial
theorem PySem.W.Fast.tw16354228720457179280 : True := trivial
theorem PySem.W.Fast.tw9701248869196554002 : True := trivial
theorem PySem.W.Fast.tw8533564574765793592 : True := trivial
theorem PySem.W.Fast.tw7442268686304540747 : True := trivial
theorem PySem.W.Fast.tw346319455235052665 : True := trivial
theorem PySem.W.Fast.tw10189414731441214671 : True := trivial
theorem PySem.W.Fast.tw5305760686640626648 : True := trivial
theorem PySem.W.Fast.tw6114870640849147452 : True := trivial
theorem PySem.W.Fast.tw7850277081750807263 : True := trivial
theorem PySem.W.Fast.tw1395308604472981374 : True := trivial
theorem PySem.W.Fast.tw4449524218130250112 : True := trivial
theorem PySem.W.Fast.tw11500200228814488231 : True := trivial
theorem PySem.W.Fast.tw2901608116233757081 : True := trivial
theorem PySem.W.Fast.tw11568796586749209965 : True := trivial
theorem PySem.W.Fast.tw1043782407663775361 : True := trivial
theorem PySem.W.Fast.tw11468812971066370741 : True := trivial
theorem PySem.W.Fast.tw4171241175454528676 : True := trivial
theorem PySem.W.Fast.tw4885716322933223566 : True := trivial
theorem PySem.W.Fast.tw13051831093921238555 : True := trivial
theorem PySem.W.Fast.tw18387823839172244214 : True := trivial
theorem PySem.W.Fast.tw13257690554022025942 : True := trivial
theorem PySem.W.Fast.tw16445697783713270680 : True := trivial
theorem PySem.W.Fast.tw18388202014683120385 : True := trivial
theorem PySem.W.Fast.tw15580075724444954765 : True := trivial
theorem PySem.W.Fast.tw10389374875742985688 : True := trivial
theorem PySem.W.Fast.tw10176802779642931072 : True := trivial
theorem PySem.W.Fast.tw72181956102180385 : True := trivial
theorem PySem.W.Fast.tw2869416517231909125 : True := trivial
theorem PySem.W.Fast.tw6247047448425838039 : True := trivial
theorem PySem.W.Fast.tw13195404420400615372 : True := trivial
theorem PySem.W.Fast.tw6181822031002217510 : True := trivial
theorem PySem.W.Fast.tw5618391029772258303 : True := trivial
theorem PySem.W.Fast.tw13390695113275714682 : True := trivial
theorem PySem.W.Fast.tw5407674183884470409 : True := trivial
theorem PySem.W.Fast.tw4317165275201448984 : True := trivial
theorem PySem.W.Fast.tw17106671748891674892 : True := trivial
theorem PySem.W.Fast.tw8194309876802371916 : True := trivial
theorem PySem.W.Fast.tw11236029048817382725 : True := trivial
theorem PySem.W.Fast.tw11325418124083651460 : True := trivial
theorem PySem.W.Fast.tw65208804524945571 : True := trivial
theorem PySem.W.Fast.tw11445390554131701807 : True := trivial
theorem PySem.W.Fast.tw4516114452877776052 : True := trivial
theorem PySem.W.Fast.tw5959185396923245208 : True := trivial
theorem PySem.W.Fast.tw13191231246994103016 : True := trivial
theorem PySem.W.Fast.tw18402934656873950222 : True := trivial
theorem PySem.W.Fast.tw17351367985664518349 : True := trivial
theorem PySem.W.Fast.tw5217878954078883806 : True := trivial
theorem PySem.W.Fast.tw13206110945936178484 : True := trivial
theorem PySem.W.Fast.tw9515770890127919425 : True := trivial
theorem PySem.W.Fast.tw4401530880614941614 : True := trivial
theorem PySem.W.Fast.tw15698902596769859795 : True := trivial
theorem PySem.W.Fast.tw13808623978778610088 : True := trivial
theorem PySem.W.Fast.tw3741563345955317202 : True := trivial
theorem PySem.W.Fast.tw7474527670467959860 : True := trivial
theorem PySem.W.Fast.tw1560381835662940603 : True := trivial
theorem PySem.W.Fast.tw15284391059879468074 : True := trivial
theorem PySem.W.Fast.tw14518526717307581744 : True := trivial
theorem PySem.W.Fast.tw2490282137866513545 : True := trivial
theorem PySem.W.Fast.tw9275426290104159019 : True := trivial
theorem PySem.W.Fast.tw12728932028642110260 : True := trivial
theorem PySem.W.Fast.tw5035628551960746035 : True := trivial
theorem PySem.W.Fast.tw18418116219870570571 : True := trivial
theorem PySem.W.Fast.tw5062612917238847158 : True := trivial
theorem PySem.W.Fast.tw16354795978433145208 : True := trivial
theorem PySem.W.Fast.tw18129317796519282716 : True := trivial
theorem PySem.W.Fast.tw2706295632723667654 : True := trivial
theorem PySem.W.Fast.tw1358665471579095903 : True := trivial
theorem PySem.W.Fast.tw11205467632715961449 : True := trivial
theorem PySem.W.Fast.tw3381148283059110274 : True := trivial
theorem PySem.W.Fast.tw5862296733658282706 : True := trivial
theorem PySem.W.Fast.tw12481780084670157901 : True := trivial
theorem PySem.W.Fast.tw9778579234486945703 : True := trivial
theorem PySem.W.Fast.tw13962705110220753555 : True := trivial
theorem PySem.W.Fast.tw1534888212693681591 : True := trivial
theorem PySem.W.Fast.tw1878624017339172233 : True := trivial
theorem PySem.W.Fast.tw11726315847196316168 : True := trivial
theorem PySem.W.Fast.tw11196413458636603726 : True := trivial
theorem PySem.W.Fast.tw10631067675193532231 : True := trivial
theorem PySem.W.Fast.tw15743810839138317332 : True := trivial
theorem PySem.W.Fast.tw13174345758453116647 : True := trivial
theorem PySem.W.Fast.tw10007762405050031220 : True := trivial
theorem PySem.W.Fast.tw13287585135756064984 : True := trivial
theorem PySem.W.Fast.tw1141715037710289152 : True := trivial
theorem PySem.W.Fast.tw9908333937258160477 : True := trivial
theorem PySem.W.Fast.tw12340627848989159030 : True := trivial
theorem PySem.W.Fast.tw7454415266047437403 : True := trivial
theorem PySem.W.Fast.tw2466579410273615265 : True := trivial
theorem PySem.W.Fast.tw851709829290333558 : True := trivial
theorem PySem.W.Fast.tw15476690262604495104 : True := trivial
theorem PySem.W.Fast.tw14605351600159069699 : True := trivial
theorem PySem.W.Fast.tw1100905807989200649 : True := trivial
theorem PySem.W.Fast.tw13213947810906131467 : True := trivial
theorem PySem.W.Fast.tw11418787651120898523 : True := trivial
theorem PySem.W.Fast.tw4765941608591272961 : True := trivial
theorem PySem.W.Fast.tw7472199254435822852 : True := trivial
theorem PySem.W.Fast.tw17849736731912459199 : True := trivial
theorem PySem.W.Fast.tw16805798974031324287 : True := trivial
theorem PySem.W.Fast.tw4166175702232460775 : True := trivial
theorem PySem.W.Fast.tw2459783779994181269 : True := trivial
theorem PySem.W.Fast.tw10606953266836643207 : True := trivial
theorem PySem.W.Fast.tw4454542494867758214 : True := trivial
theorem PySem.W.Fast.tw7508683087547321143 : True := trivial
theorem PySem.W.Fast.tw5022236666883942144 : True := trivial
theorem PySem.W.Fast.tw627531245312162801 : True := trivial
theorem PySem.W.Fast.tw11141179625012202594 : True := trivial
open PySem PySem.W PyProof.Rows
set_option maxRecDepth 100000 in
set_option maxHeartbeats 0 in
theorem PySem.Challenge.cw_ringwords_k62_slides_holds : PySem.Challenge.rw_ringwords_k62_slides.Holds := by
  w_on; o_law; k_head; (case hw => w_witness2)
  k_fill
  refine Kx.qZ (l := PySem.Challenge.rw_ringwords_k62_slides) rfl rfl (fun w h Y => PySem.W.km_in_of Y) ?R ?F
  case R => first | rfl | kernel_rfl
  case F =>
    intro w mg fa h KX G hmg
    refine' Kx.oF KX G hmg ?hs ?aQ9 ?lQ9 ?cQ9 ?kQ9 ?tQ9 ?nQ9 ?a17 ?l17 ?c17 ?k17 ?z_len ?z_repr ?z_abs ?z_max ?z_int ?z_list ?z_range ?z_reversed ?z_min ?z_sorted ?z_tuple ?z_isinstance ?z_all ?z_str ?z_zip ?aBk ?lB ?kB ?aS ?aE ?zV ?aCR ?lCR ?mCR ?eCR ?dCR ?kCR ?saCR ?gaCR ?gnCR ?caCR ?nCR ?oCR ?pCR ?qCR ?rdCR ?atCR ?gtCR ?hdI ?cgt ?ctk ?aCT ?lCT ?mCT ?eCT ?dCT ?kCT ?saCT ?gaCT ?gnCT ?caCT ?xCT0 ?iCT ?uCT ?vCT ?wCT ?jCT ?ak0 ?ak1 ?ak2 ?ak3 ?ak4 ?ak5 ?lk0 ?nk0 ?lk1 ?nk1 ?lk2 ?nk2 ?lk3 ?nk3 ?lk4 ?nk4 ?lk5 ?nk5 ?gl0 ?gl1 ?gl2 ?gl3 ?gl4 ?gl5 ?gl6 ?gl7 ?gl8 ?gl9 ?gl10 ?gl11
    (case hs => (iterate 16 (refine' Kx.DIs.on ?_ ?_ ?_ ?_ ?_; rotate_left 10; k_is; k_is; k_is; k_is)); exact trivial)
    (case aQ9 => k_is)
    (case lQ9 => k_is)
    (case cQ9 => k_is)
    (case kQ9 => k_is)
    (case tQ9 => first | rfl | k_is)
    (case nQ9 => first | rfl | k_is)
    (case a17 => k_is)
    (case l17 => k_is)
    (case c17 => k_is)
    (case k17 => k_is)
    (case z_len => k_is)
    (case z_repr => k_is)
    (case z_abs => k_is)
    (case z_max => k_is)
    (case z_int => k_is)
    (case z_list => k_is)
    (case z_range => k_is)
    (case z_reversed => k_is)
    (case z_min => k_is)
    (case z_sorted => k_is)
    (case z_tuple => k_is)
    (case z_isinstance => k_is)
    (case z_all => k_is)
    (case z_str => k_is)
    (case z_zip => k_is)
    (case aBk => k_is)
    (case lB => k_is)
    (case kB => exact ⟨⟨_, _, rfl, rfl⟩, ⟨_, _, rfl, rfl⟩, ⟨_, _, rfl, rfl⟩, ⟨_, _, rfl, rfl⟩, ⟨_, _, rfl, rfl⟩, ⟨_, _, rfl, rfl⟩, ⟨_, _, rfl, rfl⟩, ⟨_, _, rfl, rfl⟩, ⟨_, _, rfl, rfl⟩, ⟨_, _, rfl, rfl⟩, ⟨_, _, rfl, rfl⟩, ⟨_, _, rfl, rfl⟩, trivial⟩)
    (case aS => k_is)
    (case aE => k_is)
    (case zV => k_is)
    (case aCR => k_is)
    (case lCR => k_is)
    (case mCR => rfl)
    (case eCR => rfl)
    (case dCR => rfl)
    (case kCR => k_is)
    (case saCR => k_is)
    (case gaCR => k_is)
    (case gnCR => k_is)
    (case caCR => k_is)
    (case nCR => rfl)
    (case oCR => k_is)
    (case pCR => rfl)
    (case qCR => k_is)
    (case rdCR => k_is)
    (case atCR => k_is)
    (case gtCR => k_is)
    (case hdI => rfl)
    (case cgt => k_is)
    (case ctk => k_is)
    (case aCT => k_is)
    (case lCT => k_is)
    (case mCT => rfl)
    (case eCT => rfl)
    (case dCT => rfl)
    (case kCT => k_is)
    (case saCT => k_is)
    (case gaCT => k_is)
    (case gnCT => k_is)
    (case caCT => k_is)
    (case xCT0 => k_is)
    (case iCT => k_is)
    (case uCT => k_is)
    (case vCT => k_is)
    (case wCT => k_is)
    (case jCT => k_is)
    (case ak0 => k_is)
    (case ak1 => k_is)
    (case ak2 => k_is)
    (case ak3 => k_is)
    (case ak4 => k_is)
    (case ak5 => k_is)
    (case lk0 => k_is)
    (case nk0 => rfl)
    (case lk1 => k_is)
    (case nk1 => rfl)
    (case lk2 => k_is)
    (case nk2 => rfl)
    (case lk3 => k_is)
    (case nk3 => rfl)
    (case lk4 => k_is)
    (case nk4 => rfl)
    (case lk5 => k_is)
    (case nk5 => rfl)
    (case gl0 => k_is)
    (case gl1 => k_is)
    (case gl2 => k_is)
    (case gl3 => k_is)
    (case gl4 => k_is)
    (case gl5 => k_is)
    (case gl6 => k_is)
    (case gl7 => k_is)
    (case gl8 => k_is)
    (case gl9 => k_is)
    (case gl10 => k_is)
    (case gl11 => k_is)
end
