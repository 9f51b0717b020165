import PyProof.Rows.All
import Wide.All
import OpenK.AllK
import Wide.FinOn
import Lean
import PyProof.EqAt
import PyProof.EqKinds
import PyProof.TupleCall
import KE.KRevIter
import PyProof.Rows.SortShellK
import PyProof.FString5
import PyProof.NeData
import PyProof.TupleOfStr
import PyProof.IsRules
import PyProof.ListRange
import PyProof.FactsAll.tuple_3
import PyProof.ExcInit
import PyProof.InstStoreFacts
import PyProof.NsDelKeeps
import PyProof.ListMulRoad
import PyProof.FactsAll.tuple_2
import PySem.Challenge.RW_ringwords_k13_nothing_papers
set_option Elab.async false
set_option linter.all false
set_option maxRecDepth 100000
set_option maxHeartbeats 0
noncomputable section
def fu:=@PySem.wpAny_bind
def BB:=@List.length_append
def BC:=@List.getElem?_eq_getElem
def BD:=@PySem.Heap.get?_push_of_some
def BE:=@List.mem_singleton
def BF:=@List.getElem?_eq_some_iff
def BG:=@Nat.le_refl
def BH:=@PySem.wpAny_pure
def BI:=@decide_eq_false
def BJ:=@List.length_take
def BK:=@List.length_map
def BL:=@Array.length_toList
def BM:=@decide_eq_true
def BN:=@List.mem_append_right
def BO:=@List.append_assoc
def BP:=@PySem.boot_len
def BQ:=@Int.toNat_natCast
def BR:=@List.mem_append
def BS:=@PyProof.Rows.wpS_bind
def BU:=@PySem.Heap.lt_size
def BV:=@List.take_of_length_le
def BW:=@Option.some.inj
def BX:=@Nat.lt_of_lt_of_le
def BY:=@PyProof.Rows.wpS_pure
def BZ:=@List.mem_cons_of_mem
def B0:=@List.length_drop
def B2:=@List.mem_cons
def B3:=@Bool.false_ne_true
def B4:=@List.size_toArray
def B5:=@PySem.Heap.get?_push_size
def B6:=@List.length_cons
def B7:=@List.getElem?_map
def B8:=@List.mem_of_getElem?
def B9:=@Int.eq_ofNat_of_zero_le
def B_:=@List.take_append_drop
def Ca:=@List.mem_cons_self
def Cb:=@List.mem_append_left
def Cc:=@Bool.false_eq_true
def Cd:=@List.not_mem_nil
def Ce:=@PySem.PassesOwn.never
def Cf:=@PySem.Txt.slice_le
def Cg:=@PySem.W.mg_none_of
def Ci:=@congrArg
def Cj:=@List.getElem?_append_right
def Ck:=@PySem.Heap.get?_update_other
def Cm:=@PySem.W.mg_of
def Cn:=@Nat.le_trans
def Co:=@Nat.lt_irrefl
def Cp:=@PySem.wpAny_field
def Cq:=@List.map_cons
def Cr:=@Nat.ne_of_lt
def Cs:=@Array.getElem?_eq_some_iff
def Ct:=@List.drop_eq_getElem_cons
def Cu:=@List.take_add_one
def Cv:=@PySem.wpAny_loadPart_at
def Cw:=@Bool.and_eq_true
def Cy:=@List.map_append
def Cz:=@PySem.F.slot_list_append
def CA:=@List.getElem_mem
def CB:=@PySem.wpAny_mono
def CC:=@Nat.zero_le
def CD:=@PyProof.Rows.slot_tuple_getitem
def CF:=@PySem.wpAny_newObj_type
def CG:=@PySem.Obj.data_mapFields
def CH:=@PySem.Heap.get?_update_self
def CI:=@PyProof.Rows.wpS_forRange
def CJ:=@PySem.wpAny_callSpecial?_slot
def CK:=@List.length_nil
def CL:=@List.getElem?_append_left
def CM:=@List.flatten_cons
def CN:=@List.mem_map
def CO:=@List.getElem?_take_of_lt
def CQ:=@PySem.W.kia_one
def CS:=@List.length_singleton
def CU:=@PySem.Obj.isFreed_of_fields
def CV:=@List.getElem?_eq_none
def CW:=@List.length_pos_iff
def CY:=@Array.getElem?_toList
def CZ:=@Array.getElem?_setIfInBounds_ne
def C0:=@List.getElem?_of_mem
def C1:=@List.getElem?_drop
def C2:=@PySem.F.plainAttrs_str
def C3:=@PyProof.Rows.KeyOrd.kle_refl
def C4:=@PySem.wpAny_call_entry
def C5:=@List.length_replicate
def C6:=@decide_eq_true_eq
def C7:=@PySem.F.type_list_append
def C8:=@Bool.false_and
def C9:=@PySem.wpAny_setField
def C_:=@if_false
def Da:=@PySem.wpAny_holding
def Dc:=@Bool.true_and
def Dd:=@PySem.F.plainAttrs_list
def De:=@Array.toList_extract
def Dg:=@List.mem_of_mem_take
def Dh:=@Nat.min_eq_right
def Di:=@PySem.sizeLine_eq
def Dj:=@PySem.mem_of_lookup
def Dk:=@List.replicate_succ
def Dl:=@PySem.wpAny_isSubtype_exc
def Dm:=@List.Perm.append_left
def Dn:=@PySem.wpAny_Call_Name_kw
def Do:=@or_false
def Dp:=@List.mem_of_mem_drop
def Dq:=@PyProof.Rows.wpS_mono
def Dr:=@beq_eq_false_iff_ne
def Ds:=@PyProof.Rows.callWith_type1
def Du:=@Bool.eq_iff_iff
def Dv:=@Nat.min_eq_left
def Dw:=@List.drop_eq_nil_of_le
def Dx:=@if_true
def Dy:=@PySem.F.slot_tuple_iterator_next
def Dz:=@beq_iff_eq
def DA:=@List.cons_prefix_cons
def DB:=@List.perm_append_comm
def DC:=@Array.getElem?_eq_getElem
def DE:=@PySem.wpAny_execs_nil
def DF:=@PySem.wpAny_passesOwn
def DG:=@List.any_eq_false
def DH:=@List.append_nil
def DJ:=@List.nil_prefix
def DK:=@PySem.wpAny_getItem_str_slice
def DM:=@Nat.add_sub_cancel_left
def DN:=@List.flatten_append
def DO:=@List.lookup_cons
def DP:=@List.drop_length
def DQ:=@List.any_eq_true
def DR:=@PyProof.Rows.KeyOrd.kle_trans
def DS:=@List.getElem?_set_self
def DT:=@PySem.wpAny_pyIter_tuple
def DU:=@List.pairwise_cons
def DV:=@List.contains_cons
def DW:=@List.nodup_cons
def DX:=@List.find?_cons
def DY:=@PySem.builtinLookup_eq_fast
def DZ:=@PySem.wpAny_truthy_bool
def D0:=@List.reverse_cons
def D1:=@PySem.wpAny_standAt
def D2:=@PySem.wpAny_attempt
def D3:=@PySem.Obj.cls_mapFields
def D4:=@PyProof.Rows.KeyOrd.kle_of_klt
def D5:=@Array.toList_push
def D6:=@Array.perm_iff_toList_perm
def D7:=@List.getElem?_set_ne
def D8:=@PySem.W.looks_findIn
def D9:=@PySem.wpAny_execs_cons
def D_:=@List.all_eq_true
def Ea:=@beq_self_eq_true
def Eb:=@List.take_length
def Ec:=@decide_eq_decide
def Ed:=@List.length_reverse
def Ee:=@PySem.codeAny_mono
def Ef:=@Option.isSome_iff_exists
def Eg:=@PySem.F.args_tuple_add_2
def Eh:=@List.map_nil
def Ei:=@PySem.wpAny_rule
def Ej:=@PyProof.Rows.wpS_modify
def Ek:=@PySem.W.callWith_K
def Em:=@PySem.F.entry_tuple_add
def En:=@Int.emod_lt_of_pos
def Eo:=@Bool.not_true
def Ep:=@PyProof.Rows.KK_mirror_equal
def Er:=@PySem.W.cellsFrom_some
def Es:=@PySem.F.slot_tuple_add
def Et:=@List.Perm.append_right
def Eu:=@List.drop_of_length_le
def Ew:=@List.flatten_singleton
def Ex:=@PySem.wpAny_call
def Ey:=@PySem.call_meets
def Ez:=@PySem.wpAny_pyIter_enum
def EA:=@PySem.plainObj_wpAny_Assign_Attribute
def EB:=@List.mem_range
def EC:=@PySem.Heap.size_push
def ED:=@List.drop_zero
def EE:=@Bool.and_false
def EF:=@PyProof.Rows.callWith_builtin1
def EG:=@List.map_map
def EH:=@Int.zero_add
def EI:=@List.eq_nil_of_length_eq_zero
def EJ:=@List.take_prefix
def EK:=@PySem.F.args_list_append_2
def EL:=@PySem.codeAny_call_builtin
def EM:=@List.all_cons
def EN:=@List.any_cons
def EO:=@PySem.F.args_tuple_iterator_next_1
def ER:=@List.filterMap_cons
def ES:=@List.of_mem_zip
def ET:=@PyProof.Rows.entry_tuple_getitem
def EU:=@PySem.F.entry_list_append
def EV:=@PySem.F.slot_int_rmul
def EW:=@Nat.le_succ
def EX:=@PySem.post_val_or_str
def EY:=@PySem.typeLookup_type
def EZ:=@PySem.wpAny_of_eq
def E1:=@PySem.Heap.SameBut.update
def E2:=@Int.emod_nonneg
def E3:=@PySem.F.entry_tuple_iterator_next
def E4:=@PyProof.Rows.wpS_get
def E5:=@Array.toList_append
def E6:=@List.getElem?_range
def E7:=@List.flatMap_append
def E8:=@PySem.Calls.Name_function_global
def E9:=@PySem.wpAny_newFunctionEnv_cells
def E_:=@List.getD_eq_getElem?_getD
def Fb:=@Array.toList_setIfInBounds
def Fc:=@PySem.F.excBase_ValueError
def Fe:=@PyProof.Rows.args_tuple_getitem
def Ff:=@Nat.le_of_eq
def Fg:=@List.getElem?_take
def Fh:=@Bool.or_true
def Fi:=@PyProof.Rows.slicePart_none
def Fj:=@PySem.wpAny_binaryOp_repeat_ref
def Fk:=@PySem.isSubtype_type
def Fl:=@List.pairwise_iff_getElem
def Fm:=@List.Perm.refl
def Fn:=@PySem.codeAny_handlers_suite_as
def Fo:=@PySem.wpAny_pyIter_list
def Fp:=@PySem.wpAny_sequenceKey
def Fq:=@PySem.typeIs_str
def Fs:=@PySem.list_append
def Ft:=@of_decide_eq_true
def Fu:=@PySem.wpAny_comprehension_free
def Fv:=@PySem.EqBoolInt.of_rcne
def Fw:=@List.prefix_iff_getElem?
def Fx:=@PySem.F.store_ValueError
def Fy:=@Array.size_setIfInBounds
def Fz:=@Bool.eq_false_iff
def FF:=@PySem.Paired.length
def FG:=@PySem.wpAny_newList
def FH:=@List.pairwise_singleton
def FI:=@List.length_eq_zero_iff
def FJ:=@List.cons.inj
def FK:=@List.prefix_iff_eq_take
def FL:=@PySem.noFill_tuple_add
def FM:=@PySem.IsL.update
def FN:=@List.length_pos_of_mem
def FO:=@PySem.F.slot_str_lower
def FP:=@PySem.F.type_str_lower
def FQ:=@PySem.F.slot_str_upper
def FR:=@PySem.F.type_str_upper
def FS:=@PySem.wpAny_typeOf
def FT:=@List.foldl_cons
def FU:=@PySem.wpAny_specialOf
def FV:=@Nat.sub_zero
def FW:=@Nat.le_total
def FY:=@Array.Perm.refl
def F_:=@PyProof.Rows.Subscript_
def Ga:=@PySem.typeIs_int
def Gb:=@Nat.not_lt
def Gc:=@PyProof.Rows.wpS_lift
def Ge:=@List.take_left
def Gf:=@PySem.wpAny_throw
def Gg:=@Bool.or_false
def Gh:=@List.map_take
def Gi:=@List.map_drop
def Gj:=@Nat.add_assoc
def Gk:=@Nat.le_of_lt
def Gm:=@Nat.ne_of_gt
def Gn:=@Nat.zero_add
def Gp:=@Nat.sub_self
namespace L2
open PySem PySem.Spec PyProof.Rows
abbrev Key:=Sum Int Str
def lJ:Key→Value→Bool
 | .inl k,v=>Value.isInt k v
 | .inr x,v=>Value.isStrOf x v
def AV (w:World):Key→Int
 | .inl k=>hashInt k
 | .inr x=>hashStr w x
theorem bu:∀ {k:Key} {v:Value},lJ k v=true→(∃ i t,k=Sum.inl i∧v=Value.int i t) ∨ (∃ x t,k=Sum.inr x∧v=Value.str x t)
 | .inl i,v,h=>by
  obtain ⟨t,e⟩:=Value.isInt_shape (k:=i) (v:=v) h
  exact .inl ⟨i,t,rfl,e⟩
 | .inr x,v,h=>by
  obtain ⟨t,e⟩:=Value.isStrOf_shape (x:=x) (v:=v) h
  exact .inr ⟨x,t,rfl,e⟩
theorem mh (i:Int)(t:Tok):lJ (.inl i) (.int i t)=true:=by simp [lJ,Value.isInt]
theorem mi (x:Str)(t:Tok):lJ (.inr x) (.str x t)=true:=by simp [lJ,Value.isStrOf]
theorem wq (a b:Int):decide ((Sum.inl a:Key)=Sum.inl b)=(a == b):=by
 by_cases e:a=b
 ·subst e;simp
 ·have h:¬ (Sum.inl a:Key)=Sum.inl b:=fun q=>e (Sum.inl.inj q)
  rw [BI h]
  exact (Dr.mpr e).symm
theorem wu (a b:Str):decide ((Sum.inr a:Key)=Sum.inr b)=decide (a=b):=by
 by_cases e:a=b
 ·subst e;simp
 ·have h:¬ (Sum.inr a:Key)=Sum.inr b:=fun q=>e (Sum.inr.inj q)
  rw [BI h,BI e]
theorem wx (a:Int)(b:Str):decide ((Sum.inl a:Key)=Sum.inr b)=false:=BI (fun q=>nomatch q)
theorem wz (a:Str)(b:Int):decide ((Sum.inr a:Key)=Sum.inl b)=false:=BI (fun q=>nomatch q)
def bG (prog:Program)(w:World):PySem.KeyKind prog w Key where
 is:=lJ
 hash:=AV w
 inj:=fun v a b ha hb=>by
  rcases bu ha with ⟨i,t,rfl,rfl⟩ | ⟨x,t,rfl,rfl⟩
  ·rcases bu hb with ⟨j,u,rfl,e⟩ | ⟨y,u,rfl,e⟩
   ·injection e with e1 _;rw [e1]
   ·exact nomatch e
  ·rcases bu hb with ⟨j,u,rfl,e⟩ | ⟨y,u,rfl,e⟩
   ·exact nomatch e
   ·injection e with e1 _;rw [e1]
 byValue:=fun k v h=>by
  rcases bu h with ⟨i,t,rfl,rfl⟩ | ⟨x,t,rfl,rfl⟩ <;> rfl
 pyHash:=fun hv h=>by
  rcases bu hv with ⟨i,t,rfl,rfl⟩ | ⟨x,t,rfl,rfl⟩
  ·exact wpAny_pyHash_int h
  ·exact wpAny_pyHash_str h
 eqBool:=fun hu hv h=>by
  rcases bu hu with ⟨i,t,rfl,rfl⟩ | ⟨x,t,rfl,rfl⟩
  ·rcases bu hv with ⟨j,u,rfl,rfl⟩ | ⟨y,u,rfl,rfl⟩
   ·rw [wq] at h;exact wpAny_eqBool_int h
   ·rw [wx] at h;exact SeqAt.EqAt.int_str i t y u _ _ _ _ h
  ·rcases bu hv with ⟨j,u,rfl,rfl⟩ | ⟨y,u,rfl,rfl⟩
   ·rw [wz] at h;exact SeqAt.EqAt.str_int x t j u _ _ _ _ h
   ·rw [wu] at h;exact wpAny_eqBool_str h
 «strs»:=fun k x t v h=>by
  rcases bu h with ⟨i,u,rfl,e⟩ | ⟨y,u,rfl,e⟩
  ·exact nomatch e
  ·injection e with e1 _
   subst e1
   cases v <;> rfl
theorem jz (prog:Program)(w:World)(i:Int)(t:Tok):(bG prog w).is (.inl i) (.int i t)=true:=mh i t
theorem jA (prog:Program)(w:World)(x:Str)(t:Tok):(bG prog w).is (.inr x) (.str x t)=true:=mi x t
inductive V where
 | non | bl (b:Bool) | int (i:Int) | str (x:Str) | byt (b:Array UInt8) | flt (b:UInt64) | ref (a:Addr) | ty (n:String)
 deriving DecidableEq
def bH:V→Value→Prop
 | .non,u=>u=Value.none
 | .bl b,u=>u=Value.bool b
 | .int i,u=>∃ t,u=Value.int i t
 | .str x,u=>∃ t,u=Value.str x t
 | .byt b,u=>∃ t,u=Value.bytes b t
 | .flt b,u=>∃ t,u=Value.float b t
 | .ref a,u=>u=Value.ref a
 | .ty n,u=>u=Value.type n
abbrev bo:List V→List Value→Prop:=Paired bH
theorem bo.length {xs:List V}{us:List Value}(r:bo xs us):xs.length=us.length:=FF r
theorem bo.get:∀ {xs:List V} {us:List Value} {i:Nat} {x:V},bo xs us→xs[i]? = some x→∃ u,us[i]? = some u∧bH x u
 | _,_,_,_,.nil,e=>by simp at e
 | _,_,0,_,.cons r _,e=>by simp at e;subst e;exact ⟨_,rfl,r⟩
 | _,_,i+1,x,.cons _ t,e=>by
  obtain ⟨u,h1,h2⟩:=bo.get (i:=i) (x:=x) t (by simpa using e)
  exact ⟨u,by simpa using h1,h2⟩
theorem bo.append:∀ {xs ys:List V} {us ws:List Value},bo xs us→bo ys ws→bo (xs++ys) (us++ws)
 | _,_,_,_,.nil,s=>s
 | _,_,_,_,.cons r t,s=>.cons r (bo.append t s)
theorem bo.take:∀ {xs:List V} {us:List Value} (n:Nat),bo xs us→bo (xs.take n) (us.take n)
 | _,_,0,_=>.nil
 | _,_,_+1,.nil=>.nil
 | _,_,n+1,.cons r t=>.cons r (bo.take n t)
theorem bo.drop:∀ {xs:List V} {us:List Value} (n:Nat),bo xs us→bo (xs.drop n) (us.drop n)
 | _,_,0,r=>r
 | _,_,_+1,.nil=>.nil
 | _,_,n+1,.cons _ t=>bo.drop n t
def jw:Option V→Option Value→Prop
 | some v,some u=>bH v u
 | none,none=>True
 | _,_=>False
def KV {κ:Type}:List (κ × V)→List (κ × Value)→Prop:=Paired fun (p:κ × V) (q:κ × Value)=>p.1=q.1∧bH p.2 q.2
def kV:Key→V
 | .inl i=>.int i
 | .inr x=>.str x
inductive HO where
 | lst (xs:List V)
 | tup (xs:List V)
 | dK (G_:List (Key × V)) | dT (G_:List (List Key × V))
 | set (S:Int→Bool) (n:Nat)
 | ins (C dx:Addr) (fs:List (Str × V))
 | own (x:Addr)
 | xd (fs:List (Str × V))
 | met (f x:Addr)
 | rng (lo hi:Int)
 | frz (o:Obj) (u:HO)
 | tbl (ps:Array Value)
 | ext (φ:Heap→Prop)
abbrev Hp:=Addr→Option HO
def upd (H:Hp)(a:Addr)(o:HO):Hp:=fun b=>if b=a then some o else H b
theorem af {H:Hp}{a:Addr}{o:HO}:upd H a o a=some o:=by unfold upd; rw [if_pos rfl]
theorem ay {H:Hp}{a b:Addr}{o:HO}(h:b≠a):upd H a o b=H b:=by unfold upd; rw [if_neg h]
theorem b_ {H:Hp}{a:Addr}{o u:HO}:upd (upd H a o) a u=upd H a u:=by
 funext b;unfold upd;split <;> rfl
theorem gG {H:Hp}{a b:Addr}{o u:HO}(h:H a=some o)(h':H b=some u)(d:o≠u):a≠b:=by
 intro e;subst e;rw [h] at h';exact d (BW h')
theorem aE {H:Hp}{a b:Addr}{o:HO}(h:H a=some o)(h':H b=none):a≠b:=by
 intro e;subst e;rw [h] at h';cases h'
section
variable (P:Program) (w:World)
def NoD (h:Heap)(a:Addr):Prop:=∃ o,h.get? a=some o∧o.dict=none
theorem NoD.new (h:Heap)(o:Obj)(e:o.dict=none)(hf:o.isFreed=false:=by rfl):NoD (h.push o) h.objs.size:=⟨o,B5 _ hf,e⟩
def bK (H:Hp)(h:Heap)(a:Addr):HO→Prop
 | .lst xs=>xs.length≤sizeLine∧∃ (its:List Value) (n:Nat),bo xs its∧h.get? a=some { cls:=.type "list",data:=.seq its.toArray n }
 | .tup xs=>xs.length≤sizeLine∧∃ its:List Value,bo xs its∧IsTup h a its.toArray∧NoD h a
 | .dK G_=>G_.length≤sizeLine∧(a == sysModules)=false∧∃ vs,KV G_ vs∧h.DictOf (bG P w) a vs
 | .dT G_=>G_.length≤sizeLine∧(a == sysModules)=false∧∃ xs:List (List Key × Addr × Value),
   Paired (fun (p:List Key × V) (q:List Key × Addr × Value)=>p.1=q.1∧H q.2.1=some (.tup (p.1.map kV))∧bH p.2 q.2.2) G_ xs ∧
   ∃ o es ep,h.get? a=some o∧o.ExactDict∧o.data = .dict es ep∧es.toList=xs.map (entryOfKey (tupleKind (bG P w)))∧(xs.map (·.1)).Nodup
 | .set S n=>h.SetOf (intKind P w) a S n
 | .ins C dx fs=>H dx=some (.own a)∧fs.length≤1000∧dx≠a∧h.get? a=some (PySem.W.instObj C dx) ∧
   ∃ mA,h.Ns1 dx mA∧(∀ f,jw (fs.lookup f) (mA f))∧PySem.Within mA (fs.map (·.1))
 | .own _=>∃ o,h.get? a=some o
 | .xd fs=>∃ mA,h.Ns1 a mA∧∀ f,jw (fs.lookup f) (mA f)
 | .rng lo hi=>∃ t u v,h.get? a=some { cls:=.type "range",data:=.fields #[.int lo t,.int hi u,.int 1 v] }
 | .frz o u=>h.get? a=some o∧bK H h a u
 | .tbl ps=>h.get? a=some { cls:=.none,data:=.fields ps }
 | .met f x=>h.get? a=some (PySem.W.methodObj (.ref f) (.ref x))
 | .ext φ=>φ h∧(∃ o,h.get? a=some o)∧∀ h1 h2:Heap,φ h1→(∀ o,h1.get? a=some o→h2.get? a=some o)→φ h2
def HOk (H:Hp)(h:Heap):Prop:=∀ a o,H a=some o→bK P w H h a o
end
section
variable {P:Program} {w:World} {H H':Hp} {h h':Heap} {a:Addr} {o:HO}
theorem bK.lt (x:bK P w H h a o):a < h.objs.size:=by
 cases o with
 | lst xs=>obtain ⟨_,_,_,_,e⟩:=x;exact BU e
 | tup xs=>obtain ⟨_,_,_,p,_⟩:=x;exact p.lt
 | dK G_=>obtain ⟨_,_,_,_,o,_,_,e,_⟩:=x;exact BU e
 | dT G_=>obtain ⟨_,_,_,_,o,_,_,e,_⟩:=x;exact BU e
 | set S n=>obtain ⟨o,_,_,_,e,_⟩:=x;exact BU e
 | ins C dx fs=>obtain ⟨_,_,_,e,_⟩:=x;exact BU e
 | own y=>obtain ⟨_,e⟩:=x;exact BU e
 | xd fs=>obtain ⟨_,⟨_,_,_,e,_⟩,_⟩:=x;exact BU e
 | rng lo hi=>obtain ⟨_,_,_,e⟩:=x;exact BU e
 | frz ob u=>obtain ⟨e,_⟩:=x;exact BU e
 | tbl ps=>exact BU (show h.get? a=some _ from x)
 | met f y=>exact BU (show h.get? a=some _ from x)
 | ext φ=>obtain ⟨_,⟨_,e⟩,_⟩:=x;exact BU e
theorem Paired.mapP {α β:Type}{F G:α→β→Prop}:∀ {l₁:List α} {l₂:List β},Paired F l₁ l₂→(∀ a b,F a b→G a b)→Paired G l₁ l₂
 | _,_,.nil,_=>.nil
 | _,_,.cons r t,f=>.cons (f _ _ r) (Paired.mapP t f)
theorem bK.stay (x:bK P w H h a o)(k:∀ b u,(b=a ∨ H b=some (.own a))→h.get? b=some u→h'.get? b=some u)
  (ho:∀ b,H b=some (.own a)→H' b=some (.own a)) (ht:∀ b xs,H b=some (.tup xs)→H' b=some (.tup xs)):bK P w H' h' a o:=by
 induction o with
 | lst xs=>obtain ⟨z,its,n,r,e⟩:=x;exact ⟨z,its,n,r,k _ _ (.inl rfl) e⟩
 | tup xs=>obtain ⟨z,its,r,⟨ob,e,c⟩,o2,e2,c2⟩:=x;exact ⟨z,its,r,⟨ob,k _ _ (.inl rfl) e,c⟩,o2,k _ _ (.inl rfl) e2,c2⟩
 | dK G_=>obtain ⟨z,y,vs,r,ob,es,ep,e,c⟩:=x;exact ⟨z,y,vs,r,ob,es,ep,k _ _ (.inl rfl) e,c⟩
 | dT G_ =>
  obtain ⟨z,y,xs,r,ob,es,ep,e,c⟩:=x
  exact ⟨z,y,xs,Paired.mapP r fun p q z=>⟨z.1,ht _ _ z.2.1,z.2.2⟩,ob,es,ep,k _ _ (.inl rfl) e,c⟩
 | set S n=>obtain ⟨ob,es,ep,t,e,c⟩:=x;exact ⟨ob,es,ep,t,k _ _ (.inl rfl) e,c⟩
 | ins C dx fs =>
  obtain ⟨d,z,ne,e,mA,⟨od,es,ep,e2,c⟩,r⟩:=x
  exact ⟨ho _ d,z,ne,k _ _ (.inl rfl) e,mA,⟨od,es,ep,k _ _ (.inr d) e2,c⟩,r⟩
 | own y=>obtain ⟨ob,e⟩:=x;exact ⟨ob,k _ _ (.inl rfl) e⟩
 | xd fs=>obtain ⟨mA,⟨od,es,ep,e,c⟩,r⟩:=x;exact ⟨mA,⟨od,es,ep,k _ _ (.inl rfl) e,c⟩,r⟩
 | rng lo hi=>obtain ⟨t,u,v,e⟩:=x;exact ⟨t,u,v,k _ _ (.inl rfl) e⟩
 | frz ob u ih=>obtain ⟨e,q⟩:=x;exact ⟨k _ _ (.inl rfl) e,ih q⟩
 | tbl ps =>
  have e:h.get? a=some { cls:=.none,data:=.fields ps }:=x
  show h'.get? a=some { cls:=.none,data:=.fields ps }
  exact k a _ (.inl rfl) e
 | met f y =>
  have e:h.get? a=some (PySem.W.methodObj (.ref f) (.ref y)):=x
  show h'.get? a=some (PySem.W.methodObj (.ref f) (.ref y))
  exact k a _ (.inl rfl) e
 | ext φ=>obtain ⟨p,⟨o,e⟩,st⟩:=x;exact ⟨st _ _ p fun o q=>k _ _ (.inl rfl) q,⟨o,k _ _ (.inl rfl) e⟩,st⟩
theorem HOk.lt (x:HOk P w H h)(e:H a=some o):a < h.objs.size:=(x a o e).lt
theorem HOk.fresh (x:HOk P w H h)(e:h.objs.size≤a):H a=none:=by
 cases q:H a with
 | none=>rfl
 | some u=>exact absurd (BX (x.lt q) e) (Co _)
theorem HOk.kept (x:HOk P w H h)(k:∀ b u,h.get? b=some u→h'.get? b=some u):HOk P w H h':=fun a o e =>
 (x a o e).stay (fun b u _ q=>k b u q) (fun _ q=>q) fun _ _ q=>q
theorem HOk.laid (x:HOk P w H h)(k:∀ b u,h.get? b=some u→h'.get? b=some u)(hp:h.objs.size≤a)(new:bK P w (upd H a o) h' a o):HOk P w (upd H a o) h':=fun b u e=>by
 have hn:=x.fresh hp
 by_cases hb:b=a
 ·subst hb;rw [af] at e;cases e;exact new
 ·rw [ay hb] at e
  exact (x b u e).stay (fun c v _ q=>k c v q) (fun c q=>by rw [ay (aE q hn)];exact q) fun c xs q=>by rw [ay (aE q hn)];exact q
end
def Rd (H:Hp)(a:Addr)(u:HO):Prop:=H a=some u ∨ ∃ o,H a=some (.frz o u)
theorem Rd.ok {P:Program}{w:World}{H:Hp}{h:Heap}{a:Addr}{u:HO}(r:Rd H a u)(x:HOk P w H h):bK P w H h a u:=by
 rcases r with r | ⟨o,r⟩
 ·exact x a u r
 ·obtain ⟨_,q⟩:=x a _ r
  exact q
def Mut:Option HO→Prop
 | some (.lst _)=>True
 | some (.dK _)=>True
 | some (.dT _)=>True
 | some (.set _ _)=>True
 | some (.ins _ _ _)=>True
 | some (.ext _)=>True
 | _=>False
section
variable {P:Program} {w:World} {H:Hp} {h h':Heap} {x e:Addr} {o':HO}
theorem HOk.write (ok:HOk P w H h)(mu:Mut (H x))(he:e=x ∨ H e=some (.own x))(k:∀ b u,b≠e→h.get? b=some u→h'.get? b=some u)(heo:∃ u,h'.get? e=some u)
  (new:bK P w (upd H x o') h' x o'):HOk P w (upd H x o') h':=fun b u q=>by
 have nown:∀ c y,H c=some (.own y)→c≠x:=fun c y r z=>by subst z;rw [r] at mu;exact mu
 have ntup:∀ c xs,H c=some (.tup xs)→c≠x:=fun c xs r z=>by subst z;rw [r] at mu;exact mu
 by_cases hb:b=x
 ·subst hb;rw [af] at q;cases q;exact new
 ·rw [ay hb] at q
  by_cases hbe:b=e
  ·have q':H b=some (.own x):=by
    rcases he with z | z
    ·exact absurd (hbe.trans z) hb
    ·rw [hbe];exact z
   rw [q] at q';cases q'
   obtain ⟨v,hv⟩:=heo
   exact ⟨v,by rw [hbe];exact hv⟩
  ·refine (ok b u q).stay (fun c v hc r=>k c v ?_ r) (fun c r=>by rw [ay (nown c b r)];exact r) fun c xs r=>by rw [ay (ntup c xs r)];exact r
   rcases hc with rfl | hc
   ·exact hbe
   ·rintro rfl
    rcases he with z | z
    ·exact nown c b hc z
    ·rw [hc] at z;cases z;exact hb rfl
end
structure Un (fs ex:List Addr) (H H':Hp) (h h':Heap):Prop where
 keep:∀ b o,h.get? b=some o→H b=none→b∉fs→b∉ex→h'.get? b=some o
 slot:∀ b o,h.get? b=some o→H b=none→b∈fs→b∉ex→∃ sl,h'.get? b=some { o with slots:=sl }
 free:∀ b o,h.get? b=some o→H b=none→b∉ex→H' b=none
 there:∀ b o,h.get? b=some o→b∉ex→∃ o',h'.get? b=some o'
 tups:∀ b xs,H b=some (.tup xs)→H' b=some (.tup xs)
 frzs:∀ b o u,H b=some (.frz o u)→H' b=some (.frz o u)
 tbls:∀ b ps,H b=some (.tbl ps)→∃ more,H' b=some (.tbl (ps++more))
section
variable {fs fs' ex ex':List Addr} {H H1 H2:Hp} {h h1 h2 h':Heap} {a x e:Addr} {o:HO}
theorem Un.any (u:Un fs ex H H1 h h1){b:Addr}{ob:Obj}(q:h.get? b=some ob)(n:H b=none)(hx:b∉ex):∃ sl,h1.get? b=some { ob with slots:=sl }:=by
 by_cases hb:b∈fs
 ·exact u.slot b ob q n hb hx
 ·exact ⟨ob.slots,u.keep b ob q n hb hx⟩
theorem Un.kept (k:∀ b u,h.get? b=some u→h'.get? b=some u):Un fs ex H H h h' :=
 ⟨fun b ob q _ _ _=>k b ob q,fun b ob q _ _ _=>⟨ob.slots,k b ob q⟩,fun _ _ _ n _=>n,fun b ob q _=>⟨ob,k b ob q⟩,fun _ _ q=>q,fun _ _ _ q=>q,fun _ ps q=>⟨#[],by rw [q];simp⟩⟩
theorem Un.refl:Un fs ex H H h h:=Un.kept fun _ _ q=>q
theorem Un.laid (k:∀ b u,h.get? b=some u→h'.get? b=some u)(hp:h.objs.size≤a)(hn:H a=none):Un fs ex H (upd H a o) h h' where
 keep:=fun b u q _ _ _=>k b u q
 slot:=fun b u q _ _ _=>⟨u.slots,k b u q⟩
 free:=fun b u q n _=>by rw [ay (Cr (BX (BU q) hp))];exact n
 there:=fun b u q _=>⟨u,k b u q⟩
 tups:=fun b xs q=>by rw [ay (aE q hn)];exact q
 frzs:=fun b u xs q=>by rw [ay (aE q hn)];exact q
 tbls:=fun b ps q=>⟨#[],by rw [ay (aE q hn),q];simp⟩
theorem Un.write (mu:Mut (H x))(he:e=x ∨ H e=some (.own x))(k:∀ b u,b≠e→h.get? b=some u→h'.get? b=some u)(heo:∃ u,h'.get? e=some u):Un fs ex H (upd H x o) h h':=by
 have hx:∀ b,H b=none→b≠x:=fun b n z=>by subst z;rw [n] at mu;exact mu
 have hb:∀ b,H b=none→b≠e:=fun b n z=>by
  subst z
  rcases he with r | r
  ·exact hx b n r
  ·rw [n] at r;cases r
 have hm:∀ b u,H b=some u→¬ Mut (some u)→b≠x:=fun b u q nm z=>by subst z;rw [q] at mu;exact nm mu
 refine ⟨fun b u q n _ _=>k b u (hb b n) q,fun b u q n _ _=>⟨u.slots,k b u (hb b n) q⟩,fun b u q n _=>by rw [ay (hx b n)];exact n,fun b u q _=>?_,
  fun b xs q=>by rw [ay (hm b _ q fun z=>z)];exact q,fun b u xs q=>by rw [ay (hm b _ q fun z=>z)];exact q,fun b ps q=>⟨#[],by rw [ay (hm b _ q fun z=>z),q];simp⟩⟩
 by_cases hbe:b=e
 ·subst hbe;exact heo
 ·exact ⟨u,k b u hbe q⟩
end
def trk (h:Heap)(H:Hp):List Addr:=(List.range h.objs.size).filter fun a=>(H a).isSome
def pP (h:Heap)(H:Hp):Heap:=PySem.W.hideAll h (trk h H)
theorem mj (h:Heap)(H:Hp):(pP h H).objs.size=h.objs.size:=PySem.W.hideAll_size _ _
theorem pQ {h:Heap}{H:Hp}{b:Addr}{o:Obj}(e:h.get? b=some o)(n:H b=none):(pP h H).get? b=some o :=
 PySem.W.hideAll_get _ e fun hm=>by
  have q:(H b).isSome=true:=(List.mem_filter.mp hm).2
  rw [n] at q;simp at q
theorem tJ {h:Heap}{H:Hp}{b:Addr}{o:Obj}(e:(pP h H).get? b=some o):h.get? b=some o∧H b=none:=by
 have e':h.get? b=some o:=PySem.W.of_hideAll (trk h H) e
 refine ⟨e',?_⟩
 cases q:H b with
 | none=>rfl
 | some x =>
  have hm:b∈trk h H:=List.mem_filter.mpr ⟨EB.mpr (BU e'),by simp [q]⟩
  have z:(pP h H).get? b=none:=PySem.W.hideAll_none (trk h H) hm
  rw [z] at e;cases e
structure Mod (K:PySem.W.Frag) (mg:Str→Option Value) (base:Heap):Prop where
 kin:K.In base
 glob:base.Ns mainGlobals mg
 blt:∃ mb,base.Ns builtinsNs mb∧∀ x:Str,x ≠ "__name__"→mb x=bootBuiltins x
 nolimit:base.NoLimit
/-- the context: a def's body (or a comprehension's block) running. base: fixed through the whole law;s₀,H₀: the entry;outer: the frames whose slots others may change (a def's callers);stack: all frames that run;
  ex: iterators that were made ahead of the entry and are walked here (a comprehension's);fn: the names whose cells were made at the entry (a def: all;a comprehension's block: its own);calm: not within an except suite;pn: G6 that every state bears;xe: what is wanted of an exception that leaves the code -/
structure Cx where
 prog:Program
 w:World
 K:PySem.W.Frag
 mg:Str→Option Value
 base:Heap
 A:Around
 N:List Str
 s₀:Shared
 H₀:Hp
 env:Env
 outer:List Env
 stack:List Env
 ex:List Addr
 fn:Str→Bool
 calm:Bool
 pn:List (Addr × Obj)
 xe:Value→Shared→Prop
def frs (l:List Env):List Addr:=l.filterMap (·.frame)
abbrev Cx.fs (X:Cx):List Addr:=frs X.outer
def Vis (sc:Scope)(x:Str):Prop:=sc.names.lookup x=some .local ∨ sc.names.lookup x=some .cell ∨ sc.names.lookup x=some .free
def Loc (sc:Scope)(x:Str):Prop:=sc.names.lookup x=some .local ∨ sc.names.lookup x=some .cell
def AW (env:Env)(h:Heap)(m:Str→Option Value)(x:Str)(u:Value):Prop :=
 (env.kindOf x=some .local∧m x=some u) ∨ ((env.kindOf x=some .cell ∨ env.kindOf x=some .free)∧∃ c,env.cells.lookup x=some c∧h.IsCell c (some u))
structure Cx.Ok (X:Cx):Prop where
 mod:Mod X.K X.mg X.base
 kind:X.env.scope.kind = .function
 glob:X.env.globals=mainGlobals
 blt:X.env.builtins=builtinsNs
 above:X.s₀.heap.objs.size≤X.env.locals
 inj:∀ x y c,X.env.cells.lookup x=some c→X.env.cells.lookup y=some c→x=y
 has:∀ x,(X.env.kindOf x=some .cell ∨ X.env.kindOf x=some .free)→∃ c,X.env.cells.lookup x=some c
 cab:∀ x c,X.fn x=true→X.env.cells.lookup x=some c→X.s₀.heap.objs.size≤c
 hd:X.calm=true→X.A.handled=none
 frames:X.A.frames=some X.stack
 stk:X.stack=X.outer ∨ (X.stack=X.env::X.outer∧X.env.frame=some X.env.locals)
 exf:∀ b∈X.ex,b≠X.env.locals∧∀ x c,X.env.cells.lookup x=some c→c≠b
 bs:∀ b o,X.base.get? b=some o→X.s₀.heap.get? b=some o∧X.H₀ b=none
 bsz:X.base.objs.size≤X.s₀.heap.objs.size
 noex:∀ b o,X.base.get? b=some o→b∉X.ex
 exfs:∀ b∈X.ex,b∉X.fs
 funs:X.s₀.heap.FunFrames X.base X.outer
 frf:∀ b∈X.fs,X.H₀ b=none
structure Inv (X:Cx) (G6:List (Addr × Obj)) (σ:List (Option V)) (H:Hp) (s:Shared):Prop where
 ok:X.Ok
 os:s.os=X.s₀.os
 bare:AllBare s.gens
 base:Un X.fs X.ex X.H₀ H X.s₀.heap s.heap
 loc:∃ m,s.heap.Ns X.env.locals m∧∀ (i:Nat) (x:Str) (v:V),X.N[i]? = some x→σ[i]? = some (some v)→Vis X.env.scope x→∃ u,bH v u∧AW X.env s.heap m x u
 cell:∀ x c,X.env.cells.lookup x=some c→∃ v,s.heap.IsCell c v
 free:H X.env.locals=none
 freeC:∀ x c,X.env.cells.lookup x=some c→H c=none
 pin:∀ p∈X.pn++G6,s.heap.get? p.1=some p.2∧H p.1=none∧p.1≠X.env.locals∧p.1∉X.fs∧∀ v,p.2.data ≠ .cell v
 hok:HOk X.prog X.w H s.heap
 len:σ.length=X.N.length
section
variable {X:Cx} {G6:List (Addr × Obj)} {σ:List (Option V)} {H H':Hp} {s:Shared} {h':Heap}
theorem Cx.Ok.nofr (ok:X.Ok){b:Addr}{o:Obj}(e:X.base.get? b=some o):b∉X.fs:=fun hb=>by
 have:=(ok.funs.mem hb).1
 rw [e] at this;cases this
theorem Inv.bs (I:Inv X G6 σ H s):∀ b o,X.base.get? b=some o→s.heap.get? b=some o∧H b=none:=fun b o e =>
 ⟨I.base.keep b o (I.ok.bs b o e).1 (I.ok.bs b o e).2 (I.ok.nofr e) (I.ok.noex b o e),I.base.free b o (I.ok.bs b o e).1 (I.ok.bs b o e).2 (I.ok.noex b o e)⟩
theorem Inv.bk (I:Inv X G6 σ H s):∀ b o,X.base.get? b=some o→s.heap.get? b=some o:=fun b o e=>(I.bs b o e).1
theorem Inv.mod (I:Inv X G6 σ H s):Mod X.K X.mg X.base:=I.ok.mod
theorem Inv.kIn (I:Inv X G6 σ H s):X.K.In s.heap:=I.ok.mod.kin.keeps I.bk
theorem Inv.fr (I:Inv X G6 σ H s):∃ m,Fr X.base X.env.locals s.heap m :=
 let ⟨m,hn,_⟩:=I.loc
 ⟨m,hn,I.bk,Cn I.ok.bsz I.ok.above⟩
theorem Inv.lt (I:Inv X G6 σ H s):X.env.locals < s.heap.objs.size:=let ⟨_,hn,_⟩:=I.loc; hn.lt
theorem Inv.sz (I:Inv X G6 σ H s):X.s₀.heap.objs.size≤s.heap.objs.size:=Cn I.ok.above (Gk I.lt)
theorem Inv.nofs (I:Inv X G6 σ H s){a:Addr}(h:s.heap.objs.size≤a):a∉X.fs:=fun hb=>by
 obtain ⟨_,o,ho,_⟩:=I.ok.funs.mem hb
 exact absurd (BX (BU ho) (Cn I.sz h)) (Co _)
theorem Inv.cne (I:Inv X G6 σ H s):∀ x c,X.env.cells.lookup x=some c→c≠X.env.locals:=fun x c e z=>by
 obtain ⟨v,o,ho,hd⟩:=I.cell x c e
 obtain ⟨m,⟨o',es,ep,ho',hd',_⟩,_⟩:=I.loc
 rw [z,ho'] at ho;cases ho;rw [hd'] at hd;cases hd
theorem Inv.funs (I:Inv X G6 σ H s):s.heap.FunFrames X.base X.outer:=by
 have all:∀ (l:List Env),(∀ b∈frs l,b∈X.fs)→X.s₀.heap.FunFrames X.base l→s.heap.FunFrames X.base l:=by
  intro l
  induction l with
  | nil=>intro _ _;trivial
  | cons env r ih =>
   intro hs hl
   obtain ⟨hk,⟨L,o,hf,hn,ho,hd⟩,hr⟩:=hl
   have hL:L∈X.fs:=hs L (by unfold frs;rw [ER,hf];exact Ca)
   obtain ⟨sl,e⟩:=I.base.slot L o ho (I.ok.frf L hL) hL fun z=>I.ok.exfs L z hL
   exact ⟨hk,⟨L,_,hf,hn,e,hd⟩,ih (fun b hb=>hs b (by unfold frs;rw [ER,hf];exact BZ _ hb)) hr⟩
 exact all X.outer (fun _ hb=>hb) I.ok.funs
theorem Inv.stack (I:Inv X G6 σ H s):s.heap.FunFrames X.base X.stack:=by
 rcases I.ok.stk with e | ⟨e,hf⟩
 ·rw [e];exact I.funs
 ·rw [e]
  obtain ⟨m,hn,_⟩:=I.loc
  refine .cons (by rw [I.ok.kind];decide) hf hn ?_ I.funs
  exact Heap.get?_none_of_le (Cn I.ok.bsz I.ok.above)
theorem Inv.stkSub (I:Inv X G6 σ H s):∀ b∈frs X.stack,b∈X.env.locals::X.fs:=fun b hb=>by
 rcases I.ok.stk with e | ⟨e,hf⟩
 ·rw [e] at hb;exact BZ _ hb
 ·rw [e] at hb
  unfold frs at hb
  rw [ER,hf] at hb
  exact hb
theorem Inv.stkFree (I:Inv X G6 σ H s):∀ b∈frs X.stack,H b=none:=fun b hb=>by
 rcases B2.mp (I.stkSub b hb) with e | hb
 ·rw [e];exact I.free
 ·obtain ⟨_,o,ho,_⟩:=I.ok.funs.mem hb
  exact I.base.free b o ho (I.ok.frf b hb) fun z=>I.ok.exfs b z hb
theorem Inv.step {g':Array GenState}{t':Nat}{d':Drawn}{ch:List Addr}(I:Inv X G6 σ H s)
  (hch:∀ b∈ch,(b∈X.ex ∨ X.s₀.heap.objs.size≤b)∧b≠X.env.locals∧(∀ x c,X.env.cells.lookup x=some c→c≠b)∧∀ p∈X.pn++G6,p.1≠b)
  (keep:∀ b o,b≠X.env.locals→b∉X.fs→b∉ch→s.heap.get? b=some o→H b=none→h'.get? b=some o)
  (slot:∀ b o,b≠X.env.locals→b∈X.fs→b∉ch→s.heap.get? b=some o→H b=none→∃ sl,h'.get? b=some { o with slots:=sl }) (free:∀ b o,b∉ch→s.heap.get? b=some o→H b=none→H' b=none)
  (there:∀ b o,b∉ch→s.heap.get? b=some o→∃ o',h'.get? b=some o')
  (tups:∀ b xs,H b=some (.tup xs)→H' b=some (.tup xs)) (frzs:∀ b o u,H b=some (.frz o u)→H' b=some (.frz o u)) (tbls:∀ b ps,H b=some (.tbl ps)→∃ more,H' b=some (.tbl (ps++more)))
  (ns:∀ m,s.heap.Ns X.env.locals m→h'.Ns X.env.locals m) (hok:HOk X.prog X.w H' h') (hg:AllBare g') :
  Inv X G6 σ H' { s with heap:=h',gens:=g',drawn:=d',toks:=t' }:=by
 have neL:∀ b o,X.s₀.heap.get? b=some o→b≠X.env.locals:=fun b o e=>Cr (BX (BU e) I.ok.above)
 have neC:∀ b o,X.s₀.heap.get? b=some o→b∉X.ex→b∉ch:=fun b o e hx hb=>by
  rcases (hch b hb).1 with z | z
  ·exact hx z
  ·exact absurd (BX (BU e) z) (Co _)
 have cellK:∀ x c,X.env.cells.lookup x=some c→∀ v,s.heap.IsCell c v→h'.IsCell c v:=fun x c e v ⟨o,ho,hd⟩=>by
  have nch:c∉ch:=fun z=>(hch c z).2.2.1 x c e rfl
  by_cases hc:c∈X.fs
  ·obtain ⟨sl,q⟩:=slot c o (I.cne x c e) hc nch ho (I.freeC x c e)
   exact ⟨_,q,hd⟩
  ·exact ⟨o,keep c o (I.cne x c e) hc nch ho (I.freeC x c e),hd⟩
 refine ⟨I.ok,I.os,hg,⟨fun b o e n hb hx=>?_,fun b o e n hb hx=>?_,fun b o e n hx=>?_,fun b o e hx=>?_,fun b xs e=>tups b xs (I.base.tups b xs e),fun b o xs e=>frzs b o xs (I.base.frzs b o xs e),fun b ps e=>?_⟩,?_,fun x c e=>?_,?_,fun x c e=>?_,fun p hp=>?_,hok,I.len⟩
 ·exact keep b o (neL b o e) hb (neC b o e hx) (I.base.keep b o e n hb hx) (I.base.free b o e n hx)
 ·obtain ⟨sl,e1⟩:=I.base.slot b o e n hb hx
  obtain ⟨sl',e2⟩:=slot b _ (neL b o e) hb (neC b o e hx) e1 (I.base.free b o e n hx)
  exact ⟨sl',e2⟩
 ·obtain ⟨o',e1⟩:=I.base.there b o e hx
  exact free b o' (neC b o e hx) e1 (I.base.free b o e n hx)
 ·obtain ⟨o',e1⟩:=I.base.there b o e hx
  exact there b o' (neC b o e hx) e1
 ·obtain ⟨m1,e1⟩:=I.base.tbls b ps e
  obtain ⟨m2,e2⟩:=tbls b _ e1
  exact ⟨m1++m2,by rw [e2,Array.append_assoc]⟩
 ·obtain ⟨m,hn,hl⟩:=I.loc
  refine ⟨m,ns m hn,fun i x v e1 e2 e3=>?_⟩
  obtain ⟨u,r,l⟩:=hl i x v e1 e2 e3
  refine ⟨u,r,?_⟩
  rcases l with l | ⟨k,c,e,z⟩
  ·exact .inl l
  ·exact .inr ⟨k,c,e,cellK x c e _ z⟩
 ·obtain ⟨v,z⟩:=I.cell x c e
  exact ⟨v,cellK x c e v z⟩
 ·obtain ⟨m,⟨o,_,_,ho,_⟩,_⟩:=I.loc
  exact free _ o (fun z=>(hch _ z).2.1 rfl) ho I.free
 ·obtain ⟨v,o,ho,hd⟩:=I.cell x c e
  exact free c o (fun z=>(hch c z).2.2.1 x c e rfl) ho (I.freeC x c e)
 ·obtain ⟨e,n,ne,nf,d⟩:=I.pin p hp
  have nch:p.1∉ch:=fun z=>(hch p.1 z).2.2.2 p hp rfl
  exact ⟨keep p.1 p.2 ne nf nch e n,free p.1 p.2 nch e n,ne,nf,d⟩
theorem Inv.un {t':Nat}(I:Inv X G6 σ H s)(u:Un X.fs [] H H' s.heap h')(hok:HOk X.prog X.w H' h'):Inv X G6 σ H' { s with heap:=h',toks:=t' }:=by
 obtain ⟨m,⟨o,es,ep,ho,r⟩,_⟩:=id I.loc
 obtain ⟨sl,hL⟩:=u.any ho I.free (by simp)
 exact I.step (g':=s.gens) (d':=s.drawn) (ch:=[]) (fun _ z=>nomatch z) (fun b o _ hb _ e n=>u.keep b o e n hb (by simp)) (fun b o _ hb _ e n=>u.slot b o e n hb (by simp)) (fun b o _ e n=>u.free b o e n (by simp)) (fun b o _ e=>u.there b o e (by simp)) u.tups u.frzs u.tbls (fun m' hm=>by
  obtain ⟨o',es',ep',ho',r'⟩:=hm
  rw [ho] at ho';cases ho'
  exact ⟨_,es',ep',hL,r'⟩) hok I.bare
theorem Inv.call {g':Array GenState}{t':Nat}{d':Drawn}{ch:List Addr}(I:Inv X G6 σ H s)(u:Un (frs X.stack) ch H H' s.heap h')(hok:HOk X.prog X.w H' h')(hg:AllBare g')
  (hch:∀ b∈ch,(b∈X.ex ∨ X.s₀.heap.objs.size≤b)∧b≠X.env.locals∧(∀ x c,X.env.cells.lookup x=some c→c≠b)∧∀ p∈X.pn++G6,p.1≠b) :
  Inv X G6 σ H' { s with heap:=h',gens:=g',drawn:=d',toks:=t' }:=by
 obtain ⟨m,⟨o,es,ep,ho,r⟩,_⟩:=id I.loc
 obtain ⟨sl,hL⟩:=u.any ho I.free fun z=>(hch _ z).2.1 rfl
 exact I.step (ch:=ch) hch (fun b o hL hb hc e n=>u.keep b o e n (fun z=>(B2.mp (I.stkSub b z)).elim hL hb) hc) (fun b o _ _ hc e n=>u.any e n hc) (fun b o hc e n=>u.free b o e n hc) (fun b o hc e=>u.there b o e hc) u.tups u.frzs u.tbls (fun m' hm=>by
  obtain ⟨o',es',ep',ho',r'⟩:=hm
  rw [ho] at ho';cases ho'
  exact ⟨_,es',ep',hL,r'⟩) hok hg
theorem Inv.turned {t':Nat}{it:Addr}(I:Inv X G6 σ H s)(k:∀ b o,b≠it→s.heap.get? b=some o→h'.get? b=some o)(hn:H it=none)(hL:it≠X.env.locals)
  (h1:it∈X.ex ∨ X.s₀.heap.objs.size≤it) (h2:∀ x c,X.env.cells.lookup x=some c→c≠it) (h3:∀ p∈X.pn++G6,p.1≠it):Inv X G6 σ H { s with heap:=h',toks:=t' }:=by
 have nit:∀ b u,H b=some u→b≠it:=fun b u e z=>by rw [z,hn] at e;cases e
 refine I.step (g':=s.gens) (d':=s.drawn) (ch:=[it]) (fun b hb=>?_) (fun b o _ _ hc e _=>k b o (fun z=>hc (by simp [z])) e) (fun b o _ _ hc e _=>⟨o.slots,k b o (fun z=>hc (by simp [z])) e⟩) (fun _ _ _ _ n=>n)
  (fun b o hc e=>⟨o,k b o (fun z=>hc (by simp [z])) e⟩) (fun _ _ e=>e) (fun _ _ _ e=>e) (fun b ps e=>⟨#[],by rw [e];simp⟩) (fun m hm=>?_) (fun b u e=>?_) I.bare
 ·have e:b=it:=by simpa using hb
  subst e
  exact ⟨h1,hL,h2,h3⟩
 ·obtain ⟨o,es,ep,ho,r⟩:=hm
  exact ⟨o,es,ep,k _ o (Ne.symm hL) ho,r⟩
 ·refine (I.hok b u e).stay (fun c v hc q=>k c v ?_ q) (fun _ q=>q) fun _ _ q=>q
  rcases hc with z | z
  ·rw [z];exact nit b u e
  ·exact nit c _ z
theorem Inv.tok (I:Inv X G6 σ H s)(t:Nat):Inv X G6 σ H { s with toks:=t }:=I.un (h':=s.heap) (t':=t) Un.refl I.hok
theorem Inv.kept {t':Nat}(I:Inv X G6 σ H s)(k:∀ b u,s.heap.get? b=some u→h'.get? b=some u):Inv X G6 σ H { s with heap:=h',toks:=t' }:=I.un (Un.kept k) (I.hok.kept k)
theorem Inv.laid {a:Addr}{o:HO}{t':Nat}(I:Inv X G6 σ H s)(k:∀ b u,s.heap.get? b=some u→h'.get? b=some u)(hp:s.heap.objs.size≤a)(new:bK X.prog X.w (upd H a o) h' a o) :
  Inv X G6 σ (upd H a o) { s with heap:=h',toks:=t' }:=I.un (Un.laid k hp (I.hok.fresh hp)) (I.hok.laid k hp new)
theorem Inv.write {x e:Addr}{o:HO}{t':Nat}(I:Inv X G6 σ H s)(mu:Mut (H x))(he:e=x ∨ H e=some (.own x))(k:∀ b u,b≠e→s.heap.get? b=some u→h'.get? b=some u)(heo:∃ u,h'.get? e=some u)
  (new:bK X.prog X.w (upd H x o) h' x o):Inv X G6 σ (upd H x o) { s with heap:=h',toks:=t' }:=I.un (Un.write mu he k heo) (I.hok.write mu he k heo new)
theorem Inv.pins_of {pins':List (Addr × Obj)}(I:Inv X G6 σ H s)(h:∀ p∈pins',s.heap.get? p.1=some p.2∧H p.1=none∧p.1≠X.env.locals∧p.1∉X.fs∧∀ v,p.2.data ≠ .cell v):Inv X pins' σ H s :=
 ⟨I.ok,I.os,I.bare,I.base,I.loc,I.cell,I.free,I.freeC,fun p hp=>(BR.mp hp).elim (fun z=>I.pin p (Cb _ z)) (h p),I.hok,I.len⟩
theorem gH {N:List Str}(hN:N.Nodup){i j:Nat}{x:Str}(a:N[i]? = some x)(b:N[j]? = some x):i=j:=by
 obtain ⟨h1,e1⟩:=BF.mp a
 obtain ⟨h2,e2⟩:=BF.mp b
 exact (List.getElem_inj hN).mp (e1.trans e2.symm)
theorem ml {M:Model}{A:Around}{E:Value→Shared→Prop}{i:Nat}{x:Str}{v:V}{u:Value}{Q:Unit→Shared→Prop}(I:Inv X G6 σ H s)(hN:X.N.Nodup)(hi:X.N[i]? = some x)(hx:Loc X.env.scope x)(r:bH v u)
  (h:∀ s',Inv X G6 (σ.set i (some v)) H s'→(∃ a,Heap.SameBut a s.heap s'.heap∧(a=X.env.locals ∨ X.env.cells.lookup x=some a))→Q () s') (hf:X.fn x=true ∨ X.env.scope.names.lookup x=some .local:=by first | exact .inl rfl | exact .inr rfl | assumption):wpAny M A (storeName X.env x u) Q E s:=by
 obtain ⟨m,hn,hl⟩:=id I.loc
 have hcls:(X.env.scope.kind == .class || (X.env.scope.kind == .module && X.env.locals != X.env.globals))=false:=by rw [I.ok.kind];rfl
 have hiσ:i < σ.length:=by rw [I.len];exact (BF.mp hi).1
 have cne:=I.cne
 have tracked:∀ {a:Addr} {h':Heap},(∃ o,s.heap.get? a=some o∧H a=none)→Heap.SameBut a s.heap h'→HOk X.prog X.w H h':=fun {a h'} ha hs b ob e=>by
  obtain ⟨_,_,hfree⟩:=ha
  refine (I.hok b ob e).stay (fun c w' hc q=>(hs.2 c ?_).trans q) (fun _ q=>q) fun _ _ q=>q
  rintro rfl
  rcases hc with rfl | hc
  ·rw [hfree] at e;cases e
  ·rw [hfree] at hc;cases hc
 rcases hx with hk | hk
 ·refine wpAny_storeName_local hk hn (fun h' hn' hs=>?_) hcls
  obtain ⟨oL,_,_,hoL,_⟩:=id hn
  refine h _ ⟨I.ok,I.os,I.bare,⟨fun b o e n hb hx=>?_,fun b o e n hb hx=>?_,I.base.free,fun b o e hx=>?_,I.base.tups,I.base.frzs,I.base.tbls⟩,⟨_,hn',fun j y v' e1 e2 e3=>?_⟩,fun y c e=>?_,I.free,I.freeC,fun p hp=>?_,tracked ⟨oL,hoL,I.free⟩ hs,by simpa using I.len⟩ ⟨_,hs,.inl rfl⟩
  ·exact (hs.2 b (Cr (BX (BU e) I.ok.above))).trans (I.base.keep b o e n hb hx)
  ·obtain ⟨sl,e1⟩:=I.base.slot b o e n hb hx
   exact ⟨sl,(hs.2 b (Cr (BX (BU e) I.ok.above))).trans e1⟩
  ·obtain ⟨o',e1⟩:=I.base.there b o e hx
   exact ⟨o',(hs.2 b (Cr (BX (BU e) I.ok.above))).trans e1⟩
  ·by_cases hj:j=i
   ·subst hj
    rw [hi] at e1;cases e1
    rw [DS hiσ] at e2
    cases e2
    exact ⟨u,r,.inl ⟨hk,by simp⟩⟩
   ·rw [D7 (Ne.symm hj)] at e2
    obtain ⟨u',r',q⟩:=hl j y v' e1 e2 e3
    refine ⟨u',r',?_⟩
    rcases q with ⟨k,e⟩ | ⟨k,c,e,z⟩
    ·refine .inl ⟨k,?_⟩
     have:y≠x:=fun e=>hj (gH hN e1 (e ▸ hi))
     simp [this,e]
    ·exact .inr ⟨k,c,e,z.sameBut hs (cne y c e)⟩
  ·obtain ⟨w',z⟩:=I.cell y c e
   exact ⟨w',z.sameBut hs (cne y c e)⟩
  ·obtain ⟨e,n,ne,nf,d⟩:=I.pin p hp
   exact ⟨(hs.2 p.1 ne).trans e,n,ne,nf,d⟩
 ·have hfn:X.fn x=true:=by
   rcases hf with z | z
   ·exact z
   ·rw [z] at hk;cases hk
  obtain ⟨c,hc⟩:=I.ok.has x (.inl hk)
  obtain ⟨w',z⟩:=I.cell x c hc
  refine wpAny_storeName_cell I.ok.kind hk hc z (fun h' hc' hs=>?_)
  obtain ⟨oc,hoc,hocd⟩:=id z
  refine h { s with heap:=h' } ⟨I.ok,I.os,I.bare,⟨fun b o e n hb hx=>?_,fun b o e n hb hx=>?_,I.base.free,fun b o e hx=>?_,I.base.tups,I.base.frzs,I.base.tbls⟩,⟨m,hn.sameBut hs (Ne.symm (cne x c hc)),fun j y v' e1 e2 e3=>?_⟩,fun y c' e=>?_,I.free,I.freeC,fun p hp=>?_,tracked ⟨oc,hoc,I.freeC x c hc⟩ hs,by simpa using I.len⟩ ⟨c,hs,.inr hc⟩
  ·exact (hs.2 b (Cr (BX (BU e) (I.ok.cab x c hfn hc)))).trans (I.base.keep b o e n hb hx)
  ·obtain ⟨sl,e1⟩:=I.base.slot b o e n hb hx
   exact ⟨sl,(hs.2 b (Cr (BX (BU e) (I.ok.cab x c hfn hc)))).trans e1⟩
  ·obtain ⟨o',e1⟩:=I.base.there b o e hx
   exact ⟨o',(hs.2 b (Cr (BX (BU e) (I.ok.cab x c hfn hc)))).trans e1⟩
  ·by_cases hj:j=i
   ·subst hj
    rw [hi] at e1;cases e1
    rw [DS hiσ] at e2
    cases e2
    exact ⟨u,r,.inr ⟨.inl hk,c,hc,hc'⟩⟩
   ·rw [D7 (Ne.symm hj)] at e2
    obtain ⟨u',r',q⟩:=hl j y v' e1 e2 e3
    refine ⟨u',r',?_⟩
    rcases q with q | ⟨k,c',e,z'⟩
    ·exact .inl q
    ·refine .inr ⟨k,c',e,z'.sameBut hs ?_⟩
     rintro rfl
     exact hj (gH hN e1 (I.ok.inj _ _ _ e hc ▸ hi))
  ·by_cases hcc:c'=c
   ·subst hcc;exact ⟨_,hc'⟩
   ·obtain ⟨w2,z2⟩:=I.cell y c' e
    exact ⟨w2,z2.sameBut hs hcc⟩
  ·obtain ⟨e,n,ne,nf,d⟩:=I.pin p hp
   refine ⟨(hs.2 p.1 ?_).trans e,n,ne,nf,d⟩
   intro q
   rw [q,hoc] at e
   have q':oc=p.2:=BW e
   exact d w' (by rw [← q'];exact hocd)
theorem cY {M:Model}{A:Around}{E:Value→Shared→Prop}{i:Nat}{x:Str}{v:V}{u:Value}{Q:Unit→Shared→Prop}(I:Inv X G6 σ H s)(hN:X.N.Nodup)(hi:X.N[i]? = some x)(hx:Loc X.env.scope x)(r:bH v u)
  (h:∀ s',Inv X G6 (σ.set i (some v)) H s'→Q () s') (hf:X.fn x=true ∨ X.env.scope.names.lookup x=some .local:=by first | exact .inl rfl | exact .inr rfl | assumption):wpAny M A (storeName X.env x u) Q E s :=
 ml I hN hi hx r (fun s' I' _=>h s' I') hf
theorem Inv.call' {s':Shared}{ch:List Addr}(I:Inv X G6 σ H s)(ho:s'.os=s.os)(u:Un (frs X.stack) ch H H' s.heap s'.heap)(hok:HOk X.prog X.w H' s'.heap)(hg:AllBare s'.gens)
  (hch:∀ b∈ch,(b∈X.ex ∨ X.s₀.heap.objs.size≤b)∧b≠X.env.locals∧(∀ x c,X.env.cells.lookup x=some c→c≠b)∧∀ p∈X.pn++G6,p.1≠b):Inv X G6 σ H' s':=by
 obtain ⟨h',g',d',t',o'⟩:=s'
 have e:o'=s.os:=ho
 subst e
 exact I.call (g':=g') (t':=t') (d':=d') u hok hg hch
end
abbrev XK:=Value→Option Addr→Hp→Prop
abbrev St:=List (Option V)
abbrev VK:=V→Hp→Prop
abbrev TE:=St→Hp→VK→Prop
abbrev TT:=St→Hp→(Bool→Hp→Prop)→Prop
abbrev TA:=St→Hp→(List V→Hp→Prop)→Prop
structure eQ where
 nx:St→Hp→Prop
 rt:VK
 bk:St→Hp→Prop:=fun _ _=>False
 ct:St→Hp→Prop:=fun _ _=>False
abbrev TS:=eQ→St→Hp→Prop
def EP (X:Cx)(G6:List (Addr × Obj))(σ:St)(Q:VK)(u:Value)(s':Shared):Prop:=∃ v H',Inv X G6 σ H' s'∧bH v u∧Q v H'
def TP (X:Cx)(G6:List (Addr × Obj))(σ:St)(Q:Bool→Hp→Prop)(b:Bool)(s':Shared):Prop:=∃ H',Inv X G6 σ H' s'∧Q b H'
def AP (X:Cx)(G6:List (Addr × Obj))(σ:St)(Q:List V→Hp→Prop)(us:List Value)(s':Shared):Prop:=∃ vs H',Inv X G6 σ H' s'∧bo vs us∧Q vs H'
def SP (X:Cx)(G6:List (Addr × Obj))(D:eQ)(f:Flow)(s':Shared):Prop :=
 match f with
 | .next=>∃ σ' H',Inv X G6 σ' H' s'∧D.nx σ' H'
 | .brk=>∃ σ' H',Inv X G6 σ' H' s'∧D.bk σ' H'
 | .cont=>∃ σ' H',Inv X G6 σ' H' s'∧D.ct σ' H'
 | .ret u=>∃ v σ' H',Inv X G6 σ' H' s'∧bH v u∧D.rt v H'
def PE (X:Cx)(e:Expr)(t:TE):Prop :=
 ∀ (G6:List (Addr × Obj)) (s:Shared) (σ:St) (H:Hp) (Q:VK),Inv X G6 σ H s→t σ H Q→wpAny (model X.prog X.w) X.A (eval e X.env) (EP X G6 σ Q) X.xe s
def PT (X:Cx)(e:Expr)(t:TT):Prop :=
 ∀ (G6:List (Addr × Obj)) (s:Shared) (σ:St) (H:Hp) (Q:Bool→Hp→Prop),Inv X G6 σ H s→t σ H Q→wpAny (model X.prog X.w) X.A (isTrue e X.env (eval e X.env)) (TP X G6 σ Q) X.xe s
def PW (X:Cx)(e:Expr)(t:TT):Prop :=
 ∀ (whole:Sem Value) (G6:List (Addr × Obj)) (s:Shared) (σ:St) (H:Hp) (Q:Bool→Hp→Prop),Inv X G6 σ H s→t σ H Q→wpAny (model X.prog X.w) X.A (isTrue e X.env whole) (TP X G6 σ Q) X.xe s
theorem PW.pt {X:Cx}{e:Expr}{t:TT}(h:PW X e t):PT X e t:=h _
def PA (X:Cx)(es:List Expr)(t:TA):Prop :=
 ∀ (pos:Pos) (G6:List (Addr × Obj)) (s:Shared) (σ:St) (H:Hp) (Q:List V→Hp→Prop),Inv X G6 σ H s→t σ H Q→wpAny (model X.prog X.w) X.A (spliced (backTo pos (starEach es X.env))) (AP X G6 σ Q) X.xe s
def PS (X:Cx)(st:Stmt)(t:TS):Prop :=
 ∀ (G6:List (Addr × Obj)) (s:Shared) (σ:St) (H:Hp) (D:eQ),Inv X G6 σ H s→t D σ H→wpAny (model X.prog X.w) X.A (exec st X.env) (SP X G6 D) X.xe s
def PSs (X:Cx)(st:List Stmt)(t:TS):Prop :=
 ∀ (G6:List (Addr × Obj)) (s:Shared) (σ:St) (H:Hp) (D:eQ),Inv X G6 σ H s→t D σ H→wpAny (model X.prog X.w) X.A (execs st X.env) (SP X G6 D) X.xe s
theorem thn {α:Type}{t:Sem α}{Q Q':α→Shared→Prop}{M:Model}{A:Around}{E:Value→Shared→Prop}{s:Shared}(h:wpAny M A t Q E s)(hQ:∀ a s,Q a s→Q' a s):wpAny M A t Q' E s:=CB h hQ fun _ _ x=>x
section
variable {X:Cx}
inductive y8 (i:Nat)(σ:St)(H:Hp)(Q:VK):Prop
 | mk:∀ v,(σ[i]? = some (some v))→(Q v H)→y8 i σ H Q
def tC (v:V):TE:=fun _ H Q=>Q v H
theorem wA {i:Nat}{x:Str}{pos:Pos}(hN:X.N[i]? = some x)(hv:Vis X.env.scope x)(hd:(x == ("__debug__":Str))=false:=by decide)(Im:(x == ("__classdict__":Str))=false:=by decide):PE X (.Name x pos) (y8 i):=by
 intro G6 s σ H Q I h
 obtain ⟨v,e,h⟩:=h
 obtain ⟨m,hn,hl⟩:=I.loc
 obtain ⟨u,r,l⟩:=hl i x v hN e hv
 have fin:EP X G6 σ Q u s:=⟨v,H,I,r,h⟩
 rcases l with ⟨hk,hm⟩ | ⟨hk,c,hc,hcell⟩
 ·exact wpAny_Name (wpAny_loadName_local I.ok.kind hk hn hm fin) hd
 ·rcases hk with hk | hk
  ·exact wpAny_Name (wpAny_loadName_cell I.ok.kind hk hc hcell fin) hd
  ·exact wpAny_Name (wpAny_loadName_free I.ok.kind hk hc hcell fin Im) hd
theorem ai {i j pos}:PE X (.Constant (.int i) j pos) (tC (.int i)):=fun _ _ _ H _ I h=>wpAny_Constant_int ⟨.int i,H,I.tok _,⟨_,rfl⟩,h⟩
theorem dX {b j pos}:PE X (.Constant (.bool b) j pos) (tC (.bl b)):=fun _ _ _ H _ I h=>Constant_bool ⟨.bl b,H,I,rfl,h⟩
theorem mn {j pos}:PE X (.Constant .none j pos) (tC .non):=fun _ _ _ H _ I h=>Constant_none ⟨.non,H,I,rfl,h⟩
theorem aI {x j pos}:PE X (.Constant (.str x) j pos) (tC (.str x)):=fun _ _ _ H _ I h=>Calls.Constant_str ⟨.str x,H,I.tok _,⟨_,rfl⟩,h⟩
def Gl (X:Cx)(x:Str):Prop:=X.env.kindOf x=some .globalImplicit
theorem cf {E:Value→Shared→Prop}{G6:List (Addr × Obj)}{s:Shared}{σ:St}{H:Hp}{x:Str}{u:Value}{pos:Pos}{Q:Value→Shared→Prop}(I:Inv X G6 σ H s)(hg:Gl X x)(hm:X.mg x=some u)(h:Q u s)
  (hd:(x == ("__debug__":Str))=false:=by decide):wpAny (model X.prog X.w) X.A (eval (.Name x pos) X.env) Q E s :=
 E8 I.ok.kind hg (Calls.loadGlobal_global (by rw [I.ok.glob];exact I.mod.glob.keeps I.bk) hm h) hd
theorem gj {E:Value→Shared→Prop}{G6:List (Addr × Obj)}{s:Shared}{σ:St}{H:Hp}{x:Str}{u:Value}{pos:Pos}{Q:Value→Shared→Prop}(I:Inv X G6 σ H s)(hg:Gl X x)(hm:X.mg x=none)(hv:bootBuiltins x=some u)(h:Q u s)
  (hn:x ≠ "__name__":=by decide) (hd:(x == ("__debug__":Str))=false:=by decide):wpAny (model X.prog X.w) X.A (eval (.Name x pos) X.env) Q E s:=by
 obtain ⟨mb,h1,h2⟩:=I.mod.blt
 exact E8 I.ok.kind hg (Calls.loadGlobal_builtin (by rw [I.ok.glob];exact I.mod.glob.keeps I.bk) hm (by rw [I.ok.blt];exact h1.keeps I.bk) ((h2 x hn).trans hv) h) hd
theorem bT {x:Str}{v:V}{u:Value}{pos:Pos}(hg:Gl X x)(hm:X.mg x=some u)(r:bH v u)(hd:(x == ("__debug__":Str))=false:=by decide):PE X (.Name x pos) (tC v) :=
 fun _ _ _ H _ I h=>cf I hg hm ⟨v,H,I,r,h⟩ hd
theorem cR {x:Str}{v:V}{u:Value}{pos:Pos}(hg:Gl X x)(hm:X.mg x=none)(hv:bootBuiltins x=some u)(r:bH v u)(hn:x ≠ "__name__":=by decide)(hd:(x == ("__debug__":Str))=false:=by decide):PE X (.Name x pos) (tC v) :=
 fun _ _ _ H _ I h=>gj I hg hm hv ⟨v,H,I,r,h⟩ hn hd
variable {a b:Expr} {ta tb:TE} {pos:Pos}
inductive IsB (x:V)(H:Hp)(Q:Bool→Hp→Prop):Prop
 | mk:∀ c,(x = .bl c)→(Q c H)→IsB x H Q
variable {tA tB':TT} {rest:List Expr}
def mq (u:TT)(σ:St)(Q:(Bool→Hp→Prop)):Bool→Hp→Prop:=fun c H1=>if c=true then u σ H1 Q else Q false H1
def AX (t u:TT):TT:=fun σ H Q=>t σ H (mq u σ Q)
def ko (u:TT)(σ:St)(Q:(Bool→Hp→Prop)):Bool→Hp→Prop:=fun c H1=>if c=true then Q true H1 else u σ H1 Q
def tOr (t u:TT):TT:=fun σ H Q=>t σ H (ko u σ Q)
def mv (Q:(Bool→Hp→Prop)):Bool→Hp→Prop:=fun c H1=>Q (!c) H1
def AY (t:TT):TT:=fun σ H Q=>t σ H (mv Q)
theorem cw (ha:PT X a tA):PW X (.BoolOp .And [a] pos) tA:=by
 intro wh G6 s σ H Q I h
 refine isTrue_and (thn (ha G6 s σ H Q I h) fun c s1 e=>?_)
 cases c with
 | true=>exact isTrue_and_nil e
 | false=>exact e
theorem gk (ha:PT X a tA):PW X (.BoolOp .Or [a] pos) tA:=by
 intro wh G6 s σ H Q I h
 refine isTrue_or (thn (ha G6 s σ H Q I h) fun c s1 e=>?_)
 cases c with
 | false=>exact isTrue_or_nil e
 | true=>exact e
theorem cS (ha:PT X a tA)(hb:PW X (.BoolOp .And (b::rest) pos) tB'):PW X (.BoolOp .And (a::b::rest) pos) (AX tA tB'):=by
 intro wh G6 s σ H Q I h
 refine isTrue_and (thn (ha G6 s σ H _ I h) fun c s1 zq7=>?_)
 obtain ⟨H1,I1,q1⟩:=zq7
 cases c with
 | true=>exact hb wh G6 s1 σ H1 Q I1 q1
 | false=>exact ⟨H1,I1,q1⟩
theorem iI (ha:PT X a tA)(hb:PW X (.BoolOp .Or (b::rest) pos) tB'):PW X (.BoolOp .Or (a::b::rest) pos) (tOr tA tB'):=by
 intro wh G6 s σ H Q I h
 refine isTrue_or (thn (ha G6 s σ H _ I h) fun c s1 zq8=>?_)
 obtain ⟨H1,I1,q1⟩:=zq8
 cases c with
 | true=>exact ⟨H1,I1,q1⟩
 | false=>exact hb wh G6 s1 σ H1 Q I1 q1
theorem eE (ha:PT X a tA):PT X (.UnaryOp .Not a pos) (AY tA):=by
 intro G6 s σ H Q I h
 exact isTrue_not (ha G6 s σ H (fun c H1=>Q (!c) H1) I h)
def pR (tb:TE)(σ:St)(Q:VK):Bool→Hp→Prop:=fun c H1=>if c=true then tb σ H1 Q else Q (.bl false) H1
def pS (tb:TE)(σ:St)(Q:VK):V→Hp→Prop:=fun x H1=>IsB x H1 (pR tb σ Q)
def y9 (ta tb:TE):TE:=fun σ H Q=>ta σ H (pS tb σ Q)
def pT (Q:VK):Bool→Hp→Prop:=fun c H1=>Q (.bl (!c)) H1
def pU (Q:VK):V→Hp→Prop:=fun x H1=>IsB x H1 (pT Q)
def y_ (ta:TE):TE:=fun σ H Q=>ta σ H (pU Q)
theorem cT {op}{t:TE}(h:PE X a t):PE X (.BoolOp op [a] pos) t:=fun G6 s σ H Q I hw=>BoolOp_one (h G6 s σ H Q I hw)
theorem cq (ha:PE X a ta)(hb:PE X (.BoolOp .And (b::rest) pos) tb):PE X (.BoolOp .And (a::b::rest) pos) (y9 ta tb):=by
 intro G6 s σ H Q I h
 refine BoolOp_and (thn (ha G6 s σ H _ I h) fun v s1 zq9=>?_)
 obtain ⟨x,H1,I1,r1,q1⟩:=zq9
 obtain ⟨c,rfl,q1⟩:=q1
 cases r1
 refine DZ ?_
 cases c with
 | true=>exact hb G6 s1 σ H1 Q I1 q1
 | false=>exact ⟨.bl false,H1,I1,rfl,q1⟩
theorem wB (ha:PE X a ta):PE X (.UnaryOp .Not a pos) (y_ ta):=by
 intro G6 s σ H Q I h
 refine UnaryOp_ (thn (ha G6 s σ H _ I h) fun v s1 zq11=>?_)
 obtain ⟨x,H1,I1,r1,q1⟩:=zq11
 obtain ⟨c,rfl,q1⟩:=q1
 cases r1
 exact not_of (DZ ⟨.bl (!c),H1,I1,rfl,q1⟩)
def wC (ta:TE)(tb:TE)(σ:St)(Q:VK):Bool→Hp→Prop:=fun c H1=>if c=true then ta σ H1 Q else tb σ H1 Q
def tIf (t:TT)(ta tb:TE):TE:=fun σ H Q=>t σ H (wC ta tb σ Q)
theorem bp {c:Expr}(hc:PT X c tA)(ha:PE X a ta)(hb:PE X b tb):PE X (.IfExp c a b pos) (tIf tA ta tb):=by
 intro G6 s σ H Q I h
 refine wpAny_IfExp (thn (hc G6 s σ H _ I h) fun d s1 zq12=>?_)
 obtain ⟨H1,I1,q1⟩:=zq12
 cases d with
 | true=>exact ha G6 s1 σ H1 Q I1 q1
 | false=>exact hb G6 s1 σ H1 Q I1 q1
end
def SqL (K:PySem.W.Frag)(H:Hp)(a:Addr)(xs:List V):Prop :=
 Rd H a (.lst xs) ∨
  ∃ (o:Obj) (its:Array Value) (n:Nat),K.lookup a=some o∧o.cls = .type "list"∧o.dict=none∧o.data = .seq its n∧its.size≤sizeLine∧bo xs its.toList
def SqT (K:PySem.W.Frag)(H:Hp)(a:Addr)(xs:List V):Prop :=
 Rd H a (.tup xs) ∨
  ∃ (o:Obj) (its:Array Value) (n:Nat),K.lookup a=some o∧o.cls = .type "tuple"∧o.data = .seq its n∧its.size≤sizeLine∧bo xs its.toList
def AZ:Value→Option V
 | .none=>some .non
 | .bool b=>some (.bl b)
 | .int i _=>some (.int i)
 | .str x _=>some (.str x)
 | .bytes b _=>some (.byt b)
 | .float b _=>some (.flt b)
 | .ref a=>some (.ref a)
 | .type n=>some (.ty n)
 | _=>none
theorem bH.abs {x:V}{u:Value}(r:bH x u):AZ u=some x:=by
 cases x with
 | non=>cases r;rfl
 | bl _=>cases r;rfl
 | int _=>obtain ⟨t,rfl⟩:=r;rfl
 | str _=>obtain ⟨t,rfl⟩:=r;rfl
 | byt _=>obtain ⟨t,rfl⟩:=r;rfl
 | flt _=>obtain ⟨t,rfl⟩:=r;rfl
 | ref _=>cases r;rfl
 | ty _=>cases r;rfl
theorem bH.inj {x y:V}{u:Value}(r:bH x u)(q:bH y u):x=y:=BW (r.abs.symm.trans q.abs)
theorem bo.inj:∀ {xs ys:List V} {us:List Value},bo xs us→bo ys us→xs=ys
 | _,_,_,.nil,.nil=>rfl
 | _,_,_,.cons r t,.cons r' t'=>by rw [r.inj r',bo.inj t t']
section
variable {X:Cx} {G6:List (Addr × Obj)} {σ:St} {H:Hp} {s:Shared} {a:Addr} {xs ys:List V}
theorem SqL.of {K:PySem.W.Frag}(h:H a=some (.lst xs)):SqL K H a xs:=.inl (.inl h)
theorem SqT.of {K:PySem.W.Frag}(h:H a=some (.tup xs)):SqT K H a xs:=.inl (.inl h)
theorem Inv.list (I:Inv X G6 σ H s)(h:SqL X.K H a xs):∃ its:List Value,bo xs its∧PlainL s.heap a its.toArray∧xs.length≤sizeLine:=by
 rcases h with h | ⟨o,its,n,hk,hc,hd,hs,hz,r⟩
 ·obtain ⟨z,its,n,r,e⟩:=h.ok I.hok
  exact ⟨its,r,⟨_,n,e,rfl,rfl,rfl⟩,z⟩
 ·refine ⟨its.toList,r,⟨o,n,I.kIn a o hk,hc,hd,by simpa using hs⟩,?_⟩
  have e:=r.length
  simp only [BL] at e
  omega
theorem Inv.tuple (I:Inv X G6 σ H s)(h:SqT X.K H a xs):∃ its:List Value,bo xs its∧IsTup s.heap a its.toArray∧xs.length≤sizeLine:=by
 rcases h with h | ⟨o,its,n,hk,hc,hs,hz,r⟩
 ·obtain ⟨z,its,r,p,_⟩:=h.ok I.hok
  exact ⟨its,r,p,z⟩
 ·refine ⟨its.toList,r,⟨o,I.kIn a o hk,hc,n,by simpa using hs⟩,?_⟩
  have e:=r.length
  simp only [BL] at e
  omega
theorem Inv.list_inj (I:Inv X G6 σ H s)(h:SqL X.K H a xs)(h':SqL X.K H a ys):xs=ys:=by
 obtain ⟨its,r,⟨o,n,e,_,_,d⟩,_⟩:=I.list h
 obtain ⟨its',r',⟨o',n',e',_,_,d'⟩,_⟩:=I.list h'
 rw [e] at e';cases e'
 rw [d] at d'
 injection d' with d1 _
 have:its=its':=by simpa using Ci Array.toList d1
 subst this
 exact r.inj r'
theorem Inv.tuple_inj (I:Inv X G6 σ H s)(h:SqT X.K H a xs)(h':SqT X.K H a ys):xs=ys:=by
 obtain ⟨its,r,⟨o,e,_,n,d⟩,_⟩:=I.tuple h
 obtain ⟨its',r',⟨o',e',_,n',d'⟩,_⟩:=I.tuple h'
 rw [e] at e';cases e'
 rw [d] at d'
 injection d' with d1 _
 have:its=its':=by simpa using Ci Array.toList d1
 subst this
 exact r.inj r'
end
abbrev Cx.wish (X:Cx)(E:Value→Shared→Prop):Cx:={ X with xe:=E }
abbrev Cx.nox (X:Cx):Cx:=X.wish fun _ _=>False
theorem Cx.Ok.wish {X:Cx}(ok:X.Ok)(E:Value→Shared→Prop):(X.wish E).Ok :=
 ⟨ok.mod,ok.kind,ok.glob,ok.blt,ok.above,ok.inj,ok.has,ok.cab,ok.hd,ok.frames,ok.stk,ok.exf,ok.bs,ok.bsz,ok.noex,ok.exfs,ok.funs,ok.frf⟩
theorem Cx.Ok.unwish {X:Cx}{E:Value→Shared→Prop}(ok:(X.wish E).Ok):X.Ok :=
 ⟨ok.mod,ok.kind,ok.glob,ok.blt,ok.above,ok.inj,ok.has,ok.cab,ok.hd,ok.frames,ok.stk,ok.exf,ok.bs,ok.bsz,ok.noex,ok.exfs,ok.funs,ok.frf⟩
section
variable {X:Cx} {G6:List (Addr × Obj)} {σ:St} {H:Hp} {s:Shared} {E:Value→Shared→Prop}
theorem Inv.wish (I:Inv X G6 σ H s)(E:Value→Shared→Prop):Inv (X.wish E) G6 σ H s:=⟨I.ok.wish E,I.os,I.bare,I.base,I.loc,I.cell,I.free,I.freeC,I.pin,I.hok,I.len⟩
theorem Inv.unwish (I:Inv (X.wish E) G6 σ H s):Inv X G6 σ H s:=⟨I.ok.unwish,I.os,I.bare,I.base,I.loc,I.cell,I.free,I.freeC,I.pin,I.hok,I.len⟩
theorem SP.unwish {D:eQ}{f:Flow}{s':Shared}(h:SP (X.wish E) G6 D f s'):SP X G6 D f s':=by
 cases f with
 | next=>obtain ⟨σ',H',I,q⟩:=h;exact ⟨σ',H',I.unwish,q⟩
 | brk=>obtain ⟨σ',H',I,q⟩:=h;exact ⟨σ',H',I.unwish,q⟩
 | cont=>obtain ⟨σ',H',I,q⟩:=h;exact ⟨σ',H',I.unwish,q⟩
 | ret u=>obtain ⟨v,σ',H',I,r,q⟩:=h;exact ⟨v,σ',H',I.unwish,r,q⟩
theorem PSs.nox {st:List Stmt}{t:TS}(h:PSs X.nox st t):PSs X st t:=fun G6 s σ H D I hw =>
 CB (h G6 s σ H D (I.wish _) hw) (fun _ _ q=>q.unwish) fun _ _ z=>False.elim z
end
section
variable {X:Cx} {st:Stmt} {rest:List Stmt} {t u:TS} {e:Expr} {te:TE} {pos:Pos}
def tK:TS:=fun D σ H=>D.nx σ H
def A0 (t u:TS):TS:=fun D σ H=>t { D with nx:=u D } σ H
theorem aO:PSs X [] tK:=fun _ _ σ H _ I h=>DE ⟨σ,H,I,h⟩
theorem ag (h1:PS X st t)(h2:PSs X rest u):PSs X (st::rest) (A0 t u):=by
 intro G6 s σ H D I h
 refine D9 (thn (h1 G6 s σ H { D with nx:=u D } I h) fun f s1 q=>?_)
 cases f with
 | next =>
  obtain ⟨σ',H',I',q⟩:=q
  exact h2 G6 s1 σ' H' D I' q
 | ret v=>exact q
 | brk=>exact q
 | cont=>exact q
theorem aj (h1:PS X st t):PSs X [st] t:=by
 intro G6 s σ H D I h
 refine D9 (thn (h1 G6 s σ H D I h) fun f s1 q=>?_)
 cases f with
 | next=>exact DE q
 | ret v=>exact q
 | brk=>exact q
 | cont=>exact q
theorem Inv.quiet {G6:List (Addr × Obj)}{σ:St}{H:Hp}{s:Shared}(I:Inv X G6 σ H s):interactive X.env=false:=by simp [interactive,I.ok.kind]
def pV (D:eQ)(σ:St):V→Hp→Prop:=fun _ H1=>D.nx σ H1
def zc (te:TE):TS:=fun D σ H=>te σ H (pV D σ)
theorem cU (he:PE X e te)(hs:swapsWith e none pos.line X.env=pure false:=by rfl):PS X (.Expr e pos) (zc te):=by
 intro G6 s σ H D I h
 exact wpAny_Expr_any (thn (he G6 s σ H _ I h) fun v s1 zq15=>(by obtain ⟨x,H1,I1,r1,q1⟩:=zq15;exact ⟨σ,H1,I1,q1⟩)) I.quiet hs
def Az (te:TE):TS:=fun D σ H=>te σ H D.rt
theorem aK (he:PE X e te):PS X (.Return (some e) pos) (Az te):=by
 intro G6 s σ H D I h
 exact wpAny_Return_some (thn (he G6 s σ H _ I h) fun v s1 zq16=>(by obtain ⟨x,H1,I1,r1,q1⟩:=zq16;exact ⟨x,σ,H1,I1,r1,q1⟩))
def dY (t:TS)(u:TS)(D:eQ)(σ:St):Bool→Hp→Prop:=fun b H1=>if b=true then t D σ H1 else u D σ H1
def A2 (c:TT)(t u:TS):TS:=fun D σ H=>c σ H (dY t u D σ)
theorem bf {c:Expr}{a b:List Stmt}{tc:TT}(hc:PT X c tc)(ha:PSs X a t)(hb:PSs X b u):PS X (.If c a b pos) (A2 tc t u):=by
 intro G6 s σ H D I h
 refine wpAny_If (thn (hc G6 s σ H _ I h) fun d s1 zq17=>?_)
 obtain ⟨H1,I1,q1⟩:=zq17
 cases d with
 | true=>exact ha G6 s1 σ H1 D I1 q1
 | false=>exact hb G6 s1 σ H1 D I1 q1
end
abbrev TG:=V→St→Hp→(St→Hp→Prop)→Prop
abbrev TGs:=List V→St→Hp→(St→Hp→Prop)→Prop
def PG (X:Cx)(target:Expr)(t:TG):Prop :=
 ∀ (G6:List (Addr × Obj)) (s:Shared) (σ:St) (H:Hp) (v:V) (u:Value) (Q:St→Hp→Prop),Inv X G6 σ H s→bH v u→t v σ H Q →
  wpAny (model X.prog X.w) X.A (assign target X.env u) (fun _ s'=>∃ σ' H',Inv X G6 σ' H' s'∧Q σ' H') X.xe s
def PGs (X:Cx)(ts:List Expr)(t:TGs):Prop :=
 ∀ (G6:List (Addr × Obj)) (s:Shared) (σ:St) (H:Hp) (vs:List V) (us:List Value) (Q:St→Hp→Prop),Inv X G6 σ H s→bo vs us→t vs σ H Q →
  wpAny (model X.prog X.w) X.A (assignInOrder ((assignEach ts X.env).map (·.2)) us) (fun _ s'=>∃ σ' H',Inv X G6 σ' H' s'∧Q σ' H') X.xe s
section
variable {X:Cx} {pos:Pos}
def pW (i:Nat):TG:=fun v σ H Q=>Q (σ.set i (some v)) H
theorem aX {i:Nat}{x:Str}(hN:X.N.Nodup)(hi:X.N[i]? = some x)(hx:Loc X.env.scope x)(hf:X.fn x=true ∨ X.env.scope.names.lookup x=some .local:=by first | exact .inl rfl | exact .inr rfl | assumption):PG X (.Name x pos) (pW i):=by
 intro G6 s σ H v u Q I r h
 exact wpAny_assign_Name (cY I hN hi hx r (fun s' I'=>⟨_,H,I',h⟩) hf)
def A3:TGs:=fun vs σ H Q=>vs=[]∧Q σ H
def zd (t:TG)(u:TGs):TGs:=fun vs σ H Q=>∃ v r,vs=v::r∧t v σ H fun σ' H'=>u r σ' H' Q
theorem tN:PGs X [] A3:=by
 intro G6 s σ H vs us Q I r h
 obtain ⟨e,h⟩:=h
 subst e
 cases r
 exact assignInOrder_nil ⟨σ,H,I,h⟩
theorem kq {e:Expr}{es:List Expr}{t:TG}{u:TGs}(h1:PG X e t)(h2:PGs X es u)
  (hs:(assignEach (e::es) X.env).map (·.2)=assign e X.env::(assignEach es X.env).map (·.2):=by rfl):PGs X (e::es) (zd t u):=by
 intro G6 s σ H vs us Q I r h
 obtain ⟨v,vr,e1,h⟩:=h
 subst e1
 cases r with
 | cons r rr =>
  rw [hs]
  refine assignInOrder_cons (thn (h1 G6 s σ H _ _ _ I r h) fun _ s1 zq18=>?_)
  obtain ⟨σ1,H1,I1,q1⟩:=zq18
  exact h2 G6 s1 σ1 H1 _ _ Q I1 rr q1
def A4 (K:PySem.W.Frag)(n:Nat)(t:TGs):TG:=fun v σ H Q=>∃ a xs,v = .ref a∧SqT K H a xs∧xs.length=n∧t xs σ H Q
theorem wD {es:List Expr}{k:Nat}{t:TGs}{n:Nat}(hc:X.calm=true)(h:PGs X es t)
  (hn:(assignEach es X.env).length=n:=by rfl) (Hs:(assignEach es X.env).findIdx? (·.1)=none:=by rfl):PG X (.Tuple es k pos) (A4 X.K n t):=by
 intro G6 s σ H v u Q I r hw
 obtain ⟨a,xs,e1,hq,hl,hw⟩:=hw
 subst e1
 cases r
 obtain ⟨its,rv,ht,hz⟩:=I.tuple hq
 refine assign_Tuple_tuple (I.ok.hd hc) ht (by simp [hn,← hl,rv.length]) Hs fun h' hx=>?_
 have I1:Inv X G6 σ H { s with heap:=h' }:=I.kept (t':=s.toks) fun b o e=>hx b o (Cr (BU e)) e
 exact h G6 _ σ H xs _ Q I1 (by simpa using rv) hw
def tO (g:TG)(D:eQ)(σ:St):V→Hp→Prop:=fun x H1=>g x σ H1 D.nx
def ze (te:TE)(g:TG):TS:=fun D σ H=>te σ H (tO g D σ)
theorem aC {i:Nat}{x:Str}{e:Expr}{te:TE}{pos':Pos}(hN:X.N.Nodup)(hi:X.N[i]? = some x)(hx:Loc X.env.scope x)(he:PE X e te)(hs:swapsWith e (some (.Name x pos')) pos.line X.env=pure false:=by rfl)(hf:X.fn x=true ∨ X.env.scope.names.lookup x=some .local:=by first | exact .inl rfl | exact .inr rfl | assumption) :
  PS X (.Assign [.Name x pos'] e pos) (ze te (pW i)):=by
 intro G6 s σ H D I h
 refine wpAny_Assign_Name (thn (he G6 s σ H _ I h) fun v s1 zq23=>?_) hs
 obtain ⟨y,H1,I1,r1,q1⟩:=zq23
 exact cY I1 hN hi hx r1 (fun s2 I2=>⟨_,H1,I2,q1⟩) hf
def sv (c:TT)(tb:TS):TS:=fun D σ H=>∃ W:Nat→St→Hp→Prop,(∃ m,W m σ H)∧∀ m σ H,W m σ H →
 c σ H fun b H1=>if b=true then ∃ N:St→Hp→Prop,(∀ σ' H',N σ' H'→∃ m',m' < m∧W m' σ' H')∧tb { D with nx:=N,ct:=N,bk:=D.nx } σ H1 else D.nx σ H1
theorem eR {c:Expr}{body:List Stmt}{tc:TT}{tb:TS}(hp:PassesOwn (model X.prog X.w) X.A X.env X.xe)(hc:PT X c tc)(hb:PSs X body tb):PS X (.While c body [] pos) (sv tc tb):=by
 intro G6 s σ H D I h
 obtain ⟨W,⟨m0,w0⟩,turn⟩:=h
 refine wpAny_While (codeAny_whileLoop (fun n s'=>∃ σ' H',Inv X G6 σ' H' s'∧W n σ' H') ?_ m0 ⟨σ,H,I,w0⟩)
 rintro n s1 ⟨σ1,H1,I1,w1⟩
 refine DF hp (thn (hc G6 s1 σ1 H1 _ I1 (turn n σ1 H1 w1)) fun b s2 zq33=>?_)
 obtain ⟨H2,I2,q2⟩:=zq33
 cases b with
 | true =>
  obtain ⟨N,hN,q2⟩:=q2
  rw [if_pos rfl]
  refine DF hp (thn (hb G6 s2 σ1 H2 _ I2 q2) fun f s3 q3=>?_)
  cases f with
  | next =>
   obtain ⟨σ3,H3,I3,n3⟩:=q3
   obtain ⟨m',hm,w3⟩:=hN σ3 H3 n3
   exact ⟨m',hm,σ3,H3,I3,w3⟩
  | cont =>
   obtain ⟨σ3,H3,I3,n3⟩:=q3
   obtain ⟨m',hm,w3⟩:=hN σ3 H3 n3
   exact ⟨m',hm,σ3,H3,I3,w3⟩
  | brk=>exact q3
  | ret v=>exact q3
 | false =>
  rw [if_neg B3]
  exact DE ⟨σ1,H2,I2,q2⟩
end
structure It where
 go:Nat→Hp→Prop
 yld:Nat→Hp→V→Hp→Prop
 stop:Nat→Hp→Prop
def jB (X:Cx)(G6:List (Addr × Obj))(H:Hp)(b:Addr):Prop :=
 H b=none∧b≠X.env.locals∧b∉X.fs∧(b∈X.ex ∨ X.s₀.heap.objs.size≤b)∧(∀ x c,X.env.cells.lookup x=some c→c≠b)∧∀ p∈X.pn++G6,p.1≠b
theorem Inv.fpOk {X:Cx}{G6:List (Addr × Obj)}{σ:St}{H H':Hp}{s:Shared}{b:Addr}(I:Inv X G6 σ H s)(hb:s.heap.objs.size≤b)(hn:H' b=none):jB X G6 H' b:=by
 refine ⟨hn,Gm (BX I.lt hb),I.nofs hb,.inr (Cn I.sz hb),fun x c e z=>?_,fun p hp z=>?_⟩
 ·obtain ⟨v,q⟩:=I.cell x c e
  exact absurd (BX q.lt (by rw [z];exact hb)) (Co _)
 ·exact absurd (BX (BU (I.pin p hp).1) (by rw [z];exact hb)) (Co _)
structure tQ (P:Program) (w:World) (K:PySem.W.Frag) (tg:Expr) (J:It) (fp:List Addr) (it:Addr) (tn:Nat→Heap→Prop):Prop where
 mem:it∈fp
 obj:∀ i h,tn i h→∀ b∈fp,∃ o,h.get? b=some o∧∀ v,o.data ≠ .cell v
 keep:∀ i h h',tn i h→(∀ b∈fp,∀ o,h.get? b=some o→h'.get? b=some o)→tn i h'
 item:∀ (X:Cx),X.prog=P→X.w=w→X.K=K→X.calm=true→∀ (i:Nat) (G6:List (Addr × Obj)) (s:Shared) (σ:St) (H:Hp) (E:Value→Shared→Prop),Inv X G6 σ H s→(∀ b∈fp,jB X G6 H b)→tn i s.heap→J.go i H →
  wpAny (model P w) X.A (pyNext (.ref it)) (fun r s1=>∃ u,r=some u ∧
   wpAny (model P w) X.A (letOwnedTupleGo tg (.ref it) u) (fun _ s2=>∃ x H',Inv X G6 σ H' s2∧bH x u∧J.yld i H x H'∧tn (i+1) s2.heap∧∀ b∈fp,H' b=none) E s1) E s
 done:∀ (X:Cx),X.prog=P→X.w=w→X.K=K→X.calm=true→∀ (i:Nat) (G6:List (Addr × Obj)) (s:Shared) (σ:St) (H:Hp) (E:Value→Shared→Prop),Inv X G6 σ H s→(∀ b∈fp,jB X G6 H b)→tn i s.heap→J.stop i H →
  wpAny (model P w) X.A (pyNext (.ref it)) (fun r s1=>r=none∧Inv X G6 σ H s1) E s
 self:∀ (A:Around) (i:Nat) (s:Shared) (Q:Value→Shared→Prop) (E:Value→Shared→Prop),tn i s.heap→Q (.ref it) s→wpAny (model P w) A (pyIter (.ref it)) Q E s
abbrev TI:=St→Hp→(It→Hp→Prop)→Prop
def PIE (X:Cx)(G6:List (Addr × Obj))(σ:St)(tg:Expr)(R:It→Hp→Prop)(itv:Value)(s2:Shared):Prop :=
 ∃ (it:Addr) (fp:List Addr) (tn:Nat→Heap→Prop) (J:It) (H':Hp),itv = .ref it∧Inv X G6 σ H' s2∧tQ X.prog X.w X.K tg J fp it tn∧tn 0 s2.heap∧(∀ b∈fp,jB X G6 H' b)∧R J H'
def PI (X:Cx)(tg iter:Expr)(wi:TI):Prop :=
 ∀ (G6:List (Addr × Obj)) (s:Shared) (σ:St) (H:Hp) (R:It→Hp→Prop),Inv X G6 σ H s→wi σ H R →
  wpAny (model X.prog X.w) X.A (eval iter X.env) (fun v s1=>wpAny (model X.prog X.w) X.A (pyIter v) (PIE X G6 σ tg R) X.xe s1) X.xe s
theorem pX {M:Model}{A:Around}{E:Value→Shared→Prop}{s:Shared}{tg:Expr}{it:Addr}{u:Value}{o:Obj}{n:String}{vs:Array Value}{Q:Unit→Shared→Prop}(ho:s.heap.get? it=some o)(hc:o.cls = .type n)(hd:o.data = .fields vs)
  (hn:["enumerate","zip","dict_itemiterator","dict_reverseitemiterator","odict_iterator","itertools.zip_longest","itertools.pairwise"].contains n=false) (hQ:Q () s):wpAny M A (letOwnedTupleGo tg (.ref it) u) Q E s:=by
 unfold letOwnedTupleGo
 cases tg <;> first
  | exact BH hQ
  | (cases u <;> first
    | exact BH hQ
    | (
      refine fu (wpAny_load ho ?_)
      rw [hc,hd]
      show wpAny M A (if (["enumerate","zip","dict_itemiterator","dict_reverseitemiterator","odict_iterator","itertools.zip_longest","itertools.pairwise"].contains n && vs[0]? == some (rawInt _))=true then _ else _) Q E s
      rw [if_neg (by intro h;rw [hn,C8] at h;cases h)]
      exact BH hQ))
def Itl (K:PySem.W.Frag)(a:Addr):It :=
 ⟨fun i H=>∃ xs x,SqL K H a xs∧xs[i]? = some x,fun i H x H'=>H'=H∧∀ xs,SqL K H a xs→xs[i]? = some x,fun i H=>∃ xs,SqL K H a xs∧xs.length≤i⟩
def Itt (K:PySem.W.Frag)(a:Addr):It :=
 ⟨fun i H=>∃ xs x,SqT K H a xs∧xs[i]? = some x,fun i H x H'=>H'=H∧∀ xs,SqT K H a xs→xs[i]? = some x,fun i H=>∃ xs,SqT K H a xs∧xs.length≤i⟩
def Itr (lo:Int)(n:Nat):It:=⟨fun i _=>i < n,fun i H x H'=>H'=H∧x = .int (lo+i),fun i _=>n≤i⟩
theorem iJ {P:Program}{w:World}{K:PySem.W.Frag}{tg:Expr}(a it:Addr):tQ P w K tg (Itl K a) [it] it (fun i h=>h.IsListIter it a i) where
 mem:=by simp
 obj:=fun i h st b hb=>by
  have e:b=it:=by simpa using hb
  subst e
  obtain ⟨o,e,c,d⟩:=st
  exact ⟨o,e,fun v z=>by rw [d] at z;cases z⟩
 keep:=fun i h h' st k=>st.at fun o e=>k it (by simp) o e
 item:=by
  intro X hP hw hK hc i G6 s σ H E I hf st hg
  subst hP hw hK
  obtain ⟨xs,x,hq,hx⟩:=hg
  obtain ⟨its,rv,p,hz⟩:=I.list hq
  obtain ⟨u,hu,ru⟩:=rv.get hx
  obtain ⟨f0,f1,f2,f3,f4,f5⟩:=hf it (by simp)
  refine wpAny_pyNext_list_item st p.isList (x:=u) (by simpa using hu) fun h' G8 sb=>?_
  have I1:Inv X G6 σ H { s with heap:=h' }:=I.turned (t':=s.toks) (fun b o hb e=>(sb.2 b hb).trans e) f0 f1 f3 f4 f5
  obtain ⟨o,e,c,d⟩:=id G8
  exact ⟨u,rfl,pX (s:={ s with heap:=h' }) e c d (by decide) ⟨x,H,I1,ru,⟨rfl,fun ys hy=>by rw [I.list_inj hy hq];exact hx⟩,G8,fun b hb=>(hf b hb).1⟩⟩
 done:=by
  intro X hP hw hK hc i G6 s σ H E I hf st hg
  subst hP hw hK
  obtain ⟨xs,hq,hx⟩:=hg
  obtain ⟨its,rv,p,hz⟩:=I.list hq
  obtain ⟨f0,f1,f2,f3,f4,f5⟩:=hf it (by simp)
  have hl:=rv.length
  exact wpAny_pyNext_list_end (I.ok.hd hc) st p.isList (by simp;omega) fun h' eb=>⟨rfl,I.turned (t':=s.toks) (fun b o hb e=>eb b o hb e) f0 f1 f3 f4 f5⟩
 self:=fun _ _ _ _ _ st h=>wpAny_pyIter_listiter st h
theorem gp {P:Program}{w:World}{K:PySem.W.Frag}{tg:Expr}(a it:Addr):tQ P w K tg (Itt K a) [it] it (fun i h=>h.IsTupleIter it a i) where
 mem:=by simp
 obj:=fun i h st b hb=>by
  have e:b=it:=by simpa using hb
  subst e
  obtain ⟨o,e,c,d⟩:=st
  exact ⟨o,e,fun v z=>by rw [d] at z;cases z⟩
 keep:=fun i h h' st k=>st.at fun o e=>k it (by simp) o e
 item:=by
  intro X hP hw hK hc i G6 s σ H E I hf st hg
  subst hP hw hK
  obtain ⟨xs,x,hq,hx⟩:=hg
  obtain ⟨its,rv,p,hz⟩:=I.tuple hq
  obtain ⟨u,hu,ru⟩:=rv.get hx
  obtain ⟨f0,f1,f2,f3,f4,f5⟩:=hf it (by simp)
  refine wpAny_pyNext_tuple_item st (show s.heap.IsTuple a its.toArray from p) (x:=u) (by simpa using hu) fun h' G8 sb=>?_
  have I1:Inv X G6 σ H { s with heap:=h' }:=I.turned (t':=s.toks) (fun b o hb e=>(sb.2 b hb).trans e) f0 f1 f3 f4 f5
  obtain ⟨o,e,c,d⟩:=id G8
  exact ⟨u,rfl,pX (s:={ s with heap:=h' }) e c d (by decide) ⟨x,H,I1,ru,⟨rfl,fun ys hy=>by rw [I.tuple_inj hy hq];exact hx⟩,G8,fun b hb=>(hf b hb).1⟩⟩
 done:=by
  intro X hP hw hK hc i G6 s σ H E I hf st hg
  subst hP hw hK
  obtain ⟨xs,hq,hx⟩:=hg
  obtain ⟨its,rv,p,hz⟩:=I.tuple hq
  obtain ⟨f0,f1,f2,f3,f4,f5⟩:=hf it (by simp)
  have hl:=rv.length
  exact wpAny_pyNext_tuple_end (I.ok.hd hc) st (show s.heap.IsTuple a its.toArray from p) (by simp;omega) fun h' eb=>⟨rfl,I.turned (t':=s.toks) (fun b o hb e=>eb b o hb e) f0 f1 f3 f4 f5⟩
 self:=fun _ _ _ _ _ st h=>wpAny_pyIter_tupleiter st h
theorem lK {P:Program}{w:World}{K:PySem.W.Frag}{tg:Expr}(it:Addr)(lo:Int)(n:Nat):tQ P w K tg (Itr lo n) [it] it (fun i h=>IsRangeIter h it (lo+(i:Nat)*1) ((n:Int) - (i:Nat)) 1) where
 mem:=by simp
 obj:=fun i h st b hb=>by
  have e:b=it:=by simpa using hb
  subst e
  exact ⟨_,st,fun v z=>by
   have z':Data.fields _=Data.cell v:=z
   cases z'⟩
 keep:=fun i h h' st k=>k it (by simp) _ st
 item:=by
  intro X hP hw hK hc i G6 s σ H E I hf st hg
  subst hP hw hK
  obtain ⟨f0,f1,f2,f3,f4,f5⟩:=hf it (by simp)
  have W:=Walks.range (prog:=X.prog) (w:=X.w) (I.ok.hd hc) it lo 1 n
  refine W.item i s _ _ hg st fun v h' tk hv G8 kk=>?_
  obtain ⟨t,rfl⟩:=hv
  have I1:Inv X G6 σ H { s with heap:=h',toks:=tk }:=I.turned (fun b o hb e=>kk b o (by simpa using hb) e) f0 f1 f3 f4 f5
  refine ⟨_,rfl,pX (s:={ s with heap:=h',toks:=tk }) (n:="range_iterator") G8 rfl rfl (by decide) ⟨.int (lo+i),H,I1,⟨t,?_⟩,⟨rfl,rfl⟩,G8,fun b hb=>(hf b hb).1⟩⟩
  rw [Int.mul_one]
 done:=by
  intro X hP hw hK hc i G6 s σ H E I hf st hg
  subst hP hw hK
  obtain ⟨f0,f1,f2,f3,f4,f5⟩:=hf it (by simp)
  exact wpAny_pyNext_range_end (I.ok.hd hc) st (by have:n≤i:=hg;omega) fun h' eb=>⟨rfl,I.turned (t':=s.toks) (fun b o hb e=>eb b o hb e) f0 f1 f3 f4 f5⟩
 self:=fun _ _ _ _ _ st h=>wpAny_pyIter_rangeiter st h
section
variable {X:Cx} {tg:Expr}
def zf (K:PySem.W.Frag)(tl:TE):TI:=fun σ H R=>tl σ H fun x H1=>∃ a,x = .ref a∧(∃ xs,SqL K H1 a xs)∧R (Itl K a) H1
def A5 (K:PySem.W.Frag)(tl:TE):TI:=fun σ H R=>tl σ H fun x H1=>∃ a,x = .ref a∧(∃ xs,SqT K H1 a xs)∧R (Itt K a) H1
theorem dw {l:Expr}{tl:TE}(hl:PE X l tl):PI X tg l (zf X.K tl):=by
 intro G6 s σ H R I h
 refine thn (hl G6 s σ H _ I h) fun v s1 zq34=>?_
 obtain ⟨x,H1,I1,r1,q1⟩:=zq34
 obtain ⟨a,e,⟨xs,hq⟩,q⟩:=q1
 subst e
 cases r1
 obtain ⟨its,rv,p,hz⟩:=I1.list hq
 refine Fo p.isList ?_
 refine ⟨s1.heap.objs.size,[s1.heap.objs.size],_,_,H1,rfl,I1.kept (t':=s1.toks) fun b o e=>BD _ e,iJ a _,⟨_,B5 _ rfl,rfl,rfl⟩,fun b hb=>?_,q⟩
 have e:b=s1.heap.objs.size:=by simpa using hb
 subst e
 exact I1.fpOk (BG _) (I1.hok.fresh (BG _))
theorem gq {l:Expr}{tl:TE}(hl:PE X l tl):PI X tg l (A5 X.K tl):=by
 intro G6 s σ H R I h
 refine thn (hl G6 s σ H _ I h) fun v s1 zq35=>?_
 obtain ⟨x,H1,I1,r1,q1⟩:=zq35
 obtain ⟨a,e,⟨xs,hq⟩,q⟩:=q1
 subst e
 cases r1
 obtain ⟨its,rv,p,hz⟩:=I1.tuple hq
 refine DT (show s1.heap.IsTuple a its.toArray from p) ?_
 refine ⟨s1.heap.objs.size,[s1.heap.objs.size],_,_,H1,rfl,I1.kept (t':=s1.toks) fun b o e=>BD _ e,gp a _,⟨_,B5 _ rfl,rfl,rfl⟩,fun b hb=>?_,q⟩
 have e:b=s1.heap.objs.size:=by simpa using hb
 subst e
 exact I1.fpOk (BG _) (I1.hok.fresh (BG _))
theorem pY {G6:List (Addr × Obj)}{σ:St}{H:Hp}{s:Shared}{R:It→Hp→Prop}{E:Value→Shared→Prop}{lo hi:Int}{t u v:Tok}{tk:Nat}(I:Inv X G6 σ H s)(h1:-(2 ^ 62)≤lo)(h2:lo < 2 ^ 62)(h3:-(2 ^ 62)≤hi)(h4:hi < 2 ^ 62)
  (q:R (Itr lo (hi - lo).toNat) H):wpAny (model X.prog X.w) X.A (pyIter (.ref s.heap.objs.size)) (PIE X G6 σ tg R) E { s with heap:=s.heap.push { cls:=.type "range",data:=.fields #[.int lo t,.int hi u,.int 1 v] },toks:=tk }:=by
 refine wpAny_pyIter_range (IsRange.new ..) (small_one h1 h2 h3 h4) ?_
 have I1:Inv X G6 σ H { s with heap:=s.heap.push { cls:=.type "range",data:=.fields #[.int lo t,.int hi u,.int 1 v] },toks:=tk }:=I.kept fun b o e=>BD _ e
 refine ⟨(s.heap.push { cls:=.type "range",data:=.fields #[.int lo t,.int hi u,.int 1 v] }).objs.size,[(s.heap.push { cls:=.type "range",data:=.fields #[.int lo t,.int hi u,.int 1 v] }).objs.size],_,_,H,rfl,
  I1.kept (t':=tk) fun b o e=>BD _ e,lK _ lo (hi - lo).toNat,?_,fun b hb=>?_,q⟩
 ·have e1:lo+((0:Nat):Int)*1=lo:=by simp
  have e2:(((hi - lo).toNat:Nat):Int) - ((0:Nat):Int)=Builtin.Range.rangeSize lo hi 1:=by rw [rangeSize_one];split <;> omega
  show IsRangeIter _ _ (lo+((0:Nat):Int)*1) ((((hi - lo).toNat:Nat):Int) - ((0:Nat):Int)) 1
  rw [e1,e2]
  exact B5 _ rfl
 ·have e:b=(s.heap.push { cls:=.type "range",data:=.fields #[.int lo t,.int hi u,.int 1 v] }).objs.size:=by simpa using hb
  subst e
  exact I1.fpOk (BG _) (I1.hok.fresh (BG _))
def zg (ta:TA):TI:=fun σ H R=>ta σ H fun vs H1=>∃ j:Int,vs=[.int j]∧-(2 ^ 62)≤j∧j < 2 ^ 62∧R (Itr 0 j.toNat) H1
theorem bq {a:Expr}{ta:TA}{p pos:Pos}(hg:Gl X "range")(hm:X.mg "range" = none)(ha:PA X [a] ta)(hs:starEach [a] X.env=[(false,eval a X.env)]:=by rfl):PI X tg (.Call (.Name "range" p) [a] [] pos) (zg ta):=by
 intro G6 s σ H R I h
 refine Call_ (gj I hg hm boot_range (Ds (thn (ha pos G6 s σ H _ I h) fun us s1 zq36=>?_) hs rfl))
 obtain ⟨vs,H1,I1,r1,q1⟩:=zq36
 obtain ⟨j,e,q1,q2,q⟩:=q1
 subst e
 cases r1 with
 | cons r rr =>
  cases rr
  obtain ⟨t,rfl⟩:=r
  exact call_range_1 (pY I1 (by omega) (by omega) q1 q2 (by simpa using q))
def A6 (wi:TI)(g:TG)(tb:TS):TS:=fun D σ H=>wi σ H fun J H1=>∃ W:Nat→Nat→St→Hp→Prop,(∃ m,W 0 m σ H1)∧∀ i m σ H,W i m σ H →
 (J.stop i H∧D.nx σ H) ∨ (J.go i H∧∃ N:St→Hp→Prop,(∀ σ' H',N σ' H'→∃ m',m' < m∧W (i+1) m' σ' H')∧∀ x H',J.yld i H x H'→g x σ H' fun σ2 H2=>tb { D with nx:=N,ct:=N,bk:=D.nx } σ2 H2)
def gr (fp:List Addr)(h:Heap):List (Addr × Obj):=fp.filterMap fun b=>(h.get? b).map fun o=>(b,o)
theorem bZ {fp:List Addr}{h:Heap}{b:Addr}{o:Obj}(hb:b∈fp)(e:h.get? b=some o):(b,o)∈gr fp h:=List.mem_filterMap.mpr ⟨b,hb,by rw [e]; rfl⟩
theorem mw {fp:List Addr}{h:Heap}{p:Addr × Obj}(hp:p∈gr fp h):p.1∈fp∧h.get? p.1=some p.2:=by
 obtain ⟨b,hb,e⟩:=List.mem_filterMap.mp hp
 cases q:h.get? b with
 | none=>rw [q] at e;cases e
 | some o =>
  rw [q] at e
  have e':(b,o)=p:=BW e
  subst e'
  exact ⟨hb,q⟩
theorem Inv.pinned {G6:List (Addr × Obj)}{σ:St}{H:Hp}{s:Shared}{fp:List Addr}(I:Inv X G6 σ H s)(hf:∀ b∈fp,jB X G6 H b)(ho:∀ b∈fp,∃ o,s.heap.get? b=some o∧∀ v,o.data ≠ .cell v):Inv X (G6++gr fp s.heap) σ H s :=
 I.pins_of fun p hp=>(BR.mp hp).elim (fun z=>I.pin p (BN _ z)) fun z=>by
  obtain ⟨hb,e⟩:=mw z
  obtain ⟨f0,f1,f2,_⟩:=hf p.1 hb
  obtain ⟨o,e',d⟩:=ho p.1 hb
  rw [e] at e';cases e'
  exact ⟨e,f0,f1,f2,d⟩
theorem Inv.unpinned {G6 pl:List (Addr × Obj)}{σ:St}{H:Hp}{s:Shared}(I:Inv X (G6++pl) σ H s):Inv X G6 σ H s:=I.pins_of fun p hp=>I.pin p (BN _ (Cb _ hp))
theorem bN {iter:Expr}{body:List Stmt}{wi:TI}{g:TG}{tb:TS}{pos:Pos}(hp:PassesOwn (model X.prog X.w) X.A X.env X.xe)(hc:X.calm=true)(hi:PI X tg iter wi)(hg:PG X tg g)(hb:PSs X body tb)
  (hs:∀ x,foldedSetIterable iter X.env x=pure x:=by intro _;rfl):PS X (.For tg iter body [] pos) (A6 wi g tb):=by
 intro G6 s σ H D I h
 refine wpAny_For (thn (hi G6 s σ H _ I h) fun v s1 h1=>thn h1 fun itv s2 h2=>?_) hs
 obtain ⟨it,fp,tn,J,H2,e,I2,T,Hz,f2,W,⟨m0,w0⟩,turn⟩:=h2
 subst e
 -- what stays true of the iterator's objects through the loop
 have stat:∀ {H':Hp},(∀ b∈fp,H' b=none)→∀ b∈fp,jB X G6 H' b:=fun hn b hb=>⟨hn b hb,(f2 b hb).2⟩
 refine codeAny_forLoop_any (fun n s'=>∃ i σ' H',Inv X G6 σ' H' s'∧tn i s'.heap∧(∀ b∈fp,H' b=none)∧W i n σ' H') ?_ m0 ⟨0,σ,H2,I2,Hz,fun b hb=>(f2 b hb).1,w0⟩
 rintro n s3 ⟨i,σ3,H3,I3,st3,fr3,w3⟩
 rcases turn i n σ3 H3 w3 with ⟨stop,qn⟩ | ⟨go,N,hN,step⟩
 ·refine DF hp (thn (T.done X rfl rfl rfl hc i G6 s3 σ3 H3 X.xe I3 (stat fr3) st3 stop) fun r s4 zq38=>?_)
  obtain ⟨hr,I4⟩:=zq38
  subst hr
  exact DE ⟨σ3,H3,I4,qn⟩
 ·refine DF hp (thn (T.item X rfl rfl rfl hc i G6 s3 σ3 H3 X.xe I3 (stat fr3) st3 go) fun r s4 zq39=>?_)
  obtain ⟨u,hr,h4⟩:=zq39
  subst hr
  refine DF hp (thn h4 fun _ s5 zq40=>?_)
  obtain ⟨x,H5,I5,r5,y5,st5,fr5⟩:=zq40
  have I5':=I5.pinned (stat fr5) (T.obj _ _ st5)
  refine DF hp (thn (hg _ s5 σ3 H5 x u _ I5' r5 (step x H5 y5)) fun _ s6 zq41=>?_)
  obtain ⟨σ6,H6,I6,q6⟩:=zq41
  refine DF hp (thn (hb _ s6 σ6 H6 _ I6 q6) fun f s7 q7=>?_)
  have again:∀ {σ7:St} {H7:Hp},Inv X (G6++gr fp s5.heap) σ7 H7 s7→N σ7 H7→∃ m,m < n∧∃ i σ' H',Inv X G6 σ' H' s7∧tn i s7.heap∧(∀ b∈fp,H' b=none)∧W i m σ' H':=fun {σ7 H7} I7 n7=>by
   obtain ⟨m',hm,w7⟩:=hN σ7 H7 n7
   refine ⟨m',hm,i+1,σ7,H7,I7.unpinned,T.keep _ _ _ st5 fun b hb o e=>(I7.pin (b,o) (BN _ (BN _ (bZ hb e)))).1,fun b hb=>?_,w7⟩
   obtain ⟨o,e,d⟩:=T.obj _ _ st5 b hb
   exact (I7.pin (b,o) (BN _ (BN _ (bZ hb e)))).2.1
  cases f with
  | next=>obtain ⟨σ7,H7,I7,n7⟩:=q7;exact again I7 n7
  | cont=>obtain ⟨σ7,H7,I7,n7⟩:=q7;exact again I7 n7
  | brk=>obtain ⟨σ7,H7,I7,q7⟩:=q7;exact ⟨σ7,H7,I7.unpinned,q7⟩
  | ret v=>obtain ⟨x7,σ7,H7,I7,r7,q7⟩:=q7;exact ⟨x7,σ7,H7,I7.unpinned,r7,q7⟩
end
theorem dG {K:PySem.W.Frag}{a:Addr}{xs:List V}{g:TG}{tb:TS}{D:eQ}{σ:St}{H:Hp}(Pv:Nat→St→Hp→Prop)(h0:Pv 0 σ H)(hl:∀ i σ H,i≤xs.length→Pv i σ H→SqL K H a xs)
  (hs:∀ i x σ H,xs[i]? = some x→Pv i σ H→g x σ H fun σ2 H2=>tb { D with nx:=Pv (i+1),ct:=Pv (i+1),bk:=D.nx } σ2 H2) (hd:∀ σ H,Pv xs.length σ H→D.nx σ H) :
  ∃ W:Nat→Nat→St→Hp→Prop,(∃ m,W 0 m σ H)∧∀ i m σ H,W i m σ H →
   ((Itl K a).stop i H∧D.nx σ H) ∨ ((Itl K a).go i H∧∃ N:St→Hp→Prop,(∀ σ' H',N σ' H'→∃ m',m' < m∧W (i+1) m' σ' H')∧∀ x H',(Itl K a).yld i H x H'→g x σ H' fun σ2 H2=>tb { D with nx:=N,ct:=N,bk:=D.nx } σ2 H2):=by
 refine ⟨fun i m σ H=>m=xs.length - i∧i≤xs.length∧Pv i σ H,⟨xs.length,by simp,CC _,h0⟩,?_⟩
 rintro i m σ H ⟨rfl,hi,p⟩
 have q:=hl i σ H hi p
 by_cases Hg:i < xs.length
 ·refine .inr ⟨⟨xs,xs[i],q,by simp [Hg]⟩,Pv (i+1),fun σ' H' p'=>⟨xs.length - (i+1),by omega,rfl,Hg,p'⟩,fun x H' y=>?_⟩
  obtain ⟨e,y⟩:=y
  subst e
  exact hs i x σ _ (y xs q) p
 ·have e:i=xs.length:=by omega
  subst e
  exact .inl ⟨⟨xs,q,BG _⟩,hd σ H p⟩
theorem dz {K:PySem.W.Frag}{a:Addr}{xs:List V}{g:TG}{tb:TS}{D:eQ}{σ:St}{H:Hp}(Pv:Nat→St→Hp→Prop)(h0:Pv 0 σ H)(hl:∀ i σ H,i≤xs.length→Pv i σ H→SqT K H a xs)
  (hs:∀ i x σ H,xs[i]? = some x→Pv i σ H→g x σ H fun σ2 H2=>tb { D with nx:=Pv (i+1),ct:=Pv (i+1),bk:=D.nx } σ2 H2) (hd:∀ σ H,Pv xs.length σ H→D.nx σ H) :
  ∃ W:Nat→Nat→St→Hp→Prop,(∃ m,W 0 m σ H)∧∀ i m σ H,W i m σ H →
   ((Itt K a).stop i H∧D.nx σ H) ∨ ((Itt K a).go i H∧∃ N:St→Hp→Prop,(∀ σ' H',N σ' H'→∃ m',m' < m∧W (i+1) m' σ' H')∧∀ x H',(Itt K a).yld i H x H'→g x σ H' fun σ2 H2=>tb { D with nx:=N,ct:=N,bk:=D.nx } σ2 H2):=by
 refine ⟨fun i m σ H=>m=xs.length - i∧i≤xs.length∧Pv i σ H,⟨xs.length,by simp,CC _,h0⟩,?_⟩
 rintro i m σ H ⟨rfl,hi,p⟩
 have q:=hl i σ H hi p
 by_cases Hg:i < xs.length
 ·refine .inr ⟨⟨xs,xs[i],q,by simp [Hg]⟩,Pv (i+1),fun σ' H' p'=>⟨xs.length - (i+1),by omega,rfl,Hg,p'⟩,fun x H' y=>?_⟩
  obtain ⟨e,y⟩:=y
  subst e
  exact hs i x σ _ (y xs q) p
 ·have e:i=xs.length:=by omega
  subst e
  exact .inl ⟨⟨xs,q,BG _⟩,hd σ H p⟩
theorem bQ {lo:Int}{n:Nat}{g:TG}{tb:TS}{D:eQ}{σ:St}{H:Hp}(Pv:Nat→St→Hp→Prop)(h0:Pv 0 σ H)
  (hs:∀ i σ H,i < n→Pv i σ H→g (.int (lo+i)) σ H fun σ2 H2=>tb { D with nx:=Pv (i+1),ct:=Pv (i+1),bk:=D.nx } σ2 H2) (hd:∀ σ H,Pv n σ H→D.nx σ H) :
  ∃ W:Nat→Nat→St→Hp→Prop,(∃ m,W 0 m σ H)∧∀ i m σ H,W i m σ H →
   ((Itr lo n).stop i H∧D.nx σ H) ∨ ((Itr lo n).go i H∧∃ N:St→Hp→Prop,(∀ σ' H',N σ' H'→∃ m',m' < m∧W (i+1) m' σ' H')∧∀ x H',(Itr lo n).yld i H x H'→g x σ H' fun σ2 H2=>tb { D with nx:=N,ct:=N,bk:=D.nx } σ2 H2):=by
 refine ⟨fun i m σ H=>m=n - i∧i≤n∧Pv i σ H,⟨n,by simp,CC _,h0⟩,?_⟩
 rintro i m σ H ⟨rfl,hi,p⟩
 by_cases Hg:i < n
 ·refine .inr ⟨Hg,Pv (i+1),fun σ' H' p'=>⟨n - (i+1),by omega,rfl,Hg,p'⟩,fun x H' y=>?_⟩
  obtain ⟨e,y⟩:=y
  subst e y
  exact hs i σ _ Hg p
 ·have e:i=n:=by omega
  subst e
  exact .inl ⟨BG _,hd σ H p⟩
abbrev R2:=V→V→Hp→VK→Prop
def OpR (X:Cx)(f:Value→Value→Sem Value)(r:R2):Prop :=
 ∀ (G6:List (Addr × Obj)) (s:Shared) (σ:St) (H:Hp) (x y:V) (v u:Value) (Q:VK),Inv X G6 σ H s→bH x v→bH y u→r x y H Q →
  wpAny (model X.prog X.w) X.A (f v u) (EP X G6 σ Q) X.xe s
def UnR (X:Cx)(f:Value→Sem Value)(r:V→Hp→VK→Prop):Prop :=
 ∀ (G6:List (Addr × Obj)) (s:Shared) (σ:St) (H:Hp) (x:V) (v:Value) (Q:VK),Inv X G6 σ H s→bH x v→r x H Q →
  wpAny (model X.prog X.w) X.A (f v) (EP X G6 σ Q) X.xe s
def cE (X:Cx)(f:Value)(r:List V→Hp→VK→Prop):Prop :=
 ∀ (G6:List (Addr × Obj)) (s:Shared) (σ:St) (H:Hp) (xs:List V) (us:List Value) (Q:VK),Inv X G6 σ H s→bo xs us→r xs H Q →
  wpAny (model X.prog X.w) X.A (call f us) (EP X G6 σ Q) X.xe s
def A7 (X:Cx)(r:V→Hp→(Bool→Hp→Prop)→Prop):Prop :=
 ∀ (G6:List (Addr × Obj)) (s:Shared) (σ:St) (H:Hp) (x:V) (v:Value) (Q:Bool→Hp→Prop),Inv X G6 σ H s→bH x v→r x H Q →
  wpAny (model X.prog X.w) X.A (truthy v) (TP X G6 σ Q) X.xe s
def wF (r:R2)(Q:VK)(x:V):V→Hp→Prop:=fun y H2=>r x y H2 Q
def wG (r:R2)(tb:TE)(σ:St)(Q:VK):V→Hp→Prop:=fun x H1=>tb σ H1 (wF r Q x)
def tOp (r:R2)(ta tb:TE):TE:=fun σ H Q=>ta σ H (wG r tb σ Q)
def wH (r:V→Hp→VK→Prop)(Q:VK):V→Hp→Prop:=fun x H1=>r x H1 Q
def tUn (r:V→Hp→VK→Prop)(ta:TE):TE:=fun σ H Q=>ta σ H (wH r Q)
inductive rI (C:Int→Int→Prop)(g:Int→Int→V)(x:V)(y:V)(H:Hp)(Q:VK):Prop
 | mk:∀ i j,(x = .int i)→(y = .int j)→(C i j)→(Q (g i j) H)→rI C g x y H Q
inductive rI0 (g:Int→Int→V)(x:V)(y:V)(H:Hp)(Q:VK):Prop
 | mk:∀ i j,(x = .int i)→(y = .int j)→(Q (g i j) H)→rI0 g x y H Q
inductive rU (g:Int→V)(x:V)(H:Hp)(Q:VK):Prop
 | mk:∀ i,(x = .int i)→(Q (g i) H)→rU g x H Q
section
variable {X:Cx} {a b c:Expr} {ta tb tc:TE} {pos:Pos}
theorem zh (ha:PE X a ta)(hb:PE X b tb){G6:List (Addr × Obj)}{s:Shared}{σ:St}{H:Hp}{R:V→V→Hp→Prop}(I:Inv X G6 σ H s)
  (h:ta σ H fun x H1=>tb σ H1 fun y H2=>R x y H2) {Q:Value→Shared→Prop} {f:Value→Value→Sem Value}
  (hf:∀ v u s2 x y H2,Inv X G6 σ H2 s2→bH x v→bH y u→R x y H2→wpAny (model X.prog X.w) X.A (f v u) Q X.xe s2) :
  wpAny (model X.prog X.w) X.A (eval a X.env) (fun v s₁=>wpAny (model X.prog X.w) X.A (eval b X.env) (fun u s₂=>wpAny (model X.prog X.w) X.A (f v u) Q X.xe s₂) X.xe s₁) X.xe s:=by
 refine thn (ha G6 s σ H _ I h) fun v s1 zq42=>?_
 obtain ⟨x,H1,I1,r1,q1⟩:=zq42
 refine thn (hb G6 s1 σ H1 _ I1 q1) fun u s2 zq43=>?_
 obtain ⟨y,H2,I2,r2,q2⟩:=zq43
 exact hf v u s2 x y H2 I2 r1 r2 q2
theorem ax {op:Operator}{r:R2}(ho:OpR X (binaryOp op) r)(ha:PE X a ta)(hb:PE X b tb):PE X (.BinOp a op b pos) (tOp r ta tb):=by
 intro G6 s σ H Q I h
 exact wpAny_BinOp (zh ha hb I h fun v u s2 x y H2 I2 rx ry q=>ho G6 s2 σ H2 x y v u Q I2 rx ry q)
theorem wI {op:UnaryOp}{r:V→Hp→VK→Prop}(ho:UnR X (unaryOp op) r)(ha:PE X a ta):PE X (.UnaryOp op a pos) (tUn r ta):=by
 intro G6 s σ H Q I h
 exact UnaryOp_ (thn (ha G6 s σ H _ I h) fun v s1 zq44=>(by obtain ⟨x,H1,I1,r1,q1⟩:=zq44;exact ho G6 s1 σ H1 x v Q I1 r1 q1))
theorem opI {f:Value→Value→Sem Value}{C:Int→Int→Prop}{g:Int→Int→Int}
  (rule:∀ (i j:Int) (t u:Tok) (s:Shared) (Q:Value→Shared→Prop) (E:Value→Shared→Prop),C i j→Q (.int (g i j) s.toks) { s with toks:=s.toks+1 }→wpAny (model X.prog X.w) X.A (f (.int i t) (.int j u)) Q E s) :
  OpR X f (rI C fun i j=>.int (g i j)):=by
 intro G6 s σ H x y v u Q I rx ry h
 obtain ⟨i,j,rfl,rfl,hc,q⟩:=h
 obtain ⟨t,rfl⟩:=rx
 obtain ⟨t',rfl⟩:=ry
 exact rule i j t t' s _ _ hc ⟨.int (g i j),H,I.tok _,⟨_,rfl⟩,q⟩
theorem AA {f:Value→Value→Sem Value}{g:Int→Int→Int}
  (rule:∀ (i j:Int) (t u:Tok) (s:Shared) (Q:Value→Shared→Prop) (E:Value→Shared→Prop),Q (.int (g i j) s.toks) { s with toks:=s.toks+1 }→wpAny (model X.prog X.w) X.A (f (.int i t) (.int j u)) Q E s) :
  OpR X f (rI0 fun i j=>.int (g i j)):=by
 intro G6 s σ H x y v u Q I rx ry h
 obtain ⟨i,j,rfl,rfl,q⟩:=h
 obtain ⟨t,rfl⟩:=rx
 obtain ⟨t',rfl⟩:=ry
 exact rule i j t t' s _ _ ⟨.int (g i j),H,I.tok _,⟨_,rfl⟩,q⟩
theorem yW {f:Value→Value→Sem Value}{g:Int→Int→Bool}
  (rule:∀ (i j:Int) (t u:Tok) (s:Shared) (Q:Value→Shared→Prop) (E:Value→Shared→Prop),Q (.bool (g i j)) s→wpAny (model X.prog X.w) X.A (f (.int i t) (.int j u)) Q E s) :
  OpR X f (rI0 fun i j=>.bl (g i j)):=by
 intro G6 s σ H x y v u Q I rx ry h
 obtain ⟨i,j,rfl,rfl,q⟩:=h
 obtain ⟨t,rfl⟩:=rx
 obtain ⟨t',rfl⟩:=ry
 exact rule i j t t' s _ _ ⟨.bl (g i j),H,I,rfl,q⟩
def A8 (i j:Int):Prop:=0 < j∧j < 1073741824
def A9 (i j:Int):Prop:=0≤j∧j≤1000000∧i.natAbs < 2 ^ 64
def zi (i j:Int):Prop:=(-(2 ^ 64) < i∧i < 2 ^ 64) ∨ (-(2 ^ 64) < j∧j < 2 ^ 64)
theorem zi.ok {i j:Int}(h:zi i j):IntMulOk i j:=by
 rcases h with ⟨h1,h2⟩ | ⟨h1,h2⟩
 ·exact .of_left (intBits_le_64 h1 h2)
 ·exact .of_right (intBits_le_64 h1 h2)
theorem aU:OpR X (binaryOp .Add) (rI0 fun i j=>.int (i+j)):=AA fun _ _ _ _ _ _ _ q=>add_int q
theorem iK:OpR X (binaryOp .Sub) (rI0 fun i j=>.int (i - j)):=AA fun _ _ _ _ _ _ _ q=>sub_int q
theorem e8:OpR X (binaryOp .Mult) (rI zi fun i j=>.int (i*j)):=opI fun _ _ _ _ _ _ _ hc q=>mul_int q hc.ok
theorem dA:OpR X (binaryOp .FloorDiv) (rI A8 fun i j=>.int (i / j)):=opI fun i j _ _ _ _ _ hc q=>by
 have h1:(0:Int) < j:=hc.1
 have h2:j < 1073741824:=hc.2
 exact floordiv_int (by omega) (by rw [Int.fdiv_eq_ediv_of_nonneg i (by omega)];exact q) (.inl (PyProof.noPylong_small (by omega)))
theorem gs:OpR X (binaryOp .Mod) (rI (fun _ j=>0 < j) fun i j=>.int (i % j)):=opI fun i j _ _ _ _ _ hc q=>by
 have h1:(0:Int) < j:=hc
 exact mod_int' (by omega) (by rw [Int.fmod_eq_emod_of_nonneg i (by omega)];exact q)
theorem wJ:OpR X (binaryOp .Pow) (rI A9 fun i j=>.int (i ^ j.toNat)):=opI fun _ _ _ _ _ _ _ hc q=>pow_int_small hc.1 hc.2.1 hc.2.2 q
theorem unI {f:Value→Sem Value}{g:Int→Int}
  (rule:∀ (i:Int) (t:Tok) (s:Shared) (Q:Value→Shared→Prop) (E:Value→Shared→Prop),Q (.int (g i) s.toks) { s with toks:=s.toks+1 }→wpAny (model X.prog X.w) X.A (f (.int i t)) Q E s) :
  UnR X f (rU fun i=>.int (g i)):=by
 intro G6 s σ H x v Q I rx h
 obtain ⟨i,rfl,q⟩:=h
 obtain ⟨t,rfl⟩:=rx
 exact rule i t s _ _ ⟨.int (g i),H,I.tok _,⟨_,rfl⟩,q⟩
theorem sD:UnR X (unaryOp .USub) (rU fun i=>.int (-i)):=unI fun _ _ _ _ _ q=>neg_int q
end
def AB:V→V→Bool
 | .non,.non=>true | .non,.int _=>true | .int _,.non=>true | .non,.bl _=>true | .bl _,.non=>true | .non,.str _=>true | .str _,.non=>true
 | .int _,.int _=>true | .bl _,.bl _=>true | .str _,.str _=>true | .byt _,.byt _=>true
 | .int _,.str _=>true | .str _,.int _=>true | .bl _,.str _=>true | .str _,.bl _=>true
 | _,_=>false
def rEq:R2:=fun x y H Q=>AB x y=true∧Q (.bl (decide (x=y))) H
def rNe:R2:=fun x y H Q=>AB x y=true∧Q (.bl (!decide (x=y))) H
theorem mx {i j:Int}:decide (V.int i=V.int j)=(i == j):=by
 rw [Du]
 simp
theorem sE {i j:Bool}:decide (V.bl i=V.bl j)=(i == j):=by
 rw [Du]
 simp
theorem my {i j:Str}:decide (V.str i=V.str j)=(i == j):=by
 rw [Du]
 simp
theorem mz {i j:Array UInt8}:decide (V.byt i=V.byt j)=(i.toList == j.toList):=by
 rw [Du]
 cases i
 cases j
 simp
section
variable {X:Cx} {a b c:Expr} {ta tb tc:TE} {pos:Pos}
theorem bb {G6:List (Addr × Obj)}{σ:St}{H:Hp}{s:Shared}{Q:VK}{k k':Bool}(I:Inv X G6 σ H s)(q:Q (.bl k) H)(e:k=k'):EP X G6 σ Q (.bool k') s:=by
 subst e
 exact ⟨.bl k,H,I,rfl,q⟩
theorem bj:OpR X (compareOp .Eq) rEq:=by
 intro G6 s σ H x y v u Q I rx ry h
 obtain ⟨hs,q⟩:=h
 cases x with
 | non =>
  cases rx
  cases y with
  | non=>cases ry;exact PySem.EqNone.eq_none_none (bb I q (by simp))
  | bl j=>cases ry;exact PySem.EqNone.eq_none_bool (bb I q (by simp))
  | int j=>obtain ⟨t',rfl⟩:=ry;exact PySem.EqNone.eq_none_int (bb I q (by simp))
  | str j=>obtain ⟨t',rfl⟩:=ry;exact PySem.EqNone.eq_none_str (bb I q (by simp))
  | _=>exact absurd (show false=true from hs) B3
 | bl i =>
  cases rx
  cases y with
  | non=>cases ry;exact PySem.EqNone.eq_bool_none (bb I q (by simp))
  | bl j=>cases ry;exact eq_bool (bb I q sE)
  | str j=>obtain ⟨t',rfl⟩:=ry;exact PySem.EqMixed.eq_bool_str (bb I q (by simp))
  | _=>exact absurd (show false=true from hs) B3
 | int i =>
  obtain ⟨t,rfl⟩:=rx
  cases y with
  | non=>cases ry;exact PySem.EqNone.eq_int_none (bb I q (by simp))
  | int j=>obtain ⟨t',rfl⟩:=ry;exact eq_int (bb I q mx)
  | str j=>obtain ⟨t',rfl⟩:=ry;exact PySem.EqMixed.eq_int_str (bb I q (by simp))
  | _=>exact absurd (show false=true from hs) B3
 | str i =>
  obtain ⟨t,rfl⟩:=rx
  cases y with
  | non=>cases ry;exact PySem.EqNone.eq_str_none (bb I q (by simp))
  | bl j=>cases ry;exact PySem.EqMixed.eq_str_bool (bb I q (by simp))
  | int j=>obtain ⟨t',rfl⟩:=ry;exact PySem.EqMixed.eq_str_int (bb I q (by simp))
  | str j=>obtain ⟨t',rfl⟩:=ry;exact eq_str (bb I q my)
  | _=>exact absurd (show false=true from hs) B3
 | byt i =>
  obtain ⟨t,rfl⟩:=rx
  cases y with
  | byt j=>obtain ⟨t',rfl⟩:=ry;exact PySem.W.eq_bytes (bb I q mz)
  | _=>exact absurd (show false=true from hs) B3
 | _=>cases y <;> exact absurd (show false=true from hs) B3
theorem jC:OpR X (compareOp .NotEq) rNe:=by
 intro G6 s σ H x y v u Q I rx ry h
 obtain ⟨hs,q⟩:=h
 cases x with
 | non =>
  cases rx
  cases y with
  | non=>cases ry;exact PySem.EqNone.ne_none_none (bb I q (by simp))
  | bl j=>cases ry;exact PySem.EqNone.ne_none_bool (bb I q (by simp))
  | int j=>obtain ⟨t',rfl⟩:=ry;exact PySem.EqNone.ne_none_int (bb I q (by simp))
  | str j=>obtain ⟨t',rfl⟩:=ry;exact PySem.EqNone.ne_none_str (bb I q (by simp))
  | _=>exact absurd (show false=true from hs) B3
 | bl i =>
  cases rx
  cases y with
  | non=>cases ry;exact PySem.EqNone.ne_bool_none (bb I q (by simp))
  | bl j=>cases ry;exact ne_bool (bb I q (Ci not sE))
  | str j=>obtain ⟨t',rfl⟩:=ry;exact PySem.EqMixed.ne_bool_str (bb I q (by simp))
  | _=>exact absurd (show false=true from hs) B3
 | int i =>
  obtain ⟨t,rfl⟩:=rx
  cases y with
  | non=>cases ry;exact PySem.EqNone.ne_int_none (bb I q (by simp))
  | int j=>obtain ⟨t',rfl⟩:=ry;exact ne_int (bb I q (Ci not mx))
  | str j=>obtain ⟨t',rfl⟩:=ry;exact PySem.EqMixed.ne_int_str (bb I q (by simp))
  | _=>exact absurd (show false=true from hs) B3
 | str i =>
  obtain ⟨t,rfl⟩:=rx
  cases y with
  | non=>cases ry;exact PySem.EqNone.ne_str_none (bb I q (by simp))
  | bl j=>cases ry;exact PySem.EqMixed.ne_str_bool (bb I q (by simp))
  | int j=>obtain ⟨t',rfl⟩:=ry;exact PySem.EqMixed.ne_str_int (bb I q (by simp))
  | str j=>obtain ⟨t',rfl⟩:=ry;exact ne_str (bb I q (Ci not my))
  | _=>exact absurd (show false=true from hs) B3
 | byt i =>
  obtain ⟨t,rfl⟩:=rx
  cases y with
  | byt j=>obtain ⟨t',rfl⟩:=ry;exact PySem.W.ne_bytes (bb I q (Ci not mz))
  | _=>exact absurd (show false=true from hs) B3
 | _=>cases y <;> exact absurd (show false=true from hs) B3
theorem e9:OpR X (compareOp .Lt) (rI0 fun i j=>.bl (decide (i < j))):=yW fun _ _ _ _ _ _ _ q=>lt_int q
theorem mB:OpR X (compareOp .LtE) (rI0 fun i j=>.bl (decide (i≤j))):=yW fun _ _ _ _ _ _ _ q=>le_int q
theorem gc:OpR X (compareOp .Gt) (rI0 fun i j=>.bl (decide (j < i))):=yW fun _ _ _ _ _ _ _ q=>gt_int q
theorem wK:OpR X (compareOp .GtE) (rI0 fun i j=>.bl (decide (j≤i))):=yW fun _ _ _ _ _ _ _ q=>ge_int q
inductive e_  (x:V)(y:V)(H:Hp)(Q:VK):Prop
 | mk:∀ i j,(x = .str i)→(y = .str j)→(Q (.bl (!(Builtin.Str.occurrences j i 0 j.length 1).isEmpty)) H)→e_ x y H Q
theorem fc:OpR X (compareOp .In) e_:=by
 intro G6 s σ H x y v u Q I rx ry h
 obtain ⟨i,j,rfl,rfl,q⟩:=h
 obtain ⟨t,rfl⟩:=rx
 obtain ⟨t',rfl⟩:=ry
 exact in_str (bb I q rfl)
theorem wL:OpR X (compareOp .Is) (fun x y H Q=>y = .non∧Q (.bl (decide (x = .non))) H):=by
 intro G6 s σ H x y v u Q I rx ry h
 obtain ⟨rfl,q⟩:=h
 cases ry
 refine is_none_gen (bb I q ?_)
 cases x <;> first
  | (cases rx;rfl)
  | (obtain ⟨t,rfl⟩:=rx;rfl)
theorem aD (b:Expr){op:CmpOp}(h:op ≠ .In:=by decide)(h2:op ≠ .NotIn:=by decide):behindInMarks op b=false:=by
 have e1:(op == CmpOp.In)=false:=by cases op <;> first | rfl | exact absurd rfl h
 have e2:(op == CmpOp.NotIn)=false:=by cases op <;> first | rfl | exact absurd rfl h2
 cases b <;> simp [behindInMarks,e1,e2]
theorem bD {op:CmpOp}{r:R2}(ho:OpR X (compareOp op) r)(ha:PE X a ta)(hb:PE X b tb)(hm:behindInMarks op b=false):PE X (.Compare a [op] [b] pos) (tOp r ta tb):=by
 intro G6 s σ H Q I h
 exact wpAny_Compare1 (zh ha hb I h fun v u s2 x y H2 I2 rx ry q=>ho G6 s2 σ H2 x y v u Q I2 rx ry q) hm
def pZ (Q:(Bool→Hp→Prop)):V→Hp→Prop:=fun x H'=>IsB x H' Q
def wM (t:TE):TT:=fun σ H Q=>t σ H (pZ Q)
theorem aq {op:CmpOp}{r:R2}(ho:OpR X (compareOp op) r)(ha:PE X a ta)(hb:PE X b tb)(hm:behindInMarks op b=false):PT X (.Compare a [op] [b] pos) (wM (tOp r ta tb)):=by
 intro G6 s σ H Q I h
 refine wpAny_isTrue_Compare1 (thn (ha G6 s σ H _ I h) fun v s1 ⟨x,H1,I1,r1,q1⟩=>thn (hb G6 s1 σ H1 _ I1 q1) fun u s2 ⟨y,H2,I2,r2,q2⟩ =>
  thn (ho G6 s2 σ H2 x y v u _ I2 r1 r2 q2) fun c s3 ⟨z,H3,I3,r3,k,e,q3⟩=>?_) hm
 subst e
 cases r3
 exact DZ ⟨H3,I3,q3⟩
def A_ (K:PySem.W.Frag)(x:V)(H:Hp)(k:Bool):Prop :=
 match x with
 | .non=>k=false
 | .bl b=>k=b
 | .int i=>k=(i != 0)
 | .str y=>y.length≤sizeLine∧k=((y.length:Int) != 0)
 | .byt y=>y.size≤sizeLine∧k=((y.size:Int) != 0)
 | .ref p=>(∃ xs,SqL K H p xs∧k=!xs.isEmpty) ∨ (∃ xs,SqT K H p xs∧k=!xs.isEmpty) ∨ ∃ G_,H p=some (.dK G_)∧k=!G_.isEmpty
 | _=>False
theorem lL {κ:Type}{G_:List (κ × V)}{vs:List (κ × Value)}(r:KV G_ vs):(!vs.isEmpty)=!G_.isEmpty:=by
 cases r <;> rfl
theorem gu {xs:List V}{its:List Value}(r:bo xs its):(!its.toArray.isEmpty)=!xs.isEmpty:=by
 cases r <;> simp
theorem fe:(sizeLine:Nat) < 2 ^ 63:=by rw [Di]; decide
inductive tR (K:PySem.W.Frag)(x:V)(H:Hp)(Q:Bool→Hp→Prop):Prop
 | mk:∀ k,(A_ K x H k)→(Q k H)→tR K x H Q
theorem sF:A7 X (tR X.K):=by
 intro G6 s σ H x v Q I rx h
 obtain ⟨k,e,q⟩:=h
 have hl:=fe
 have hs:sizeLine=16777216:=Di
 cases x with
 | non =>
  cases rx
  have e':k=false:=e
  subst e'
  exact truthy_none ⟨H,I,q⟩
 | bl b =>
  cases rx
  have e':k=b:=e
  subst e'
  exact DZ ⟨H,I,q⟩
 | int i =>
  obtain ⟨t,rfl⟩:=rx
  have e':k=(i != 0):=e
  subst e'
  exact PySem.P.truthy_int ⟨H,I,q⟩
 | str y =>
  obtain ⟨t,rfl⟩:=rx
  obtain ⟨hy,e'⟩:y.length≤sizeLine∧k=((y.length:Int) != 0):=e
  subst e'
  exact PySem.P.truthy_str (by omega) ⟨H,I.tok _,q⟩
 | byt y =>
  obtain ⟨t,rfl⟩:=rx
  obtain ⟨hy,e'⟩:y.size≤sizeLine∧k=((y.size:Int) != 0):=e
  subst e'
  exact PySem.W.truthy_bytes (by omega) ⟨H,I.tok _,q⟩
 | ref p =>
  cases rx
  have e':(∃ xs,SqL X.K H p xs∧k=!xs.isEmpty) ∨ (∃ xs,SqT X.K H p xs∧k=!xs.isEmpty) ∨ ∃ G_,H p=some (.dK G_)∧k=!G_.isEmpty:=e
  rcases e' with ⟨xs,hx,e'⟩ | ⟨xs,hx,e'⟩ | ⟨G_,hx,e'⟩
  ·subst e'
   obtain ⟨its,r,pl,hz⟩:=I.list hx
   have hlen:=r.length
   exact wpAny_truthy_list pl.isList (by simp only [B4];omega) ⟨H,I.tok _,by rw [gu r];exact q⟩
  ·subst e'
   obtain ⟨its,r,pl,hz⟩:=I.tuple hx
   have hlen:=r.length
   exact truthy_tuple pl (by simp only [B4];omega) ⟨H,I.tok _,by rw [gu r];exact q⟩
  ·subst e'
   obtain ⟨hz,hS,vs,r,m⟩:G_.length≤sizeLine∧(p == sysModules)=false∧∃ vs,KV G_ vs∧s.heap.DictOf (bG X.prog X.w) p vs:=I.hok p _ hx
   have hlen:G_.length=vs.length:=FF r
   exact wpAny_truthy_dict hS m (by omega) ⟨H,I.tok _,by rw [lL r];exact q⟩
 | _=>exact (show False from e).elim
def tT (K:PySem.W.Frag)(Q:(Bool→Hp→Prop)):V→Hp→Prop:=fun x H'=>tR K x H' Q
def Ba (K:PySem.W.Frag)(ta:TE):TT:=fun σ H Q=>ta σ H (tT K Q)
theorem bV (ha:PE X a ta)(he:∀ whole,isTrue a X.env whole=(do let v ← whole; standAt a.pos; holding [v] (truthy v))) :
  PT X a (Ba X.K ta):=by
 intro G6 s σ H Q I h
 exact isTrue_plain (thn (ha G6 s σ H _ I h) fun v s1 zq47=>(by obtain ⟨x,H1,I1,r1,q1⟩:=zq47;exact sF G6 s1 σ H1 x v Q I1 r1 q1)) (he _)
inductive eF  (x:V)(y:V)(H:Hp)(Q:VK):Prop
 | mk:∀ i j,(x = .str i)→(y = .str j)→(i.length+j.length≤sizeLine)→(Q (.str (i++j)) H)→eF x y H Q
theorem aH:OpR X (binaryOp .Add) eF:=by
 intro G6 s σ H x y v u Q I rx ry h
 obtain ⟨i,j,rfl,rfl,hz,q⟩:=h
 obtain ⟨t,rfl⟩:=rx
 obtain ⟨t',rfl⟩:=ry
 exact add_str (fun t' tk=>⟨.str (i++j),H,I.tok _,⟨_,rfl⟩,q⟩) hz
theorem dC {x:V}{us:List Value}(r:bo [x] us):∃ u,us=[u]∧bH x u:=by
 cases r with
 | cons r1 r2=>cases r2;exact ⟨_,rfl,r1⟩
theorem mD {x y:V}{us:List Value}(r:bo [x,y] us):∃ u w',us=[u,w']∧bH x u∧bH y w':=by
 cases r with
 | cons r1 r2 =>
  cases r2 with
  | cons r3 r4=>cases r4;exact ⟨_,_,rfl,r1,r3⟩
inductive ff  (xs:List V)(H:Hp)(Q:VK):Prop
 | mk:∀ i j,(xs=[.int i,.int j])→(Q (.int (if j > i then j else i)) H)→ff xs H Q
theorem fg (hc:X.calm=true):cE X (.builtin "max") ff:=by
 intro G6 s σ H xs us Q I r h
 obtain ⟨i,j,rfl,q⟩:=h
 obtain ⟨u,w',rfl,⟨t,rfl⟩,⟨t',rfl⟩⟩:=mD r
 refine max_two_ints (I.ok.hd hc) fun h' tk k=>⟨_,H,I.kept k,?_,q⟩
 by_cases hj:j > i
 ·rw [if_pos hj,if_pos hj];exact ⟨_,rfl⟩
 ·rw [if_neg hj,if_neg hj];exact ⟨_,rfl⟩
inductive fh  (xs:List V)(H:Hp)(Q:VK):Prop
 | mk:∀ i j,(xs=[.int i,.int j])→(Q (.int (if j < i then j else i)) H)→fh xs H Q
theorem mE (hc:X.calm=true):cE X (.builtin "min") fh:=by
 intro G6 s σ H xs us Q I r h
 obtain ⟨i,j,rfl,q⟩:=h
 obtain ⟨u,w',rfl,⟨t,rfl⟩,⟨t',rfl⟩⟩:=mD r
 refine min_two_ints (I.ok.hd hc) fun h' tk k=>⟨_,H,I.kept k,?_,q⟩
 by_cases hj:j < i
 ·rw [if_pos hj,if_pos hj];exact ⟨_,rfl⟩
 ·rw [if_neg hj,if_neg hj];exact ⟨_,rfl⟩
theorem iL:cE X (.type "int") (fun xs H Q=>(∃ i,xs=[.int i]∧Q (.int i) H) ∨ ∃ k,xs=[.bl k]∧Q (.int (if k then 1 else 0)) H):=by
 intro G6 s σ H xs us Q I r h
 rcases h with ⟨i,rfl,q⟩ | ⟨k,rfl,q⟩
 ·obtain ⟨u,rfl,t,rfl⟩:=dC r
  exact call_int_int ⟨.int i,H,I,⟨_,rfl⟩,q⟩
 ·obtain ⟨u,rfl,r1⟩:=dC r
  cases r1
  exact call_int_bool ⟨.int (if k then 1 else 0),H,I.tok _,⟨_,rfl⟩,q⟩
end
structure zj (h:Heap) (x dx C:Addr) (mA:Str→Option Value):Prop where
 obj:h.get? x=some (PySem.W.instObj C dx)
 ns:h.Ns1 dx mA
 ne:dx≠x
theorem iM {h:Heap}{dx:Addr}{mA:Str→Option Value}(n:h.Ns1 dx mA):∃ od,h.get? dx=some od∧∀ name,PySem.W.lookIn name od=some (mA name):=by
 obtain ⟨o,es,ep,ho,hd,hk,_,hm⟩:=n
 refine ⟨o,ho,fun name=>?_⟩
 have e:=hm name
 unfold nsFind findBy at e
 rw [← Array.find?_toList] at e
 unfold PySem.W.lookIn
 rw [hd]
 dsimp only
 split
 ·rename_i y q
  rw [q] at e
  exact Ci some e
 ·rename_i q
  rw [q] at e
  have a:es.toList.any (·.refKey)=false:=by
   rw [DG]
   intro y hy
   obtain ⟨z,t,hkey⟩:=hk y (Array.mem_toList_iff.mp hy)
   simp [DictEntry.refKey,hkey]
  have a':¬ es.toList.any (·.refKey)=true:=by rw [a];exact B3
  rw [if_neg a']
  exact Ci some e
theorem zj.look {h:Heap}{x dx C:Addr}{mA:Str→Option Value}(I:zj h x dx C mA):∃ od,PySem.W.InstAt h x (PySem.W.instObj C dx) C (some od)∧∀ name,PySem.W.lookIn name od=some (mA name) :=
 let ⟨od,ho,hl⟩:=iM I.ns
 ⟨od,⟨I.obj,rfl,rfl,ho⟩,hl⟩
section
variable {prog:Program} {w:World} {A:Around} {E:Value→Shared→Prop} {s:Shared} {K:PySem.W.Frag} {x dx C f:Addr} {mA:Str→Option Value} {name:Str} {v:Value}
end
def lM (f:Str)(v:V):List (Str × V)→List (Str × V)
 | []=>[(f,v)]
 | (g,x)::r=>if g=f then (g,v)::r else (g,x)::lM f v r
theorem fi (f g:Str)(v:V):∀ fs:List (Str × V),(lM f v fs).lookup g=if g=f then some v else fs.lookup g
 | []=>by
  show List.lookup g [(f,v)]=_
  by_cases h:g=f
  ·have hb:(g == f)=true:=Dz.mpr h
   simp only [List.lookup,hb,if_pos h]
  ·have hb:(g == f)=false:=Dr.mpr h
   simp only [List.lookup,hb,if_neg h]
 | (k,x)::r=>by
  have ih:=fi f g v r
  rw [show lM f v ((k,x)::r)=(if k=f then (k,v)::r else (k,x)::lM f v r) from rfl]
  by_cases hk:k=f
  ·rw [if_pos hk]
   by_cases h:g=k
   ·have hb:(g == k)=true:=Dz.mpr h
    simp only [List.lookup,hb,if_pos (h.trans hk)]
   ·have hb:(g == k)=false:=Dr.mpr h
    simp only [List.lookup,hb,if_neg (fun e:g=f=>h (e.trans hk.symm))]
  ·rw [if_neg hk]
   by_cases h:g=k
   ·have hb:(g == k)=true:=Dz.mpr h
    simp only [List.lookup,hb,if_neg (fun e:g=f=>hk (h.symm.trans e))]
   ·have hb:(g == k)=false:=Dr.mpr h
    simp only [List.lookup,hb]
    exact ih
theorem fj (f:Str)(v:V):∀ fs:List (Str × V),f∈(lM f v fs).map (·.1)∧∀ g,g∈fs.map (·.1)→g∈(lM f v fs).map (·.1)
 | []=>⟨by simp [lM],fun g h=>by simp at h⟩
 | (k,x)::r=>by
  obtain ⟨i1,i2⟩:=fj f v r
  rw [show lM f v ((k,x)::r)=(if k=f then (k,v)::r else (k,x)::lM f v r) from rfl]
  by_cases hk:k=f
  ·rw [if_pos hk]
   subst hk
   exact ⟨by simp,fun g h=>by simpa using h⟩
  ·rw [if_neg hk]
   refine ⟨?_,fun g h=>?_⟩
   ·rw [Cq]
    exact BZ _ i1
   ·rw [Cq] at h ⊢
    rcases B2.mp h with e | e
    ·exact B2.mpr (.inl e)
    ·exact BZ _ (i2 g e)
theorem jw.some_of {v:V}{o:Option Value}(r:jw (some v) o):∃ u,o=some u∧bH v u:=by
 cases o with
 | none=>exact (show False from r).elim
 | some u=>exact ⟨u,rfl,r⟩
theorem mF {v:V}{u:Value}(r:bH v u):PySem.W.handedIn u=true:=by
 cases v with
 | non=>cases (show u=Value.none from r);rfl
 | bl b=>cases (show u=Value.bool b from r);rfl
 | int i=>obtain ⟨t,e⟩:=(show ∃ t,u=Value.int i t from r);cases e;rfl
 | str x=>obtain ⟨t,e⟩:=(show ∃ t,u=Value.str x t from r);cases e;rfl
 | byt b=>obtain ⟨t,e⟩:=(show ∃ t,u=Value.bytes b t from r);cases e;rfl
 | flt b=>obtain ⟨t,e⟩:=(show ∃ t,u=Value.float b t from r);cases e;rfl
 | ref a=>cases (show u=Value.ref a from r);rfl
 | ty n=>cases (show u=Value.type n from r);rfl
section
variable {P:Program} {w:World} {H H':Hp} {h h':Heap} {a C dx:Addr} {fs fs':List (Str × V)}
theorem tU (hok:HOk P w H h)(e:H a=some (.ins C dx fs)):∃ mA,zj h a dx C mA∧(∀ f,jw (fs.lookup f) (mA f))∧PySem.Within mA (fs.map (·.1))∧fs.length≤1000∧H dx=some (.own a):=by
 obtain ⟨d,z,ne,ob,mA,n,r,q⟩:=(show bK P w H h a (.ins C dx fs) from hok a _ e)
 exact ⟨mA,⟨ob,n,ne⟩,r,q,z,d⟩
end
structure Cls (K:PySem.W.Frag) (C:Addr):Prop where
 pg:PySem.W.plainGet K C Str.empty=true
 hd:PySem.W.hasDictIn K C=true
 po:PySem.W.plainOver K C=true
 sa:PySem.W.findIn K (.ref C) "__setattr__" = some (some (.builtin "object.__setattr__"))
theorem Cls.get {K:PySem.W.Frag}{C:Addr}(c:Cls K C)(f:Str):PySem.W.plainGet K C f=true:=c.pg
section
variable {X:Cx} {G6:List (Addr × Obj)} {σ:St} {H:Hp} {s:Shared} {a C dx:Addr} {fs:List (Str × V)} {f:Str} {v:V} {A:Around} {E:Value→Shared→Prop}
theorem tV {prog:Program}{w:World}{env:Env}{e:Expr}{f:Str}{pos:Pos}{s:Shared}{Q:Value→Shared→Prop}(hb:attributeBase e f env (eval e env)=eval e env)
  (h:wpAny (model prog w) A (eval e env) (fun o s₁=>wpAny (model prog w) A (getAttr o f true) Q E s₁) E s):wpAny (model prog w) A (eval (.Attribute e f pos) env) Q E s :=
 Attribute_any_ h (by rw [arm_eval_Attribute,hb])
end
section
variable {X:Cx} {o e value:Expr} {f:Str} {pos pos' tpos:Pos} {ta tv:TE}
end
section
variable {X:Cx} {G6:List (Addr × Obj)} {σ:St} {H:Hp} {s:Shared} {A:Around} {E:Value→Shared→Prop} {Q:Value→Shared→Prop} {c:Value} {b:Bool}
inductive jx (K:PySem.W.Frag)(H:Hp):V→Value→Prop where
 | non:jx K H .non (.type "NoneType")
 | bl (x:Bool):jx K H (.bl x) (.type "bool")
 | int (i:Int):jx K H (.int i) (.type "int")
 | str (x:Str):jx K H (.str x) (.type "str")
 | flt (x:UInt64):jx K H (.flt x) (.type "float")
 | lst {a:Addr} {xs:List V} (e:H a=some (.lst xs)):jx K H (.ref a) (.type "list")
 | frz {a:Addr} {o:Obj} {xs:List V} (e:H a=some (.frz o (.lst xs))):jx K H (.ref a) (.type "list")
 | tup {a:Addr} {xs:List V} (e:H a=some (.tup xs)):jx K H (.ref a) (.type "tuple")
 | dK {a:Addr} {G_:List (Key × V)} (e:H a=some (.dK G_)):jx K H (.ref a) (.type "dict")
 | dT {a:Addr} {G_:List (List Key × V)} (e:H a=some (.dT G_)):jx K H (.ref a) (.type "dict")
 | ins {a C dx:Addr} {fs:List (Str × V)} (e:H a=some (.ins C dx fs)) (cl:Cls K C) (ha:PySem.W.findIn K (.ref C) "__class__" = some (some (.builtin "object.__class__")))
   (hn:PySem.W.specialIn K (.builtin "object.__class__") "__get__" = some (some (.builtin "getset_descriptor.__get__"))) (htk:PySem.W.takesIn K (.builtin "object.__class__")=some true)
   (hm:PySem.W.mroIn K C (.type "object")=some true):jx K H (.ref a) (.ref C)
theorem mG {x:V}{u t:Value}(I:Inv X G6 σ H s)(rx:bH x u)(ty:jx X.K H x t)(e:PySem.W.kitOne X.K t c=some b)(h:∀ tk,Q (.bool b) { s with toks:=tk }) :
  wpAny (model X.prog X.w) A (call (.builtin "isinstance") [u,c]) Q E s:=by
 cases ty with
 | non=>cases (show u=Value.none from rx);exact CQ PySem.W.kitx_none I.kIn True.intro e (fun z=>nomatch z) h
 | bl y=>cases (show u=Value.bool y from rx);exact CQ PySem.W.kitx_bool I.kIn True.intro e (fun z=>nomatch z) h
 | int i=>obtain ⟨t,q⟩:=(show ∃ t,u=Value.int i t from rx);cases q;exact CQ PySem.W.kitx_int I.kIn True.intro e (fun z=>nomatch z) h
 | str y=>obtain ⟨t,q⟩:=(show ∃ t,u=Value.str y t from rx);cases q;exact CQ PySem.W.kitx_str I.kIn True.intro e (fun z=>nomatch z) h
 | flt y=>obtain ⟨t,q⟩:=(show ∃ t,u=Value.float y t from rx);cases q;exact CQ PySem.W.kitx_float I.kIn True.intro e (fun z=>nomatch z) h
 | @lst a xs ea =>
  cases (show u=Value.ref a from rx)
  obtain ⟨_,_,n,_,h1⟩:=(show bK X.prog X.w H s.heap a (.lst xs) from I.hok a _ ea)
  exact CQ PySem.W.kitx_list I.kIn ⟨_,h1,rfl⟩ e (fun z=>nomatch z) h
 | @frz a ob xs ea =>
  cases (show u=Value.ref a from rx)
  obtain ⟨_,_,_,n,_,h1⟩:=(show bK X.prog X.w H s.heap a (.frz ob (.lst xs)) from I.hok a _ ea)
  exact CQ PySem.W.kitx_list I.kIn ⟨_,h1,rfl⟩ e (fun z=>nomatch z) h
 | @tup a xs ea =>
  cases (show u=Value.ref a from rx)
  obtain ⟨_,_,_,p,_⟩:=(show bK X.prog X.w H s.heap a (.tup xs) from I.hok a _ ea)
  obtain ⟨o,h1,h2,_⟩:=p
  exact CQ PySem.W.kitx_tuple I.kIn ⟨o,h1,h2⟩ e (fun z=>nomatch z) h
 | @dK a G_ ea =>
  cases (show u=Value.ref a from rx)
  obtain ⟨_,_,vs,_,p⟩:=(show bK X.prog X.w H s.heap a (.dK G_) from I.hok a _ ea)
  obtain ⟨o,es,ep,h1,h2,_⟩:=p
  exact CQ PySem.W.kitx_dict I.kIn ⟨o,h1,h2.1⟩ e (fun z=>nomatch z) h
 | @dT a G_ ea =>
  cases (show u=Value.ref a from rx)
  obtain ⟨_,_,xs,_,o,es,ep,h1,h2,_⟩:=(show bK X.prog X.w H s.heap a (.dT G_) from I.hok a _ ea)
  exact CQ PySem.W.kitx_dict I.kIn ⟨o,h1,h2.1⟩ e (fun z=>nomatch z) h
 | @ins a C dx fs ea cl ha hn htk hm =>
  cases (show u=Value.ref a from rx)
  obtain ⟨mA,O,_⟩:=tU I.hok ea
  obtain ⟨od,J,_⟩:=O.look
  exact CQ (PySem.W.kitx_own (cl.get _) cl.hd ha hn htk hm) I.kIn J e (fun z=>nomatch z) h
end
structure dj (k:Nat) (A:Around):Prop where
 hd:A.handled=none
 dp:A.depth+3*k+5 < recursionLimit
 un:A.units+16*k+200 < cLine
 gd:A.guards=some []
theorem dj.mono {j k:Nat}{A:Around}(r:dj k A)(h:j≤k):dj j A:=⟨r.hd,by have:=r.dp; omega,by have:=r.un; omega,r.gd⟩
theorem dj.deeper {k:Nat}{A:Around}(r:dj (k+1) A)(env:Env):dj k (A.deeper env) :=
 ⟨r.hd,by have:=r.dp;show A.depth+1+3*k+5 < _;omega,by have:=r.un;show A.units+3+16*k+200 < _;omega,r.gd⟩
theorem gv {A:Around}{C:Addr}{us:List Value}{kw:List (Str × Value)}:(A.under (.builtin "type.__call__" ⟨.ref C::us,kw⟩)).depth=A.depth+1:=by
 first | rfl | simp [Around.under,Code.weight,Code.isCreation,Code.isGuard,Code.isCaller,Code.frames,Code.isFrame,guardIds]
theorem gw {A:Around}{C:Addr}{us:List Value}{kw:List (Str × Value)}:(A.under (.builtin "type.__call__" ⟨.ref C::us,kw⟩)).units=A.units+1:=by
 first | rfl | simp [Around.under,Code.cUnits,Code.frames,Code.isFrame]
theorem dj.make {k:Nat}{A:Around}(r:dj (k+1) A)(C:Addr)(us:List Value)(kw:List (Str × Value)):dj k (A.under (.builtin "type.__call__" ⟨.ref C::us,kw⟩)) :=
 ⟨r.hd,by have:=r.dp;rw [gv];omega,by have:=r.un;rw [gw];omega,by have g:=r.gd;simpa [Around.under,Code.guards,pushGuards,Code.isGuard,guardIds] using g⟩
theorem dj.depth {k:Nat}{A:Around}(r:dj k A):A.depth < recursionLimit:=by have:=r.dp; omega
theorem dj.units {k:Nat}{A:Around}(r:dj k A):A.units+64 < cLine:=by have:=r.un; omega
def zk:TA:=fun _ H Q=>Q [] H
def p_ (Q:(List V→Hp→Prop))(x:V):List V→Hp→Prop:=fun xs H2=>Q (x::xs) H2
def qa (tr:TA)(σ:St)(Q:(List V→Hp→Prop)):V→Hp→Prop:=fun x H1=>tr σ H1 (p_ Q x)
def wN (ta:TE)(tr:TA):TA:=fun σ H Q=>ta σ H (qa tr σ Q)
section
variable {X:Cx} {e:Expr} {es:List Expr} {te:TE} {t:TA} {pos:Pos}
theorem ae:PA X [] zk:=fun _ _ _ _ H Q I h=>Calls.spliced_nil ⟨[],H,I,.nil,h⟩
theorem aa (ha:PE X e te)(hr:PA X es t)(hs:starEach (e::es) X.env=(false,eval e X.env)::starEach es X.env:=by rfl):PA X (e::es) (wN te t):=by
 intro pos G6 s σ H Q I h
 rw [hs]
 show wpAny _ _ (spliced ((false,eval e X.env)::backTo pos (starEach es X.env))) _ _ s
 refine Calls.spliced_cons (thn (ha G6 s σ H _ I h) fun u s1 zq54=>?_)
 obtain ⟨x,H1,I1,r1,q1⟩:=zq54
 exact thn (hr pos G6 s1 σ H1 _ I1 q1) fun us s2 zq55=>(by obtain ⟨xs,H2,I2,r2,q2⟩:=zq55;exact ⟨x::xs,H2,I2,.cons r1 r2,q2⟩)
def tW (Q:VK):List V→Hp→Prop:=fun xs H1=>xs.length≤sizeLine∧∀ p,H1 p=none→Q (.ref p) (upd H1 p (.tup xs))
def Bb (t:TA):TE:=fun σ H Q=>t σ H (tW Q)
def tX (Q:VK):List V→Hp→Prop:=fun xs H1=>xs.length≤sizeLine∧∀ p,H1 p=none→Q (.ref p) (upd H1 p (.lst xs))
def Bc (t:TA):TE:=fun σ H Q=>t σ H (tX Q)
theorem a8 {x1}(h:PA X es t):PE X (.Tuple es x1 pos) (Bb t):=by
 intro G6 s σ H Q I hq
 refine wpAny_Tuple_spliced (thn (h pos G6 s σ H _ I hq) fun us s1 ⟨xs,H1,I1,r,z,q⟩=>⟨by rw [← r.length];exact z,?_⟩)
 have hf:H1 s1.heap.objs.size=none:=I1.hok.fresh (BG _)
 refine ⟨.ref s1.heap.objs.size,upd H1 s1.heap.objs.size (.tup xs),I1.laid (t':=s1.toks) (fun b u e=>BD _ e) (BG _) ?_,rfl,q _ hf⟩
 exact ⟨z,us,r,⟨_,B5 _ rfl,rfl,_,rfl⟩,.new _ _ rfl⟩
theorem br (h:PA X es t):PE X (.List es pos) (Bc t):=by
 intro G6 s σ H Q I hq
 refine wpAny_List_spliced (thn (h pos G6 s σ H _ I hq) fun us s1 ⟨xs,H1,I1,r,z,q⟩=>⟨by rw [← r.length];exact z,?_⟩)
 have hf:H1 s1.heap.objs.size=none:=I1.hok.fresh (BG _)
 refine ⟨.ref s1.heap.objs.size,upd H1 s1.heap.objs.size (.lst xs),I1.laid (t':=s1.toks) (fun b u e=>BD _ e) (BG _) ?_,rfl,q _ hf⟩
 exact ⟨z,us,0,r,B5 _ rfl⟩
end
abbrev Sp:=List V→Hp→VK→XK→Prop
abbrev CXT:=List Env→Hp→Shared→XK→Value→Shared→Prop
structure pO (P:Program) (w:World) (K:PySem.W.Frag) (mg:Str→Option Value) (base:Heap) (A:Around) (outer:List Env) (s:Shared) (H:Hp):Prop where
 frames:A.frames=some outer
 mod:Mod K mg base
 bs:∀ b o,base.get? b=some o→s.heap.get? b=some o∧H b=none
 bsz:base.objs.size≤s.heap.objs.size
 funs:s.heap.FunFrames base outer
 frf:∀ b∈frs outer,H b=none
 hok:HOk P w H s.heap
 bare:AllBare s.gens
def CE (outer:List Env)(P:Program)(w:World)(H:Hp)(s:Shared)(Q:VK)(u:Value)(s':Shared):Prop :=
 ∃ v H',s'.os=s.os∧AllBare s'.gens∧Un (frs outer) [] H H' s.heap s'.heap∧HOk P w H' s'.heap∧bH v u∧Q v H'
def CR (CX:CXT)(outer:List Env)(P:Program)(w:World)(H:Hp)(s:Shared)(Q:VK)(E:XK)(r:Result)(s':Shared):Prop :=
 match r with
 | .ok (.ret u)=>CE outer P w H s Q u s'
 | .ok _=>False
 | .error e=>CX outer H s E e s'
structure fZ (P:Program) (w:World) (K:PySem.W.Frag) (mg:Str→Option Value) (base:Heap) (CX:CXT) (k:Nat) (f:Addr) (fd:FuncData) (ps:List Str) (sp:Sp):Prop where
 len:∀ vs H Q E,sp vs H Q E→vs.length=ps.length
 run:∀ (A:Around) (outer:List Env) (s:Shared) (H:Hp) (args:Args) (us:List Value) (vs:List V) (Q:VK) (E:XK),dj k A→pO P w K mg base A outer s H→BindsTo s fd args (ps.zip us)→bo vs us→sp vs H Q E →
  codeAny (model P w) A (.call (.ref f) args) (CR CX outer P w H s Q E) s
theorem fZ.mono {P:Program}{w:World}{K:PySem.W.Frag}{mg:Str→Option Value}{base:Heap}{CX:CXT}{j k:Nat}{f:Addr}{fd:FuncData}{ps:List Str}{sp:Sp}(F:fZ P w K mg base CX j f fd ps sp)(h:j≤k) :
  fZ P w K mg base CX k f fd ps sp:=⟨F.len,fun A outer s H args us vs Q E hr=>F.run A outer s H args us vs Q E (hr.mono h)⟩
theorem fZ.imp {P:Program}{w:World}{K:PySem.W.Frag}{mg:Str→Option Value}{base:Heap}{CX:CXT}{k:Nat}{f:Addr}{fd:FuncData}{ps:List Str}{sp sp':Sp}(F:fZ P w K mg base CX k f fd ps sp)
  (h:∀ vs H Q E,sp' vs H Q E→sp vs H Q E):fZ P w K mg base CX k f fd ps sp' :=
 ⟨fun vs H Q E q=>F.len vs H Q E (h _ _ _ _ q),fun A outer s H args us vs Q E hr he hb hv hs=>F.run A outer s H args us vs Q E hr he hb hv (h _ _ _ _ hs)⟩
theorem pO.make {P:Program}{w:World}{K:PySem.W.Frag}{mg:Str→Option Value}{base:Heap}{A:Around}{outer:List Env}{s:Shared}{H:Hp}(e:pO P w K mg base A outer s H)(C:Addr)(us:List Value)(kw:List (Str × Value)) :
  pO P w K mg base (A.under (.builtin "type.__call__" ⟨.ref C::us,kw⟩)) outer s H:=⟨by first | exact e.frames | (simpa [Around.under,Code.envs,Code.isFrame,pushEnvs] using e.frames),e.mod,e.bs,e.bsz,e.funs,e.frf,e.hok,e.bare⟩
section
variable {X:Cx} {G6:List (Addr × Obj)} {σ:St} {H:Hp} {s s':Shared}
theorem Inv.env0 (I:Inv X G6 σ H s):pO X.prog X.w X.K X.mg X.base X.A X.stack s H :=
 ⟨I.ok.frames,I.ok.mod,I.bs,Cn I.ok.bsz I.sz,I.stack,I.stkFree,I.hok,I.bare⟩
theorem Inv.after {Q:VK}{u:Value}(I:Inv X G6 σ H s)(h:CE X.stack X.prog X.w H s Q u s'):EP X G6 σ Q u s':=by
 obtain ⟨v,H',os,bare,un,hok,r,q⟩:=h
 obtain ⟨hh,g,d,t,os'⟩:=s'
 obtain rfl:os'=s.os:=os
 exact ⟨v,H',I.call (h':=hh) (g':=g) (d':=d) (t':=t) (ch:=[]) un hok bare (fun b z=>absurd z (by simp)),r,q⟩
end
def qb (sp:Sp)(dvs:List V)(E:XK)(Q:VK):List V→Hp→Prop:=fun vs H1=>sp (vs++dvs) H1 Q E
def lN (sp:Sp)(dvs:List V)(E:XK)(t:TA):TE:=fun σ H Q=>t σ H (qb sp dvs E Q)
def dH (K:PySem.W.Frag)(fd:FuncData)(ps:List Str)(ds:List Value):Prop :=
 ∀ (s:Shared) (us:List Value),K.In s.heap→(us++ds).length=ps.length→BindsTo s fd ⟨us,[]⟩ (ps.zip (us++ds))
theorem dH.all {K:PySem.W.Frag}{fd:FuncData}{ps:List Str}(h:∀ us:List Value,us.length=ps.length→bindArgs fd ⟨us,[]⟩=pure (ps.zip us)):dH K fd ps []:=fun s us _ hl=>by
 rw [DH] at hl ⊢
 exact .of_eq (h us hl)
def gx (CX:CXT)(X:Cx)(E:XK):Prop:=∀ (G6:List (Addr × Obj)) (σ:St) (H:Hp) (s:Shared) (e:Value) (s':Shared),Inv X G6 σ H s→CX X.stack H s E e s'→X.xe e s'
section
variable {X:Cx} {CX:CXT} {k:Nat} {f C:Addr} {fd:FuncData} {ps:List Str} {sp:Sp} {dvs:List V} {ds:List Value} {E:XK} {x m:Str} {p pos apos:Pos} {e o:Expr} {es:List Expr} {ta:TE} {t:TA}
theorem sG {G6:List (Addr × Obj)}{σ:St}{H:Hp}{s:Shared}{Q:VK}{us:List Value}{vs:List V}(F:fZ X.prog X.w X.K X.mg X.base CX k f fd ps sp)(hr:dj k X.A)(hb:dH X.K fd ps ds)(hd:bo dvs ds)(hx:gx CX X E)
  (I:Inv X G6 σ H s) (r:bo vs us) (h:sp (vs++dvs) H Q E):wpAny (model X.prog X.w) X.A (call (.ref f) us) (EP X G6 σ Q) X.xe s:=by
 have r2:bo (vs++dvs) (us++ds):=r.append hd
 have hl:(us++ds).length=ps.length:=by rw [← r2.length];exact F.len _ _ _ _ h
 refine Ex (Ee (F.run X.A X.stack s H ⟨us,[]⟩ (us++ds) (vs++dvs) Q E hr I.env0 (hb s us I.kIn hl) r2 h) fun r s' hq=>?_)
 cases r with
 | error e=>exact hx G6 σ H s e s' I hq
 | ok fl =>
  cases fl with
  | ret u=>exact I.after hq
  | next=>exact False.elim hq
  | brk=>exact False.elim hq
  | cont=>exact False.elim hq
theorem mH (F:fZ X.prog X.w X.K X.mg X.base CX k f fd ps sp)(hr:dj k X.A)(hg:Gl X x)(hm:X.mg x=some (.ref f))(hk:PySem.W.keepIn X.K (.ref f)=true)(hb:dH X.K fd ps ds)(hd:bo dvs ds)(hx:gx CX X E)
  (ha:PA X (e::es) t) (HM:(x == ("__debug__":Str))=false:=by decide) (he:starEach (e::es) X.env=(false,eval e X.env)::starEach es X.env:=by rfl) (HV:(backTo pos (starEach es X.env)).any (·.1)=false:=by rfl) :
  PE X (.Call (.Name x p) (e::es) [] pos) (lN sp dvs E t):=by
 intro G6 s σ H Q I h
 refine Dn (cf I hg hm ?_ HM)
 refine Ek (h₀:=X.base) I.ok.mod.kin hk (thn (ha pos G6 s σ H _ I h) fun us s1 ⟨vs,H1,I1,r,q⟩=>⟨I1.kIn,?_⟩) he HV
 exact sG F hr hb hd hx I1 r q
theorem qc (F:fZ X.prog X.w X.K X.mg X.base CX k f fd ps sp)(hr:dj k X.A)(hg:Gl X x)(hm:X.mg x=some (.ref f))(hk:PySem.W.keepIn X.K (.ref f)=true)(hb:dH X.K fd ps ds)(hd:bo dvs ds)(hx:gx CX X E)
  (HM:(x == ("__debug__":Str))=false:=by decide):PE X (.Call (.Name x p) [] [] pos) (lN sp dvs E zk):=by
 intro G6 s σ H Q I h
 refine Dn (cf I hg hm ?_ HM)
 exact PySem.W.callWith_K0 I.kIn hk (sG (us:=[]) F hr hb hd hx I .nil h)
end
section
variable {X:Cx} {CX:CXT} {k:Nat} {f C:Addr} {fd:FuncData} {ps ks:List Str} {sp:Sp} {E:XK} {x m:Str} {p pos apos kpos:Pos} {e o:Expr} {es:List Expr} {kws:List Keyword} {te ta:TE} {t tk:TA} {nm:Option Str}
variable {g:List Value→List Value→List Value} {gV:List V→List V→List V}
end
structure aN (N P:List Str) (sc:Scope):Prop where
 kind:sc.kind = .function
 co:sc.isCoroutine=false
 gen:sc.isGenerator=false
 nd:N.Nodup
 pre:N.take P.length=P
 par:∀ x∈P,sc.names.lookup x=some .local ∨ sc.names.lookup x=some .cell
 nofree:∀ y∈sc.names,y.2 ≠ .free
theorem iN {kindOf:Str→Option NameKind}{x:Str}:∀ {binds:List (Str × Value)} {m:Str→Option Value},(∀ v,(x,v)∉binds)→bindL kindOf binds m x=m x
 | [],_,_=>rfl
 | (n,v)::r,m,h=>by
  unfold bindL
  rw [iN fun w hw=>h w (BZ _ hw)]
  split
  ·have:x≠n:=by rintro rfl;exact h v Ca
   simp [this]
  ·rfl
theorem iO {kindOf:Str→Option NameKind}{x:Str}:∀ {binds:List (Str × Value)} {m:Str→Option Value},(∀ v,(x,v)∉binds)→bindC kindOf binds m x=m x
 | [],_,_=>rfl
 | (n,v)::r,m,h=>by
  unfold bindC
  rw [iO fun w hw=>h w (BZ _ hw)]
  split
  ·rfl
  ·have:x≠n:=by rintro rfl;exact h v Ca
   simp [this]
theorem iP {kindOf:Str→Option NameKind}{x:Str}{v:Value}:∀ {P:List Str} {vs:List Value} {i:Nat} {m:Str→Option Value},P.Nodup→P[i]? = some x→vs[i]? = some v→kindOf x=some .local →
  bindL kindOf (P.zip vs) m x=some v
 | [],_,_,_,_,h,_,_=>by simp at h
 | _::_,[],_,_,_,_,h,_=>by simp at h
 | p::P,w::vs,0,m,nd,h1,h2,hk=>by
  simp at h1 h2;subst h1;subst h2
  show bindL kindOf ((p,w)::P.zip vs) m p=_
  unfold bindL
  rw [iN fun v hv=>(DW.mp nd).1 (ES hv).1,if_pos hk]
  simp
 | p::P,w::vs,i+1,m,nd,h1,h2,hk=>by
  show bindL kindOf ((p,w)::P.zip vs) m x=_
  unfold bindL
  exact iP (i:=i) (DW.mp nd).2 (by simpa using h1) (by simpa using h2) hk
theorem iQ {kindOf:Str→Option NameKind}{x:Str}{v:Value}:∀ {P:List Str} {vs:List Value} {i:Nat} {m:Str→Option Value},P.Nodup→P[i]? = some x→vs[i]? = some v→kindOf x≠some .local →
  bindC kindOf (P.zip vs) m x=some v
 | [],_,_,_,_,h,_,_=>by simp at h
 | _::_,[],_,_,_,_,h,_=>by simp at h
 | p::P,w::vs,0,m,nd,h1,h2,hk=>by
  simp at h1 h2;subst h1;subst h2
  show bindC kindOf ((p,w)::P.zip vs) m p=_
  unfold bindC
  rw [iO fun v hv=>(DW.mp nd).1 (ES hv).1,if_neg hk]
  simp
 | p::P,w::vs,i+1,m,nd,h1,h2,hk=>by
  show bindC kindOf ((p,w)::P.zip vs) m x=_
  unfold bindC
  exact iQ (i:=i) (DW.mp nd).2 (by simpa using h1) (by simpa using h2) hk
def start (N:List Str)(vs:List V):St:=vs.map some++List.replicate (N.length - vs.length) none
def jD (CX:CXT)(P:Program)(w:World)(K:PySem.W.Frag)(mg:Str→Option Value)(base:Heap)(N:List Str)(qual:Str)(scope:Scope)(f:Addr)(cd:Value)(A:Around)(outer:List Env)(s:Shared)(H:Hp)(E:XK):Cx where
 prog:=P
 w:=w
 K:=K
 mg:=mg
 base:=base
 A:=A.deeper (envOfC qual scope s.heap.objs.size f cd)
 N:=N
 s₀:=s
 H₀:=H
 env:=envOfC qual scope s.heap.objs.size f cd
 outer:=outer
 stack:=envOfC qual scope s.heap.objs.size f cd::outer
 ex:=[]
 calm:=true
 fn:=fun _=>true
 pn:=[]
 xe:=fun e s'=>wpAny (model P w) (A.deeper (envOfC qual scope s.heap.objs.size f cd)) (leaving (envOfC qual scope s.heap.objs.size f cd) e) (fun _ s''=>CX outer H s E e s'') (fun e' s''=>CX outer H s E e' s'') s'
theorem kr {sc:Scope}{n:Nat}{x:Str}(h:sc.names.lookup x=some .cell):∃ c,(cellsFrom n sc.names []).lookup x=some c:=by
 have q:=Er sc.names n [] (.inl h)
 exact Ef.mp q
theorem iR {CX:CXT}{P:Program}{w:World}{K:PySem.W.Frag}{mg:Str→Option Value}{base:Heap}{N ps:List Str}{qual:Str}{scope:Scope}{f:Addr}{cd:Value}{A:Around}{outer:List Env}{s s1:Shared}{H:Hp}{E:XK}{us:List Value}{vs:List V}
  (S:aN N ps scope) (hd:A.handled=none) (e0:pO P w K mg base A outer s H) (hl:vs.length=ps.length) (r:bo vs us)
  (x:InCallC s s.heap.objs.size (bindL (envOfC qual scope s.heap.objs.size f cd).kindOf (ps.zip us) fun _=>none) (cellsFrom (s.heap.objs.size+1) scope.names []) (bindC (envOfC qual scope s.heap.objs.size f cd).kindOf (ps.zip us) fun _=>none) s1) :
  Inv (jD CX P w K mg base N qual scope f cd A outer s H E) [] (start N vs) H s1:=by
 have HV:ps.length≤N.length:=by have:=Ci List.length S.pre;rw [BJ] at this;omega
 obtain ⟨h1,tk,rfl,hk⟩:=x.done
 have noA:∀ b:Addr,b∉(jD CX P w K mg base N qual scope f cd A outer s H E).ex:=fun b z=>absurd (show b∈([]:List Addr) from z) (by simp)
 refine ⟨⟨e0.mod,S.kind,rfl,rfl,BG _,fun y z c h1 h2=>?_,fun y hy=>?_,fun y c _ h=>?_,fun _=>hd,Around.frames_deeper e0.frames,.inr ⟨rfl,rfl⟩,fun b z=>absurd z (noA b),e0.bs,e0.bsz,fun b _ _=>noA b,fun b z=>absurd z (noA b),e0.funs,e0.frf⟩,
  rfl,e0.bare,Un.kept hk,⟨_,x.toInCall.ns,fun i y v h1 h2 h3=>?_⟩,fun y c h=>⟨_,x.cell y c h⟩,e0.hok.fresh (BG _),fun y c h=>?_,fun p hp=>absurd (show p∈([]:List (Addr × Obj)) from hp) (by simp),e0.hok.kept hk,?_⟩
 ·exact name_of_addr x.apart (Dj h1) (Dj h2)
 ·have hy:scope.names.lookup y=some .cell ∨ scope.names.lookup y=some .free:=hy
  rcases hy with hy | hy
  ·exact kr hy
  ·exact absurd rfl (S.nofree _ (Dj hy))
 ·exact Gk (x.above y c (Dj h))
 ·have hi:i < vs.length:=by
   unfold start at h2
   by_cases hi:i < vs.length
   ·exact hi
   ·rw [Cj (by simpa using hi)] at h2
    rw [List.getElem?_replicate] at h2
    split at h2 <;> cases h2
  have ha:vs[i]? = some v:=by
   unfold start at h2
   rw [CL (by simpa using hi),B7] at h2
   cases e:vs[i]? with
   | none=>rw [e] at h2;cases h2
   | some a=>rw [e] at h2;cases h2;rfl
  obtain ⟨u,hu,rv⟩:=r.get ha
  have hp:ps[i]? = some y:=by
   rw [← S.pre,CO (by omega)];exact h1
  have ndP:ps.Nodup:=by rw [← S.pre];exact S.nd.sublist (List.take_sublist _ _)
  refine ⟨u,rv,?_⟩
  rcases S.par y (B8 hp) with k | k
  ·exact .inl ⟨k,iP ndP hp hu k⟩
  ·obtain ⟨c,e⟩:=kr (n:=s.heap.objs.size+1) k
   refine .inr ⟨.inl k,c,e,?_⟩
   have q:=x.cell y c e
   rw [iQ ndP hp hu (by show scope.names.lookup y≠_;rw [k];decide)] at q
   exact q
 ·exact e0.hok.fresh (Gk (x.above y c (Dj h)))
 ·unfold start
  show _=N.length
  rw [BB,BK,C5]
  omega
theorem wO {CX:CXT}{P:Program}{w:World}{K:PySem.W.Frag}{mg:Str→Option Value}{base:Heap}{k:Nat}{f:Addr}{name qual:Str}{params:Arguments}{body:List Stmt}{scope:Scope}{dV kV doc pm Hb ct oc:Value}{an od:Option Addr}
  {Hw:Array (Option Value)} {N ps:List Str} {sp:Sp} (lk:K.lookup f=some ⟨oc,od,.func (PySem.W.fnOf name qual params body scope dV kV doc pm an Hb ct),Hw⟩) (Im:PySem.W.codeIn K Hb qual=true) (S:aN N ps scope)
  (len:∀ vs H Q E,sp vs H Q E→vs.length=ps.length)
  (Hq:∀ (A:Around) (outer:List Env) (s:Shared) (H:Hp) (vs:List V) (Q:VK) (E:XK),dj k (A.deeper (envOfC qual scope s.heap.objs.size f Hb))→sp vs H Q E →
   ∃ t,PSs (jD CX P w K mg base N qual scope f Hb A outer s H E) body t∧t { nx:=fun _ H'=>Q .non H',rt:=Q } (start N vs) H) :
  fZ P w K mg base CX (k+1) f (PySem.W.fnOf name qual params body scope dV kV doc pm an Hb ct) ps sp:=by
 refine ⟨len,fun A outer s H args us vs Q E hr e0 hb r Il=>?_⟩
 have hl:=len _ _ _ _ Il
 have KX:K.In s.heap:=e0.mod.kin.keeps fun b o e=>(e0.bs b o e).1
 have lim:s.heap.NoLimit:=e0.mod.nolimit.keeps fun b o e=>(e0.bs b o e).1
 have hkind:∀ y∈ps.zip us,scope.names.lookup y.1=some .local ∨ (scope.names.lookup y.1=some .cell∧((cellsFrom (s.heap.objs.size+1) scope.names []).lookup y.1).isSome=true):=fun ⟨n,v⟩ hy=>by
  rcases S.par n (ES hy).1 with q | q
  ·exact .inl q
  ·exact .inr ⟨q,Er _ _ _ (.inl q)⟩
 refine codeAny_call_function hr.depth (KX _ _ lk) rfl S.co S.gen rfl (PySem.W.codeRec_of KX Im) (hb _ _ _ _ ?_)
 refine E9 S.kind hkind fun env he s1 x=>?_
 subst he
 refine ⟨lim.keeps x.toInCall.keep,codeAny_func ?_⟩
 obtain ⟨t,ht,hq⟩:=Hq A outer s H vs Q E (hr.deeper _) Il
 have I:Inv (jD CX P w K mg base N qual scope f Hb A outer s H E) [] (start N vs) H s1:=iR S hr.hd e0 hl r x
 refine CB (ht [] s1 (start N vs) H _ I hq) (fun fl s' hs=>?_) fun e s' hs=>hs
 have fin:∀ {σ':St} {H':Hp} {v:V} {u:Value},Inv (jD CX P w K mg base N qual scope f Hb A outer s H E) [] σ' H' s'→bH v u→Q v H'→CE outer P w H s Q u s' :=
  fun {σ' H' v u} J rv q=>⟨v,H',J.os,J.bare,J.base,J.hok,rv,q⟩
 cases fl with
 | ret u =>
  obtain ⟨v,σ',H',J,rv,q⟩:=hs
  exact fin J rv q
 | next =>
  obtain ⟨σ',H',J,q⟩:=hs
  exact fin (v:=V.non) (u:=Value.none) J rfl q
 | brk =>
  obtain ⟨_,_,_,q⟩:=hs
  exact False.elim q
 | cont =>
  obtain ⟨_,_,_,q⟩:=hs
  exact False.elim q
section
variable {X:Cx} {x:Str} {p pos:Pos} {e:Expr} {es:List Expr} {t:TA} {id T:String} {r:List V→Hp→VK→Prop}
def wQ (r:List V→Hp→VK→Prop)(Q:VK):List V→Hp→Prop:=fun vs H1=>r vs H1 Q
def tCB (r:List V→Hp→VK→Prop)(t:TA):TE:=fun σ H Q=>t σ H (wQ r Q)
theorem ak (hc:cE X (.builtin id) r)(hg:Gl X x)(hm:X.mg x=none)(hv:bootBuiltins x=some (.builtin id))(ha:PA X (e::es) t)(hn:x ≠ "__name__":=by decide)(HM:(x == ("__debug__":Str))=false:=by decide)
  (he:starEach (e::es) X.env=(false,eval e X.env)::starEach es X.env:=by rfl) (HV:(backTo pos (starEach es X.env)).any (·.1)=false:=by rfl):PE X (.Call (.Name x p) (e::es) [] pos) (tCB r t):=by
 intro G6 s σ H Q I h
 refine Dn (gj I hg hm hv ?_ hn HM)
 exact EF (thn (ha pos G6 s σ H _ I h) fun us s1 zq60=>(by obtain ⟨vs,H1,I1,r1,q1⟩:=zq60;exact hc G6 s1 σ H1 vs us Q I1 r1 q1)) he HV
theorem cg (hc:cE X (.type T) r)(hg:Gl X x)(hm:X.mg x=none)(hv:bootBuiltins x=some (.type T))(ha:PA X (e::es) t)(hn:x ≠ "__name__":=by decide)(HM:(x == ("__debug__":Str))=false:=by decide)
  (he:starEach (e::es) X.env=(false,eval e X.env)::starEach es X.env:=by rfl) (HV:(backTo pos (starEach es X.env)).any (·.1)=false:=by rfl):PE X (.Call (.Name x p) (e::es) [] pos) (tCB r t):=by
 intro G6 s σ H Q I h
 refine Dn (gj I hg hm hv ?_ hn HM)
 exact Ds (thn (ha pos G6 s σ H _ I h) fun us s1 zq61=>(by obtain ⟨vs,H1,I1,r1,q1⟩:=zq61;exact hc G6 s1 σ H1 vs us Q I1 r1 q1)) he HV
end
end L2
namespace HT
open PySem PyProof.Rows
section
open PySem.SeqAt
open PySem.AutoSeq1 (wpAny_loadPart')
open PySem.MeetsSeq PySem.MeetsSeq2 PySem.MeetsSeq3
end
section
variable {prog:Program} {w:World} {A:Around} {E:Value→Shared→Prop} {s:Shared}
theorem tY {t b:Addr}{vs ws:List Value}{Q:Value→Shared→Prop}(ht:IsTup s.heap t vs.toArray)(hb:IsTup s.heap b ws.toArray)(hv:vs≠[])
  (h1:ws=[]→Q (.ref t) s) (h2:ws≠[]→Q (.ref s.heap.objs.size) { s with heap:=s.heap.push { cls:=.type "tuple",data:=.seq (vs++ws).toArray } })
  (hsz:vs.length+ws.length≤sizeLine):wpAny (model prog w) A (binaryOp .Add (.ref t) (.ref b)) Q E s:=by
 obtain ⟨⟨cls,dd,data,sl⟩,ho,hc,n,hd⟩:=id ht
 obtain ⟨⟨cls2,dd2,data2,sl2⟩,ho2,hc2,n2,hd2⟩:=id hb
 simp only at hc hd hc2 hd2
 subst hc hd hc2 hd2
 have e:vs.toArray++ws.toArray=(vs++ws).toArray:=by simp
 by_cases hw:ws=[]
 ·exact concat_meets ⟨_,ho,rfl⟩ ⟨_,ho2,rfl⟩ FL seq_tuple_add Es Em (Eg _ _)
   (tuple_addW1 t b vs.toArray ws.toArray n n2 dd dd2 sl sl2 (by simpa using hv) (by simp [hw])) ⟨ho,ho2,h1 hw⟩
 ·refine concat_meets ⟨_,ho,rfl⟩ ⟨_,ho2,rfl⟩ FL seq_tuple_add Es Em (Eg _ _)
   (tuple_addW2 t b vs.toArray ws.toArray n n2 dd dd2 sl sl2 (by simpa using hv) (by simpa using hw) (by rw [B4,B4];exact hsz)) ⟨ho,ho2,?_⟩
  rw [e]
  exact h2 hw
def sIx (n d:Nat):Option Int→Nat
 | none=>d
 | some v=>if v < 0 then (v+(n:Int)).toNat else min v.toNat n
theorem gI (n d:Nat):sIx n d none=d:=rfl
theorem cF (n d k:Nat):sIx n d (some (k:Int))=min k n:=by
 show (if (k:Int) < 0 then ((k:Int)+(n:Int)).toNat else min (k:Int).toNat n)=min k n
 rw [if_neg (by omega),BQ]
theorem mI (n d:Nat)(hd:d≤n)(o:Option Int):sIx n d o≤n:=by
 cases o with
 | none=>exact hd
 | some v =>
  show (if v < 0 then (v+(n:Int)).toNat else min v.toNat n)≤n
  by_cases hv:v < 0
  ·rw [if_pos hv];omega
  ·rw [if_neg hv];exact Nat.min_le_right _ _
theorem mJ (v:Int)(n d:Nat):(if v < 0 then max (v+(n:Int)) 0 else min v (n:Int))=((sIx n d (some v):Nat):Int):=by
 show (if v < 0 then max (v+(n:Int)) 0 else min v (n:Int))=(((if v < 0 then (v+(n:Int)).toNat else min v.toNat n):Nat):Int)
 by_cases hv:v < 0
 ·simp only [if_pos hv];omega
 ·simp only [if_neg hv];omega
theorem lO (lo hi:Option Int)(n:Nat):Builtin.Slice.sliceAdjust lo hi 1 (n:Int)=(((sIx n 0 lo:Nat):Int),((sIx n n hi:Nat):Int)):=by
 have h1:¬ ((1:Int) < 0):=by omega
 unfold Builtin.Slice.sliceAdjust
 simp only [h1,C_]
 refine Prod.ext ?_ ?_
 ·cases lo with
  | none=>rfl
  | some v=>exact mJ v n 0
 ·cases hi with
  | none=>rfl
  | some v=>exact mJ v n n
theorem lP (i j:Nat):Builtin.Slice.slicePlaces (i:Int) (j:Int) 1=j - i:=by
 unfold Builtin.Slice.slicePlaces
 have h1:(1:Int) > 0:=by omega
 simp only [h1,Dx,Int.ediv_one]
 split <;> omega
theorem gy {v:Value}{o:Option Int}{Q:Option Int→Shared→Prop}(p:IsPart v o)(h:Q o s):wpAny (model prog w) A (Builtin.Slice.slicePartIndex v) Q E s:=by
 cases p with
 | none=>exact Fi h
 | int i t=>exact slicePart_int h
theorem cO {sl:Addr}{vl vu:Value}{lo hi:Option Int}{n:Nat}{Q:Int × Int × Nat→Shared→Prop}(hs:s.heap.IsSliceOf sl vl vu .none)(pl:IsPart vl lo)(pu:IsPart vu hi)
  (h:Q (((sIx n 0 lo:Nat):Int),1,sIx n n hi - sIx n 0 lo) s):wpAny (model prog w) A (Builtin.Slice.sliceApplied (.ref sl) (pure (n:Int))) Q E s:=by
 obtain ⟨os,hos,hcs,hds⟩:=id hs
 unfold Builtin.Slice.sliceApplied Builtin.Slice.sliceFields
 refine fu (fu (Cp hos hds (x:=vl) rfl (fu (Cp hos hds (x:=vu) rfl (fu (Cp hos hds (x:=.none) rfl (BH ?_)))))))
 refine fu (Fi ?_)
 show wpAny _ _ (if ((1:Int) == 0)=true then _ else _) _ _ s
 rw [if_neg (by decide)]
 refine fu (gy pl (fu (gy pu (fu (BH ?_)))))
 show wpAny _ _ (match Builtin.Slice.sliceAdjust lo hi 1 (n:Int) with | (lo,hi)=>pure (lo,(1:Int),Builtin.Slice.slicePlaces lo hi 1)) _ _ s
 rw [lO lo hi n]
 show wpAny _ _ (pure (((sIx n 0 lo:Nat):Int),(1:Int),Builtin.Slice.slicePlaces ((sIx n 0 lo:Nat):Int) ((sIx n n hi:Nat):Int) 1)) _ _ s
 rw [lP]
 exact BH h
theorem qe (xs:Array Value)(i k:Nat):((List.range k).filterMap fun (m:Nat)=>xs[((i:Int)+(m:Int)*1).toNat]?).toArray=((xs.toList.drop i).take k).toArray:=by
 have e:(fun (m:Nat)=>xs[((i:Int)+(m:Int)*1).toNat]?)=fun m=>xs[i+m]?:=by
  funext m
  have:((i:Int)+(m:Int)*1).toNat=i+m:=by omega
  rw [this]
 rw [e]
 have:=pick_run xs i k
 rw [List.filterMap_map] at this
 have e2:((fun x=>xs[x]?) ∘ fun x=>i+x)=fun m=>xs[i+m]?:=rfl
 rw [e2] at this
 rw [this]
theorem dZ {t sl:Addr}{items:Array Value}{vl vu:Value}{lo hi:Option Int}{Q:Value→Shared→Prop}(ht:IsTup s.heap t items)(hs:s.heap.IsSliceOf sl vl vu .none)(pl:IsPart vl lo)(pu:IsPart vu hi)
  (hw:¬ (sIx items.size 0 lo=0∧sIx items.size items.size hi=items.size))
  (h:Q (.ref s.heap.objs.size) { s with heap:=s.heap.push { cls:=.type "tuple",data:=.seq ((items.toList.drop (sIx items.size 0 lo)).take (sIx items.size items.size hi - sIx items.size 0 lo)).toArray } })
  (hsz:items.size≤sizeLine):wpAny (model prog w) A (getItem (.ref t) (.ref sl)) Q E s:=by
 have Hx:sizeOk (.seq ((items.toList.drop (sIx items.size 0 lo)).take (sIx items.size items.size hi - sIx items.size 0 lo)).toArray):=by
  show ((items.toList.drop (sIx items.size 0 lo)).take (sIx items.size items.size hi - sIx items.size 0 lo)).toArray.size≤sizeLine
  rw [B4,BJ,B0,BL]
  omega
 have hj:sIx items.size items.size hi≤items.size:=mI _ _ (BG _) hi
 obtain ⟨os,hos,hcs,hds⟩:=id hs
 have hTs:s.TypeIs (.ref sl) "slice":=⟨os,hos,hcs⟩
 unfold getItem
 try with_reducible refine Da ?_
 first | refine fu (BH ?_) | skip
 refine fu (Fp ht.typeIs (by decide) ?_)
 refine fu (CJ (name:=Str.ofString "__getitem__") ht.typeIs CD
  (C4 CD ht.typeIs ET ?_ (Fe _ _)))
 show wpAny _ _ (Builtin.Tuple.tupleItemsOf (.ref t) >>= _) _ _ s
 refine fu (tupleItemsOf_ ht ?_)
 refine fu (FS hTs ?_)
 rw [if_pos (by decide)]
 refine fu (cO hs pl pu ?_)
 have hno:¬ ((((sIx items.size 0 lo:Nat):Int) == 0 && (1:Int) == 1 && (sIx items.size items.size hi - sIx items.size 0 lo) == items.size)=true):=by
  intro q
  rw [Cw,Cw] at q
  have q1:((sIx items.size 0 lo:Nat):Int)=0:=eq_of_beq q.1.1
  have q2:sIx items.size items.size hi - sIx items.size 0 lo=items.size:=eq_of_beq q.2
  exact hw ⟨by omega,by omega⟩
 show wpAny _ _ (if (((sIx items.size 0 lo:Nat):Int) == 0 && (1:Int) == 1 && (sIx items.size items.size hi - sIx items.size 0 lo) == items.size)=true then _ else _) _ _ s
 rw [if_neg hno,qe]
 first
  | exact fu (m:=Builtin.Tuple.tupleExact _) (CF (BH ⟨_,rfl,BH h⟩) Hx)
  | exact fu (m:=Builtin.Tuple.tupleExact _) (CF (fu (BH (BH ⟨_,rfl,BH h⟩))) Hx)
  | exact fu (fu (m:=Builtin.Tuple.tupleExact _) (CF (BH (BH ⟨_,rfl,BH h⟩)) Hx))
  | exact fu (fu (m:=Builtin.Tuple.tupleExact _) (CF (BH ⟨_,rfl,BH h⟩) Hx))
end
end HT
namespace L2
open PySem PySem.Spec PyProof.Rows
abbrev TO:=St→Hp→(Option Int→Hp→Prop)→Prop
def PO (X:Cx)(e:Option Expr)(t:TO):Prop :=
 ∀ (G6:List (Addr × Obj)) (s:Shared) (σ:St) (H:Hp) (Q:Option Int→Hp→Prop),Inv X G6 σ H s→t σ H Q →
  wpAny (model X.prog X.w) X.A (evalPart e X.env) (fun u s'=>∃ o H',Inv X G6 σ H' s'∧IsPart u o∧Q o H') X.xe s
def tZ:TO:=fun _ H Q=>Q none H
inductive IsI (x:V)(H:Hp)(Q:Option Int→Hp→Prop):Prop
 | mk:∀ i,(x = .int i)→(Q (some i) H)→IsI x H Q
def qf (Q:(Option Int→Hp→Prop)):V→Hp→Prop:=fun x H1=>IsI x H1 Q
def zl (t:TE):TO:=fun σ H Q=>t σ H (qf Q)
section
variable {X:Cx} {e:Expr} {te:TE} {lo hi:Option Expr} {tl th:TO} {pos p2:Pos}
theorem aJ:PO X none tZ:=by
 intro G6 s σ H Q I h
 rw [evalPart_none]
 exact BH ⟨none,H,I,.none,h⟩
theorem aA (h:PE X e te):PO X (some e) (zl te):=by
 intro G6 s σ H Q I hw
 rw [evalPart_some]
 refine thn (h G6 s σ H _ I hw) fun u s1 zq62=>?_
 obtain ⟨x,H1,I1,r1,q1⟩:=zq62
 obtain ⟨i,rfl,q⟩:=q1
 obtain ⟨t,rfl⟩:=r1
 exact ⟨some i,H1,I1,.int i t,q⟩
def SlR (X:Cx)(r:V→Option Int→Option Int→Hp→VK→Prop):Prop :=
 ∀ (G6:List (Addr × Obj)) (s:Shared) (σ:St) (H:Hp) (x:V) (v vl vu:Value) (lo hi:Option Int) (sl:Addr) (Q:VK),Inv X G6 σ H s→bH x v→s.heap.IsSliceOf sl vl vu .none→IsPart vl lo→IsPart vu hi→r x lo hi H Q →
  ∃ T id,typeLookup (.type T) "__getitem__" = pure (some (.builtin id))∧s.TypeIs v T∧wpAny (model X.prog X.w) X.A (getItem v (.ref sl)) (EP X G6 σ Q) X.xe s
def wR (r:V→Option Int→Option Int→Hp→VK→Prop)(Q:VK)(x:V)(l:Option Int):Option Int→Hp→Prop:=fun u H3=>r x l u H3 Q
def wU (r:V→Option Int→Option Int→Hp→VK→Prop)(th:TO)(σ:St)(Q:VK)(x:V):Option Int→Hp→Prop:=fun l H2=>th σ H2 (wR r Q x l)
def wV (r:V→Option Int→Option Int→Hp→VK→Prop)(tl:TO)(th:TO)(σ:St)(Q:VK):V→Hp→Prop:=fun x H1=>tl σ H1 (wU r th σ Q x)
def tSl (r:V→Option Int→Option Int→Hp→VK→Prop)(te:TE)(tl th:TO):TE:=fun σ H Q=>te σ H (wV r tl th σ Q)
theorem au {r:V→Option Int→Option Int→Hp→VK→Prop}(hr:SlR X r)(he:PE X e te)(hl:PO X lo tl)(hu:PO X hi th):PE X (.Subscript e (.Slice lo hi none p2) pos) (tSl r te tl th):=by
 intro G6 s σ H Q I h
 refine F_ (thn (he G6 s σ H _ I h) fun v s1 zq63=>?_)
 obtain ⟨x,H1,I1,r1,q1⟩:=zq63
 refine wpAny_Slice (thn (hl G6 s1 σ H1 _ I1 q1) fun vl s2 ⟨l,H2,I2,pl,q2⟩=>thn (hu G6 s2 σ H2 _ I2 q2) fun vu s3 zq64=>?_)
 obtain ⟨u,H3,I3,pu,q3⟩:=zq64
 rw [evalPart_none]
 refine BH ?_
 have I4:Inv X G6 σ H3 { s3 with heap:=s3.heap.push { cls:=.type "slice",data:=.fields #[vl,vu,.none] } }:=I3.kept (t':=s3.toks) fun b ob q=>BD _ q
 obtain ⟨T,id,hT,ht,hg⟩:=hr G6 { s3 with heap:=s3.heap.push { cls:=.type "slice",data:=.fields #[vl,vu,.none] } } σ H3 x v vl vu l u s3.heap.objs.size Q I4 r1 (Heap.IsSliceOf.new ..) pl pu q3
 show wpAny (model X.prog X.w) X.A (subscriptTail e (.Slice lo hi none p2) v (.ref s3.heap.objs.size)) (EP X G6 σ Q) X.xe { s3 with heap:=s3.heap.push { cls:=.type "slice",data:=.fields #[vl,vu,.none] } }
 exact tail_any (ops:=[.ref s3.heap.objs.size,v]) ht hT hg (by with_unfolding_all rfl)
def eG (xs:List V)(lo hi:Option Int):List V:=(xs.drop (HT.sIx xs.length 0 lo)).take (HT.sIx xs.length xs.length hi - HT.sIx xs.length 0 lo)
theorem fk (xs:List V)(lo hi:Option Int):(eG xs lo hi).length≤xs.length:=by
 unfold eG
 rw [BJ,B0]
 omega
inductive AC (K:PySem.W.Frag)(x:V)(lo:Option Int)(hi:Option Int)(H:Hp)(Q:VK):Prop
 | mk:∀ a xs,(x = .ref a)→(SqT K H a xs)→(¬ (HT.sIx xs.length 0 lo=0∧HT.sIx xs.length xs.length hi=xs.length))→(∀ p,H p=none→Q (.ref p) (upd H p (.tup (eG xs lo hi))))→AC K x lo hi H Q
theorem wW:SlR X (AC X.K):=by
 intro G6 s σ H x v vl vu lo hi sl Q I rx hs pl pu h
 obtain ⟨a,xs,rfl,hx,hw,q⟩:=h
 cases rx
 obtain ⟨its,r,ht,hz⟩:=I.tuple hx
 have hlen:its.toArray.size=xs.length:=by rw [B4];exact r.length.symm
 refine ⟨"tuple",_,CD.lookup,ht.typeIs,?_⟩
 refine HT.dZ ht hs pl pu (by rw [hlen];exact hw) ?_ (by rw [hlen];exact hz)
 rw [hlen]
 refine ⟨.ref s.heap.objs.size,_,I.laid (t':=s.toks) (o:=.tup (eG xs lo hi)) (fun b ob q=>BD _ q) (BG _) ?_,rfl,q _ (I.hok.fresh (BG _))⟩
 exact ⟨Cn (fk xs lo hi) hz,_,(r.drop (HT.sIx xs.length 0 lo)).take (HT.sIx xs.length xs.length hi - HT.sIx xs.length 0 lo),IsTup.new _ _,.new _ _ rfl⟩
inductive wX (K:PySem.W.Frag)(x:V)(y:V)(H:Hp)(Q:VK):Prop
 | mk:∀ a b xs ys,(x = .ref a)→(y = .ref b)→(SqT K H a xs)→(SqT K H b ys)→(xs≠[])→(xs.length+ys.length≤sizeLine)→((ys=[]→Q (.ref a) H))→((ys≠[]→∀ p,H p=none→Q (.ref p) (upd H p (.tup (xs++ys)))))→wX K x y H Q
theorem bo.nil_iff {xs:List V}{us:List Value}(r:bo xs us):us=[] ↔ xs=[]:=by
 cases r with
 | nil=>simp
 | cons _ _=>simp
theorem t_:OpR X (binaryOp .Add) (wX X.K):=by
 intro G6 s σ H x y v u Q I rx ry h
 obtain ⟨a,b,xs,ys,rfl,rfl,ha,hb,hx,hz,q1,q2⟩:=h
 cases rx
 cases ry
 obtain ⟨its,r1,p1,_⟩:=I.tuple ha
 obtain ⟨its2,r2,p2,_⟩:=I.tuple hb
 refine HT.tY p1 p2 (fun z=>hx (r1.nil_iff.mp z)) (fun z=>⟨.ref a,H,I,rfl,q1 (r2.nil_iff.mp z)⟩) (fun z=>?_) (by rw [← r1.length,← r2.length];exact hz)
 refine ⟨.ref s.heap.objs.size,_,I.laid (t':=s.toks) (o:=.tup (xs++ys)) (fun b ob q=>BD _ q) (BG _) ?_,rfl,q2 (fun w=>z (r2.nil_iff.mpr w)) _ (I.hok.fresh (BG _))⟩
 exact ⟨by rw [BB];exact hz,_,r1.append r2,IsTup.new _ _,.new _ _ rfl⟩
end
def ixN (n:Nat)(i:Int):Option Nat:=if 0≤i then (if i < n then some i.toNat else none) else if -(n:Int)≤i then some (i+n).toNat else none
def atI {α:Type}(xs:List α)(i:Int):Option α:=(ixN xs.length i).bind fun j=>xs[j]?
theorem ua {n:Nat}{i:Int}{j:Nat}(h:ixN n i=some j):seqIndex? i n=some j∧j < n∧-(n:Int)≤i∧i < n:=by
 unfold ixN at h
 by_cases h0:0≤i
 ·rw [if_pos h0] at h
  by_cases h1:i < n
  ·rw [if_pos h1] at h
   have e:i.toNat=j:=BW h
   exact ⟨by rw [seqIndex_of h0 h1,e],by omega,by omega,h1⟩
  ·rw [if_neg h1] at h;cases h
 ·rw [if_neg h0] at h
  by_cases h1:-(n:Int)≤i
  ·rw [if_pos h1] at h
   have e:(i+n).toNat=j:=BW h
   exact ⟨by rw [seqIndex_neg (by omega) h1,e],by omega,h1,by omega⟩
  ·rw [if_neg h1] at h;cases h
theorem jE {α:Type}{xs:List α}{i:Int}{v:α}(h:atI xs i=some v):∃ j,seqIndex? i xs.length=some j∧xs[j]? = some v∧j < xs.length∧-(xs.length:Int)≤i∧i < xs.length:=by
 unfold atI at h
 cases e:ixN xs.length i with
 | none=>rw [e] at h;cases h
 | some j =>
  rw [e] at h
  obtain ⟨h1,h2,h3,h4⟩:=ua e
  exact ⟨j,h1,h,h2,h3,h4⟩
theorem bL {α:Type}{xs:List α}{j:Nat}{v:α}(h:xs[j]? = some v):atI xs (j:Int)=some v:=by
 have hj:j < xs.length:=(BF.mp h).1
 have e:ixN xs.length (j:Int)=some j:=by
  unfold ixN
  rw [if_pos (by omega),if_pos (by omega)];simp
 unfold atI;rw [e];exact h
def mK (b:Expr):Prop:=∀ o i,subscripted b false o i=operate [o,i] (getItem o i)
def IxR (X:Cx)(r:R2):Prop :=
 ∀ (value slice:Expr) (G6:List (Addr × Obj)) (s:Shared) (σ:St) (H:Hp) (x y:V) (v u:Value) (Q:VK),Inv X G6 σ H s→bH x v→bH y u→r x y H Q →
  subscripted slice false v u=operate [v,u] (getItem v u)→wpAny (model X.prog X.w) X.A (subscriptTail value slice v u) (EP X G6 σ Q) X.xe s
def MtR (X:Cx)(id:String)(r:V→List V→Hp→VK→Prop):Prop :=
 ∀ (G6:List (Addr × Obj)) (s:Shared) (σ:St) (H:Hp) (x:V) (xs:List V) (v:Value) (us:List Value) (Q:VK),Inv X G6 σ H s→bH x v→bo xs us→r x xs H Q →
  wpAny (model X.prog X.w) X.A (call (.builtin id) (v::us)) (EP X G6 σ Q) X.xe s
section
variable {X:Cx} {a b:Expr} {ta tb:TE} {pos:Pos}
theorem aV {r:R2}(hr:IxR X r)(ha:PE X a ta)(hb:PE X b tb)(hs:mK b):PE X (.Subscript a b pos) (tOp r ta tb):=by
 intro G6 s σ H Q I h
 exact F_ (zh ha hb I h fun v u s2 x y H2 I2 rx ry q=>hr a b G6 s2 σ H2 x y v u Q I2 rx ry q (hs _ _))
inductive AD (K:PySem.W.Frag)(x:V)(y:V)(H:Hp)(Q:VK):Prop
 | mk:∀ p xs i v,(x = .ref p)→(y = .int i)→(SqL K H p xs)→(atI xs i=some v)→(Q v H)→AD K x y H Q
inductive AE (K:PySem.W.Frag)(x:V)(y:V)(H:Hp)(Q:VK):Prop
 | mk:∀ p xs i v,(x = .ref p)→(y = .int i)→(SqT K H p xs)→(atI xs i=some v)→(Q v H)→AE K x y H Q
inductive AF (x:V)(y:V)(H:Hp)(Q:VK):Prop
 | mk:∀ z i c,(x = .str z)→(y = .int i)→(z.length≤sizeLine)→(atI z.cps.toList i=some c)→(Q (.str ⟨#[c]⟩) H)→AF x y H Q
theorem bI:IxR X (AD X.K):=by
 intro value slice G6 s σ H x y v u Q I rx ry h hs
 obtain ⟨p,xs,i,z,rfl,rfl,hq,he,q⟩:=h
 cases rx
 obtain ⟨t,rfl⟩:=ry
 obtain ⟨its,r,pl,hz⟩:=I.list hq
 obtain ⟨j,h1,h2,h3,h4,h5⟩:=jE he
 obtain ⟨w,ew,rw'⟩:=r.get h2
 have hl:=r.length
 have hn:=fe
 have fin:EP X G6 σ Q w s:=⟨z,H,I,rw',q⟩
 by_cases h0:0≤i
 ·have hj:i.toNat=j:=by
   rw [seqIndex_of h0 h5] at h1
   exact BW h1
  exact item_listR pl.isList h0 (by omega) (by rw [hj];simpa using ew) fin hs
 ·have hj:(i+(its.toArray.size:Int)).toNat=j:=by
   rw [seqIndex_neg (by omega) h4] at h1
   rw [B4,← hl]
   exact BW h1
  exact subscriptTail_builtinR (x:=w) pl.isList.typeIs slot_list_getitem.lookup
   (wpAny_getItem_list_neg (Q:=fun r s'=>r=w∧EP X G6 σ Q r s') pl.isList (by omega) (by rw [B4] <;> omega) (by omega) (by rw [hj];simpa using ew) ⟨rfl,fin⟩) hs
theorem aZ:IxR X (AE X.K):=by
 intro value slice G6 s σ H x y v u Q I rx ry h hs
 obtain ⟨p,xs,i,z,rfl,rfl,hq,he,q⟩:=h
 cases rx
 obtain ⟨t,rfl⟩:=ry
 obtain ⟨its,r,pl,hz⟩:=I.tuple hq
 obtain ⟨j,h1,h2,h3,h4,h5⟩:=jE he
 obtain ⟨w,ew,rw'⟩:=r.get h2
 have hl:=r.length
 have hn:=fe
 have fin:EP X G6 σ Q w s:=⟨z,H,I,rw',q⟩
 exact subscriptTail_builtinR (x:=w) pl.typeIs slot_tuple_getitem.lookup
  (getItem_tuple (j:=j) (Q:=fun r s'=>r=w∧EP X G6 σ Q r s') pl (by omega) (by omega) (by rw [B4,← hl];exact h1) (by simpa using ew) ⟨rfl,fin⟩) hs
theorem bR:IxR X AF:=by
 intro value slice G6 s σ H x y v u Q I rx ry h hs
 obtain ⟨z,i,c,rfl,rfl,hz,he,q⟩:=h
 obtain ⟨t,rfl⟩:=rx
 obtain ⟨t',rfl⟩:=ry
 obtain ⟨j,h1,h2,h3,h4,h5⟩:=jE he
 have hl:z.cps.toList.length=z.length:=by simp [Str.length]
 rw [hl] at h1 h4 h5
 have hn:=fe
 exact tail_any (Fq s z t) slot_str_getitem.lookup (getItem_str (c:=c) (by
  have e1:decide (i < -(2 ^ 63:Int))=false:=BI (by omega)
  have e2:decide (i≥2 ^ 63)=false:=BI (by omega)
  rw [e1,e2,Gg]) (by rw [h1];simpa using h2) ⟨.str ⟨#[c]⟩,H,I.tok _,⟨_,rfl⟩,q⟩) hs
theorem Inv.lst {G6:List (Addr × Obj)}{σ:St}{H:Hp}{s:Shared}{p:Addr}{xs:List V}(I:Inv X G6 σ H s)(h:H p=some (.lst xs)) :
  ∃ (its:List Value) (n:Nat),bo xs its∧s.heap.get? p=some { cls:=.type "list",data:=.seq its.toArray n }∧xs.length≤sizeLine:=by
 obtain ⟨z,its,n,r,e⟩:=I.hok p _ h
 exact ⟨its,n,r,e,z⟩
theorem iS (lo hi:Option Int)(n:Nat):(sliceBounds lo hi none n).1=((HT.sIx n 0 lo:Nat):Int)∧(sliceBounds lo hi none n).2.1=((HT.sIx n n hi:Nat):Int)∧(sliceBounds lo hi none n).2.2=1:=by
 refine ⟨?_,?_,rfl⟩
 ·cases lo with
  | none=>simp [sliceBounds,HT.sIx]
  | some i =>
   simp only [sliceBounds,HT.sIx,Option.getD_none,show (1:Int) > 0 by decide,Dx]
   by_cases h:i < 0
   ·simp only [h,Dx] <;> omega
   ·simp only [h,C_] <;> omega
 ·cases hi with
  | none=>simp [sliceBounds,HT.sIx]
  | some i =>
   simp only [sliceBounds,HT.sIx,Option.getD_none,show (1:Int) > 0 by decide,Dx]
   by_cases h:i < 0
   ·simp only [h,Dx] <;> omega
   ·simp only [h,C_] <;> omega
theorem gJ (its:List Value)(lo hi:Option Int):slicePick its.toArray lo hi none=((its.drop (HT.sIx its.length 0 lo)).take (HT.sIx its.length its.length hi - HT.sIx its.length 0 lo)).toArray:=by
 obtain ⟨h1,h2,h3⟩:=iS lo hi its.toArray.size
 unfold slicePick
 rw [h1,h2,h3]
 simp only [sliceRange_one,pick_run,B4] <;> rfl
inductive AG (K:PySem.W.Frag)(x:V)(lo:Option Int)(hi:Option Int)(H:Hp)(Q:VK):Prop
 | mk:∀ a xs,(x = .ref a)→(SqL K H a xs)→(∀ p,H p=none→Q (.ref p) (upd H p (.lst (eG xs lo hi))))→AG K x lo hi H Q
theorem ub:SlR X (AG X.K):=by
 intro G6 s σ H x v vl vu lo hi sl Q I rx hs pl pu h
 obtain ⟨a,xs,rfl,hx,q⟩:=h
 cases rx
 obtain ⟨its,r,ht,hz⟩:=I.list hx
 have hlen:=r.length
 refine ⟨"list",_,slot_list_getitem.lookup,ht.isList.typeIs,?_⟩
 refine wpAny_getItem_list_slice ht.isList hs pl pu .none (by simp) ?_ (by rw [B4] <;> omega)
 rw [gJ,← hlen]
 refine ⟨.ref s.heap.objs.size,_,I.laid (t':=s.toks) (o:=.lst (eG xs lo hi)) (fun b ob q=>BD _ q) (BG _) ?_,rfl,q _ (I.hok.fresh (BG _))⟩
 exact ⟨Cn (fk xs lo hi) hz,_,0,(r.drop (HT.sIx xs.length 0 lo)).take (HT.sIx xs.length xs.length hi - HT.sIx xs.length 0 lo),B5 _ rfl⟩
def gK:V→Bool
 | .non=>true
 | .bl _=>true
 | .int _=>true
 | .str _=>true
 | _=>false
def eqV:V→V→Bool
 | .non,.non=>true
 | .bl a,.bl b=>a == b
 | .bl a,.int b=>(if a then 1 else 0) == b
 | .int a,.bl b=>a == (if b then 1 else 0)
 | .int a,.int b=>a == b
 | .str a,.str b=>a == b
 | _,_=>false
theorem wY {A:Around}{s:Shared}{y x:V}{u v:Value}(ry:bH y u)(rx:bH x v)(fy:gK y=true)(fx:gK x=true):SeqAt.EqAt A s u v (eqV y x):=by
 cases y with
 | non =>
  cases ry
  cases x with
  | non=>cases rx;exact SeqAt.EqAt.same _
  | bl b=>cases rx;exact SeqAt.EqAt.none_bool b
  | int b=>obtain ⟨t,rfl⟩:=rx;exact SeqAt.EqAt.none_int b t
  | str b=>obtain ⟨t,rfl⟩:=rx;exact SeqAt.EqAt.none_str b t
  | _=>exact absurd (show false=true from fx) B3
 | bl a =>
  cases ry
  cases x with
  | non=>cases rx;exact SeqAt.EqAt.bool_none a
  | bl b=>cases rx;exact SeqAt.EqAt.bool_bool a b
  | int b=>obtain ⟨t,rfl⟩:=rx;exact SeqAt.EqAt.bool_int a b t
  | str b=>obtain ⟨t,rfl⟩:=rx;exact SeqAt.EqAt.bool_str a b t
  | _=>exact absurd (show false=true from fx) B3
 | int a =>
  obtain ⟨t',rfl⟩:=ry
  cases x with
  | non=>cases rx;exact SeqAt.EqAt.int_none a t'
  | bl b=>cases rx;exact SeqAt.EqAt.int_bool a t' b
  | int b=>obtain ⟨t,rfl⟩:=rx;exact SeqAt.EqAt.int_int a t' b t
  | str b=>obtain ⟨t,rfl⟩:=rx;exact SeqAt.EqAt.int_str a t' b t
  | _=>exact absurd (show false=true from fx) B3
 | str a =>
  obtain ⟨t',rfl⟩:=ry
  cases x with
  | non=>cases rx;exact SeqAt.EqAt.str_none a t'
  | bl b=>cases rx;exact SeqAt.EqAt.str_bool a t' b
  | int b=>obtain ⟨t,rfl⟩:=rx;exact SeqAt.EqAt.str_int a t' b t
  | str b=>obtain ⟨t,rfl⟩:=rx;exact SeqAt.EqAt.str_str a t' b t
  | _=>exact absurd (show false=true from fx) B3
 | _=>exact absurd (show false=true from fy) B3
def eqU (x:V)(u:Value):Bool:=match u with
 | .none=>eqV .non x
 | .bool b=>eqV (.bl b) x
 | .int i _=>eqV (.int i) x
 | .str z _=>eqV (.str z) x
 | _=>false
theorem sH {x y:V}{u:Value}(r:bH y u)(f:gK y=true):eqU x u=eqV y x:=by
 cases y with
 | non=>cases r;rfl
 | bl b=>cases r;rfl
 | int i=>obtain ⟨t,rfl⟩:=r;rfl
 | str z=>obtain ⟨t,rfl⟩:=r;rfl
 | _=>exact absurd (show false=true from f) B3
theorem jF {x:V}:∀ {xs:List V} {us:List Value},bo xs us→xs.all gK=true→us.any (eqU x)=xs.any fun y=>eqV y x
 | _,_,.nil,_=>rfl
 | y::xs,u::us,.cons r t,f=>by
  rw [EM,Cw] at f
  rw [EN,EN,sH r f.1,jF t f.2]
theorem gL {A:Around}{s:Shared}{x:V}{v:Value}(rx:bH x v)(fx:gK x=true):∀ {xs:List V} {us:List Value},bo xs us→xs.all gK=true→∀ u∈us,SeqAt.EqAt A s u v (eqU x u)
 | _,_,.nil,_=>fun u hu=>by cases hu
 | y::xs,u::us,.cons r t,f=>fun u' hu=>by
  rw [EM,Cw] at f
  rcases B2.mp hu with rfl | hu
  ·rw [sH r f.1];exact wY r rx f.1 fx
  ·exact gL rx fx t f.2 u' hu
def inV (x:V)(xs:List V):Bool:=xs.any fun y=>eqV y x
inductive rIn (K:PySem.W.Frag)(neg:Bool)(x:V)(y:V)(H:Hp)(Q:VK):Prop
 | mk:∀ p xs,(y = .ref p)→((SqL K H p xs ∨ SqT K H p xs))→(gK x=true)→(xs.all gK=true)→(Q (.bl (if neg then !inV x xs else inV x xs)) H)→rIn K neg x y H Q
theorem iT:OpR X (compareOp .NotIn) (rIn X.K true):=by
 intro G6 s σ H x y v u Q I rx ry h
 obtain ⟨p,xs,rfl,hq,fx,fs,q⟩:=h
 cases ry
 rcases hq with hq | hq
 ·obtain ⟨its,r,pl,hz⟩:=I.list hq
  refine SeqAt.notIn_listAt (eqU x) pl.isList (fun w hw=>gL rx fx r fs w (by simpa using hw)) ⟨.bl _,H,I,rfl,?_⟩
  rw [show its.toArray.any (eqU x)=its.any (eqU x) by simp,jF r fs]
  exact q
 ·obtain ⟨its,r,pl,hz⟩:=I.tuple hq
  refine SeqAt.notIn_tupleAt (eqU x) pl (fun w hw=>gL rx fx r fs w (by simpa using hw)) ⟨.bl _,H,I,rfl,?_⟩
  rw [show its.toArray.any (eqU x)=its.any (eqU x) by simp,jF r fs]
  exact q
inductive dk (K:PySem.W.Frag)(xs:List V)(H:Hp)(Q:VK):Prop
 | mk:∀ p ys,(xs=[.ref p])→((SqL K H p ys ∨ SqT K H p ys))→(Q (.int ys.length) H)→dk K xs H Q
theorem aW:cE X (.builtin "len") (dk X.K):=by
 intro G6 s σ H xs us Q I r h
 obtain ⟨p,ys,rfl,hq,q⟩:=h
 obtain ⟨u,rfl,rx⟩:=dC r
 cases rx
 have hn:=fe
 rcases hq with hq | hq
 ·obtain ⟨its,r',pl,hz⟩:=I.list hq
  have hlen:=r'.length
  exact Calls.call_len_list pl.isList (by simp only [B4] <;> omega) ⟨.int ys.length,H,I.tok _,⟨s.toks+1,by rw [B4,hlen]⟩,q⟩
 ·obtain ⟨its,r',pl,hz⟩:=I.tuple hq
  have hlen:=r'.length
  exact len_tuple pl (by simp only [B4] <;> omega) ⟨.int ys.length,H,I.tok _,⟨s.toks+1,by rw [B4,hlen]⟩,q⟩
inductive dm  (xs:List V)(H:Hp)(Q:VK):Prop
 | mk:∀ z,(xs=[.str z])→(z.length≤sizeLine)→(Q (.int z.length) H)→dm xs H Q
theorem av:cE X (.builtin "len") dm:=by
 intro G6 s σ H xs us Q I r h
 obtain ⟨z,rfl,hz,q⟩:=h
 obtain ⟨u,rfl,t,rfl⟩:=dC r
 have hn:=fe
 exact len_str (by omega) ⟨.int z.length,H,I.tok _,⟨_,rfl⟩,q⟩
inductive dq (K:PySem.W.Frag)(xs:List V)(H:Hp)(Q:VK):Prop
 | mk:∀ p ys,(xs=[.ref p])→((SqL K H p ys ∨ SqT K H p ys))→(∀ l,H l=none→Q (.ref l) (upd H l (.lst ys)))→dq K xs H Q
theorem iU:cE X (.type "list") (dq X.K):=by
 intro G6 s σ H xs us Q I r h
 obtain ⟨p,ys,rfl,hq,q⟩:=h
 obtain ⟨u,rfl,rx⟩:=dC r
 cases rx
 have fin:∀ (its:List Value),bo ys its→ys.length≤sizeLine→∀ (h':Heap) (c':Nat),(∀ b o',s.heap.get? b=some o'→h'.get? b=some o') →
   h'.get? s.heap.objs.size=some { cls:=.type "list",dict:=none,data:=.seq its.toArray c',slots:=#[] }→EP X G6 σ Q (.ref s.heap.objs.size) { s with heap:=h' }:=fun its r' hz h' c' kp e =>
  ⟨.ref s.heap.objs.size,_,I.laid (t':=s.toks) kp (BG _) (show bK X.prog X.w _ h' _ (.lst ys) from ⟨hz,its,c',r',e⟩),rfl,q _ (I.hok.fresh (BG _))⟩
 rcases hq with hq | hq
 ·obtain ⟨its,r',pl,hz⟩:=I.list hq
  have hlen:=r'.length
  obtain ⟨o,ho,hc,n,hd⟩:=pl.isList
  exact call_list_seq p (.inl rfl) ho hc hd (fun h' c' kp e=>fin its r' hz h' c' kp e) (by simp only [B4] <;> omega)
 ·obtain ⟨its,r',pl,hz⟩:=I.tuple hq
  have hlen:=r'.length
  obtain ⟨o,ho,hc,n,hd⟩:=pl
  exact call_list_seq p (.inr rfl) ho hc hd (fun h' c' kp e=>fin its r' hz h' c' kp e) (by simp only [B4] <;> omega)
inductive cV (K:PySem.W.Frag)(xs:List V)(H:Hp)(Q:VK):Prop
 | mk:∀ p ys,(xs=[.ref p])→(((SqL K H p ys∧∀ l,H l=none→Q (.ref l) (upd H l (.tup ys))) ∨ (SqT K H p ys∧Q (.ref p) H)))→cV K xs H Q
theorem bX:cE X (.type "tuple") (cV X.K):=by
 intro G6 s σ H xs us Q I r h
 obtain ⟨p,ys,rfl,h⟩:=h
 obtain ⟨u,rfl,rx⟩:=dC r
 cases rx
 rcases h with ⟨hq,q⟩ | ⟨hq,q⟩
 ·obtain ⟨its,r',pl,hz⟩:=I.list hq
  have hlen:=r'.length
  refine call_tuple_list pl.isList (fun h' kp=>?_) (by simp only [B4] <;> omega)
  have I1:Inv X G6 σ H { s with heap:=h' }:=I.kept (t':=s.toks) kp
  have I2:Inv X G6 σ (upd H h'.objs.size (.tup ys)) { s with heap:=h'.push { cls:=.type "tuple",data:=.seq its.toArray } } :=
   I1.laid (t':=s.toks) (fun b o e=>BD _ e) (BG _) (show bK X.prog X.w _ _ _ (.tup ys) from ⟨hz,its,r',IsTup.new _ _,.new _ _ rfl⟩)
  exact ⟨.ref h'.objs.size,_,I2,rfl,q _ (I1.hok.fresh (BG _))⟩
 ·obtain ⟨its,r',pl,hz⟩:=I.tuple hq
  exact call_tuple_same pl ⟨.ref p,H,I,rfl,q⟩
def tyV (K:PySem.W.Frag)(T:String)(x:V)(H:Hp):Prop:=match x with
 | .str _=>T = "str"
 | .int _=>T = "int"
 | .ref p=>(T = "list"∧∃ xs,SqL K H p xs) ∨ (T = "tuple"∧((∃ o,K.lookup p=some o∧o.cls = .type "tuple"∧o.dict=none) ∨ ∃ xs,H p=some (.tup xs))) ∨
   (T = "dict"∧((∃ G_,H p=some (.dK G_)) ∨ ∃ G_,H p=some (.dT G_))) ∨ (T = "set"∧∃ S n,H p=some (.set S n))
 | _=>False
theorem sI {G6:List (Addr × Obj)}{σ:St}{H:Hp}{s:Shared}{T:String}{x:V}{v:Value}(I:Inv X G6 σ H s)(r:bH x v)(ty:tyV X.K T x H) :
  s.TypeIs v T∧∀ a,v = .ref a→∃ ob,s.heap.get? a=some ob∧ob.dict=none:=by
 cases x with
 | str z =>
  obtain ⟨t,rfl⟩:=r
  cases (show T = "str" from ty)
  exact ⟨Fq s z t,fun _ e=>nomatch e⟩
 | int i =>
  obtain ⟨t,rfl⟩:=r
  cases (show T = "int" from ty)
  exact ⟨Ga s i t,fun _ e=>nomatch e⟩
 | ref p =>
  cases r
  rcases ty with ⟨rfl,xs,hq⟩ | ⟨rfl,⟨o,hk,hc,hd⟩ | ⟨xs,hk⟩⟩ | ⟨rfl,hk⟩ | ⟨rfl,S,n,hk⟩
  ·obtain ⟨its,_,pl,_⟩:=I.list hq
   refine ⟨pl.isList.typeIs,fun a e=>?_⟩
   cases e
   obtain ⟨o,n,e,c,hd,_⟩:=pl
   exact ⟨o,e,hd⟩
  ·refine ⟨⟨o,I.kIn p o hk,hc⟩,fun a e=>?_⟩
   cases e
   exact ⟨o,I.kIn _ o hk,hd⟩
  ·obtain ⟨_,_,_,⟨o,e,hc,_⟩,hn⟩:=I.hok p _ hk
   refine ⟨⟨o,e,hc⟩,fun a e=>?_⟩
   cases e
   exact hn
  ·have z:∃ o,s.heap.get? p=some o∧o.ExactDict:=by
    rcases hk with ⟨G_,hk⟩ | ⟨G_,hk⟩
    ·obtain ⟨_,_,_,_,o,_,_,e,ex,_⟩:=I.hok p _ hk
     exact ⟨o,e,ex⟩
    ·obtain ⟨_,_,_,_,o,_,_,e,ex,_⟩:=I.hok p _ hk
     exact ⟨o,e,ex⟩
   obtain ⟨o,e,ex⟩:=z
   refine ⟨⟨o,e,ex.1⟩,fun a e2=>?_⟩
   cases e2
   exact ⟨o,e,ex.2.1⟩
  ·obtain ⟨o,_,_,_,e,ex,_⟩:=I.hok p _ hk
   refine ⟨⟨o,e,ex.1⟩,fun a e2=>?_⟩
   cases e2
   exact ⟨o,e,ex.2.1⟩
 | _=>exact False.elim ty
def uc (K:PySem.W.Frag)(T:String)(r:V→List V→Hp→VK→Prop)(Q:VK):V→Hp→Prop:=fun x H1=>tyV K T x H1∧r x [] H1 Q
def Bd (K:PySem.W.Frag)(T:String)(r:V→List V→Hp→VK→Prop)(to:TE):TE:=fun σ H Q=>to σ H (uc K T r Q)
def wZ (r:V→List V→Hp→VK→Prop)(Q:VK)(x:V):List V→Hp→Prop:=fun xs H2=>r x xs H2 Q
def w4 (K:PySem.W.Frag)(T:String)(r:V→List V→Hp→VK→Prop)(t:TA)(σ:St)(Q:VK):V→Hp→Prop:=fun x H1=>tyV K T x H1∧t σ H1 (wZ r Q x)
def tBM (K:PySem.W.Frag)(T:String)(r:V→List V→Hp→VK→Prop)(to:TE)(t:TA):TE:=fun σ H Q=>to σ H (w4 K T r t σ Q)
variable {o e:Expr} {es:List Expr} {to:TE} {t:TA} {name:Str} {apos Ia:Pos} {T id:String} {r:V→List V→Hp→VK→Prop}
theorem ku (pa:PlainAttrs T)(slot:Slot T name id)(hty:typeOf (.builtin id)=pure (.type "method_descriptor"))(hm:MtR X id r)(ho:PE X o to)
  (hbase:attributeBase o name X.env (eval o X.env)=eval o X.env:=by rfl) (hline:(apos.endLine == Ia.line)=true:=by rfl):PE X (.Call (.Attribute o name apos) [] [] Ia) (Bd X.K T r to):=by
 intro G6 s σ H Q I h
 refine wpAny_Call_method0_late hbase hline (thn (ho G6 s σ H _ I h) fun v s1 zq65=>?_)
 obtain ⟨x,H1,I1,r1,ty,q1⟩:=zq65
 obtain ⟨h1,h2⟩:=sI I1 r1 ty
 exact ⟨T,id,pa,slot,hty,h1,h2,Calls.callWith_builtin rfl (PySem.evalArgs_none (hm G6 s1 σ H1 x [] v [] Q I1 r1 .nil q1))⟩
theorem gM (pa:PlainAttrs T)(slot:Slot T name id)(hty:typeOf (.builtin id)=pure (.type "method_descriptor"))(hm:MtR X id r)(ho:PE X o to)(ha:PA X (e::es) t)
  (hbase:attributeBase o name X.env (eval o X.env)=eval o X.env:=by rfl)
  (hfew:((backTo Ia (starEach (e::es) X.env)).all (fun x=>!x.1) && (backToKw Ia (keywordEach [] X.env)).all (fun x=>x.1.isSome)
   && decide ((e::es).length+([]:List Keyword).length+(if ([]:List Keyword).isEmpty then 0 else 1) < 30))=true:=by rfl)
  (hline:(apos.endLine == Ia.line)=true:=by rfl) (hs:starEach (e::es) X.env=(false,eval e X.env)::starEach es X.env:=by rfl) (hplain:(backTo Ia (starEach es X.env)).any (·.1)=false:=by rfl) :
  PE X (.Call (.Attribute o name apos) (e::es) [] Ia) (tBM X.K T r to t):=by
 intro G6 s σ H Q I h
 refine wpAny_Call_method_late hbase hfew hline rfl (thn (ho G6 s σ H _ I h) fun v s1 zq66=>?_)
 obtain ⟨x,H1,I1,r1,ty,q1⟩:=zq66
 obtain ⟨h1,h2⟩:=sI I1 r1 ty
 refine ⟨T,id,pa,slot,hty,h1,h2,?_⟩
 have hA:=ha Ia G6 s1 σ H1 _ I1 q1
 rw [hs] at hA ⊢
 refine Calls.callWith_builtin (by show (false || (backTo Ia (starEach es X.env)).any (·.1))=false;rw [hplain] <;> rfl) (Calls.evalArgs_plain ?_)
 exact thn hA fun us s2 zq67=>(by obtain ⟨vs,H2,I2,r2,q2⟩:=zq67;exact hm G6 s2 σ H2 x vs v us Q I2 r1 r2 q2)
/- xs.append(e),list.index on a module's tuple .. are MtR facts of 06m -/
end
def MtM (X:Cx)(id:String)(r:V→List V→Hp→VK→Prop):Prop :=
 ∀ (G6:List (Addr × Obj)) (s:Shared) (σ:St) (H:Hp) (x:V) (xs:List V) (v:Value) (us:List Value) (Q:VK),Inv X G6 σ H s→bH x v→bo xs us→r x xs H Q →
  wpAny (model X.prog X.w) X.A (call (.builtin id) (v::us)) (EP X G6 σ Q) X.xe s
theorem bo.one:∀ {x:V} {us:List Value},bo [x] us→∃ u,us=[u]∧bH x u
 | _,_,.cons r .nil=>⟨_,rfl,r⟩
theorem bo.reverse {xs:List V}{us:List Value}(h:bo xs us):bo xs.reverse us.reverse:=by
 induction h with
 | nil=>exact .nil
 | cons r t ih=>rw [D0,D0];exact bo.append ih (.cons r .nil)
theorem bo.rep {xs:List V}{us:List Value}(h:bo xs us):∀ k:Nat,bo (List.replicate k xs).flatten (List.replicate k us).flatten
 | 0=>.nil
 | k+1=>by
  rw [Dk,Dk,CM,CM]
  exact bo.append h (bo.rep h k)
theorem fm (its:List Value):∀ (k:Nat) (acc:List Value),
  List.foldl (fun x1 x2=>x1++x2) acc.toArray (List.replicate k its.toArray)=(acc++(List.replicate k its).flatten).toArray
 | 0,acc=>by simp
 | k+1,acc=>by
  have e:acc.toArray++its.toArray=(acc++its).toArray:=by simp
  have e2:(acc++its)++(List.replicate k its).flatten=acc++(List.replicate (k+1) its).flatten:=by
   rw [Dk,CM,BO]
  rw [← e2,← fm its k (acc++its),← e,Dk,FT]
section
variable {X:Cx} {G6:List (Addr × Obj)} {σ:St} {H:Hp} {s:Shared} {l b:Addr} {xs ys zs:List V}
theorem Inv.lset {its its':List Value}{n:Nat}{f:Array Value→Array Value}{t':Nat}(I:Inv X G6 σ H s)(hH:H l=some (.lst xs))
  (e:s.heap.get? l=some { cls:=.type "list",data:=.seq its.toArray n }) (hf:f its.toArray=its'.toArray) (hv:bo ys its') (hz:ys.length≤sizeLine) :
  Inv X G6 σ (upd H l (.lst ys)) { s with heap:=s.heap.update l (Obj.mapSeq f),toks:=t' }:=by
 have q:=FM e f
 rw [hf] at q
 refine I.write (x:=l) (e:=l) (by rw [hH];exact trivial) (.inl rfl) (fun b' u hb hu=>(Ck s.heap (Obj.mapSeq f) (Ne.symm hb)).trans hu) ⟨_,q⟩ ?_
 exact ⟨hz,its',_,hv,q⟩
theorem Inv.lnew {its:List Value}{t':Nat}(I:Inv X G6 σ H s)(hv:bo ys its)(hz:ys.length≤sizeLine) :
  Inv X G6 σ (upd H s.heap.objs.size (.lst ys)) { s with heap:=s.heap.push { cls:=.type "list",data:=.seq its.toArray },toks:=t' } :=
 I.laid (fun _ _ q=>BD _ q) (BG _) ⟨hz,its,0,hv,B5 _ rfl⟩
theorem Inv.fresh (I:Inv X G6 σ H s):H s.heap.objs.size=none:=I.hok.fresh (BG _)
theorem Inv.lstM (I:Inv X G6 σ H s)(hH:H l=some (.lst xs)):xs.length≤sizeLine∧∃ (its:List Value) (n:Nat),bo xs its∧xs.length=its.length∧s.heap.get? l=some { cls:=.type "list",data:=.seq its.toArray n }:=by
 obtain ⟨z,its,n,r,e⟩:=I.hok l _ hH
 exact ⟨z,its,n,r,r.length,e⟩
theorem qg {n:Nat}(h:n≤sizeLine):Builtin.List.listTooLong n=false:=by
 unfold Builtin.List.listTooLong
 exact BI (by omega)
end
section
variable {X:Cx}
inductive mL (x:V)(vs:List V)(H:Hp)(Q:VK):Prop
 | mk:∀ l xs y,(x = .ref l)→(vs=[y])→(H l=some (.lst xs))→(xs.length < sizeLine)→(Q .non (upd H l (.lst (xs++[y]))))→mL x vs H Q
theorem cz:MtM X "list.append" mL:=by
 intro G6 s σ H x vs v us Q I rx rv h
 obtain ⟨l,xs,y,rfl,rfl,hH,hz,q⟩:=h
 cases rx
 obtain ⟨u,rfl,ru⟩:=rv.one
 obtain ⟨z,its,n,r,hl,e⟩:=I.lstM hH
 refine Ey Cz ⟨_,e,rfl⟩ EU (EK _ _) (Fs l its.toArray n u (by rw [B4];omega)) ⟨e,?_⟩
 refine ⟨.non,_,I.lset (its':=its++[u]) hH e (by simp) (r.append (.cons ru .nil)) ?_,rfl,q⟩
 rw [BB,CS]
 omega
inductive AH (x:V)(y:V)(H:Hp)(Q:VK):Prop
 | mk:∀ l b xs zs,(x = .ref l)→(y = .ref b)→(H l=some (.lst xs))→(H b=some (.lst zs))→(xs.length+zs.length≤sizeLine)→(∀ p,H p=none→Q (.ref p) (upd H p (.lst (xs++zs))))→AH x y H Q
theorem mM:OpR X (binaryOp .Add) AH:=by
 intro G6 s σ H x y v u Q I rx ry h
 obtain ⟨l,b,xs,zs,rfl,rfl,hH,hB,hz,q⟩:=h
 cases rx
 cases ry
 obtain ⟨z,its,n,r,hl,e⟩:=I.lstM hH
 obtain ⟨z2,its2,n2,r2,hl2,e2⟩:=I.lstM hB
 refine PySem.P.add_list e e2 ?_ (by rw [B4,B4];omega)
 have ea:its.toArray++its2.toArray=(its++its2).toArray:=by simp
 rw [ea]
 exact ⟨.ref _,_,I.lnew (t':=s.toks) (r.append r2) (by rw [BB];omega),rfl,q _ I.fresh⟩
inductive AI (x:V)(y:V)(H:Hp)(Q:VK):Prop
 | mk:∀ l k xs,(x = .ref l)→(y = .int k)→(H l=some (.lst xs))→(-(2 ^ 63)≤k)→(k < 2 ^ 63)→(xs.length*k.toNat≤sizeLine)→(∀ p,H p=none→Q (.ref p) (upd H p (.lst (List.replicate k.toNat xs).flatten)))→AI x y H Q
theorem ud {α:Type}(xs:List α)(k:Nat):(List.replicate k xs).flatten.length=k*xs.length:=by
 induction k with
 | zero=>simp
 | succ k ih=>rw [Dk,CM,BB,ih,Nat.succ_mul,Nat.add_comm]
theorem w5:OpR X (binaryOp .Mult) AI:=by
 intro G6 s σ H x y v u Q I rx ry h
 obtain ⟨l,k,xs,rfl,rfl,hH,h1,h2,hz,q⟩:=h
 cases rx
 obtain ⟨t,rfl⟩:=ry
 obtain ⟨z,its,n,r,hl,e⟩:=I.lstM hH
 have hlen:its.toArray.size*k.toNat≤sizeLine:=by rw [B4,← hl];exact hz
 have hcap:¬ its.toArray.size*k.toNat > (2 ^ 63 - 1) / 8:=by
  have:(sizeLine:Nat)≤(2 ^ 63 - 1) / 8:=by decide
  omega
 have hfit:¬ (!Builtin.List.listFitsIndex k)=true:=by
  rw [fitsIndex_both h1 h2]
  exact B3
 have hlong:¬ Builtin.List.listTooLong (its.toArray.size*k.toNat)=true:=by
  rw [qg hlen]
  exact B3
 have hnew:List.foldl (fun x1 x2=>x1++x2) #[] (List.replicate (if its.toArray.isEmpty=true then 0 else k.toNat) its.toArray)=(List.replicate k.toNat its).flatten.toArray:=by
  have f0:∀ m:Nat,List.foldl (fun x1 x2=>x1++x2) #[] (List.replicate m its.toArray)=(List.replicate m its).flatten.toArray:=fun m=>by
   have:=fm its m []
   rw [List.nil_append] at this
   exact this
  rw [f0]
  cases its with
  | nil=>simp
  | cons a r'=>rw [if_neg (by simp)]
 refine Fj (T:="list") (U:="int") (by decide) ⟨_,e,rfl⟩ (fun s'=>Ga s' k t) noFill_list_mul F.fills_int_mul EV repeat_list F.slot_int_index.lookup
  (Ey EV (Ga s k t) F.entry_int_rmul (F.args_int_rmul_2 _ _) (int___rmul___int_list k t l its.toArray n)
   ⟨e,rfl,⟨_,e,rfl⟩,Ey F.slot_list_mul ⟨_,e,rfl⟩ F.entry_list_mul (F.args_list_mul_2 _ _) (AutoListH.list___mul___list_int_3 l its.toArray n k t hfit hcap hlong) ⟨e,?_⟩⟩)
 rw [hnew]
 exact ⟨.ref _,_,I.lnew (t':=s.toks) (r.rep k.toNat) (by rw [ud,Nat.mul_comm];exact hz),rfl,q _ I.fresh⟩
end
section
variable {prog:Program} {w:World} {A:Around} {E:Value→Shared→Prop} {s:Shared}
end
section
variable {X:Cx}
end
section
variable {κ:Type} [DecidableEq κ]
def gf (G_:List (κ × V))(k:κ):Option V:=(G_.find? fun kv=>decide (kv.1=k)).map (·.2)
def fv (G_:List (κ × V))(k:κ)(v:V):List (κ × V) :=
 if (G_.any fun kv=>decide (kv.1=k))=true then G_.map (fun kv=>if kv.1=k then (kv.1,v) else kv) else G_++[(k,v)]
theorem gN {p:κ × V}{r:List (κ × V)}{k:κ}(e:p.1=k):gf (p::r) k=some p.2:=by simp [gf,DX,e]
theorem gO {p:κ × V}{r:List (κ × V)}{k:κ}(e:¬ p.1=k):gf (p::r) k=gf r k:=by simp [gf,DX,e]
theorem kx (k:κ):∀ G_:List (κ × V),(G_.any fun kv=>decide (kv.1=k))=(gf G_ k).isSome
 | []=>rfl
 | p::r=>by
  rw [EN]
  by_cases e:p.1=k
  ·simp only [gN e,BM e,Bool.true_or,Option.isSome_some]
  ·rw [gO e,BI e,Bool.false_or];exact kx k r
theorem dD (G_:List (κ × V))(k:κ)(v:V):(fv G_ k v).length≤G_.length+1:=by
 unfold fv
 split
 ·rw [BK];omega
 ·rw [BB,B6,CK];omega
theorem jw.isSome_eq {o:Option V}{u:Option Value}(r:jw o u):o.isSome=u.isSome:=by
 cases o with
 | none=>cases u with
  | none=>rfl
  | some _=>exact (show False from r).elim
 | some _=>cases u with
  | none=>exact (show False from r).elim
  | some _=>rfl
theorem KV.val {G_:List (κ × V)}{vs:List (κ × Value)}(r:KV G_ vs)(k:κ):jw (gf G_ k) (valueAt vs k):=by
 unfold KV at r
 induction r with
 | nil=>exact True.intro
 | @cons p q ps qs h t ih =>
  obtain ⟨h1,h2⟩:=h
  by_cases e:p.1=k
  ·have e':q.1=k:=h1.symm.trans e
   have b:valueAt (q::qs) k=some q.2:=by simp [valueAt,DX,e']
   rw [gN e,b];exact h2
  ·have e':¬ q.1=k:=fun z=>e (h1.trans z)
   have b:valueAt (q::qs) k=valueAt qs k:=by simp [valueAt,DX,e']
   rw [gO e,b];exact ih
theorem KV.any {G_:List (κ × V)}{vs:List (κ × Value)}(r:KV G_ vs)(k:κ):(G_.any fun kv=>decide (kv.1=k))=vs.any fun kv=>decide (kv.1=k):=by
 unfold KV at r
 induction r with
 | nil=>rfl
 | cons h t ih=>rw [EN,EN,ih,h.1]
theorem KV.repl {G_:List (κ × V)}{vs:List (κ × Value)}(r:KV G_ vs)(k:κ){y:V}{u:Value}(ry:bH y u) :
  KV (G_.map fun kv=>if kv.1=k then (kv.1,y) else kv) (vs.map fun kv=>if kv.1=k then (kv.1,u) else kv):=by
 unfold KV at r ⊢
 induction r with
 | nil=>exact .nil
 | @cons p q ps qs h t ih =>
  rw [Cq,Cq]
  refine .cons ?_ ih
  obtain ⟨h1,h2⟩:=h
  by_cases e:p.1=k
  ·rw [if_pos e,if_pos (h1.symm.trans e)];exact ⟨h1,ry⟩
  ·rw [if_neg e,if_neg (fun z=>e (h1.trans z))];exact ⟨h1,h2⟩
theorem KV.put {G_:List (κ × V)}{vs:List (κ × Value)}(r:KV G_ vs)(k:κ){y:V}{u:Value}(ry:bH y u):KV (fv G_ k y) (stored vs k u):=by
 unfold fv stored
 rw [r.any k]
 by_cases e:(vs.any fun kv=>decide (kv.1=k))=true
 ·rw [if_pos e,if_pos e];exact r.repl k ry
 ·rw [if_neg e,if_neg e];exact Paired.snoc r ⟨rfl,ry⟩
theorem KV.length {G_:List (κ × V)}{vs:List (κ × Value)}(r:KV G_ vs):G_.length=vs.length:=FF r
end
theorem qh {P:Program}{w:World}{k:Key}{u:Value}(r:bH (kV k) u):(bG P w).is k u=true:=by
 cases k with
 | inl i=>obtain ⟨t,e⟩:=(show ∃ t,u=Value.int i t from r);subst e;exact jz P w i t
 | inr x=>obtain ⟨t,e⟩:=(show ∃ t,u=Value.str x t from r);subst e;exact jA P w x t
theorem iV {P:Program}{w:World}:∀ {ks:List Key} {us:List Value},bo (ks.map kV) us→ItemsAre (bG P w) ks us
 | [],_,r=>by rw [Eh] at r;cases r;exact .nil
 | k::ks,_,r=>by
  rw [Cq] at r
  cases r with
  | cons h t=>exact .cons (qh h) (iV t)
abbrev KT (H:Hp):List (List Key × V)→List (List Key × Addr × Value)→Prop:=Paired fun p q=>p.1=q.1∧H q.2.1=some (.tup (p.1.map kV))∧bH p.2 q.2.2
theorem KT.val {H:Hp}{G_:List (List Key × V)}{xs:List (List Key × Addr × Value)}(r:KT H G_ xs)(k:List Key):jw (gf G_ k) ((atKey xs k).map (·.2)):=by
 induction r with
 | nil=>exact True.intro
 | @cons p q ps qs h t ih =>
  obtain ⟨h1,_,h2⟩:=h
  by_cases e:p.1=k
  ·have e':q.1=k:=h1.symm.trans e
   have b:atKey (q::qs) k=some q.2:=by simp [atKey,DX,e']
   rw [gN e,b];exact h2
  ·have e':¬ q.1=k:=fun z=>e (h1.trans z)
   have b:atKey (q::qs) k=atKey qs k:=by simp [atKey,DX,e']
   rw [gO e,b];exact ih
theorem KT.repl {H:Hp}{G_:List (List Key × V)}{xs:List (List Key × Addr × Value)}(r:KT H G_ xs)(k:List Key){y:V}{u:Value}(ry:bH y u) :
  KT H (G_.map fun kv=>if kv.1=k then (kv.1,y) else kv) (xs.map (putAt k u)):=by
 induction r with
 | nil=>exact .nil
 | @cons p q ps qs h t ih =>
  rw [Cq,Cq]
  refine .cons ?_ ih
  obtain ⟨h1,h2,h3⟩:=h
  unfold putAt
  by_cases e:p.1=k
  ·rw [if_pos e,if_pos (h1.symm.trans e)];exact ⟨h1,h2,ry⟩
  ·rw [if_neg e,if_neg (fun z=>e (h1.trans z))];exact ⟨h1,h2,h3⟩
theorem KT.put {H:Hp}{G_:List (List Key × V)}{xs:List (List Key × Addr × Value)}(r:KT H G_ xs)(k:List Key){b:Addr}{y:V}{u:Value}(hb:H b=some (.tup (k.map kV)))(ry:bH y u) :
  KT H (fv G_ k y) (storedH xs k b u):=by
 have e:(G_.any fun kv=>decide (kv.1=k))=(atKey xs k).isSome:=by
  rw [kx,(r.val k).isSome_eq,Option.isSome_map]
 unfold fv storedH
 rw [e]
 by_cases q:(atKey xs k).isSome=true
 ·rw [if_pos q,if_pos q];exact r.repl k ry
 ·rw [if_neg q,if_neg q];exact Paired.snoc r ⟨rfl,hb,ry⟩
theorem KT.keeps {H H':Hp}{G_:List (List Key × V)}{xs:List (List Key × Addr × Value)}(r:KT H G_ xs)(ht:∀ b ys,H b=some (.tup ys)→H' b=some (.tup ys)):KT H' G_ xs :=
 Paired.mapP r fun _ _ z=>⟨z.1,ht _ _ z.2.1,z.2.2⟩
section
variable {P:Program} {w:World} {H:Hp} {h:Heap} {a:Addr}
theorem w9 {u:HO}(ok:HOk P w H h)(e:Rd H a u):bK P w H h a u:=e.ok ok
theorem ue {G_:List (Key × V)}(ok:HOk P w H h)(e:Rd H a (.dK G_)):G_.length≤sizeLine∧(a == sysModules)=false∧∃ vs,KV G_ vs∧h.DictOf (bG P w) a vs :=
 show bK P w H h a (.dK G_) from w9 ok e
theorem w_ {G_:List (Key × V)}(ok:HOk P w H h)(e:H a=some (.dK G_)):G_.length≤sizeLine∧(a == sysModules)=false∧∃ vs,KV G_ vs∧h.DictOf (bG P w) a vs:=ue ok (.inl e)
theorem mN {ks:List Key}(ok:HOk P w H h)(e:H a=some (.tup (ks.map kV))):(tupleKind (bG P w)).is h ks a:=by
 obtain ⟨_,its,r,⟨o,h1,h2,n,h3⟩,_⟩:=(show bK P w H h a (.tup (ks.map kV)) from ok a _ e)
 exact ⟨o,its.toArray,n,h1,h2,h3,by simpa using iV r⟩
theorem uf {G_:List (List Key × V)}(ok:HOk P w H h)(e:Rd H a (.dT G_)):G_.length≤sizeLine∧(a == sysModules)=false ∧
  ∃ xs,KT H G_ xs∧h.DictOfH (tupleKind (bG P w)) a xs:=by
 obtain ⟨z,y,xs,r,o,es,ep,h1,h2,h3,h4,h5⟩:=(show bK P w H h a (.dT G_) from w9 ok e)
 refine ⟨z,y,xs,r,o,es,ep,h1,h2,h3,h4,fun x hx=>?_,h5⟩
 have all:∀ {l:List (List Key × V)} {m:List (List Key × Addr × Value)},KT H l m→∀ x∈m,(tupleKind (bG P w)).is h x.1 x.2.1:=by
  intro l m q
  induction q with
  | nil=>intro x hx;exact nomatch hx
  | @cons p q ps qs hq t ih =>
   intro x hx
   rcases B2.mp hx with e | hx
   ·subst e
    exact mN ok (by rw [← hq.1];exact hq.2.1)
   ·exact ih x hx
 exact all r x hx
theorem zm {G_:List (List Key × V)}(ok:HOk P w H h)(e:H a=some (.dT G_)):G_.length≤sizeLine∧(a == sysModules)=false ∧
  ∃ xs,KT H G_ xs∧h.DictOfH (tupleKind (bG P w)) a xs:=uf ok (.inl e)
end
def ug (H:Hp)(a:Addr)(y:V)(r:Option V):Prop :=
 (∃ G_ k,Rd H a (.dK G_)∧y=kV k∧r=gf G_ k) ∨ ∃ G_ k b,Rd H a (.dT G_)∧y = .ref b∧H b=some (.tup (k.map kV))∧r=gf G_ k
def we (H:Hp)(a:Addr)(y v:V)(H':Hp):Prop :=
 (∃ G_ k,H a=some (.dK G_)∧y=kV k∧G_.length < sizeLine∧H'=upd H a (.dK (fv G_ k v))) ∨
 ∃ G_ k b,H a=some (.dT G_)∧y = .ref b∧H b=some (.tup (k.map kV))∧G_.length < sizeLine∧H'=upd H a (.dT (fv G_ k v))
theorem ug.k {H:Hp}{a:Addr}{G_:List (Key × V)}{k:Key}(e:H a=some (.dK G_)):ug H a (kV k) (gf G_ k):=.inl ⟨G_,k,.inl e,rfl,rfl⟩
theorem we.k {H:Hp}{a:Addr}{G_:List (Key × V)}{k:Key}{v:V}(e:H a=some (.dK G_))(hl:G_.length < sizeLine):we H a (kV k) v (upd H a (.dK (fv G_ k v))):=.inl ⟨G_,k,e,rfl,hl,rfl⟩
section
variable {X:Cx} {G6:List (Addr × Obj)} {σ:St} {H:Hp} {s:Shared} {a:Addr} {y v:V} {u r:Value} {o:Option V} {A:Around} {E:Value→Shared→Prop}
theorem Inv.big (I:Inv X G6 σ H s):sysModules < s.heap.objs.size:=by
 have h:mainGlobals < s.heap.objs.size:=(I.mod.glob.keeps I.bk).lt
 exact Nat.lt_trans (by decide) h
theorem mO {Q:Value→Shared→Prop}(hu:A.units+1 < cLine)(I:Inv X G6 σ H s)(g:ug H a y (some v))(ry:bH y u)(h:∀ w' s',Inv X G6 σ H s'→bH v w'→Q w' s') :
  wpAny (model X.prog X.w) A (getItem (.ref a) u) Q E s:=by
 rcases g with ⟨G_,k,e,ey,l⟩ | ⟨G_,k,b,e,ey,eb,l⟩
 ·subst ey
  obtain ⟨z,hd,vs,rel,dd⟩:=ue I.hok e
  obtain ⟨w',hw,rw'⟩:=jw.some_of (v:=v) (o:=valueAt vs k) (by rw [l];exact rel.val k)
  exact wpAny_getItem_of (qh ry) dd.mapOf hw (h w' _ (I.tok _) rw')
 ·subst ey
  cases (show u=Value.ref b from ry)
  obtain ⟨z,hd,xs,rel,dd⟩:=uf I.hok e
  obtain ⟨w',hw,rw'⟩:=jw.some_of (v:=v) (o:=(atKey xs k).map (·.2)) (by rw [l];exact rel.val k)
  obtain ⟨p,hp,hp2⟩:=Option.map_eq_some_iff.mp hw
  refine wpAny_getItem_heap (tupleKind_room_in1 hu) (mN I.hok eb) dd hp ?_
  rw [hp2]
  exact h w' _ (I.tok _) rw'
theorem jG {h':Heap}{t':Nat}{ob:HO}(I:Inv X G6 σ H s)(mu:Mut (H a))(hs:Heap.SameBut a s.heap h')(he:∃ q,h'.get? a=some q)(new:bK X.prog X.w (upd H a ob) h' a ob) :
  Inv X G6 σ (upd H a ob) { s with heap:=h',toks:=t' } :=
 I.write (x:=a) (e:=a) mu (.inl rfl) (fun b q hb z=>(hs.2 b hb).trans z) he new
theorem sJ {P:Program}{w:World}{H':Hp}{h':Heap}{G_:List (Key × V)}{vs:List (Key × Value)}(z:G_.length≤sizeLine)(hd:(a == sysModules)=false)(rel:KV G_ vs)(dd:h'.DictOf (bG P w) a vs) :
  bK P w H' h' a (.dK G_):=⟨z,hd,vs,rel,dd⟩
theorem mP {H':Hp}{Q:Unit→Shared→Prop}(hu:A.units+1 < cLine)(I:Inv X G6 σ H s)(g:we H a y v H')(ry:bH y u)(rv:bH v r)(h:∀ s',Inv X G6 σ H' s'→Q () s') :
  wpAny (model X.prog X.w) A (setItem (.ref a) u r) Q E s:=by
 rcases g with ⟨G_,k,e,ey,l,eH⟩ | ⟨G_,k,b,e,ey,eb,l,eH⟩
 ·subst ey eH
  obtain ⟨z,hd,vs,rel,dd⟩:=w_ I.hok e
  have hz:vs.length≤sizeLine:=by rw [← rel.length];exact z
  have hl:(fv G_ k v).length≤sizeLine:=by have:=dD G_ k v;omega
  refine wpAny_setItem_pairs (hsz:=hz) (qh ry) dd fun h' dd' hs=>h _ ?_
  have he:∃ q,h'.get? a=some q:=let ⟨q,_,_,hq,_⟩:=dd';⟨q,hq⟩
  exact jG I (by rw [e];exact True.intro) hs he (sJ hl hd (rel.put k rv) dd')
 ·subst ey eH
  cases (show u=Value.ref b from ry)
  obtain ⟨z,hd,xs,rel,dd⟩:=zm I.hok e
  have hz:xs.length≤sizeLine:=by rw [← FF rel];exact z
  have hl:(fv G_ k v).length≤sizeLine:=by have:=dD G_ k v;omega
  refine wpAny_setItem_heap (hsz:=hz) (tupleKind_room_in1 hu) (mN I.hok eb) dd fun h' dd' hs=>h _ ?_
  obtain ⟨q,es,ep,hq,h2,h3,h4,_,h5⟩:=dd'
  refine jG I (by rw [e];exact True.intro) hs ⟨q,hq⟩ ⟨hl,hd,_,(rel.put k eb rv).keeps fun c ys ec=>?_,q,es,ep,hq,h2,h3,h4,h5⟩
  rw [ay (gG ec e (fun z=>nomatch z))]
  exact ec
end
section
variable {X:Cx} {G6:List (Addr × Obj)} {σ:St} {H:Hp} {s:Shared} {a:Addr} {G_:List (Key × V)} {k:Key} {u:Value} {A:Around} {E:Value→Shared→Prop}
end
def AJ (i:Expr):Prop:=∀ ov iv,subscripted i false ov iv=operate [ov,iv] (getItem ov iv)
theorem uh {prog:Program}{w:World}{A:Around}{E:Value→Shared→Prop}{s:Shared}{env:Env}{value slice:Expr}{pos:Pos}{T id:String}{Q:Value→Shared→Prop}
  (hl:typeLookup (.type T) "__getitem__" = pure (some (.builtin id))) (hs:AJ slice)
  (h:wpAny (model prog w) A (eval value env) (fun o s₁=>wpAny (model prog w) A (eval slice env) (fun i s₂=>s₂.TypeIs o T∧wpAny (model prog w) A (getItem o i) Q E s₂) E s₁) E s) :
  wpAny (model prog w) A (eval (.Subscript value slice pos) env) Q E s:=by
 refine F_ (CB h (fun o s₁ h₁=>CB h₁ (fun i s₂ h₂=>?_) fun _ _ x=>x) fun _ _ x=>x)
 obtain ⟨hT,h₂⟩:=h₂
 unfold subscriptTail
 refine fu ?_
 rw [getitemInPython_of_ne hT.not_modules]
 refine fu (FU hT hl ?_)
 have fin:wpAny (model prog w) A (subscripted slice false o i) (fun r s₃=>wpAny (model prog w) A (letTemporaryGo value o r >>= fun _=>pure r) Q E s₃) E s₂:=by
  rw [hs o i]
  exact wpAny_operating (CB h₂ (fun r s₃ h₃=>fu (wpAny_letTemporaryGo (BH h₃))) fun _ _ x=>x)
 first
  | exact BH (fu fin)
  | exact fu (BH (fu fin))
  | exact fu fin
theorem jH {X:Cx}{G6:List (Addr × Obj)}{σ:St}{H:Hp}{s:Shared}{a:Addr}{y:V}{o:Option V}(I:Inv X G6 σ H s)(g:ug H a y o):s.TypeIs (.ref a) "dict":=by
 rcases g with ⟨G_,k,e,_,_⟩ | ⟨G_,k,b,e,_,_,_⟩
 ·obtain ⟨_,_,vs,_,dd⟩:=ue I.hok e
  exact dd.typeIs
 ·obtain ⟨_,_,xs,_,dd⟩:=uf I.hok e
  exact dd.typeIs
def zo (td ty:TE):TE:=fun σ H Q=>td σ H fun x H1=>ty σ H1 fun y H2=>∃ a v,x = .ref a∧ug H2 a y (some v)∧Q v H2
def zp (td ty tv:TE):TS:=fun D σ H=>tv σ H fun v H1=>td σ H1 fun x H2=>ty σ H2 fun y H3=>∃ a H4,x = .ref a∧we H3 a y v H4∧D.nx σ H4
section
variable {X:Cx} {o i e value:Expr} {pos pos' tpos:Pos} {td ty tv:TE}
theorem cy (hu:X.A.units+1 < cLine)(ho:PE X o td)(hi:PE X i ty)(hs:AJ i):PE X (.Subscript o i pos) (zo td ty):=by
 intro G6 s σ H Q I h
 refine uh PySem.F.slot_dict_getitem.lookup hs (thn (ho G6 s σ H _ I h) fun u s1 ⟨x,H1,I1,rx,q1⟩=>thn (hi G6 s1 σ H1 _ I1 q1) fun iv s2 zq68=>?_)
 obtain ⟨y,H2,I2,ry,a,v,ex,g,q2⟩:=zq68
 subst ex
 obtain rfl:u=Value.ref a:=rx
 exact ⟨jH I2 g,mO hu I2 g ry fun w' s3 I3 rw'=>⟨v,H2,I3,rw',q2⟩⟩
theorem gP (hu:X.A.units+1 < cLine)(ho:PE X o td)(hi:PE X i ty)(hv:PE X value tv)(hs:swapsWith value (some (.Subscript o i pos')) pos.line X.env=pure false) :
  PS X (.Assign [.Subscript o i pos'] value pos) (zp td ty tv):=by
 intro G6 s σ H D I h
 refine wpAny_Assign_Subscript (thn (hv G6 s σ H _ I h) fun r s1 ⟨v,H1,I1,rv,q1⟩=>thn (ho G6 s1 σ H1 _ I1 q1) fun u s2 ⟨x,H2,I2,rx,q2⟩=>thn (hi G6 s2 σ H2 _ I2 q2) fun iv s3 zq71=>?_) hs
 obtain ⟨y,H3,I3,ry,a,H4,ex,g,q3⟩:=zq71
 subst ex
 obtain rfl:u=Value.ref a:=rx
 exact mP hu I3 g ry rv fun s4 I4=>⟨σ,H4,I4,q3⟩
end
theorem qi {P:Program}{w:World}{H:Hp}(h:Heap)(hb:sysModules < h.objs.size):bK P w H (h.push { cls:=.type "dict",data:=.dict #[] }) h.objs.size (.dK []) :=
 ⟨CC _,Dr.mpr (Ne.symm (Cr hb)),[],.nil,Heap.DictOf.new h⟩
section
variable {X:Cx} {pos:Pos}
end
def mQ:List (TE × TE)→St→Hp→(List (V × V)→Hp→Prop)→Prop
 | [],_,H,Q=>Q [] H
 | (tk,tv)::r,σ,H,Q=>tk σ H fun x H1=>tv σ H1 fun y H2=>mQ r σ H2 fun ps H3=>Q ((x,y)::ps) H3
abbrev VV:List (V × V)→List (Value × Value)→Prop:=Paired fun p q=>bH p.1 q.1∧bH p.2 q.2
def PPs (X:Cx)(pos:Pos)(keys:List (Option Expr))(values:List Expr)(trs:List (TE × TE)):Prop :=
 ∀ (G6:List (Addr × Obj)) (s:Shared) (σ:St) (H:Hp) (Q:List (V × V)→Hp→Prop),Inv X G6 σ H s→mQ trs σ H Q →
  wpAny (model X.prog X.w) X.A (evalPairs (pairTrees keys values X.env pos)) (fun vs s'=>∃ ps H',Inv X G6 σ H' s'∧VV ps vs∧Q ps H') X.xe s
theorem uk {X:Cx}{pos:Pos}:PPs X pos [] [] []:=fun G6 s σ H Q I h=>pairTrees_nil_walk ⟨[],H,I,.nil,h⟩
theorem eS {X:Cx}{pos:Pos}{k v:Expr}{ks:List (Option Expr)}{vs:List Expr}{tk tv:TE}{trs:List (TE × TE)}(hk:PE X k tk)(hv:PE X v tv)(hr:PPs X pos ks vs trs) :
  PPs X pos (some k::ks) (v::vs) ((tk,tv)::trs):=fun G6 s σ H Q I h =>
 pairTrees_cons_walk (thn (hk G6 s σ H _ I h) fun u s1 ⟨x,H1,I1,rx,q1⟩=>thn (hv G6 s1 σ H1 _ I1 q1) fun w2 s2 ⟨y,H2,I2,ry,q2⟩ =>
  thn (hr G6 s2 σ H2 _ I2 q2) fun ws s3 zq75=>(by obtain ⟨ps,H3,I3,rel,q3⟩:=zq75;exact ⟨(x,y)::ps,H3,I3,.cons ⟨rx,ry⟩ rel,q3⟩))
def fw (G_ more:List (Key × V)):List (Key × V):=more.foldl (fun acc kv=>fv acc kv.1 kv.2) G_
theorem KV.merge:∀ {more:List (Key × V)} {rs:List (Key × Value)} {G_:List (Key × V)} {vs:List (Key × Value)},KV more rs→KV G_ vs→KV (fw G_ more) (merged vs rs):=by
 intro more rs G_ vs r
 unfold KV at r
 induction r generalizing G_ vs with
 | nil=>intro q;exact q
 | @cons p q ps qs h t ih =>
  intro r0
  have e:KV (fv G_ p.1 p.2) (stored vs q.1 q.2):=by
   have:=r0.put p.1 h.2
   rw [← h.1];exact this
  exact ih e
theorem dI:∀ (more G_:List (Key × V)),(fw G_ more).length≤G_.length+more.length
 | [],G_=>by show G_.length≤G_.length+0;omega
 | p::r,G_=>by
  have h1:=dI r (fv G_ p.1 p.2)
  have h2:=dD G_ p.1 p.2
  show (fw (fv G_ p.1 p.2) r).length≤_
  rw [B6];omega
theorem gz {P:Program}{w:World}:∀ {G_:List (Key × V)} {ws:List (Value × Value)},VV (G_.map fun kv=>(kV kv.1,kv.2)) ws→∃ rs,Carries (bG P w) ws rs∧KV G_ rs
 | [],_,r=>by rw [Eh] at r;cases r;exact ⟨[],True.intro,.nil⟩
 | p::G_,_,r=>by
  rw [Cq] at r
  cases r with
  | @cons a b as bs h t =>
   obtain ⟨rs,c,q⟩:=gz (P:=P) (w:=w) t
   obtain ⟨b1,b2⟩:=b
   exact ⟨(p.1,b2)::rs,⟨qh h.1,rfl,c⟩,.cons ⟨rfl,h.2⟩ q⟩
def zr (trs:List (TE × TE)):TE:=fun σ H Q=>∀ p,H p=none→mQ trs σ (upd H p (.dK [])) fun ps H2=>H2 p=some (.dK [])∧∃ G_:List (Key × V),ps=G_.map (fun kv=>(kV kv.1,kv.2))∧G_.length≤15∧Q (.ref p) (upd H2 p (.dK (fw [] G_)))
theorem um {X:Cx}{pos:Pos}{keys:List (Option Expr)}{values:List Expr}{trs:List (TE × TE)}(h:PPs X pos keys values trs)(hall:keys.all (·.isSome)=true)(hl:keys.length=values.length)(h0:keys≠[])
  (h15:keys.length≤15):PE X (.Dict keys values pos) (zr trs):=by
 intro G6 s σ H Q I q
 have hn:=I.hok.fresh (BG s.heap.objs.size)
 have I1:=I.laid (a:=s.heap.objs.size) (o:=.dK []) (h':=s.heap.push { cls:=.type "dict",data:=.dict #[] }) (t':=s.toks) (fun _ _ q=>BD _ q) (BG _) (qi s.heap I.big)
 refine wpAny_Dict_walk (knd:=bG X.prog X.w) hall hl h0 h15 (thn (h G6 _ σ _ _ I1 (q _ hn)) fun ws s2 zq76=>?_)
 obtain ⟨ps,H2,I2,rel,e,G_,ep,lk,q2⟩:=zq76
 subst ep
 obtain ⟨rs,c,rk⟩:=gz (P:=X.prog) (w:=X.w) rel
 obtain ⟨z,hd,vs0,r0,dd⟩:=w_ I2.hok e
 cases r0
 refine ⟨rs,c,dd,fun h' dd' hs=>⟨.ref s.heap.objs.size,_,?_,rfl,q2⟩⟩
 have hz:(fw [] G_).length≤sizeLine:=by
  have h1:=dI G_ []
  rw [CK] at h1
  rw [Di];omega
 have he:∃ q,h'.get? s.heap.objs.size=some q:=let ⟨q,_,_,hq,_⟩:=dd';⟨q,hq⟩
 exact jG I2 (by rw [e];exact True.intro) hs he (sJ hz hd (rk.merge .nil) dd')
section
variable {X:Cx} {G6:List (Addr × Obj)} {σ:St} {H:Hp} {s:Shared} {a:Addr} {y d:V} {u r:Value} {o:Option V} {A:Around} {E:Value→Shared→Prop}
end
section
variable {X:Cx} {o e f:Expr} {apos Ia:Pos} {td ty tx:TE}
end
section
variable {X:Cx} {G6:List (Addr × Obj)} {σ:St} {H:Hp} {s:Shared} {a:Addr} {G_:List (Key × V)} {A:Around} {E:Value→Shared→Prop}
end
section
variable {X:Cx} {G6:List (Addr × Obj)} {σ:St} {H:Hp} {s:Shared} {a:Addr} {y:V} {u:Value} {A:Around} {E:Value→Shared→Prop}
end
end L2
namespace Att
open PySem PySem.W PySem.Calls PyProof.Rows
theorem fz {P:Params}{h:Heap}:∀ (ns:List Int) (vs:List Value),WellAll P h vs (ns.map WData.int)→IntsAre vs ns:=by
 intro ns
 induction ns with
 | nil =>
  intro vs w
  rw [Eh] at w
  cases w
  exact .nil
 | cons n ns ih =>
  intro vs w
  rw [Cq] at w
  cases w with
  | cons a b =>
   cases a
   exact .cons _ _ (ih _ b)
theorem mR {l:OpenLaw}{n:Nat}(hn:l.most=some n){P:Params}{h:Heap}{args:List WData}{vals:List Value}
  (hpre:l.row.toRowW.claim.pre args=true) (hwl:WellAll P h vals args) :
  ∃ a vs ns,vals=[Value.ref a]∧args=[WData.list (ns.map WData.int)]∧h.get? a=some { cls:=.type "list",data:=.seq vs.toArray }∧IntsAre vs ns∧ns.length≤n:=by
 have hsh:WShape.hasAll [] args [.list .int]=true:=(pre_splitW hpre).1
 have hc:l.pre.holds [] { args:=args }=true:=(pre_splitW hpre).2
 obtain ⟨d,r,rfl,h1,h2⟩:=hasAllW_cons hsh
 obtain rfl:=hasAllW_nil h2
 obtain ⟨xs,rfl,h3⟩:=hasW_list h1
 obtain ⟨ns,rfl⟩:=items_int h3
 have hlen:ns.length≤n:=by
  unfold OpenLaw.pre at hc
  have h4:(WTm.not (.lt (.lit (.int (n:Int))) (.len (.arg 0)))).holds [] { args:=[.list (ns.map .int)] }=true:=by
   have h4:=(holds_andW hc).1
   rw [hn] at h4
   exact h4
  have h5:=condW_of h4 (w_not (w_lt w_lit (w_len_list (w_arg rfl))))
  rw [BK] at h5
  refine Nat.le_of_not_lt fun q=>?_
  have q':(n:Int) < ((ns.length:Nat):Int):=by omega
  first
   | (rw [BM q'] at h5;exact absurd h5 (by decide))
   | (simp at h5;omega)
 cases hwl with
 | cons w1 w2 =>
  cases w2
  cases w1 with
  | list ho hall=>exact ⟨_,_,ns,rfl,rfl,ho,fz ns _ hall,hlen⟩
theorem mS (l:OpenLaw)(args:List WData):l.row.toRowW.claim.post args (.bool true) args=true :=
 postW_of (r:=l.row.toRowW) (X:=(true == true))
  (show WShape.has [] (.bool true) .bool=true by first | rfl | decide | simp [WShape.has,WShape.arms,WShape.armsAll])
  (show (WTm.eq .res (.lit (.bool true))).value [] { args:=args,res:=some (.bool true),after:=args }=some (.bool (true == true)) from w_eq_bool (w_res rfl) w_lit) rfl
theorem attach_call {l:OpenLaw}{n:Nat}{q:Program}{loose:List Str}{XP:(Str→Option Value)→Heap→Prop}{YP:World→Heap→Prop}{d:DefRec}
  (hn:l.most=some n) (hdf:d.params.defaults=[])
  (call:∀ (w:World) (s₀ s₁:Shared) (mg mb:Str→Option Value) (fa:Addr) (o:Obj) (pm cd doc:Value) (a:Addr) (vs:List Value) (ns:List Int),
   Ground q loose [] XP w s₀ mg mb s₁.heap→YP w s₁.heap →
   s₁.heap.get? fa=some o→o.data = .func (docDef d.name d.params d.body d.scope pm cd doc)→s₁.heap.CodeRec cd d.name→mg d.name=some (.ref fa) →
   s₁.heap.get? a=some { cls:=.type "list",data:=.seq vs.toArray }→IntsAre vs ns→ns.length≤n→s₁.gens=#[] →
   codeAny (model l.prog w) callerA (.call (.ref fa) ⟨[.ref a],[]⟩) (fun r s'=>r = .ok (.ret (.bool true))∧OldK s₁.heap s'.heap∧s'.os=s₁.os∧AllBare s'.gens) s₁) :
  WalkO q loose XP YP l.row.toRowW d [] (fun f vs=>PySem.call f vs):=by
 intro w s₀ s₁ mg mb G Y fa o pm cd doc dV kV ho hd Im hD hmg hg args vals as hpre hlay hrd hwl hlo
 obtain rfl:dV = .none:=Dflts.none hD hdf
 obtain rfl:kV = .none:=Dflts.noKw hD
 obtain ⟨a,vs,ns,rfl,rfl,hobj,hints,hlen⟩:=mR hn hpre hwl
 refine enter_call (Ee (call w s₀ s₁ mg mb fa o pm cd doc a vs ns G Y ho (fd_plain hd) Im hmg hobj hints hlen hg) fun r s' hq=>?_)
 obtain ⟨rfl,h2,h3,h4⟩:=hq
 exact ⟨.inl ⟨.bool true,.bool true,[],rfl,fun _=>rfl,.bool true,mS l _,fun _=>⟨List.Pairwise.nil,fun _ hm=>(nomatch hm)⟩⟩,h2,h3,h4⟩
section
variable {prog:Program} {w:World} {A:Around} {E:Value→Shared→Prop} {s:Shared} {K:Frag}
end
end Att
namespace L2
open PySem PySem.Spec PyProof.Rows
theorem iW:∀ {vs:List Value} {ns:List Int},IntsAre vs ns→bo (ns.map V.int) vs
 | _,_,.nil=>.nil
 | _,_,.cons n t h=>.cons ⟨t,rfl⟩ (iW h)
def zt (H:Hp):Prop:=∀ b,H b=none ∨ ∃ o xs,H b=some (.frz o (.lst xs))
theorem qj {P:Program}{w:World}{K:PySem.W.Frag}{mg mb:Str→Option Value}{CX:CXT}{k:Nat}{fa a:Addr}{fd:FuncData}{x:Str}{sp:Sp}{s₁:Shared}{vs:List Value}{ns:List Int}
  (KX:K.In s₁.heap) (hns:s₁.heap.Ns mainGlobals mg) (hb:s₁.heap.Ns builtinsNs mb) (hbb:∀ x:Str,x ≠ "__name__"→mb x=bootBuiltins x) (hlim:s₁.heap.NoLimit) (hg:s₁.gens=#[])
  (ha:s₁.heap.get? a=some { cls:=.type "list",data:=.seq vs.toArray }) (hi:IntsAre vs ns) (hl:ns.length≤sizeLine) (hr:dj k callerA)
  (F:∀ base:Heap,K.In base→base.Ns mainGlobals mg→fZ P w K mg base CX k fa fd [x] sp) (hbind:∀ (s:Shared) (u:Value),BindsTo s fd ⟨[u],[]⟩ [(x,u)])
  (Il:∀ H:Hp,zt H→SqL K H a (ns.map V.int)→sp [.ref a] H (fun v _=>v = .bl true) fun _ _ _=>False)
  (hCX:∀ H e s',CX [] H s₁ (fun _ _ _=>False) e s'→False) :
  codeAny (model P w) callerA (.call (.ref fa) ⟨[.ref a],[]⟩) (fun r s'=>r = .ok (.ret (.bool true))∧OldK s₁.heap s'.heap∧s'.os=s₁.os∧AllBare s'.gens) s₁:=by
 have rv:=iW hi
 have lenV:=hi.length
 -- from an abstract heap in which nothing but the script may be tracked
 have core:∀ H:Hp,zt H→SqL K H a (ns.map V.int)→HOk P w H s₁.heap→(∀ b,H b≠none→b=a)→(H a≠none→K.lookup a=none) →
   codeAny (model P w) callerA (.call (.ref fa) ⟨[.ref a],[]⟩) (fun r s'=>r = .ok (.ret (.bool true))∧OldK s₁.heap s'.heap∧s'.os=s₁.os∧AllBare s'.gens) s₁:=by
  intro H hO hS hok hA hK
  have base_of:∀ {b:Addr} {o:Obj},s₁.heap.get? b=some o→H b=none→(pP s₁.heap H).get? b=some o:=fun e n=>pQ e n
  have noA:∀ {b:Addr} {o:Obj} {es:Array DictEntry} {ep:Nat},s₁.heap.get? b=some o→o.data = .dict es ep→H b=none:=fun {b o es ep} e d=>by
   cases q:H b with
   | none=>rfl
   | some u =>
    have e':b=a:=hA b (by rw [q];simp)
    subst e'
    rw [ha] at e;cases e
    have d':Data.seq vs.toArray _=Data.dict es ep:=d
    cases d'
  have nsK:∀ {b:Addr} {m:Str→Option Value},s₁.heap.Ns b m→(pP s₁.heap H).Ns b m:=fun {b m} ⟨o,es,ep,e,d,r⟩=>⟨o,es,ep,base_of e (noA e d),d,r⟩
  have hKb:K.In (pP s₁.heap H):=fun b o e=>base_of (KX b o e) (by
   cases q:H b with
   | none=>rfl
   | some u =>
    have e':b=a:=hA b (by rw [q];simp)
    subst e'
    rw [hK (by rw [q];simp)] at e;cases e)
  have hM:Mod K mg (pP s₁.heap H):=⟨hKb,nsK hns,⟨mb,nsK hb,hbb⟩,let ⟨mc,h1,h2⟩:=hlim;⟨mc,nsK h1,h2⟩⟩
  have e0:pO P w K mg (pP s₁.heap H) callerA [] s₁ H:=⟨rfl,hM,fun b o e=>tJ e,Ff (mj _ _),trivial,fun b hb=>absurd (show b∈([]:List Addr) from hb) (by simp),hok,.of_eq hg⟩
  refine Ee ((F _ hKb (nsK hns)).run callerA [] s₁ H ⟨[.ref a],[]⟩ [.ref a] [.ref a] _ _ hr e0 (hbind s₁ (.ref a)) (.cons rfl .nil) (Il H hO hS)) fun r s' h=>?_
  cases r with
  | error e=>exact (hCX H e s' h).elim
  | ok fl =>
   cases fl with
   | next=>exact False.elim h
   | brk=>exact False.elim h
   | cont=>exact False.elim h
   | ret u =>
    obtain ⟨v,H',os,bare,un,hok',r',q⟩:=h
    have q':v = .bl true:=q
    subst q'
    obtain rfl:u=Value.bool true:=r'
    refine ⟨rfl,OldK.of_keep fun b o e=>?_,os,bare⟩
    cases q:H b with
    | none=>exact un.keep b o e q (by intro z;exact absurd (show b∈([]:List Addr) from z) (by simp)) (by simp)
    | some u =>
     rcases hO b with z | ⟨ob,xs,z⟩
     ·rw [q] at z;cases z
     ·have z2:=un.frzs b ob _ z
      obtain ⟨e1,_⟩:=hok b _ z
      obtain ⟨e2,_⟩:=hok' b _ z2
      rw [e] at e1;cases e1
      exact e2
 cases hk:K.lookup a with
 | some o =>
  -- the script is one of the module's own objects
  have e:=KX a o hk
  rw [ha] at e
  cases e
  refine core (fun _=>none) (fun _=>.inl rfl) (.inr ⟨_,vs.toArray,_,hk,rfl,rfl,rfl,by rw [B4,lenV];exact hl,by simpa using rv⟩) (fun b u z=>by have z':(none:Option HO)=some u:=z;cases z') (fun b z=>absurd rfl z) fun z=>absurd rfl z
 | none =>
  refine core (fun b=>if b=a then some (.frz { cls:=.type "list",data:=.seq vs.toArray } (.lst (ns.map V.int))) else none) (fun b=>?_) (.inl (.inr ⟨{ cls:=.type "list",data:=.seq vs.toArray },if_pos rfl⟩)) (fun b u z=>?_) (fun b z=>?_) fun _=>hk
  ·by_cases hb:b=a
   ·exact .inr ⟨_,_,if_pos hb⟩
   ·exact .inl (if_neg hb)
  ·by_cases hb:b=a
   ·have z':=(if_pos hb).symm.trans z
    cases z'
    subst hb
    exact ⟨ha,by rw [BK];exact hl,vs,_,rv,ha⟩
   ·have z':=(if_neg hb).symm.trans z
    cases z'
  ·by_cases hb:b=a
   ·exact hb
   ·exact absurd (if_neg hb) z
theorem mU {l:PySem.W.OpenLaw}{n k:Nat}{q:Program}{loose:List Str}{XP:(Str→Option Value)→Heap→Prop}{YP:World→Heap→Prop}{d:DefRec}{K:Params→PySem.W.Frag}{CX:World→CXT}{sp:World→Sp}{x:Str}
  (hn:l.most=some n) (hn2:n≤sizeLine) (hdf:d.params.defaults=[]) (hr:dj k callerA)
  (hY:∀ (w:World) (h:Heap),YP w h→(K w.params).In h)
  (F:∀ (w:World) (mg:Str→Option Value) (fa:Addr) (h:Heap),(K w.params).In h→h.Ns mainGlobals mg→mg d.name=some (.ref fa) →
   ∃ fd:FuncData,(∀ (s:Shared) (u:Value),BindsTo s fd ⟨[u],[]⟩ [(x,u)]) ∧
    ∀ base:Heap,(K w.params).In base→base.Ns mainGlobals mg→fZ l.prog w (K w.params) mg base (CX w) k fa fd [x] (sp w))
  (Il:∀ (w:World) (H:Hp) (a:Addr) (ns:List Int),ns.length≤n→zt H→SqL (K w.params) H a (ns.map V.int)→sp w [.ref a] H (fun v _=>v = .bl true) fun _ _ _=>False)
  (hCX:∀ (w:World) (H:Hp) (s:Shared) (e:Value) (s':Shared),CX w [] H s (fun _ _ _=>False) e s'→False) :
  PySem.W.WalkO q loose XP YP l.row.toRowW d [] (fun f vs=>PySem.call f vs):=by
 refine Att.attach_call hn hdf fun w s₀ s₁ mg mb fa o pm cd doc a vs ns G Y ho hd Im hmg hobj hints hlen hg=>?_
 have KX:=hY w _ Y
 obtain ⟨fd,hb,hF⟩:=F w mg fa _ KX G.T.g hmg
 exact qj KX G.T.g G.T.b G.T.builtins G.T.nolimit hg hobj hints (Cn hlen hn2) hr hF hb (fun H hO hS=>Il w H a ns hlen hO hS) fun H e s'=>hCX w H s₁ e s'
end L2
/- THE LAST THEOREM (shape;LID,My.* are yours):
  My.Adr: a structure of the addresses that your layer names (classes,functions);My.Txt K t: a structure (Prop) of the equations over K;
  My.txt_mk:{K} {implicit addresses ..} (e1:nsIn K mainGlobals "law" = some (some (.ref f))) (e2:K.lookup f=some ⟨oc,od,.func (fnOf "law" "law" params body scope dV kV doc pm an Hb ct),sl⟩) (e3:codeIn K Hb "law" = true) ..:∃ t,My.Txt K t
set_option maxRecDepth 100000 in
set_option maxHeartbeats 0 in
theorem PySem.Challenge.cw_LID_holds : PySem.Challenge.rw_LID.Holds := by
 w_on;o_law;k_head;(case hw=>w_witness2)
 k_fill
 refine L2.mU (l:=PySem.Challenge.rw_LID) (n:=63) (k:=40) (x:="script") (CX:=fun w=>..) (sp:=fun _=>My.sp_law) rfl (by decide) rfl ⟨rfl,by decide,by decide⟩ (fun w h Y=>PySem.W.kIn_of Y) ?F ?S ?C
 case F =>
  intro w mg fa h KX G hmg
  have T:∃ t,My.Txt (L2.KOf KX) t:=by
   dsimp only [L2.KOf]                          -- K must stand as «<heap const> w.params» for k_is
   refine' My.txt_mk ?e1 ?e2 ?e3 ..
   (case e1=>PySem.W.k_is)                    -- in the order: a name -> its address -> its object -> its parts
   (case e2=>PySem.W.k_is)
   ..
  obtain ⟨t,T⟩:=T
  have e0:=hmg.symm.trans (Cm KX G T.law)
  cases e0                                       -- fa is the law's own address
  exact ⟨_,fun s u=>.of_eq rfl,fun base kb nb=>My.law_fn T kb nb⟩     -- if «.of_eq rfl» comes too early: refine' ⟨_,?b,fun base kb nb=>My.law_fn T kb nb⟩;exact fun s u=>.of_eq rfl
 case S=>exact fun w H a ns hl hO hS=>..
 case C=>exact ..
(the tactic k_is has no namespace: write k_is) -/
namespace L2
open PySem PySem.Spec PyProof.Rows
def bU (s:Stmt):Arguments:=match s with
 | .FunctionDef _ a _ _ _ _ _ _ _ _=>a
 | _=>{ posonlyargs:=[],args:=[],vararg:=none,kwonlyargs:=[],kw_defaults:=[],kwarg:=none,defaults:=[] }
def bE (s:Stmt):List Stmt:=match s with
 | .FunctionDef _ _ b _ _ _ _ _ _ _=>b
 | _=>[]
def ao (s:Stmt):Scope:=match s with
 | .FunctionDef _ _ _ _ _ _ sc _ _ _=>sc
 | _=>{ kind:=.function,names:=[],isGenerator:=false,isCoroutine:=false }
abbrev CX0:CXT:=fun _ _ _ _ _ _=>False
abbrev E0:XK:=fun _ _ _=>False
theorem xf {X:Cx}:gx CX0 X E0:=fun _ _ _ _ _ _ _ h=>h.elim
structure Fun (K:PySem.W.Frag) (x qual:Str) (st:Stmt) (f:Addr) (fd:FuncData):Prop where
 ex:∃ (oc:Value) (od:Option Addr) (kV doc pm:Value) (an:Option Addr) (Hb ct:Value) (Hw:Array (Option Value)),
  fd=PySem.W.fnOf x qual (bU st) (bE st) (ao st) .none kV doc pm an Hb ct∧K.lookup f=some ⟨oc,od,.func fd,Hw⟩∧PySem.W.codeIn K Hb qual=true
 kp:PySem.W.keepIn K (.ref f)=true
section
variable {P:Program} {w:World} {K:PySem.W.Frag} {mg:Str→Option Value} {base:Heap}
theorem Fun.ok {x qual:Str}{st:Stmt}{f:Addr}{fd:FuncData}{N ps:List Str}{k:Nat}{sp:Sp}(F:Fun K x qual st f fd)(S:aN N ps (ao st))(len:∀ vs H Q E,sp vs H Q E→vs.length=ps.length)
  (Hq:∀ (Hb:Value) (A:Around) (outer:List Env) (s:Shared) (H:Hp) (vs:List V) (Q:VK) (E:XK),dj k (A.deeper (envOfC qual (ao st) s.heap.objs.size f Hb))→sp vs H Q E →
   ∃ t,PSs (jD CX0 P w K mg base N qual (ao st) f Hb A outer s H E).nox (bE st) t∧t { nx:=fun _ H'=>Q .non H',rt:=Q } (start N vs) H):fZ P w K mg base CX0 (k+1) f fd ps sp:=by
 obtain ⟨oc,od,kV,doc,pm,an,Hb,ct,Hw,rfl,lk,Im⟩:=F.ex
 refine wO lk Im S len fun A outer s H vs Q E hr Il=>?_
 obtain ⟨t,h,q⟩:=Hq Hb A outer s H vs Q E hr Il
 exact ⟨t,h.nox,q⟩
theorem Fun.binds {x qual:Str}{st:Stmt}{f:Addr}{fd:FuncData}{ps:List Str}(F:Fun K x qual st f fd)
  (h:∀ (kV doc pm:Value) (an:Option Addr) (Hb ct:Value) (us:List Value),us.length=ps.length→bindArgs (PySem.W.fnOf x qual (bU st) (bE st) (ao st) .none kV doc pm an Hb ct) ⟨us,[]⟩=pure (ps.zip us)):dH K fd ps []:=by
 obtain ⟨oc,od,kV,doc,pm,an,Hb,ct,Hw,rfl,lk,Im⟩:=F.ex
 exact .all (h kV doc pm an Hb ct)
theorem ky {x qual:Str}{st:Stmt}{f:Addr}{oc:Value}{od an:Option Addr}{Hw:Array (Option Value)}{kV doc pm Hb ct:Value}(l:K.lookup f=some ⟨oc,od,.func (PySem.W.fnOf x qual (bU st) (bE st) (ao st) .none kV doc pm an Hb ct),Hw⟩)
  (c:PySem.W.codeIn K Hb qual=true) (k:PySem.W.keepIn K (.ref f)=true):Fun K x qual st f (PySem.W.fnOf x qual (bU st) (bE st) (ao st) .none kV doc pm an Hb ct):=⟨⟨oc,od,kV,doc,pm,an,Hb,ct,Hw,rfl,l,c⟩,k⟩
end
theorem uo {A:Around}{k:Nat}(hr:dj k A):A.units+1 < cLine:=Nat.lt_of_le_of_lt (Nat.add_le_add_left (by decide:1≤64) _) hr.units
section
variable {X:Cx}
theorem pv (i:Nat){x:Str}{pos:Pos}(hN:X.N[i]? = some x:=by rfl)(hv:Vis X.env.scope x:=by first | exact Or.inl rfl | exact Or.inr (Or.inl rfl) | exact Or.inr (Or.inr rfl))(hd:(x == ("__debug__":Str))=false:=by decide)
  (Im:(x == ("__classdict__":Str))=false:=by decide):PE X (.Name x pos) (y8 i):=wA hN hv hd Im
end
theorem iG {A B:Prop}(h:B):if false=true then A else B:=by
 rw [if_neg B3]
 exact h
theorem mW {A B:Prop}(h:A):if true=true then A else B:=by
 rw [if_pos rfl]
 exact h
theorem eI {c A B:Prop}[Decidable c](h1:c→A)(h2:¬ c→B):if c then A else B:=by
 by_cases h:c
 ·rw [if_pos h]
  exact h1 h
 ·rw [if_neg h]
  exact h2 h
def aF (H H':Hp):Prop:=∀ b o,H b=some o→H' b=some o
theorem aF.refl (H:Hp):aF H H:=fun _ _ h=>h
theorem aF.trans {H H1 H2:Hp}(a:aF H H1)(b:aF H1 H2):aF H H2:=fun c o h=>b c o (a c o h)
theorem aF.free {H H':Hp}(e:aF H H'){l:Addr}(h:H' l=Option.none):H l=Option.none:=by
 cases q:H l with
 | none=>rfl
 | some o =>
  rw [e l o q] at h
  cases h
theorem aF.seq {K:PySem.W.Frag}{H H':Hp}{a:Addr}{xs:List V}(e:aF H H')(h:SqL K H a xs):SqL K H' a xs:=by
 rcases h with (h | ⟨o,h⟩) | h
 ·exact .inl (.inl (e _ _ h))
 ·exact .inl (.inr ⟨o,e _ _ h⟩)
 ·exact .inr h
section
variable {κ:Type} [DecidableEq κ]
end
def kz (cells:List (Str × Addr)):List (Str × NameKind)→List (Str × Addr)→List (Str × Addr)
 | [],acc=>acc
 | (x,k)::r,acc=>if k == NameKind.free then kz cells r ((x,(cells.lookup x).getD 0)::acc) else kz cells r acc
theorem gQ {cells:List (Str × Addr)}{p:Str × Addr}:∀ {names:List (Str × NameKind)} {acc:List (Str × Addr)},p∈kz cells names acc→p∈acc ∨ ((p.1,NameKind.free)∈names∧p.2=(cells.lookup p.1).getD 0)
 | [],_,h=>.inl h
 | (x,k)::r,acc,h=>by
  unfold kz at h
  by_cases hk:(k == NameKind.free)=true
  ·rw [if_pos hk] at h
   have ek:k=NameKind.free:=by simpa using hk
   subst ek
   rcases gQ h with h | ⟨h,e⟩
   ·rcases B2.mp h with h | h
    ·subst h
     exact .inr ⟨Ca,rfl⟩
    ·exact .inl h
   ·exact .inr ⟨BZ _ h,e⟩
  ·rw [if_neg hk] at h
   rcases gQ h with h | ⟨h,e⟩
   ·exact .inl h
   ·exact .inr ⟨BZ _ h,e⟩
theorem gR {cells:List (Str × Addr)}{p:Str × Addr}:∀ {names:List (Str × NameKind)} {acc:List (Str × Addr)},p∈acc→p∈kz cells names acc
 | [],_,h=>h
 | (x,k)::r,acc,h=>by
  unfold kz
  split
  ·exact gR (BZ _ h)
  ·exact gR h
theorem gS {cells:List (Str × Addr)}{x:Str}:∀ {names:List (Str × NameKind)} {acc:List (Str × Addr)},(x,NameKind.free)∈names→(x,(cells.lookup x).getD 0)∈kz cells names acc
 | [],_,h=>by simp at h
 | (y,k)::r,acc,h=>by
  unfold kz
  rcases B2.mp h with h | h
  ·have e1:x=y:=Ci Prod.fst h
   have e2:NameKind.free=k:=Ci Prod.snd h
   subst e1 e2
   rw [if_pos (by simp)]
   exact gR Ca
  ·split
   ·exact gS h
   ·exact gS h
theorem dJ {x:Str}{c:Addr}:∀ {l:List (Str × Addr)},(x,c)∈l→∃ d,l.lookup x=some d
 | [],h=>by simp at h
 | (y,d)::r,h=>by
  rw [DO]
  by_cases e:(x == y)=true
  ·rw [e];exact ⟨d,rfl⟩
  ·have e':(x == y)=false:=by simpa using e
   rw [e']
   rcases B2.mp h with h | h
   ·have:x=y:=Ci Prod.fst h
    exact absurd (by simpa using this) e
   ·exact dJ h
theorem dM {env:Env}{scope:Scope}(h:∀ y∈scope.names,y.2=NameKind.free→∃ c,env.cells.lookup y.1=some c):closureFor scope env=pure (kz env.cells scope.names []):=by
 have all:∀ (names:List (Str × NameKind)) (acc:List (Str × Addr)),(∀ y∈names,y.2=NameKind.free→∃ c,env.cells.lookup y.1=some c) →
   (forIn names acc (fun (p:Str × NameKind) (r:List (Str × Addr))=>(if (p.2 == NameKind.free)=true then (do let a ← cellOf env p.1;pure (ForInStep.yield ((p.1,a)::r))) else pure (ForInStep.yield r):Sem (ForInStep (List (Str × Addr))))))=(pure (kz env.cells names acc):Sem (List (Str × Addr))):=by
  intro names
  induction names with
  | nil=>intro acc _;rfl
  | cons p r ih =>
   intro acc hh
   obtain ⟨x,k⟩:=p
   have hr:∀ y∈r,y.2=NameKind.free→∃ c,env.cells.lookup y.1=some c:=fun y hy=>hh y (BZ _ hy)
   rw [List.forIn_cons]
   unfold kz
   by_cases hk:(k == NameKind.free)=true
   ·obtain ⟨c,hc⟩:=hh (x,k) Ca (by simpa using hk)
    have hc:env.cells.lookup x=some c:=hc
    have ec:cellOf env x=pure c:=by
     unfold cellOf
     rw [hc]
    simp only [hk,Dx,ec,pure_bind,hc,Option.getD_some]
    exact ih _ hr
   ·simp only [hk,C_,pure_bind]
    exact ih _ hr
 have e:=all scope.names [] h
 unfold closureFor
 simp only [bind_pure]
 exact e
def xg (scope sc:Scope)(NB own:List Str)(cap:List Nat)(N:List Str):Bool :=
 (scope.kind == .function) && (sc.kind == .function) &&
 (scope.names.all fun y=>match y.2 with
  | .cell=>false
  | .free=>sc.names.lookup y.1 == some NameKind.cell
  | .local=>scope.names.lookup y.1 == some NameKind.local
  | _=>true) &&
 (own.all fun x=>scope.names.lookup x == some NameKind.local && scope.names.all fun y=>!(y.1 == x) || y.2 == NameKind.local) &&
 (NB == own++cap.map fun i=>N.getD i "") && (cap.all fun i=>decide (i < N.length) && scope.names.lookup (N.getD i "") == some NameKind.free)
structure Blk (X:Cx) (scope:Scope) (NB own:List Str) (cap:List Nat):Prop where
 kind:scope.kind = .function
 outk:X.env.scope.kind = .function
 nocell:∀ y∈scope.names,y.2 ≠ .cell
 free:∀ y∈scope.names,y.2 = .free→X.env.kindOf y.1=some .cell
 names:∀ y∈scope.names,y.2 = .local→scope.names.lookup y.1=some .local
 owns:∀ x∈own,∀ y∈scope.names,y.1=x→y.2 = .local
 nb:NB=own++cap.map fun i=>X.N.getD i ""
 caps:∀ i∈cap,i < X.N.length∧scope.names.lookup (X.N.getD i "")=some .free
theorem cP {X:Cx}{scope sc:Scope}{NB own:List Str}{cap:List Nat}(hs:X.env.scope=sc)(h:xg scope sc NB own cap X.N=true):Blk X scope NB own cap:=by
 unfold xg at h
 simp only [Cw] at h
 obtain ⟨⟨⟨⟨⟨h1,h2⟩,h3⟩,h4⟩,h5⟩,h6⟩:=h
 rw [D_] at h3 h4 h6
 subst hs
 refine ⟨by simpa using h1,by simpa using h2,fun y hy e=>?_,fun y hy e=>?_,fun y hy e=>?_,fun x hx y hy e=>?_,by simpa using h5,fun i hi=>?_⟩
 ·have:=h3 y hy
  rw [e] at this
  exact absurd this (by simp)
 ·have:=h3 y hy
  rw [e] at this
  show X.env.scope.names.lookup y.1=some .cell
  simpa using this
 ·have:=h3 y hy
  rw [e] at this
  simpa using this
 ·have:=h4 x hx
  simp only [Cw,D_] at this
  have q:=this.2 y hy
  subst e
  simpa using q
 ·have:=h6 i hi
  simp only [Cw] at this
  exact ⟨Ft this.1,by simpa using this.2⟩
def cxB (X:Cx)(NB own:List Str)(scope:Scope)(C:Addr)(fp:List Addr)(s₀:Shared)(H₀:Hp):Cx where
 prog:=X.prog
 w:=X.w
 K:=X.K
 mg:=X.mg
 base:=X.base
 A:=X.A
 N:=NB
 s₀:=s₀
 H₀:=H₀
 env:=compEnvC scope (kz X.env.cells scope.names []) C X.env
 outer:=X.stack
 stack:=X.stack
 ex:=fp
 fn:=fun x=>own.contains x
 calm:=X.calm
 pn:=[]
 xe:=fun _ _=>False
theorem cW {env:Env}{x:Str}{k:NameKind}(hk:k = .cell ∨ k = .free):∀ {names:List (Str × NameKind)},(∀ y∈names,y.2 ≠ .cell) →
  (names.map fun (n,k)=>if (k == NameKind.free && env.scope.kind == .function && env.kindOf n == some .cell) then (n,NameKind.cell) else (n,k)).lookup x=some k→(x,NameKind.free)∈names
 | [],_,h=>by simp at h
 | (n,q)::r,hn,h=>by
  have ih:=@cW env x k hk r fun y hy=>hn y (BZ _ hy)
  rw [Cq,DO] at h
  have key:(if (q == NameKind.free && env.scope.kind == .function && env.kindOf n == some .cell)=true then (n,NameKind.cell) else (n,q)).1=n:=by split <;> rfl
  by_cases e:(x == n)=true
  ·have en:x=n:=by simpa using e
   subst en
   by_cases hq:q = .free
   ·subst hq;exact Ca
   ·have hqf:(q == NameKind.free)=false:=by simpa using hq
    simp only [hqf,C8,Cc,C_,Ea] at h
    have h':q=k:=BW h
    rcases hk with z | z
    ·exact absurd (h'.trans z) (hn (x,q) Ca)
    ·exact absurd (h'.trans z) hq
  ·have e':(x == n)=false:=by simpa using e
   refine BZ _ (ih ?_)
   have e2:(x == (if (q == NameKind.free && env.scope.kind == .function && env.kindOf n == some .cell)=true then (n,NameKind.cell) else (n,q)).1)=false:=by rw [key];exact e'
   rw [e2] at h
   exact h
theorem fC {env:Env}{x:Str}(hk:env.scope.kind = .function)(hc:env.kindOf x=some .cell):∀ {names:List (Str × NameKind)},names.lookup x=some .free →
  (names.map fun (n,k)=>if (k == NameKind.free && env.scope.kind == .function && env.kindOf n == some .cell) then (n,NameKind.cell) else (n,k)).lookup x=some .cell
 | [],h=>by simp at h
 | (n,q)::r,h=>by
  have ih:=@fC env x hk hc r
  rw [DO] at h
  rw [Cq,DO]
  by_cases e:(x == n)=true
  ·have en:x=n:=by simpa using e
   subst en
   rw [e] at h
   have hq:q = .free:=BW h
   subst hq
   simp [hk,hc]
  ·have e':(x == n)=false:=by simpa using e
   rw [e'] at h
   have key:(if (q == NameKind.free && env.scope.kind == .function && env.kindOf n == some .cell)=true then (n,NameKind.cell) else (n,q)).1=n:=by split <;> rfl
   have e2:(x == (if (q == NameKind.free && env.scope.kind == .function && env.kindOf n == some .cell)=true then (n,NameKind.cell) else (n,q)).1)=false:=by rw [key];exact e'
   rw [e2]
   exact ih h
def stB (own:List Str)(cap:List Nat)(σ:St):St:=(own.map fun _=>none)++cap.map fun i=>(σ[i]?).getD none
section
variable {X:Cx} {G6:List (Addr × Obj)} {σ:St} {H:Hp} {s:Shared} {scope:Scope} {NB own:List Str} {cap:List Nat} {fp:List Addr} {C:Addr}
theorem Blk.cells (B:Blk X scope NB own cap)(ok:X.Ok){x:Str}{c:Addr}(h:(kz X.env.cells scope.names []).lookup x=some c):X.env.cells.lookup x=some c∧(x,NameKind.free)∈scope.names:=by
 rcases gQ (Dj h) with q | ⟨q,e⟩
 ·simp at q
 ·obtain ⟨d,hd⟩:=ok.has x (.inl (B.free (x,.free) q rfl))
  have e:c=(X.env.cells.lookup x).getD 0:=e
  rw [hd] at e
  refine ⟨?_,q⟩
  rw [hd,e];rfl
theorem Blk.cell (B:Blk X scope NB own cap)(ok:X.Ok){x:Str}(h:(x,NameKind.free)∈scope.names):∃ c,(kz X.env.cells scope.names []).lookup x=some c:=dJ (gS h)
theorem Blk.start (B:Blk X scope NB own cap)(I:Inv X G6 σ H s)(hf:∀ b∈fp,jB X G6 H b)(hfs:∀ b∈fp,∃ o,s.heap.get? b=some o){h':Heap}{tk:Nat}{m:Str→Option Value}(hC:s.heap.objs.size≤C)
  (k:∀ b o,s.heap.get? b=some o→h'.get? b=some o) (hn:h'.Ns C m) :
  Inv (cxB X NB own scope C fp s H) [] (stB own cap σ) H { s with heap:=h',toks:=tk }:=by
 have hlen:NB.length=own.length+cap.length:=by rw [B.nb];simp
 have okB:(cxB X NB own scope C fp s H).Ok:=by
  refine ⟨I.ok.mod,B.kind,I.ok.glob,I.ok.blt,hC,fun x y c h1 h2=>I.ok.inj x y c (B.cells I.ok h1).1 (B.cells I.ok h2).1,fun x hx=>?_,fun x c h1 h2=>?_,I.ok.hd,I.ok.frames,.inl rfl,fun b hb=>⟨?_,fun x c h=>?_⟩,I.bs,Cn I.ok.bsz I.sz,fun b o e hb=>?_,fun b hb z=>?_,I.stack,I.stkFree⟩
  ·have:(x,NameKind.free)∈scope.names:=by
    rcases hx with z | z
    ·exact cW (.inl rfl) B.nocell z
    ·exact cW (.inr rfl) B.nocell z
   exact B.cell I.ok this
  ·have hx:x∈own:=by simpa [cxB] using h1
   have q:=B.owns x hx _ (B.cells I.ok h2).2 rfl
   exact absurd q (by simp)
  ·obtain ⟨o,e⟩:=hfs b hb
   exact Cr (BX (BU e) hC)
  ·exact (hf b hb).2.2.2.2.1 x c (B.cells I.ok h).1
  ·have hb:b∈fp:=hb
   rcases (hf b hb).2.2.2.1 with z | z
   ·exact I.ok.noex b o e z
   ·exact absurd (BX (BU e) (Cn I.ok.bsz z)) (Co _)
  ·rcases B2.mp (I.stkSub b z) with z | z
   ·exact (hf b hb).2.1 z
   ·exact (hf b hb).2.2.1 z
 refine ⟨okB,rfl,I.bare,Un.kept k,⟨m,hn,fun i x v e1 e2 e3=>?_⟩,fun x c h=>?_,I.hok.fresh hC,fun x c h=>I.freeC x c (B.cells I.ok h).1,fun p hp=>absurd (show p∈([]:List (Addr × Obj)) from hp) (by simp),I.hok.kept k,?_⟩
 ·have e1:NB[i]? = some x:=e1
  have hi:¬ i < own.length:=fun hi=>by
   unfold stB at e2
   rw [CL (by simpa using hi),B7] at e2
   cases q:own[i]? <;> rw [q] at e2 <;> cases e2
  unfold stB at e2
  rw [Cj (by simpa using hi),B7] at e2
  rw [B.nb,Cj (by omega),B7] at e1
  simp only [BK] at e2
  cases q:cap[i - own.length]? with
  | none=>rw [q] at e1;cases e1
  | some j =>
   rw [q] at e1 e2
   have ex:X.N.getD j "" = x:=BW e1
   have ev:(σ[j]?).getD none=some v:=BW e2
   obtain ⟨hj,hjf⟩:=B.caps j (B8 q)
   rw [ex] at hjf
   have hN:X.N[j]? = some x:=by rw [← ex,E_,BC hj];rfl
   have hσ:σ[j]? = some (some v):=by
    cases z:σ[j]? with
    | none=>rw [z] at ev;cases ev
    | some u=>rw [z] at ev;exact Ci some ev
   have hmem:(x,NameKind.free)∈scope.names:=Dj hjf
   have hkc:=B.free _ hmem rfl
   obtain ⟨m0,hn0,hl⟩:=I.loc
   obtain ⟨u,r,l⟩:=hl j x v hN hσ (.inr (.inl hkc))
   refine ⟨u,r,.inr ⟨.inl (fC B.outk hkc hjf),?_⟩⟩
   obtain ⟨c,hc⟩:=B.cell I.ok hmem
   refine ⟨c,hc,?_⟩
   rcases l with ⟨z,_⟩ | ⟨_,c',hc',⟨oc,hoc,hd⟩⟩
   ·rw [show X.env.kindOf x=some .cell from hkc] at z;cases z
   ·have:=(B.cells I.ok hc).1
    rw [hc'] at this
    have:c'=c:=BW this
    subst this
    exact ⟨oc,k _ _ hoc,hd⟩
 ·obtain ⟨v,oc,hoc,hd⟩:=I.cell x c (B.cells I.ok h).1
  exact ⟨v,oc,k _ _ hoc,hd⟩
 ·show (stB own cap σ).length=NB.length
  unfold stB
  rw [hlen];simp
theorem Blk.done (B:Blk X scope NB own cap)(I:Inv X G6 σ H s)(hf:∀ b∈fp,jB X G6 H b){σB:St}{H':Hp}{s':Shared}{h'':Heap}{D:Addr}{ys:List V}{its:List Value}{n:Nat}(hC:s.heap.objs.size≤C)(hD:s.heap.objs.size≤D)(hDC:D≠C)
  (J:Inv (cxB X NB own scope C fp s H) [] σB H' s') (hn:H' D=none) (e:s'.heap.get? D=some { cls:=.type "list",data:=.seq its.toArray n }) (hv:bo ys its) (hz:ys.length≤sizeLine)
  (sb:Heap.SameBut C s'.heap h''):Inv X G6 σ (upd H' D (.lst ys)) { s' with heap:=h'' }:=by
 have un:Un (frs X.stack) fp H H' s.heap s'.heap:=J.base
 have neC:∀ {b o},s.heap.get? b=some o→b≠C:=fun q=>Cr (BX (BU q) hC)
 have neD:∀ {b o},s.heap.get? b=some o→b≠D:=fun q=>Cr (BX (BU q) hD)
 have hCn:H' C=none:=J.free
 refine I.call' (s':={ s' with heap:=h'' }) (ch:=fp) J.os ⟨fun b o q n hb hx=>?_,fun b o q n hb hx=>?_,fun b o q n hx=>?_,fun b o q hx=>?_,fun b xs q=>?_,fun b o u q=>?_,fun b ps q=>?_⟩ (fun b u q=>?_) J.bare fun b hb=>?_
 ·exact (sb.2 b (neC q)).trans (un.keep b o q n hb hx)
 ·obtain ⟨sl,r⟩:=un.slot b o q n hb hx
  exact ⟨sl,(sb.2 b (neC q)).trans r⟩
 ·rw [ay (neD q)]
  exact un.free b o q n hx
 ·obtain ⟨o',r⟩:=un.there b o q hx
  exact ⟨o',(sb.2 b (neC q)).trans r⟩
 ·have r:=un.tups b xs q
  rw [ay (aE r hn)]
  exact r
 ·have r:=un.frzs b o u q
  rw [ay (aE r hn)]
  exact r
 ·obtain ⟨more,r⟩:=un.tbls b ps q
  exact ⟨more,by rw [ay (aE r hn)];exact r⟩
 ·by_cases hb:b=D
  ·subst hb
   rw [af] at q
   cases q
   exact ⟨hz,its,n,hv,(sb.2 b hDC).trans e⟩
  ·rw [ay hb] at q
   refine (J.hok b u q).stay (fun c v hc r=>(sb.2 c ?_).trans r) (fun c r=>?_) fun c xs r=>?_
   ·rcases hc with z | z
    ·rw [z];exact aE q hCn
    ·exact aE z hCn
   ·rw [ay (aE r hn)];exact r
   ·rw [ay (aE r hn)];exact r
 ·obtain ⟨_,f1,_,f3,f4,f5⟩:=hf b hb
  exact ⟨f3,f1,f4,f5⟩
end
def PIf (X:Cx)(ifs:List Expr)(t:TT):Prop :=
 ∀ (G6:List (Addr × Obj)) (s:Shared) (σ:St) (H:Hp) (Q:Bool→Hp→Prop),Inv X G6 σ H s→t σ H Q →
  wpAny (model X.prog X.w) X.A (forIn ifs true fun c r=>if r=true then do let ok ← isTrue c X.env (eval c X.env);pure (ForInStep.yield ok) else pure (ForInStep.yield r)) (TP X G6 σ Q) X.xe s
def Be:TT:=fun _ H Q=>Q true H
theorem cu {X:Cx}:PIf X [] Be:=fun _ _ _ H _ I h=>wpAny_tests_nil ⟨H,I,h⟩
theorem eU {X:Cx}{c:Expr}{t:TT}(h:PT X c t):PIf X [c] t:=fun G6 s σ H Q I q=>wpAny_tests_one (h G6 s σ H Q I q)
section
variable {prog:Program} {w:World} {A:Around} {R:Result→Shared→Prop} {s:Shared}
abbrev noE:Value→Shared→Prop:=fun _ _=>False
theorem iX {elt tg iter:Expr}{ifs:List Expr}{scope:Scope}{pos:Pos}{it acc:Value}{env:Env}(I:Nat→Shared→Prop)
  (turn:∀ n s,I n s→wpAny (model prog w) A (pyNext it) (fun r s₁=>match r with
   | none=>R (.ok .next) s₁
   | some v=>wpAny (model prog w) A (letOwnedTupleGo tg it v) (fun _ s₀=>wpAny (model prog w) A (assign tg env v) (fun _ s₂ =>
     wpAny (model prog w) A (forIn ifs true fun c r=>if r=true then do let ok ← isTrue c env (eval c env);pure (ForInStep.yield ok) else pure (ForInStep.yield r)) (fun ok s₃ =>
      if ok=true then wpAny (model prog w) A (eval elt env) (fun x s₄=>wpAny (model prog w) A (call (.builtin "list.append") [acc,x]) (fun _ s₅=>∃ m,m < n∧I m s₅) noE s₄) noE s₃
      else ∃ m,m < n∧I m s₃) noE s₂) noE s₀) noE s₁) noE s)
  (n:Nat) (h:I n s):codeAny (model prog w) A (.compLoop (.ListComp elt [⟨tg,iter,ifs,0⟩] scope pos) 0 it acc env) R s:=by
 refine codeAny_loop rfl I (fun n s hI=>?_) n h
 show wpAny _ A ((compTurn (.ListComp elt [⟨tg,iter,ifs,0⟩] scope pos) 0 it acc env).onRaise (fun x=>do noteFrame x env;theTreesLotGoes x)) _ _ s
 refine wpAny_noted ?_
 rw [compTurn_list]
 refine fu (D1 (fu (CB (turn n s hI) (fun r s₁ h₁=>?_) fun _ _ z=>False.elim z)))
 cases r with
 | none=>exact BH h₁
 | some v =>
  refine fu (CB h₁ (fun _ s₀ h₀=>fu (CB h₀ (fun _ s₂ h₂=>fu (CB h₂ (fun ok s₃ h₃=>?_) fun _ _ z=>False.elim z)) fun _ _ z=>False.elim z)) fun _ _ z=>False.elim z)
  cases ok with
  | false=>exact BH ⟨rfl,h₃⟩
  | true=>exact fu (fu (CB h₃ (fun x s₄ h₄=>fu (CB h₄ (fun _ s₅ h₅=>BH (BH ⟨rfl,h₅⟩)) fun _ _ z=>False.elim z)) fun _ _ z=>False.elim z))
end
def qk (own:List Str)(cap:List Nat)(g:TG)(ti:TT)(te:TE)(Q:VK)(σ:St)(J:It)(H1:Hp):Prop:=∃ W:Nat→Nat→List V→St→Hp→Prop,(∃ m,W 0 m [] (stB own cap σ) H1)∧∀ i m ys σ H,W i m ys σ H →
 (J.stop i H∧ys.length≤sizeLine∧∀ D,H D=none→Q (.ref D) (upd H D (.lst ys))) ∨
 (J.go i H∧ys.length < sizeLine∧∀ x H',J.yld i H x H'→g x σ H' fun σ2 H2=>ti σ2 H2 fun b H3=>if b=true then te σ2 H3 fun y H4=>∃ m',m' < m∧W (i+1) m' (ys++[y]) σ2 H4 else ∃ m',m' < m∧W (i+1) m' ys σ2 H3)
def xh (own:List Str)(cap:List Nat)(wi:TI)(g:TG)(ti:TT)(te:TE):TE:=fun σ H Q=>wi σ H fun J H1=>qk own cap g ti te Q σ J H1
theorem d3 {X:Cx}{elt iter tg:Expr}{ifs:List Expr}{scope:Scope}{pos:Pos}{NB own:List Str}{cap:List Nat}{wi:TI}{g:TG}{ti:TT}{te:TE}(B:Blk X scope NB own cap)(hc:X.calm=true)(hi:PI X tg iter wi)
  (hg:∀ C fp s₀ H₀,PG (cxB X NB own scope C fp s₀ H₀) tg g) (ht:∀ C fp s₀ H₀,PIf (cxB X NB own scope C fp s₀ H₀) ifs ti) (he:∀ C fp s₀ H₀,PE (cxB X NB own scope C fp s₀ H₀) elt te)
  (hs:∀ x,foldedSetIterable iter X.env x=pure x:=by intro _;rfl):PE X (.ListComp elt [⟨tg,iter,ifs,0⟩] scope pos) (xh own cap wi g ti te):=by
 intro G6 s σ H Q I0 h
 rw [eval_ListComp]
 have hclos:=dM (env:=X.env) (scope:=scope) fun y hy e=>I0.ok.has y.1 (.inl (B.free y hy e))
 refine Fu (use:=none) rfl hs hclos B.kind B.names (thn (hi G6 s σ H _ I0 h) fun v s1 h1=>thn h1 fun itv s2 h2=>?_)
 obtain ⟨it,fp,tn,J,H2,rfl,I,T,Hz,f2,W,⟨m0,w0⟩,turn⟩:=h2
 refine FG ?_
 refine wpAny_newFunctionEnv B.nocell (by intro y hy;simp at hy) (fun h₁ hns₁ hsb₁=>?_) B.kind
 dsimp only at hns₁ hsb₁ ⊢
 generalize hP:s2.heap.push { cls:=.type "list",dict:=none,data:=.seq ([]:List Value).toArray }=P at hns₁ hsb₁ ⊢
 have hC:P.objs.size=s2.heap.objs.size+1:=by rw [← hP,EC]
 have hDC:s2.heap.objs.size≠P.objs.size:=by rw [hC];exact Cr (Nat.lt_succ_self _)
 have HR:s2.heap.objs.size≤P.objs.size:=by rw [hC];exact EW _
 have old:∀ b o,s2.heap.get? b=some o→h₁.get? b=some o:=fun b o e=>by
  refine (hsb₁.2 b ?_).trans (BD _ (hP ▸ BD _ e))
  exact Cr (BX (BU e) HR)
 have hD:h₁.get? s2.heap.objs.size=some { cls:=.type "list",data:=.seq ([]:List Value).toArray 0 }:=by
  refine (hsb₁.2 _ hDC).trans (BD _ ?_)
  rw [← hP]
  exact B5 _ rfl
 have hfs:∀ b∈fp,∃ o,s2.heap.get? b=some o:=fun b hb=>let ⟨o,e,_⟩:=T.obj _ _ Hz b hb;⟨o,e⟩
 have st4:tn 0 h₁:=T.keep _ _ _ Hz fun b _ o e=>old b o e
 generalize htk:s2.toks+([]:List (Str × Value)).length=tk4
 have I4:=B.start (C:=P.objs.size) (tk:=tk4) I f2 hfs HR old hns₁
 have fOk:∀ {H':Hp} {b:Addr} {ob:Obj},b∈fp→H' b=none→jB (cxB X NB own scope P.objs.size fp s2 H2) [(s2.heap.objs.size,ob)] H' b:=fun {H' b ob} hb hn=>by
  obtain ⟨o,e⟩:=hfs b hb
  refine ⟨hn,(I4.ok.exf b hb).1,I4.ok.exfs b hb,.inl hb,(I4.ok.exf b hb).2,fun p hp=>?_⟩
  have ep:p=(s2.heap.objs.size,ob):=BE.mp (show p∈[(s2.heap.objs.size,ob)] from hp)
  rw [ep]
  exact fun z=>absurd (BU e) (by rw [← z];exact Co _)
 have dnf:s2.heap.objs.size∉frs X.stack:=fun z=>by
  rcases B2.mp (I.stkSub _ z) with z | z
  ·exact absurd I.lt (by rw [← z];exact Co _)
  ·exact I.nofs (BG _) z
 have I3D:∀ {σ3:St} {H3:Hp} {s3:Shared} {its:List Value} {k:Nat},Inv (cxB X NB own scope P.objs.size fp s2 H2) [] σ3 H3 s3→s3.heap.get? s2.heap.objs.size=some { cls:=.type "list",data:=.seq its.toArray k }→H3 s2.heap.objs.size=none →
   Inv (cxB X NB own scope P.objs.size fp s2 H2) [(s2.heap.objs.size,{ cls:=.type "list",data:=.seq its.toArray k })] σ3 H3 s3:=fun I3 e n=>I3.pins_of fun p hp=>by
  have ep:=BE.mp hp
  subst ep
  exact ⟨e,n,hDC,dnf,fun v z=>by cases z⟩
 have ndf:s2.heap.objs.size∉fp:=fun z=>by
  obtain ⟨o,e⟩:=hfs _ z
  exact absurd (BU e) (Co _)
 have nCD:∀ x c,(cxB X NB own scope P.objs.size fp s2 H2).env.cells.lookup x=some c→c≠s2.heap.objs.size:=fun x c e z=>by
  obtain ⟨v,o,ho,_⟩:=I.cell x c (B.cells I.ok e).1
  rw [z] at ho
  exact absurd (BU ho) (Co _)
 have loop:∀ s₃:Shared,s₃ = { s2 with heap:=h₁,toks:=tk4 }→codeAny (model X.prog X.w) X.A (.compLoop (.ListComp elt [⟨tg,iter,ifs,0⟩] scope pos) 0 (.ref it) (.ref s2.heap.objs.size) (cxB X NB own scope P.objs.size fp s2 H2).env)
   (compPost (model X.prog X.w) X.A X.xe none (EP X G6 σ Q) (.ref s2.heap.objs.size) P.objs.size) s₃:=by
  rintro s₃ rfl
  refine iX (fun n s'=>∃ i σB H' ys its k,Inv (cxB X NB own scope P.objs.size fp s2 H2) [] σB H' s'∧tn i s'.heap∧(∀ b∈fp,H' b=none)∧s'.heap.get? s2.heap.objs.size=some { cls:=.type "list",data:=.seq (its:List Value).toArray k }∧bo ys its∧H' s2.heap.objs.size=none∧W i n ys σB H') ?_ m0
   ⟨0,stB own cap σ,H2,[],[],0,I4,st4,fun b hb=>(f2 b hb).1,hD,.nil,I.hok.fresh (BG _),w0⟩
  rintro n s3 ⟨i,σ3,H3,ys,its,k,I3,st3,fr3,hD3,rv,hn3,w3⟩
  rcases turn i n ys σ3 H3 w3 with ⟨stop,hz,q⟩ | ⟨go,hz,step⟩
  ·refine thn (T.done (cxB X NB own scope P.objs.size fp s2 H2) rfl rfl rfl hc i _ s3 σ3 H3 noE (I3D I3 hD3 hn3) (fun b hb=>fOk hb (fr3 b hb)) st3 stop) fun r s4 zq1=>?_
   obtain ⟨hr,I4'⟩:=zq1
   subst hr
   have hD4:s4.heap.get? s2.heap.objs.size=some { cls:=.type "list",data:=.seq (its:List Value).toArray k }:=(I4'.pin (s2.heap.objs.size,_) (BN _ (BE.mpr rfl))).1
   have I5:Inv (cxB X NB own scope P.objs.size fp s2 H2) [] σ3 H3 s4:=I4'.pins_of fun p hp=>absurd (show p∈([]:List (Addr × Obj)) from hp) (by simp)
   obtain ⟨mC,hnC,_⟩:=I5.loc
   exact ⟨mC,hnC,fun h'' sb=>⟨.ref s2.heap.objs.size,_,B.done I f2 HR (BG _) hDC I5 hn3 hD4 rv hz sb,rfl,q _ hn3⟩⟩
  ·refine thn (T.item (cxB X NB own scope P.objs.size fp s2 H2) rfl rfl rfl hc i _ s3 σ3 H3 noE (I3D I3 hD3 hn3) (fun b hb=>fOk hb (fr3 b hb)) st3 go) fun r s4 zq2=>?_
   obtain ⟨u,hr,h4⟩:=zq2
   subst hr
   refine thn h4 fun _ s5 zq3=>?_
   obtain ⟨x,H5,I5,r5,y5,st5,fr5⟩:=zq3
   have I5':=I5.pinned (fun b hb=>fOk hb (fr5 b hb)) (T.obj _ _ st5)
   refine thn (hg _ fp s2 H2 _ s5 σ3 H5 x u _ I5' r5 (step x H5 y5)) fun _ s6 zq4=>?_
   obtain ⟨σ6,H6,I6,q6⟩:=zq4
   refine thn (ht _ fp s2 H2 _ s6 σ6 H6 _ I6 q6) fun b s7 zq5=>?_
   obtain ⟨H7,I7,q7⟩:=zq5
   have pinned:∀ {σ8:St} {H8:Hp} {s8:Shared},Inv (cxB X NB own scope P.objs.size fp s2 H2) ([(s2.heap.objs.size,{ cls:=.type "list",data:=.seq (its:List Value).toArray k })]++gr fp s5.heap) σ8 H8 s8 →
     tn (i+1) s8.heap∧(∀ b∈fp,H8 b=none)∧s8.heap.get? s2.heap.objs.size=some { cls:=.type "list",data:=.seq (its:List Value).toArray k }∧H8 s2.heap.objs.size=none:=fun {σ8 H8 s8} I8=>by
    refine ⟨T.keep _ _ _ st5 fun b hb o e=>(I8.pin (b,o) (BN _ (BN _ (bZ hb e)))).1,fun b hb=>?_,?_,?_⟩
    ·obtain ⟨o,e,d⟩:=T.obj _ _ st5 b hb
     exact (I8.pin (b,o) (BN _ (BN _ (bZ hb e)))).2.1
    ·exact (I8.pin (s2.heap.objs.size,_) (BN _ (Cb _ (BE.mpr rfl)))).1
    ·exact (I8.pin (s2.heap.objs.size,_) (BN _ (Cb _ (BE.mpr rfl)))).2.1
   have nopin:∀ {pp:List (Addr × Obj)} {σ8:St} {H8:Hp} {s8:Shared},Inv (cxB X NB own scope P.objs.size fp s2 H2) pp σ8 H8 s8→Inv (cxB X NB own scope P.objs.size fp s2 H2) [] σ8 H8 s8:=fun I8=>I8.pins_of fun p hp=>absurd (show p∈([]:List (Addr × Obj)) from hp) (by simp)
   cases b with
   | false =>
    rw [if_neg B3] at q7 ⊢
    obtain ⟨m',hm,w7⟩:=q7
    obtain ⟨p1,p2,p3,p4⟩:=pinned I7
    exact ⟨m',hm,i+1,σ6,H7,ys,its,k,nopin I7,p1,p2,p3,rv,p4,w7⟩
   | true =>
    rw [if_pos rfl] at q7 ⊢
    refine thn (he _ fp s2 H2 _ s7 σ6 H7 _ I7 q7) fun yv s8 zq6=>?_
    obtain ⟨y,H8,I8,r8,m',hm,w8⟩:=zq6
    obtain ⟨p1,p2,p3,p4⟩:=pinned I8
    refine Ey Cz ⟨_,p3,rfl⟩ EU (EK _ _) (Fs s2.heap.objs.size its.toArray k yv (by rw [B4,← rv.length];omega)) ⟨p3,?_⟩
    have q:=FM p3 fun a=>a.push yv
    have ea:its.toArray.push yv=(its++[yv]).toArray:=by simp
    rw [ea] at q
    have I9:Inv (cxB X NB own scope P.objs.size fp s2 H2) [] σ6 H8 { s8 with heap:=s8.heap.update s2.heap.objs.size (Obj.mapSeq fun a=>a.push yv),toks:=s8.toks } :=
     (nopin I8).turned (it:=s2.heap.objs.size) (fun b o hb e=>(Ck s8.heap _ (Ne.symm hb)).trans e) p4 hDC (.inr (BG _)) (fun x c e=>nCD x c e) fun p hp=>absurd (show p∈([]:List (Addr × Obj)) from hp) (by simp)
    refine ⟨m',hm,i+1,σ6,H8,ys++[y],its++[yv],_,I9,?_,p2,q,rv.append (.cons r8 .nil),p4,w8⟩
    refine T.keep _ _ _ p1 fun b hb o e=>(Ck s8.heap _ ?_).trans e
    intro z
    rw [z] at ndf
    exact ndf hb
 exact codeAny_compStart_list (loop _ rfl) (T.self X.A 0 _ _ _ st4 (loop _ rfl))
theorem cj {own:List Str}{cap:List Nat}{J:It}{g:TG}{ti:TT}{te:TE}{σ:St}{H:Hp}{Q:VK}(n:Nat)(Pv:Nat→List V→St→Hp→Prop)(h0:Pv 0 [] (stB own cap σ) H)(hz:∀ i ys σ H,i≤n→Pv i ys σ H→ys.length≤i)(hn:n≤sizeLine)
  (hgo:∀ i ys σ H,i < n→Pv i ys σ H→J.go i H) (Hs:∀ ys σ H,Pv n ys σ H→J.stop n H)
  (hs:∀ i ys σ H x H' (N:List V→St→Hp→Prop),i < n→Pv i ys σ H→J.yld i H x H'→(∀ ys' σ' H'',Pv (i+1) ys' σ' H''→N ys' σ' H'')→g x σ H' fun σ2 H2=>ti σ2 H2 fun b H3=>if b=true then te σ2 H3 fun y H4=>N (ys++[y]) σ2 H4 else N ys σ2 H3)
  (hd:∀ ys σ H D,Pv n ys σ H→H D=none→Q (.ref D) (upd H D (.lst ys))) :
  qk own cap g ti te Q σ J H:=by
 refine ⟨fun i m ys σ H=>m=n - i∧i≤n∧Pv i ys σ H,⟨n,by simp,CC _,h0⟩,?_⟩
 rintro i m ys σ H ⟨rfl,hi,p⟩
 have hl:=hz i ys σ H hi p
 by_cases Hg:i < n
 ·refine .inr ⟨hgo i ys σ H Hg p,by omega,fun x H' y=>?_⟩
  exact hs i ys σ H x H' (fun ys' σ' H''=>∃ m',m' < n - i∧m'=n - (i+1)∧i+1≤n∧Pv (i+1) ys' σ' H'') Hg p y fun ys' σ' H'' q=>⟨n - (i+1),by omega,rfl,Hg,q⟩
 ·have e:i=n:=by omega
  subst e
  exact .inl ⟨Hs ys σ H p,by omega,fun D hD=>hd ys σ H D p hD⟩
def Its (z:Str):It:=⟨fun i _=>i < z.cps.size,fun i H x H'=>H'=H∧∃ c,z.cps[i]? = some c∧x = .str ⟨#[c]⟩,fun i _=>i=z.cps.size⟩
theorem cG {P:Program}{w:World}{K:PySem.W.Frag}{tg:Expr}{it n:Nat}{Pv:Nat→Value→Prop}{st:Nat→Heap→Prop}{J:It}{T:String}{fl:Nat→Array Value}
  (W:∀ A:Around,A.handled=none→Walks P w A it [it] [it] n Pv st) (Hs:∀ i h,st i h→∃ o,h.get? it=some o∧o.cls = .type T∧o.data = .fields (fl i))
  (hT:["enumerate","zip","dict_itemiterator","dict_reverseitemiterator","odict_iterator","itertools.zip_longest","itertools.pairwise"].contains T=false)
  (hgo:∀ i H,J.go i H→i < n) (hstop:∀ i H,J.stop i H→i=n) (hy:∀ i H u,J.go i H→Pv i u→∃ x,bH x u∧J.yld i H x H)
  (hself:∀ (A:Around) (i:Nat) (s:Shared) (Q:Value→Shared→Prop) (E:Value→Shared→Prop),st i s.heap→Q (.ref it) s→wpAny (model P w) A (pyIter (.ref it)) Q E s):tQ P w K tg J [it] it st where
 mem:=by simp
 obj:=fun i h s b hb=>by
  have e:b=it:=by simpa using hb
  subst e
  obtain ⟨o,e,c,d⟩:=Hs i h s
  exact ⟨o,e,fun v z=>by rw [d] at z;cases z⟩
 keep:=fun i h h' s k=>(W {} rfl).frame i h h' s k
 item:=by
  intro X hP hw hK hc i G6 s σ H E I hf s0 hg
  subst hP hw hK
  obtain ⟨f0,f1,f2,f3,f4,f5⟩:=hf it (by simp)
  refine (W X.A (I.ok.hd hc)).item i s _ _ (hgo i H hg) s0 fun v h' tk hv G8 kk=>?_
  have I1:Inv X G6 σ H { s with heap:=h',toks:=tk }:=I.turned (fun b o hb e=>kk b o (by simpa using hb) e) f0 f1 f3 f4 f5
  obtain ⟨o,e,c,d⟩:=Hs _ _ G8
  obtain ⟨x,rx,yx⟩:=hy i H v hg hv
  exact ⟨v,rfl,pX (s:={ s with heap:=h',toks:=tk }) e c d hT ⟨x,H,I1,rx,yx,G8,fun b hb=>(hf b hb).1⟩⟩
 done:=by
  intro X hP hw hK hc i G6 s σ H E I hf s0 hg
  subst hP hw hK
  obtain ⟨f0,f1,f2,f3,f4,f5⟩:=hf it (by simp)
  have e:=hstop i H hg
  subst e
  exact (W X.A (I.ok.hd hc)).done s _ _ s0 fun h' tk kk=>⟨rfl,I.turned (fun b o hb e=>kk b o (by simpa using hb) e) f0 f1 f3 f4 f5⟩
 self:=hself
section
variable {X:Cx} {tg:Expr}
def Bf (tl:TE):TI:=fun σ H R=>tl σ H fun x H1=>∃ z,x = .str z∧R (Its z) H1
theorem mX {z:Str}{i:Nat}{H:Hp}{u:Value}(h:SignAt z i u):∃ x,bH x u∧(Its z).yld i H x H:=by
 obtain ⟨c,t,e,rfl⟩:=h
 exact ⟨.str ⟨#[c]⟩,⟨t,rfl⟩,rfl,c,e,rfl⟩
theorem mY {l:Expr}{tl:TE}(hl:PE X l tl):PI X tg l (Bf tl):=by
 intro G6 s σ H R I h
 refine thn (hl G6 s σ H _ I h) fun v s1 zq1=>?_
 obtain ⟨x,H1,I1,r1,q1⟩:=zq1
 obtain ⟨z,rfl,q⟩:=q1
 obtain ⟨t,rfl⟩:=r1
 have fp:∀ b∈[s1.heap.objs.size],jB X G6 H1 b:=fun b hb=>by
  have e:b=s1.heap.objs.size:=by simpa using hb
  subst e
  exact I1.fpOk (BG _) (I1.hok.fresh (BG _))
 cases ha:z.cps.all (· < 128)
 ·refine wpAny_pyIter_wide ha ⟨s1.heap.objs.size,[s1.heap.objs.size],_,Its z,H1,rfl,I1.kept (t':=s1.toks) fun b o e=>BD _ e,
   cG (T:="str_iterator") (fl:=fun i=>#[.str z t,.int i 0]) (fun A hh=>Walks.strWide hh _ z t) (fun i h st=>st) (by decide) (fun i H g=>g) (fun i H g=>g) (fun i H u _ hu=>mX hu) (fun A i s Q E st h=>wpAny_pyIter_striter_wide st h),⟨_,B5 _ rfl,rfl,rfl⟩,fp,q⟩
 ·refine wpAny_pyIter_ascii ha ⟨s1.heap.objs.size,[s1.heap.objs.size],_,Its z,H1,rfl,I1.kept (t':=s1.toks) fun b o e=>BD _ e,
   cG (T:="str_ascii_iterator") (fl:=fun i=>#[.str z t,.int i 0]) (fun A hh=>Walks.strAscii hh _ z t) (fun i h st=>st) (by decide) (fun i H g=>g) (fun i H g=>g) (fun i H u _ hu=>mX hu) (fun A i s Q E st h=>wpAny_pyIter_striter_ascii st h),⟨_,B5 _ rfl,rfl,rfl⟩,fp,q⟩
inductive AK (x:V)(lo:Option Int)(hi:Option Int)(H:Hp)(Q:VK):Prop
 | mk:∀ z,(x = .str z)→(z.length≤sizeLine)→(Q (.str (Txt.slice z lo hi)) H)→AK x lo hi H Q
theorem aY:SlR X AK:=by
 intro G6 s σ H x v vl vu lo hi sl Q I rx hs pl pu h
 obtain ⟨z,rfl,hz,q⟩:=h
 obtain ⟨t,rfl⟩:=rx
 have fin:∀ (lo hi:Option Int),Q (.str (Txt.slice z lo hi)) H→∀ t' k,EP X G6 σ Q (.str (Txt.slice z lo hi) t') { s with toks:=k }:=fun lo hi q t' k=>⟨.str _,H,I.tok _,⟨_,rfl⟩,q⟩
 refine ⟨"str",_,F.slot_str_getitem.lookup,Fq _ _ _,?_⟩
 cases pl with
 | none =>
  cases pu with
  | none=>exact DK (l:=none) (u:=none) (st:=none) hs rfl (EX ⟨Cn (Cf z _ _) hz,fun t' k=>fin _ _ q t' k⟩)
  | int j uj=>exact DK (l:=none) (u:=some (j,uj)) (st:=none) hs rfl (EX ⟨Cn (Cf z _ _) hz,fun t' k=>fin _ _ q t' k⟩)
 | int i ui =>
  cases pu with
  | none=>exact DK (l:=some (i,ui)) (u:=none) (st:=none) hs rfl (EX ⟨Cn (Cf z _ _) hz,fun t' k=>fin _ _ q t' k⟩)
  | int j uj=>exact DK (l:=some (i,ui)) (u:=some (j,uj)) (st:=none) hs rfl (EX ⟨Cn (Cf z _ _) hz,fun t' k=>fin _ _ q t' k⟩)
inductive sL (x:V)(vs:List V)(H:Hp)(Q:VK):Prop
 | mk:∀ z,(x = .str z)→(vs=[])→(z.length≤5592405)→(Q (.str (Txt.upper z)) H)→sL x vs H Q
inductive sM (x:V)(vs:List V)(H:Hp)(Q:VK):Prop
 | mk:∀ z,(x = .str z)→(vs=[])→(z.length≤5592405)→(Q (.str (Txt.lower z)) H)→sM x vs H Q
theorem kC:MtR X "str.upper" sL:=by
 intro G6 s σ H x vs v us Q I rx rv h
 obtain ⟨z,rfl,rfl,hz,q⟩:=h
 obtain ⟨t,rfl⟩:=rx
 cases rv
 exact SCL.upper hz fun _=>⟨.str _,H,I.tok _,⟨_,rfl⟩,q⟩
theorem kD:MtR X "str.lower" sM:=by
 intro G6 s σ H x vs v us Q I rx rv h
 obtain ⟨z,rfl,rfl,hz,q⟩:=h
 obtain ⟨t,rfl⟩:=rx
 cases rv
 exact SCL.lower hz fun _=>⟨.str _,H,I.tok _,⟨_,rfl⟩,q⟩
theorem d4:∀ {ys:List Str} {us:List Value},bo (ys.map V.str) us→StrsAre us ys
 | [],_,r=>by
  rw [Eh] at r
  cases r
  exact .nil
 | y::ys,us,r=>by
  rw [Cq] at r
  cases r with
  | cons r1 r2 =>
   obtain ⟨t,e⟩:=r1
   subst e
   exact .cons y t (d4 r2)
inductive xi (K:PySem.W.Frag)(x:V)(vs:List V)(H:Hp)(Q:VK):Prop
 | mk:∀ z p ys,(x = .str z)→(vs=[.ref p])→(SqL K H p (ys.map V.str))→((ys.map (·.length)).sum+ys.length*z.length≤16777216)→(Q (.str (Txt.join z ys)) H)→xi K x vs H Q
theorem mZ:MtR X "str.join" (xi X.K):=by
 intro G6 s σ H x vs v us Q I rx rv h
 obtain ⟨z,p,ys,rfl,rfl,hq,hz,q⟩:=h
 obtain ⟨t,rfl⟩:=rx
 obtain ⟨u,rfl,ru⟩:=dC rv
 cases ru
 obtain ⟨its,r,pl,_⟩:=I.list hq
 exact join_list pl.isList (by simpa using d4 r) hz fun t' k=>⟨.str _,H,I.tok _,⟨_,rfl⟩,q⟩
inductive eK  (x:V)(y:V)(H:Hp)(Q:VK):Prop
 | mk:∀ z n,(x = .str z)→(y = .int n)→(MulOk z n)→(Q (.str (Txt.mul z n)) H)→eK x y H Q
theorem bt:OpR X (binaryOp .Mult) eK:=by
 intro G6 s σ H x y v u Q I rx ry h
 obtain ⟨z,n,rfl,rfl,hz,q⟩:=h
 obtain ⟨t,rfl⟩:=rx
 obtain ⟨t',rfl⟩:=ry
 exact SB.mul hz fun t' k=>⟨.str _,H,I.tok _,⟨_,rfl⟩,q⟩
end
theorem uq {z:Str}{g:TG}{tb:TS}{D:eQ}{σ:St}{H:Hp}(Pv:Nat→St→Hp→Prop)(h0:Pv 0 σ H)
  (hs:∀ i c σ H,z.cps[i]? = some c→Pv i σ H→g (.str ⟨#[c]⟩) σ H fun σ2 H2=>tb { D with nx:=Pv (i+1),ct:=Pv (i+1),bk:=D.nx } σ2 H2) (hd:∀ σ H,Pv z.cps.size σ H→D.nx σ H) :
  ∃ W:Nat→Nat→St→Hp→Prop,(∃ m,W 0 m σ H)∧∀ i m σ H,W i m σ H →
   ((Its z).stop i H∧D.nx σ H) ∨ ((Its z).go i H∧∃ N:St→Hp→Prop,(∀ σ' H',N σ' H'→∃ m',m' < m∧W (i+1) m' σ' H')∧∀ x H',(Its z).yld i H x H'→g x σ H' fun σ2 H2=>tb { D with nx:=N,ct:=N,bk:=D.nx } σ2 H2):=by
 refine ⟨fun i m σ H=>m=z.cps.size - i∧i≤z.cps.size∧Pv i σ H,⟨z.cps.size,by simp,CC _,h0⟩,?_⟩
 rintro i m σ H ⟨rfl,hi,p⟩
 by_cases Hg:i < z.cps.size
 ·refine .inr ⟨Hg,Pv (i+1),fun σ' H' p'=>⟨z.cps.size - (i+1),by omega,rfl,Hg,p'⟩,fun x H' y=>?_⟩
  obtain ⟨e,c,hc,ex⟩:=y
  subst e ex
  exact hs i c σ _ hc p
 ·have e:i=z.cps.size:=by omega
  subst e
  exact .inl ⟨rfl,hd σ H p⟩
end L2
namespace PySem
open Sem (wp)
open Builtin Builtin.SmallTypes
namespace F
theorem lookup_str_reversed:typeLookup (.type "str") "__reversed__" = pure none:=by rw [EY,DY]; kernel_rfl
theorem gT:Slot "reversed" "__init__" "object.__init__" :=
 .of (owner:="object") (n:="__init__") (by rw [EY,DY];kernel_rfl) (by decide +kernel) (by decide +kernel) (by decide +kernel)
  (by first | exact .inl (by decide +kernel) | exact .inr (by decide +kernel)) (by rw [Fk];kernel_rfl)
theorem called_rvs:TypeCalled "reversed" "reversed.__new__" "object.__init__" :=
 ⟨by decide +kernel,create_reversed,⟨_,_,mro_reversed⟩,made_reversed,plain_reversed_new,sub_reversed_self,gT⟩
end F
set_option maxHeartbeats 1000000 in
theorem m8 (x:Str)(t:Tok):Meets (Builtin.«reversed.__new__» ⟨[.type "reversed",.str x t],[]⟩) (fun _ R s=>¬ (x.length:Int)≥2 ^ 63 ∧
   ∀ tk,R (.ok (.ret (.ref s.heap.objs.size))) { s with heap:=s.heap.push { cls:=.type "reversed",data:=.fields #[.str x t,rawInt ((x.length:Int) - 1)] },toks:=tk }) :=
 .of_wp fun prog w A R s h=>by
  obtain ⟨hx,h⟩:=h
  unfold Builtin.«reversed.__new__»
  refine fu (EZ (newClass_reversed _) ?_)
  try dsimp only
  refine fu (EZ (a:=()) (by first | rfl | kernel_rfl) ?_)
  refine fu (EZ (a:=()) (by first | rfl | kernel_rfl) ?_)
  try dsimp only
  refine fu (FU (Fq s x t) F.lookup_str_reversed ?_)
  try dsimp only
  refine fu ?_
  have hl:=F.slot_str_getitem.lookup
  have hT:=Fq s x t
  have hD:isSubtype (.type "str") (.type "dict")=pure false:=by rw [Fk];kernel_rfl
  repeat (any_goals (first | assumption | refine PySem.P.len_str hx ?_ | wp_step))
  exact ⟨_,rfl,h _⟩
def Heap.IsRvs (h:Heap)(a:Addr)(x:Str)(t:Tok)(i:Int):Prop:=∃ o,h.get? a=some o∧o.cls = .type "reversed"∧o.data = .fields #[.str x t,rawInt i]
theorem Heap.IsRvs.typeIs {s:Shared}{a:Addr}{x:Str}{t:Tok}{i:Int}(y:s.heap.IsRvs a x t i):s.TypeIs (.ref a) "reversed":=let ⟨o,ho,hc,_⟩:=y; ⟨o,ho,hc⟩
namespace F
theorem slot_rvs_next:Slot "reversed" "__next__" "reversed.__next__" :=
 .of (owner:="reversed") (n:="__next__") (by rw [EY,DY];kernel_rfl) (by decide +kernel) (by decide +kernel) (by decide +kernel)
  (by first | exact .inl (by decide +kernel) | exact .inr (by decide +kernel)) (by rw [Fk];kernel_rfl)
theorem entry_rvs_next:entryFor table "reversed.__next__" = some Builtin.«reversed.__next__»:=entryFor_of_tree (by kernel_rfl)
theorem args_rvs_next (a:Value):argsOk "reversed.__next__" ⟨[a],[]⟩:=by unfold argsOk; kernel_rfl
theorem slot_rvs_iter:Slot "reversed" "__iter__" "reversed.__iter__" :=
 .of (owner:="reversed") (n:="__iter__") (by rw [EY,DY];kernel_rfl) (by decide +kernel) (by decide +kernel) (by decide +kernel)
  (by first | exact .inl (by decide +kernel) | exact .inr (by decide +kernel)) (by rw [Fk];kernel_rfl)
theorem args_rvs_iter (a:Value):argsOk "reversed.__iter__" ⟨[a],[]⟩:=by unfold argsOk; kernel_rfl
theorem entry_rvs_iter:entryFor table "reversed.__iter__" = some Builtin.«dict_keyiterator.__iter__» :=
 entryFor_alias (id':="dict_keyiterator.__iter__") (by kernel_rfl) rfl (by decide +kernel) (by kernel_rfl)
end F
section
variable {prog:Program} {w:World} {A:Around} {E:Value→Shared→Prop} {s:Shared} {x:Str} {t:Tok}
theorem iY {Q:Value→Shared→Prop}(hx:¬ (x.length:Int)≥2 ^ 63)
  (h:∀ tk,Q (.ref s.heap.objs.size) { s with heap:=s.heap.push { cls:=.type "reversed",data:=.fields #[.str x t,rawInt ((x.length:Int) - 1)] },toks:=tk }):wpAny (model prog w) A (call (.type "reversed") [.str x t]) Q E s :=
 callType_new F.called_rvs (by decide) (F.typeCall_reversed_1 _) (F.newCall_reversed_1 _) (fun obj=>F.args_object_init_2 obj _) F.entry_reversed_new (m8 x t) ⟨hx,fun tk=>⟨⟨_,B5 _ rfl,rfl⟩,h tk⟩⟩
theorem gU {it:Addr}{i:Int}{Q:Value→Shared→Prop}(hit:s.heap.IsRvs it x t i)(h:Q (.ref it) s):wpAny (model prog w) A (pyIter (.ref it)) Q E s:=by
 refine wpAny_pyIter_slot hit.typeIs F.slot_rvs_iter (C4 F.slot_rvs_iter hit.typeIs F.entry_rvs_iter ?_ (F.args_rvs_iter _))
 show wpAny _ _ (ret (.ref it)) _ _ s
 exact BH ⟨_,rfl,"reversed",_,hit.typeIs,F.slot_rvs_next.lookup,h⟩
theorem gW {it:Addr}{i:Nat}{c:Nat}{Q:Option Value→Shared→Prop}(hit:s.heap.IsRvs it x t (i:Int))(hx:x.cps[i]? = some c)(h63:(i:Int) < 2 ^ 63)
  (hQ:∀ h' tk u,h'.IsRvs it x t ((i:Int) - 1)→Heap.SameBut it s.heap h'→Q (some (.str ⟨#[c]⟩ u)) { s with heap:=h',toks:=tk }):wpAny (model prog w) A (pyNext (.ref it)) Q E s:=by
 obtain ⟨o,ho,hc,hd⟩:=id hit
 unfold pyNext
 refine fu (D2 (CJ (name:=Str.ofString "__next__") hit.typeIs F.slot_rvs_next
  (C4 F.slot_rvs_next hit.typeIs F.entry_rvs_next ?_ (F.args_rvs_next _))))
 unfold Builtin.«reversed.__next__»
 refine fu (EZ (a:=(Value.ref it,[])) rfl ?_)
 try dsimp only
 refine fu (Cp ho hd (x:=.str x t) rfl ?_)
 refine fu (Cp ho hd (x:=rawInt (i:Int)) rfl ?_)
 show wpAny _ _ (if (i:Int) < 0 then _ else _) _ _ s
 rw [if_neg (by omega)]
 refine fu (FU (Fq s x t) F.slot_str_getitem.lookup ?_)
 show wpAny _ _ (if (some (Value.builtin "str.__getitem__")).isNone=true then _ else _) _ _ s
 rw [if_neg (by decide)]
 refine fu (wpAny_mkInt ?_)
 have Hg:i < x.length:=by
  have:=Cs.mp hx
  exact this.1
 refine fu (D2 (PySem.P.getItem_str (c:=c) ?_ ?_ ?_))
 ·have e1:decide ((i:Int) < -(2 ^ 63:Int))=false:=BI (by omega)
  have e2:decide ((i:Int)≥2 ^ 63)=false:=BI (by omega)
  rw [e1,e2,Gg]
 ·rw [PySem.StrLaws.seqIndex_nonneg (by omega) (by omega)]
  simpa using hx
 try dsimp only
 refine fu (Cp ho hd (x:=rawInt (i:Int)) rfl ?_)
 show wpAny _ _ (setField (.ref it) 1 (rawInt ((i:Int) - 1)) >>= _) _ _ _
 refine fu (C9 ho hd (by simp) ?_)
 refine BH ⟨_,rfl,BH (hQ _ _ _ ?_ (E1 ..))⟩
 exact ⟨_,CH _ ho (CU (CG hd _)),(D3 ..).trans hc,by
  rw [CG hd];simp⟩
theorem iZ {it:Addr}{Q:Option Value→Shared→Prop}(hh:A.handled=none)(hit:s.heap.IsRvs it x t (-1))
  (hQ:∀ h',(∀ b o,b≠it→s.heap.get? b=some o→h'.get? b=some o)→Q none { s with heap:=h' }):wpAny (model prog w) A (pyNext (.ref it)) Q E s:=by
 obtain ⟨o,ho,hc,hd⟩:=id hit
 unfold pyNext
 refine fu (D2 (CJ (name:=Str.ofString "__next__") hit.typeIs F.slot_rvs_next
  (C4 F.slot_rvs_next hit.typeIs F.entry_rvs_next ?_ (F.args_rvs_next _))))
 unfold Builtin.«reversed.__next__»
 refine fu (EZ (a:=(Value.ref it,[])) rfl ?_)
 try dsimp only
 refine fu (Cp ho hd (x:=.str x t) rfl ?_)
 refine fu (Cp ho hd (x:=rawInt (-1)) rfl ?_)
 show wpAny _ _ (if (-1:Int) < 0 then _ else _) _ _ s
 rw [if_pos (by decide)]
 refine fu (Ei ?_)
 refine fu ?_
 show wpAny _ _ (setField (.ref it) 1 (rawInt (-1)) >>= fun _=>setField (.ref it) 0 .none) _ _ s
 refine fu (C9 ho hd (by simp) ?_)
 have ho2:=CH (Obj.mapFields fun a=>a.setIfInBounds 1 (rawInt (-1))) ho (CU (CG hd _))
 have hd2:=CG hd fun a=>a.setIfInBounds 1 (rawInt (-1))
 refine C9 ho2 hd2 (by simp) ?_
 generalize hh2:(s.heap.update it _).update it _=h2
 have kk:∀ b o,b≠it→s.heap.get? b=some o→h2.get? b=some o:=fun b o hb e=>by
  rw [← hh2]
  exact (Ck _ _ (Ne.symm hb)).trans ((Ck _ _ (Ne.symm hb)).trans e)
 have hz:A.in1.handled=none:=hh
 have sub:=isSubtype_stop
 repeat (any_goals (first | assumption | wp_step))
 unfold raiseNew
 refine fu (wpAny_handled ?_)
 rw [hz]
 refine fu (BH (Gf ?_))
 refine fu (wpAny_isInstance (T:="StopIteration") (b:=true) ?_ sub (BH (hQ _ fun b o hb e=>?_)))
 ·exact ⟨_,B5 _ rfl,rfl⟩
 exact BD _ (BD _ (kk b o hb e))
theorem m9 (hh:A.handled=none)(it:Addr)(x:Str)(t:Tok)(h63:(x.cps.size:Int) < 2 ^ 63) :
  Walks prog w A it [it] [it] x.cps.size (fun i v=>∃ c u,x.cps[x.cps.size - 1 - i]? = some c∧v = .str ⟨#[c]⟩ u) (fun i h=>i≤x.cps.size∧h.IsRvs it x t ((x.cps.size:Int) - 1 - (i:Int))) where
 sub:=fun _ hb=>hb
 frame:=fun _ _ _ st hk=>let ⟨l,o,ho,r⟩:=st;⟨l,o,hk it (by simp) o ho,r⟩
 item:=fun i s Q E hi y hQ=>by
  have e:(x.cps.size:Int) - 1 - (i:Int)=((x.cps.size - 1 - i:Nat):Int):=by omega
  have hit:=y.2
  rw [e] at hit
  have hx:x.cps[x.cps.size - 1 - i]? = some (x.cps[x.cps.size - 1 - i]'(by omega)):=DC (by omega)
  refine gW hit hx (by omega) fun h' tk u hit' hs'=>?_
  have e2:((x.cps.size - 1 - i:Nat):Int) - 1=(x.cps.size:Int) - 1 - ((i+1:Nat):Int):=by omega
  rw [e2] at hit'
  exact hQ _ h' tk ⟨_,u,hx,rfl⟩ ⟨hi,hit'⟩ fun b o hb eo=>hs'.extBut b o (fun h=>hb (by simp [h])) eo
 done:=fun s Q E y hQ=>by
  have e:(x.cps.size:Int) - 1 - (x.cps.size:Int) = -1:=by omega
  have hit:=y.2
  rw [e] at hit
  exact iZ hh hit fun h' he'=>hQ h' s.toks fun b o hb eo=>he' b o (fun h=>hb (by simp [h])) eo
 self:=fun _ _ _ _ y hQ=>gU y.2 hQ
end
end PySem
namespace L2
open PySem PySem.Spec PyProof.Rows
def zu (z:Str):It:=⟨fun i _=>i < z.cps.size,fun i H x H'=>H'=H∧∃ c,z.cps[z.cps.size - 1 - i]? = some c∧x = .str ⟨#[c]⟩,fun i _=>i=z.cps.size⟩
section
variable {X:Cx} {tg:Expr}
def zv (ta:TA):TI:=fun σ H R=>ta σ H fun vs H1=>∃ z,vs=[.str z]∧z.length≤sizeLine∧R (zu z) H1
theorem ur {a:Expr}{ta:TA}{p pos:Pos}(hg:Gl X "reversed")(hm:X.mg "reversed" = none)(hb:bootBuiltins "reversed" = some (.type "reversed"))(ha:PA X [a] ta)(hs:starEach [a] X.env=[(false,eval a X.env)]:=by rfl) :
  PI X tg (.Call (.Name "reversed" p) [a] [] pos) (zv ta):=by
 intro G6 s σ H R I h
 refine Call_ (gj I hg hm hb (Ds (thn (ha pos G6 s σ H _ I h) fun us s1 zq1=>?_) hs rfl))
 obtain ⟨vs,H1,I1,r1,q1⟩:=zq1
 obtain ⟨z,rfl,hz,q⟩:=q1
 obtain ⟨u,rfl,t,rfl⟩:=dC r1
 have hn:=fe
 have hsz:z.cps.size=z.length:=rfl
 refine iY (by omega) fun tk=>?_
 have hit:Heap.IsRvs (s1.heap.push { cls:=.type "reversed",data:=.fields #[.str z t,rawInt ((z.length:Int) - 1)] }) s1.heap.objs.size z t ((z.length:Int) - 1):=⟨_,B5 _ rfl,rfl,rfl⟩
 refine gU (s:={ s1 with heap:=s1.heap.push { cls:=.type "reversed",data:=.fields #[.str z t,rawInt ((z.length:Int) - 1)] },toks:=tk }) hit ?_
 refine ⟨s1.heap.objs.size,[s1.heap.objs.size],_,zu z,H1,rfl,I1.kept (t':=tk) fun b o e=>BD _ e,
  cG (T:="reversed") (fl:=fun i=>#[.str z t,rawInt ((z.cps.size:Int) - 1 - (i:Int))]) (fun A hh=>m9 hh _ z t (by omega)) (fun i h st=>st.2) (by decide) (fun i H g=>g) (fun i H g=>g)
   (fun i H u _ ⟨c,t',e,eu⟩=>⟨.str ⟨#[c]⟩,⟨t',eu⟩,rfl,c,e,rfl⟩) (fun A i s Q E st h=>gU st.2 h),⟨CC _,by simpa [hsz] using hit⟩,fun b hb=>?_,q⟩
 have e:b=s1.heap.objs.size:=by simpa using hb
 subst e
 exact I1.fpOk (BG _) (I1.hok.fresh (BG _))
structure DTx (K:PySem.W.Frag) (w:World) (a:Addr):Prop where
 ob:∃ (es:Array DictEntry) (n:Nat),K.lookup a=some ⟨.type "dict",none,.dict es n,#[]⟩∧PySem.W.KeysLit w.params es.toList
theorem ql {a:Addr}(D:DTx X.K X.w a):IxR X (fun x y H Q=>∃ z z' t,x = .ref a∧y = .str z∧PySem.W.nsIn X.K a z=some (some (.str z' t))∧Q (.str z') H):=by
 intro value slice G6 s σ H x y v u Q I rx ry h hs
 obtain ⟨z,z',t',rfl,rfl,e,q⟩:=h
 cases rx
 obtain ⟨t,rfl⟩:=ry
 obtain ⟨es,n,hl,hk⟩:=D.ob
 obtain ⟨m,F⟩:=I.fr
 exact PySem.W.topItem_K F I.ok.mod.kin hl hk e ⟨.str z',H,I.tok _,⟨_,rfl⟩,q⟩ hs
def qo (K:PySem.W.Frag)(a:Addr)(Q:VK):V→Hp→Prop:=fun y H1=>∃ z z' t,y = .str z∧PySem.W.nsIn K a z=some (some (.str z' t))∧Q (.str z') H1
def zw (K:PySem.W.Frag)(a:Addr)(ti:TE):TE:=fun σ H Q=>ti σ H (qo K a Q)
theorem uu {K:PySem.W.Frag}{w:World}{a:Addr}{x:Str}{i:Expr}{ti:TE}{p pos:Pos}(D:DTx K w a)(hK:X.K=K)(hw:X.w=w)(hg:Gl X x)(hm:X.mg x=some (.ref a))(hi:PE X i ti)(hs:mK i)
  (hd:(x == ("__debug__":Str))=false:=by decide):PE X (.Subscript (.Name x p) i pos) (zw K a ti):=by
 subst hK hw
 intro G6 s σ H Q I h
 refine F_ (cf I hg hm (thn (hi G6 s σ H _ I h) fun u s2 zq2=>?_) hd)
 obtain ⟨y,H2,I2,ry,z,z',t',e1,e2,q⟩:=zq2
 exact ql D _ _ G6 s2 σ H2 (.ref a) y (.ref a) u Q I2 rfl ry ⟨z,z',t',rfl,e1,e2,q⟩ (hs _ _)
end
end L2
namespace Wd
abbrev L:=Fin 12
def inv (x:L):L:=if h:x.val < 6 then ⟨x.val+6,by omega⟩ else ⟨x.val - 6,by omega⟩
theorem d5:∀ x:L,inv (inv x)=x:=by decide
def bk (w:List L):List L:=(w.map inv).reverse
theorem fD (u v:List L):bk (u++v)=bk v++bk u:=by simp [bk]
theorem xj (w:List L):bk (bk w)=w:=by
 unfold bk
 rw [List.map_reverse,List.reverse_reverse,EG]
 have:(inv ∘ inv)=id:=funext fun x=>d5 x
 rw [this,List.map_id]
theorem bJ (w:List L):(bk w).length=w.length:=by simp [bk]
theorem fF (x:L):bk [x]=[inv x]:=rfl
def push (st:List L)(x:L):List L:=match st with
 | []=>[x]
 | y::r=>if y=inv x then r else x::y::r
def act (w:List L)(st:List L):List L:=w.foldl push st
theorem gX (x:L)(w st:List L):act (x::w) st=act w (push st x):=rfl
theorem d6 (u v st:List L):act (u++v) st=act v (act u st):=by simp [act,List.foldl_append]
def Rd:List L→Prop
 | []=>True
 | [_]=>True
 | x::y::r=>y≠inv x∧Rd (y::r)
theorem Rd.tail:∀ {x:L} {r:List L},Rd (x::r)→Rd r
 | _,[],_=>trivial
 | _,_::_,h=>h.2
theorem m_ {st:List L}(x:L)(h:Rd st):Rd (push st x):=by
 cases st with
 | nil=>trivial
 | cons y r =>
  show Rd (if y=inv x then r else x::y::r)
  split
  ·exact h.tail
  ·rename_i hn
   exact ⟨hn,h⟩
theorem sN:∀ (w:List L) {st:List L},Rd st→Rd (act w st)
 | [],_,h=>h
 | x::w,st,h=>sN w (m_ x h)
theorem nc {st:List L}(x:L)(h:Rd st):push (push st x) (inv x)=st:=by
 cases st with
 | nil =>
  show (if x=inv (inv x) then [] else _)=_
  rw [if_pos (d5 x).symm]
 | cons y r =>
  show push (if y=inv x then r else x::y::r) (inv x)=y::r
  by_cases e:y=inv x
  ·rw [if_pos e]
   subst e
   cases r with
   | nil=>rfl
   | cons z r =>
    show (if z=inv (inv x) then r else inv x::z::r)=_
    rw [if_neg h.1]
  ·rw [if_neg e]
   show (if x=inv (inv x) then y::r else _)=_
   rw [if_pos (d5 x).symm]
def red (w:List L):List L:=(act w []).reverse
theorem sO:Rd []:=trivial
theorem jI (st:List L)(x:L):(push st x).length≤st.length+1:=by
 cases st with
 | nil=>simp [push]
 | cons y r =>
  show (if y=inv x then r else x::y::r).length≤_
  split
  ·simp only [B6];omega
  ·simp
theorem gC:∀ (w st:List L),(act w st).length≤st.length+w.length
 | [],_=>by simp [act]
 | x::w,st=>by
  have:=gC w (push st x)
  have:=jI st x
  rw [gX,B6]
  omega
theorem lQ (w:List L):(red w).length≤w.length:=by
 have:=gC w []
 simpa [red] using this
def rep:Nat→List L→List L
 | 0,_=>[]
 | n+1,w=>rep n w++w
theorem kE (w:List L):∀ n,rep n w++w=w++rep n w
 | 0=>by simp [rep]
 | n+1=>by
  show (rep n w++w)++w=w++(rep n w++w)
  rw [← BO,← kE w n]
theorem cZ (w:List L):∀ n,(rep n w).length=n*w.length
 | 0=>by simp [rep]
 | n+1=>by
  show (rep n w++w).length=_
  rw [BB,cZ w n,Nat.succ_mul]
def pw (w:List L)(n:Int):List L:=rep n.natAbs (if n < 0 then bk w else w)
def sP (k:Nat)(w:List L):Prop:=∀ i x y,i+1 < k→w[i]? = some x→w[i+1]? = some y→y≠inv x
theorem uv:∀ {w:List L} {k:Nat},w.length≤k→sP k w→act w []=w.reverse:=by
 have all:∀ (u st:List L),Rd st→(∀ x y,st.head? = some x→u.head? = some y→y≠inv x)→sP u.length u→act u st=u.reverse++st:=by
  intro u
  induction u with
  | nil=>intro st _ _ _;rfl
  | cons x u ih =>
   intro st h hd hr
   have e:push st x=x::st:=by
    cases st with
    | nil=>rfl
    | cons y r =>
     show (if y=inv x then r else _)=_
     rw [if_neg]
     intro e
     have:=hd y x rfl rfl
     rw [e,d5] at this
     exact this rfl
   rw [gX,e,ih (x::st),D0,BO]
   ·rfl
   ·rw [← e];exact m_ x h
   ·intro a b ha hb
    have ea:a=x:=(BW ha).symm
    subst ea
    cases u with
    | nil=>cases hb
    | cons c u =>
     have eb:b=c:=(BW hb).symm
     subst eb
     exact hr 0 a b (by simp) rfl rfl
   ·intro i a b hi ha hb
    exact hr (i+1) a b (by simp only [B6];omega) ha hb
 intro w k hk h
 have:=all w [] sO (fun x y hx=>by cases hx) (fun i x y hi=>h i x y (by omega))
 simpa using this
theorem jJ {w:List L}{k:Nat}(hk:w.length≤k)(h:sP k w):red w=w:=by
 unfold red
 rw [uv hk h,List.reverse_reverse]
theorem ng {w:List L}{k:Nat}(h:sP (k+1) w)(hn:∀ x y,w[k]? = some x→w[k+1]? = some y→y≠inv x):sP (k+2) w:=by
 intro i x y hi hx hy
 by_cases e:i=k
 ·subst e;exact hn x y hx hy
 ·exact h i x y (by omega) hx hy
theorem qp {w:List L}{k:Nat}(h:sP (k+1) w):sP (k - 1+1) (w.take k++w.drop (k+2)):=by
 intro i x y hi hx hy
 by_cases hk:k=0
 ·omega
 ·have e1:(w.take k++w.drop (k+2))[i]? = w[i]?:=by
   by_cases hl:i < (w.take k).length
   ·rw [CL hl,CO (by omega)]
   ·rw [BJ] at hl
    rw [CV (l:=w) (by omega)]
    rw [CV]
    rw [BB,BJ,B0]
    omega
  have e2:(w.take k++w.drop (k+2))[i+1]? = w[i+1]?:=by
   by_cases hl:i+1 < (w.take k).length
   ·rw [CL hl,CO (by omega)]
   ·rw [BJ] at hl
    rw [CV (l:=w) (by omega)]
    rw [CV]
    rw [BB,BJ,B0]
    omega
  rw [e1] at hx
  rw [e2] at hy
  exact h i x y (by omega) hx hy
theorem uw {w:List L}{k:Nat}{x:L}(hx:w[k]? = some x)(hy:w[k+1]? = some (inv x)):red (w.take k++w.drop (k+2))=red w:=by
 obtain ⟨h1,e1⟩:=BF.mp hx
 obtain ⟨h2,e2⟩:=BF.mp hy
 have e:w=w.take k++([x,inv x]++w.drop (k+2)):=by
  have a:=(B_ k w).symm
  have b:w.drop k=x::inv x::w.drop (k+2):=by
   rw [Ct h1,Ct h2,e1,e2]
  rw [b] at a
  exact a
 have q:red (w.take k++([x,inv x]++w.drop (k+2)))=red (w.take k++w.drop (k+2)):=by
  unfold red
  rw [d6,d6,d6]
  show (act (w.drop (k+2)) (push (push (act (w.take k) []) x) (inv x))).reverse=_
  rw [nc x (sN _ sO)]
 rw [← q,← e]
end Wd
namespace L2
open PySem PySem.Spec PyProof.Rows Wd
def cp (x:L):Nat:=if x.val < 6 then 97+x.val else 59+x.val
theorem ux:∀ x:L,cp x < 128:=by decide
theorem xk:∀ x y:L,cp x=cp y→x=y:=by decide
def toS (w:List L):Str:=⟨(w.map cp).toArray⟩
def tx (w:List L):V:=.str (toS w)
theorem ck (w:List L):(toS w).cps.toList=w.map cp:=by simp [toS]
theorem ah (w:List L):(toS w).length=w.length:=by simp [toS,Str.length]
theorem eV (w:List L):(toS w).cps.size=w.length:=by simp [toS]
theorem cA (u v:List L):toS u++toS v=toS (u++v):=by
 apply Str.ext'
 rw [Str.cps_append]
 simp [toS]
theorem d7:∀ {u v:List L},u.map cp=v.map cp→u=v
 | [],[],_=>rfl
 | [],_::_,h=>by simp at h
 | _::_,[],h=>by simp at h
 | x::u,y::v,h=>by
  simp only [Cq,List.cons.injEq] at h
  rw [xk x y h.1,d7 h.2]
theorem cH {u v:List L}(h:toS u=toS v):u=v:=by
 have:(toS u).cps.toList=(toS v).cps.toList:=by rw [h]
 rw [ck,ck] at this
 exact d7 this
theorem kF {u v:List L}(h:tx u=tx v):u=v:=cH (V.str.inj h)
theorem uy:toS []=("":Str):=by decide +kernel
theorem dN:tx []=V.str ("":Str):=Ci V.str uy
theorem nh (u v:List L):decide (tx u=tx v)=decide (u=v):=by
 by_cases h:u=v
 ·subst h;simp
 ·rw [BI h,BI fun e=>h (kF e)]
theorem uz:toS [0,1,2,3,4,5]=("abcdef":Str):=by decide +kernel
theorem big:toS [6,7,8,9,10,11]=("ABCDEF":Str):=by decide +kernel
theorem nj {w:List L}{i c:Nat}(h:(toS w).cps[i]? = some c):∃ x,w[i]? = some x∧(⟨#[c]⟩:Str)=toS [x]:=by
 have h:((w.map cp).toArray)[i]? = some c:=h
 rw [List.getElem?_toArray,B7] at h
 cases e:w[i]? with
 | none=>rw [e] at h;cases h
 | some x =>
  rw [e] at h
  have:cp x=c:=BW h
  exact ⟨x,rfl,by rw [← this];rfl⟩
theorem bB {w:List L}{k:Nat}{x:L}{i:Int}(hk:i=(k:Int))(h:w[k]? = some x):atI (toS w).cps.toList i=some (cp x):=by
 subst hk
 rw [ck]
 obtain ⟨hl,e⟩:=BF.mp h
 unfold atI ixN
 rw [if_pos (by omega),if_pos (by rw [BK];omega)]
 show (w.map cp)[((k:Nat):Int).toNat]? = _
 rw [BQ,B7,h]
 rfl
def jK (w:List L)(lo hi:Option Int):List L:=(w.drop (HT.sIx w.length 0 lo)).take (HT.sIx w.length w.length hi - HT.sIx w.length 0 lo)
theorem uA (lo hi:Option Int)(n:Nat):Builtin.Str.strSliceIndices lo hi 1 n=(List.range (HT.sIx n n hi - HT.sIx n 0 lo)).map (fun k=>HT.sIx n 0 lo+k):=by
 have cl:∀ v:Int,max (0:Int) (min (if v < 0 then v+(n:Int) else v) (n:Int))=(((if v < 0 then (v+(n:Int)).toNat else min v.toNat n):Nat):Int):=fun v=>by
  by_cases hv:v < 0
  ·simp only [if_pos hv];omega
  ·simp only [if_neg hv];omega
 have fin:∀ a b:Nat,sliceRange (a:Int) (b:Int) 1=(List.range (b - a)).map (fun k=>a+k):=fun a b=>by
  unfold sliceRange
  simp only [show ((1:Int) > 0)=True from by simp,Dx]
  by_cases Hg:(a:Int) < b
  ·have e3:(((b:Int) - a+1 - 1) / 1).toNat=b - a:=by first | omega | (simp;done) | (simp;omega)
   simp only [Hg,Dx,e3]
   exact List.map_congr_left fun k _=>by omega
  ·have:b - a=0:=by omega
   simp [Hg,this]
 unfold Builtin.Str.strSliceIndices
 simp only [show ((1:Int) > 0)=True from by simp,Dx]
 cases lo with
 | none =>
  cases hi with
  | none=>exact fin 0 n
  | some j=>simp only [cl];exact fin 0 _
 | some i =>
  cases hi with
  | none=>simp only [cl];exact fin _ n
  | some j=>simp only [cl];exact fin _ _
theorem az (w:List L)(lo hi:Option Int):Txt.slice (toS w) lo hi=toS (jK w lo hi):=by
 have h1:=HT.mI w.length 0 (CC _) lo
 have h2:=HT.mI w.length w.length (BG _) hi
 unfold Txt.slice
 rw [uA,ah]
 split
 ·rename_i h
  have hl:HT.sIx w.length w.length hi - HT.sIx w.length 0 lo=w.length:=by simpa using h
  have e:jK w lo hi=w:=by
   unfold jK
   rw [hl]
   have ha:HT.sIx w.length 0 lo=0 ∨ w.length=0:=by omega
   rcases ha with ha | ha
   ·rw [ha,ED,Eb]
   ·have:w=[]:=EI ha
    subst this
    simp
  rw [e]
 ·apply Str.ext'
  show (List.filterMap _ _).toArray=_
  have e:=StrLaws.picks (w.map cp) (HT.sIx w.length w.length hi - HT.sIx w.length 0 lo) (HT.sIx w.length 0 lo)
  by_cases hle:HT.sIx w.length 0 lo≤HT.sIx w.length w.length hi
  ·have e:=e (by rw [BK];omega)
   have e2:(fun k:Nat=>(toS w).cps[k]?)=fun k:Nat=>(w.map cp)[k]?:=funext fun k=>by simp [toS]
   rw [e2,e]
   simp [toS,jK,Gh,Gi]
  ·have z:HT.sIx w.length w.length hi - HT.sIx w.length 0 lo=0:=by omega
   rw [z]
   simp [toS,jK,z]
theorem bF (w:List L){n:Int}(h:0≤n):jK w none (some n)=w.take n.toNat:=by
 obtain ⟨k,rfl⟩:=B9 h
 unfold jK
 rw [HT.gI,HT.cF,ED,FV,BQ]
 by_cases hk:k≤w.length
 ·rw [Dv hk]
 ·rw [Dh (by omega),Eb,BV (by omega)]
theorem bh (w:List L){n:Int}(h:0≤n):jK w (some n) none=w.drop n.toNat:=by
 obtain ⟨k,rfl⟩:=B9 h
 unfold jK
 rw [HT.gI,HT.cF,BQ]
 by_cases hk:k≤w.length
 ·rw [Dv hk,BV (by rw [B0];omega)]
 ·rw [Dh (by omega),DP,Dw (by omega)]
  simp
theorem c7 (w:List L)(lo hi:Option Int):(jK w lo hi).length≤w.length:=by
 unfold jK
 rw [BJ,B0]
 omega
theorem nk (w:List L):Txt.upper (toS w)=⟨((w.map cp).map up1).toArray⟩:=by
 rw [upper_ascii fun c hc=>by rw [ck] at hc;obtain ⟨x,_,rfl⟩:=CN.mp hc;exact ux x]
 simp [toS]
theorem i0 (w:List L):Txt.lower (toS w)=⟨((w.map cp).map lo1).toArray⟩:=by
 rw [lower_ascii fun c hc=>by rw [ck] at hc;obtain ⟨x,_,rfl⟩:=CN.mp hc;exact ux x]
 simp [toS]
theorem zx:∀ x:L,x.val < 6→up1 (cp x)=cp (inv x):=by decide
theorem zy:∀ x:L,¬ x.val < 6→lo1 (cp x)=cp (inv x):=by decide
theorem fG {x:L}(h:x.val < 6):Txt.upper (toS [x])=toS [inv x]:=by
 rw [nk]
 show (⟨#[up1 (cp x)]⟩:Str)=⟨#[cp (inv x)]⟩
 rw [zx x h]
theorem i3 {x:L}(h:¬ x.val < 6):Txt.lower (toS [x])=toS [inv x]:=by
 rw [i0]
 show (⟨#[lo1 (cp x)]⟩:Str)=⟨#[cp (inv x)]⟩
 rw [zy x h]
theorem ex1:∀ x:L,cp x∈List.map cp [0,1,2,3,4,5]→x.val < 6:=by decide
theorem ex2:∀ x:L,x.val < 6→(List.map cp [0,1,2,3,4,5])[x.val]? = some (cp x):=by decide
theorem qr (x:L):(!(Builtin.Str.occurrences ("abcdef":Str) (toS [x]) 0 ("abcdef":Str).length 1).isEmpty)=decide (x.val < 6):=by
 have h:=StrLaws.found_iff ("abcdef":Str) (toS [x])
 have e:(∃ i,i+(toS [x]).length≤("abcdef":Str).length∧Builtin.Str.subAt ("abcdef":Str) (toS [x]) i=true) ↔ x.val < 6:=by
  have e2:∀ i,(i+(toS [x]).length≤("abcdef":Str).length∧Builtin.Str.subAt ("abcdef":Str) (toS [x]) i=true) ↔ ("abcdef":Str).cps.toList[i]? = some (cp x):=fun i=>StrLaws.subAt_one _ _ _
  rw [show (("abcdef":Str))=toS [0,1,2,3,4,5] from uz.symm] at e2 ⊢
  constructor
  ·rintro ⟨i,hi⟩
   have hi:=(e2 i).mp hi
   rw [ck] at hi
   exact ex1 x (B8 hi)
  ·intro hx
   refine ⟨x.val,(e2 x.val).mpr ?_⟩
   rw [ck]
   exact ex2 x hx
 rw [Du,h,e,decide_eq_true_iff]
theorem qu:∀ w:List L,Txt.join ("":Str) (w.map fun x=>toS [x])=toS w:=by
 intro w
 have e0:("":Str)=Str.empty:=by decide +kernel
 unfold Txt.join
 rw [StrLaws.glued_eq_join,e0]
 induction w with
 | nil=>rfl
 | cons x r ih =>
  cases r with
  | nil=>rfl
  | cons y r =>
   show toS [x]++Str.empty++Str.join Str.empty ((y::r).map fun x=>toS [x])=_
   rw [ih,Str.append_empty,cA]
   rfl
theorem uB (w:List L):((w.map fun x=>toS [x]).map (·.length)).sum=w.length:=by
 induction w with
 | nil=>rfl
 | cons x r ih =>
  simp only [Cq,List.sum_cons,B6]
  rw [ih,ah]
  simp only [CS]
  omega
theorem eL (w:List L):∀ (n:Nat) (acc:Array Nat),(List.replicate n (toS w).cps).foldl (· ++ ·) acc=acc++((rep n w).map cp).toArray
 | 0,acc=>by simp [rep]
 | n+1,acc=>by
  rw [Dk,FT,eL w n]
  show _=acc++((rep n w++w).map cp).toArray
  rw [kE]
  simp [toS]
theorem nq:∀ n,rep n ([]:List L)=[]
 | 0=>rfl
 | n+1=>by show rep n []++[]=[];rw [nq n];rfl
theorem gY (w:List L)(n:Int):Txt.mul (toS w) n=toS (rep n.toNat w):=by
 unfold Txt.mul
 by_cases h1:n < 1
 ·rw [if_pos h1]
  have:n.toNat=0:=by omega
  rw [this]
  rfl
 ·rw [if_neg h1]
  split
  ·rename_i h
   rw [ah] at h
   simp only [Bool.or_eq_true,Dz] at h
   rcases h with h | h
   ·subst h
    show toS w=toS (rep 1 w)
    show toS w=toS ([]++w)
    rfl
   ·have:w=[]:=EI h
    subst this
    rw [nq]
  ·apply Str.ext'
   show (List.replicate n.toNat (toS w).cps).foldl (· ++ ·) #[]=_
   rw [eL]
   simp [toS]
theorem fH (w:List L){n:Int}(h1:-1000000≤n)(h2:n≤1000)(hw:w.length≤10000):MulOk (toS w) n:=by
 refine ⟨?_,fun hn _=>?_,fun hn _=>?_⟩
 ·have e1:decide (n < -(2 ^ 63:Int))=false:=BI (by omega)
  have e2:decide (n≥2 ^ 63)=false:=BI (by omega)
  rw [e1,e2,Gg]
 ·rw [ah]
  have hn1:1≤n:=by omega
  have q:(9223372036854775:Int)≤(2 ^ 63 - 1) / n:=by
   rw [Int.le_ediv_iff_mul_le (by omega)]
   omega
  omega
 ·rw [ah]
  unfold Builtin.Str.tooLong
  have e:sizeLine=16777216:=Di
  obtain ⟨k,rfl⟩:=B9 (show 0≤n by omega)
  have hk:k≤1000:=by omega
  rw [BQ]
  have q:w.length*k≤10000*1000:=Nat.mul_le_mul hw hk
  exact BI (by omega)
structure Fnc (P:Program) (w:World) (K:PySem.W.Frag) (mg:Str→Option Value) (base:Heap) (x:Str) (ps:List Str) (k:Nat) (sp:Sp):Prop where
 ex:∃ (f:Addr) (fd:FuncData),mg x=some (.ref f)∧PySem.W.keepIn K (.ref f)=true∧dH K fd ps []∧fZ P w K mg base CX0 k f fd ps sp
theorem aG {X:Cx}{x:Str}{ps:List Str}{k j:Nat}{sp:Sp}{e:Expr}{es:List Expr}{t:TA}{p pos:Pos}(F:Fnc X.prog X.w X.K X.mg X.base x ps j sp)(hr:dj k X.A)(hj:j≤k)(hg:Gl X x)(ha:PA X (e::es) t)
  (HM:(x == ("__debug__":Str))=false:=by decide) (he:starEach (e::es) X.env=(false,eval e X.env)::starEach es X.env:=by rfl) (HV:(backTo pos (starEach es X.env)).any (·.1)=false:=by rfl) :
  PE X (.Call (.Name x p) (e::es) [] pos) (lN sp [] E0 t):=by
 obtain ⟨f,fd,hm,hk,hb,F⟩:=F.ex
 exact mH F (hr.mono hj) hg hm hk hb .nil xf ha HM he HV
structure Df (K:PySem.W.Frag) (mg:Str→Option Value) (x:Str) (st:Stmt):Prop where
 ex:∃ (f:Addr) (fd:FuncData),mg x=some (.ref f)∧Fun K x x st f fd
theorem Df.ok {P:Program}{w:World}{K:PySem.W.Frag}{mg:Str→Option Value}{base:Heap}{x:Str}{st:Stmt}{N ps:List Str}{k:Nat}{sp:Sp}(D:Df K mg x st)(S:aN N ps (ao st))
  (hb:∀ (kV doc pm:Value) (an:Option Addr) (Hb ct:Value) (us:List Value),us.length=ps.length→bindArgs (PySem.W.fnOf x x (bU st) (bE st) (ao st) .none kV doc pm an Hb ct) ⟨us,[]⟩=pure (ps.zip us))
  (len:∀ vs H Q E,sp vs H Q E→vs.length=ps.length)
  (Hq:∀ (f:Addr) (Hb:Value) (A:Around) (outer:List Env) (s:Shared) (H:Hp) (vs:List V) (Q:VK) (E:XK),dj k (A.deeper (envOfC x (ao st) s.heap.objs.size f Hb))→sp vs H Q E →
   ∃ t,PSs (jD CX0 P w K mg base N x (ao st) f Hb A outer s H E).nox (bE st) t∧t { nx:=fun _ H'=>Q .non H',rt:=Q } (start N vs) H):Fnc P w K mg base x ps (k+1) sp:=by
 obtain ⟨f,fd,hm,F⟩:=D.ex
 exact ⟨f,fd,hm,F.kp,F.binds hb,F.ok S len fun Hb A outer s H vs Q E hr h=>Hq f Hb A outer s H vs Q E hr h⟩
def ba (d:Addr)(H H':Hp):Prop:=∀ b o,b≠d→H b=some o→H' b=some o
theorem ba.refl (d:Addr)(H:Hp):ba d H H:=fun _ _ _ h=>h
theorem ba.trans {d:Addr}{H H1 H2:Hp}(a:ba d H H1)(b:ba d H1 H2):ba d H H2:=fun c o n h=>b c o n (a c o n h)
theorem aF.b {d:Addr}{H H':Hp}(a:aF H H'):ba d H H':=fun b o _ h=>a b o h
theorem aF.new {H:Hp}{a:Addr}{o:HO}(h:H a=none):aF H (upd H a o):=fun b u e=>by rw [ay (aE e h)]; exact e
theorem ba.upd {d:Addr}{H:Hp}{o:HO}:ba d H (upd H d o):=fun b u n e=>by rw [ay n]; exact e
theorem aF.then {H H1:Hp}{a:Addr}{o:HO}(s:aF H H1)(h:H1 a=none):aF H (L2.upd H1 a o):=s.trans (aF.new h)
def kS (x:Str):Key:=.inr x
def fkv (c:Addr)(i l t:Int):List (Key × V):=[(kS "cells",.ref c),(kS "at",.int i),(kS "left",.int l),(kS "turn",.int t)]
theorem zA:¬ (kS "cells" = kS "at"):=by decide +kernel
theorem zB:¬ (kS "cells" = kS "left"):=by decide +kernel
theorem zC:¬ (kS "cells" = kS "turn"):=by decide +kernel
theorem yX:¬ (kS "at" = kS "left"):=by decide +kernel
theorem yY:¬ (kS "at" = kS "turn"):=by decide +kernel
theorem yZ:¬ (kS "left" = kS "turn"):=by decide +kernel
theorem eW {κ:Type}[DecidableEq κ]{k:κ}{v:V}{r:List (κ × V)}:gf ((k,v)::r) k=some v:=by unfold gf; simp
theorem cB {κ:Type}[DecidableEq κ]{k k':κ}{v:V}{r:List (κ × V)}(h:¬ k'=k):gf ((k',v)::r) k=gf r k:=by unfold gf; simp [h]
theorem nu (c:Addr)(i l t:Int):gf (fkv c i l t) (kS "cells")=some (.ref c):=eW
theorem AL (c:Addr)(i l t:Int):gf (fkv c i l t) (kS "at")=some (.int i):=(cB zA).trans eW
theorem i4 (c:Addr)(i l t:Int):gf (fkv c i l t) (kS "left")=some (.int l):=(cB zB).trans ((cB yX).trans eW)
theorem nv (c:Addr)(i l t:Int):gf (fkv c i l t) (kS "turn")=some (.int t):=(cB zC).trans ((cB yY).trans ((cB yZ).trans eW))
theorem Bg:¬ (kS "turn" = kS "at"):=fun e=>yY e.symm
theorem Bh:¬ (kS "left" = kS "at"):=fun e=>yX e.symm
theorem Bi:¬ (kS "turn" = kS "left"):=fun e=>yZ e.symm
theorem Bj (c:Addr)(i l t z:Int):fv (fkv c i l t) (kS "at") (.int z)=fkv c z l t:=by simp [fv,fkv,zA,Bh,Bg]
theorem ny (c:Addr)(i l t z:Int):fv (fkv c i l t) (kS "left") (.int z)=fkv c i z t:=by simp [fv,fkv,zB,yX,Bi]
theorem xm (c:Addr)(i l t z:Int):fv (fkv c i l t) (kS "turn") (.int z)=fkv c i l z:=by simp [fv,fkv,zC,yY,yZ]
theorem fJ (c:Addr)(i l t:Int):(fkv c i l t).length < sizeLine:=by show 4 < sizeLine; decide
theorem zD (c:Addr)(i l t:Int):fw [] (fkv c i l t)=fkv c i l t:=by simp [fw,fv,fkv,zA,zB,zC,yX,yY,yZ]
structure Fd (H:Hp) (d:Addr):Prop where
 ex:∃ (c:Addr) (i l t:Int) (ns:List Int),H d=some (.dK (fkv c i l t))∧H c=some (.lst (ns.map V.int))∧ns≠[]∧ns.length≤64
theorem Fd.same {H H':Hp}{d:Addr}(F:Fd H d)(s:aF H H'):Fd H' d:=by
 obtain ⟨c,i,l,t,ns,h1,h2,h3,h4⟩:=F.ex
 exact ⟨c,i,l,t,ns,s _ _ h1,s _ _ h2,h3,h4⟩
theorem Fd.new {H:Hp}{d a:Addr}{o:HO}(F:Fd H d)(h:H a=none):Fd (upd H a o) d:=F.same (aF.new h)
theorem Fd.ne {H:Hp}{d a:Addr}(F:Fd H d)(h:H a=none):a≠d:=by
 obtain ⟨c,i,l,t,ns,h1,h2,h3,h4⟩:=F.ex
 exact (aE h1 h).symm
theorem Fd.nl {H:Hp}{d a:Addr}{xs:List V}(F:Fd H d)(h:H a=some (.lst xs)):a≠d:=by
 obtain ⟨c,i,l,t,ns,h1,h2,h3,h4⟩:=F.ex
 exact gG h h1 (by intro z;cases z)
inductive cC (vs:List V)(H:Hp)(Q:VK)(Hc:XK):Prop
 | mk:∀ (d:Addr) (m:Int),(vs=[.ref d,.int m])→(Fd H d)→(0 < m)→(m < 1000000)→(∀ (r:Int) (H':Hp),0≤r→r < m→Fd H' d→ba d H H'→Q (.int r) H')→cC vs H Q Hc
inductive nz (K:PySem.W.Frag)(vs:List V)(H:Hp)(Q:VK)(Hc:XK):Prop
 | mk:∀ (a:Addr) (ns:List Int),(vs=[.ref a])→(SqL K H a (ns.map V.int))→(ns.length≤63)→(∀ (d:Addr) (H':Hp),H d=none→Fd H' d→aF H H'→Q (.ref d) H')→nz K vs H Q Hc
theorem uC {ns:List Int}(h:ns≠[])(i:Int):∃ n:Int,atI (ns.map V.int) (i % ((ns.map V.int).length:Int))=some (.int n):=by
 have hl:0 < ns.length:=CW.mpr h
 rw [BK]
 have h0:=E2 i (show (ns.length:Int)≠0 by omega)
 have h1:=En i (show (0:Int) < ns.length by omega)
 obtain ⟨k,hk⟩:=B9 h0
 rw [hk] at h1 ⊢
 have hk':k < ns.length:=by omega
 refine ⟨ns[k],?_⟩
 unfold atI ixN
 rw [if_pos (by omega),if_pos (by rw [BK];omega)]
 show (ns.map V.int)[((k:Nat):Int).toNat]? = _
 rw [BQ,B7,BC hk']
 rfl
mutual
inductive Dt (H:Hp):V→PyData→Prop where
 | non:Dt H .non .none
 | bl (b:Bool):Dt H (.bl b) (.bool b)
 | int (i:Int):Dt H (.int i) (.int i)
 | str (x:Str):Dt H (.str x) (.str x)
 | lst {a:Addr} {xs:List V} {ds:List PyData}:H a=some (.lst xs)→Dts H xs ds→Dt H (.ref a) (.list ds)
 | tup {a:Addr} {xs:List V} {ds:List PyData}:H a=some (.tup xs)→Dts H xs ds→Dt H (.ref a) (.tuple ds)
inductive Dts (H:Hp):List V→List PyData→Prop where
 | nil:Dts H [] []
 | cons {v:V} {d:PyData} {vs:List V} {ds:List PyData}:Dt H v d→Dts H vs ds→Dts H (v::vs) (d::ds)
end
section
variable {P:Program} {w:World} {H:Hp} {h:Heap}
mutual
theorem Dt.reads (ok:HOk P w H h):∀ {v:V} {d:PyData},Dt H v d→∀ {u:Value},bH v u→∃ as,Reads h u d as
 | _,_,.non,u,r=>by cases r;exact ⟨_,.none⟩
 | _,_,.bl b,u,r=>by cases r;exact ⟨_,.bool b⟩
 | _,_,.int i,u,r=>by obtain ⟨t,rfl⟩:=r;exact ⟨_,.int i t⟩
 | _,_,.str x,u,r=>by obtain ⟨t,rfl⟩:=r;exact ⟨_,.str x t⟩
 | _,_,.lst e q,u,r=>by
  cases r
  obtain ⟨_,its,n,rv,g⟩:=ok _ _ e
  obtain ⟨as,ra⟩:=Dts.reads ok q rv
  exact ⟨_,.list g rfl rfl (by simpa using ra)⟩
 | _,_,.tup e q,u,r=>by
  cases r
  obtain ⟨_,its,rv,⟨ob,g,c,n,d⟩,_⟩:=ok _ _ e
  obtain ⟨as,ra⟩:=Dts.reads ok q rv
  exact ⟨_,.tuple g c d (by simpa using ra)⟩
theorem Dts.reads (ok:HOk P w H h):∀ {vs:List V} {ds:List PyData},Dts H vs ds→∀ {us:List Value},bo vs us→∃ as,ReadsAll h us ds as
 | _,_,.nil,_,r=>by cases r;exact ⟨_,.nil⟩
 | _,_,.cons q qs,_,r=>by
  cases r with
  | cons r rs =>
   obtain ⟨as,a1⟩:=Dt.reads ok q r
   obtain ⟨bs,a2⟩:=Dts.reads ok qs rs
   exact ⟨_,.cons a1 a2⟩
end
end
structure Sh (d:PyData):Prop where
 sh:d.showable=true
 nd:d.hasDict=false
 dp:d.depth≤10
 sz:d.shown.length≤sizeLine
section
variable {X:Cx}
inductive cX  (xs:List V)(H:Hp)(Q:VK):Prop
 | mk:∀ a d,(xs=[.ref a])→(Dt H (.ref a) d)→(Sh d)→(Q (.str d.shown) H)→cX xs H Q
theorem dO (hg:X.A.guards=some [])(hu:X.A.units+64 < cLine):cE X (.builtin "repr") cX:=by
 intro G6 s σ H xs us Q I r h
 obtain ⟨a,d,rfl,q,S,hQ⟩:=h
 obtain ⟨u,rfl,ru⟩:=dC r
 cases ru
 obtain ⟨as,rd⟩:=q.reads I.hok (u:=.ref a) rfl
 refine repr_of_reads' rd S.sh (PyData.noDict_hsm S.nd) hg (by have:=S.dp;omega) (fun _ _ e=>e) (fun h' u tk hk=>?_) S.sz
 exact ⟨.str _,H,I.kept hk,⟨_,rfl⟩,hQ⟩
end
def zF (m:Str)(ys:List Str):Prop:=m∈ys∧∀ y∈ys,m.cps.toList≤y.cps.toList
theorem eM:∀ (r:List Str) (x:Str),risingS x r=true→zF x (x::r)
 | [],x,_=>⟨by simp,fun y hy=>by rw [BE.mp hy];exact List.le_refl _⟩
 | z::r,x,h=>by
  unfold risingS at h
  rw [Cw] at h
  have h1:x.cps.toList≤z.cps.toList:=by
   have:=h.1
   rw [ltCps_eq] at this
   exact List.not_lt.mp (by simpa using this)
  have ih:=eM r z h.2
  refine ⟨by simp,fun y hy=>?_⟩
  rcases B2.mp hy with e | hy
  ·rw [e];exact List.le_refl _
  ·exact List.le_trans h1 (ih.2 y hy)
theorem eN:∀ {us:List Value} {ys:List Str},StrsAre us ys→bo (ys.map V.str) us
 | _,_,.nil=>.nil
 | _,_,.cons y t r=>.cons ⟨t,rfl⟩ (eN r)
section
variable {X:Cx}
end
end L2
namespace Kx
open PySem PySem.Spec PyProof.Rows L2 Wd
theorem xo:bootBuiltins "list" = some (.type "list"):=by kernel_rfl
theorem qv:bootBuiltins "int" = some (.type "int"):=by kernel_rfl
theorem uD:bootBuiltins "max" = some (.builtin "max"):=by kernel_rfl
theorem kG:bootBuiltins "repr" = some (.builtin "repr"):=by kernel_rfl
theorem zG:bootBuiltins "min" = some (.builtin "min"):=by kernel_rfl
theorem qw:bootBuiltins "sorted" = some (.builtin "sorted"):=by kernel_rfl
theorem d8:bootBuiltins "tuple" = some (.type "tuple"):=by kernel_rfl
theorem bc:bootBuiltins "isinstance" = some (.builtin "isinstance"):=by kernel_rfl
theorem xq:bootBuiltins "all" = some (.builtin "all"):=by kernel_rfl
theorem xr:bootBuiltins "str" = some (.type "str"):=by kernel_rfl
theorem lS:bootBuiltins "reversed" = some (.type "reversed"):=by kernel_rfl
structure Bt (K:PySem.W.Frag) (w:World) (mg:Str→Option Value) (aB:Addr):Prop where
 len:mg "len" = none
 repr:mg "repr" = none
 abs:mg "abs" = none
 max:mg "max" = none
 int:mg "int" = none
 list:mg "list" = none
 range:mg "range" = none
 reversed:mg "reversed" = none
 min:mg "min" = none
 sorted:mg "sorted" = none
 tuple:mg "tuple" = none
 isinstance:mg "isinstance" = none
 all:mg "all" = none
 str:mg "str" = none
 zip:mg "zip" = none
 mgB:mg "BACKS" = some (.ref aB)
 dB:DTx K w aB
 gB:∀ x:L,∃ t,PySem.W.nsIn K aB (toS [x])=some (some (.str (toS [inv x]) t))
theorem dg {H:Hp}{d:Addr}{G_:List (Key × V)}{k:Str}{v:V}(h:H d=some (.dK G_))(e:gf G_ (kS k)=some v):ug H d (.str k) (some v):=by
 have q:=ug.k (k:=kS k) h
 rw [e] at q
 exact q
theorem dp {H:Hp}{d:Addr}{G_ kvs':List (Key × V)}{k:Str}{v:V}(h:H d=some (.dK G_))(hl:G_.length < sizeLine)(e:fv G_ (kS k) v=kvs'):we H d (.str k) v (upd H d (.dK kvs')):=by
 have q:=we.k (k:=kS k) (v:=v) h hl
 rw [e] at q
 exact q
theorem zH {ns:List Int}(h:ns.length≤63):eG (ns.map V.int) none (some 63)=ns.map V.int:=by
 unfold eG
 have e:HT.sIx (ns.map V.int).length (ns.map V.int).length (some 63)=(ns.map V.int).length:=by
  have:=HT.cF (ns.map V.int).length (ns.map V.int).length 63
  rw [show ((63:Nat):Int)=63 from rfl] at this
  rw [this,BK]
  omega
 rw [e,HT.gI,ED,FV,Eb]
def qx (w:List L):List V:=w.map fun x=>tx [x]
theorem kH (w:List L):qx w=(w.map fun x=>toS [x]).map V.str:=by unfold qx; rw [EG]; rfl
theorem i5 (w:List L)(x:L):qx w++[tx [x]]=qx (w++[x]):=by unfold qx; rw [Cy]; rfl
theorem fK (w:List L):(qx w).length=w.length:=by unfold qx; rw [BK]
theorem i6 (w:List L):V.str (Txt.join ("":Str) (w.map fun x=>toS [x]))=tx w:=Ci V.str (qu w)
theorem i7 (w:List L)(h:w.length≤1000000):((w.map fun x=>toS [x]).map (·.length)).sum+(w.map fun x=>toS [x]).length*("":Str).length≤16777216:=by
 have e:("":Str).length=0:=by decide +kernel
 rw [e,uB]
 omega
theorem a9:sizeLine=16777216:=Di
inductive i8 (vs:List V)(H:Hp)(Q:VK)(Hc:XK):Prop
 | mk:∀ w,(vs=[tx w])→(w.length≤5000)→(∀ H',aF H H'→Q (tx (bk w)) H')→i8 vs H Q Hc
inductive uE (vs:List V)(H:Hp)(Q:VK)(Hc:XK):Prop
 | mk:∀ w,(vs=[tx w])→(w.length≤5000)→(∀ H',aF H H'→Q (tx (red w)) H')→uE vs H Q Hc
theorem bg (u v:List L):V.str (toS u++toS v)=tx (u++v):=Ci V.str (cA u v)
def sg (m:Int):List L:=([0,1,2,3,4,5]:List L).take m.toNat++([6,7,8,9,10,11]:List L).take m.toNat
theorem i9 {m:Int}(h1:1≤m)(h2:m≤6):(sg m).length=2*m.toNat:=by
 unfold sg
 rw [BB,BJ,BJ]
 simp only [B6,CK]
 omega
inductive nA (vs:List V)(H:Hp)(Q:VK)(Hc:XK):Prop
 | mk:∀ (d:Addr) (m n:Int),(vs=[.ref d,.int m,.int n])→(Fd H d)→(1≤m)→(m≤6)→(0≤n)→(n≤60)→(∀ (u:List L) (H':Hp),u.length≤n.toNat→Fd H' d→ba d H H'→Q (tx u) H')→nA vs H Q Hc
inductive jL (vs:List V)(H:Hp)(Q:VK)(Hc:XK):Prop
 | mk:∀ (d:Addr) (m n:Int),(vs=[.ref d,.int m,.int n])→(Fd H d)→(1≤m)→(m≤6)→(4≤n)→(n≤40)→(∀ (u:List L) (H':Hp),u.length≤60→Fd H' d→ba d H H'→Q (tx u) H')→jL vs H Q Hc
theorem qy {m:Int}(h1:1≤m):V.str (Txt.slice ("abcdef":Str) none (some m)++Txt.slice ("ABCDEF":Str) none (some m))=tx (sg m):=by
 rw [← uz,← big,az,az,bF _ (by omega),bF _ (by omega),bg]
 rfl
theorem nB:("abcdef":Str).length=6:=by decide +kernel
theorem sQ:("ABCDEF":Str).length=6:=by decide +kernel
theorem xt (u:List L){i:Nat}{y:L}(hi:i < u.length)(h:u[u.length - 1 - i]? = some y):(bk u)[i]? = some (inv y):=by
 unfold bk
 rw [List.getElem?_reverse (by rw [BK];exact hi),BK,B7,h]
 rfl
theorem i_ {u:List L}{i:Nat}{x:L}(h:u[i]? = some x):u.take (i+1)=u.take i++[x]:=by
 obtain ⟨hl,e⟩:=BF.mp h
 rw [Cu,h]
 rfl
theorem bY {c:Bool}{A B:Prop}(hc:c=true)(h:A):if c=true then A else B:=by rw [if_pos hc]; exact h
theorem bO {c:Bool}{A B:Prop}(hc:c=false)(h:B):if c=true then A else B:=by rw [hc]; exact iG h
theorem sm6:∀ j:Fin 6,([0,1,2,3,4,5]:List L)[j.val]? = some ⟨j.val,Nat.lt_trans j.isLt (by decide)⟩:=by decide
theorem qz {q:Int}(h0:0≤q)(h6:q < 6):∃ x:L,x.val < 6∧atI ("abcdef":Str).cps.toList q=some (cp x):=by
 have hk:q.toNat < 6:=by omega
 refine ⟨⟨q.toNat,by omega⟩,hk,?_⟩
 rw [← uz]
 refine bB (k:=q.toNat) (by omega) ?_
 exact sm6 ⟨q.toNat,hk⟩
theorem two_at (x:L){q:Int}(h0:0≤q)(h2:q < 2):∃ y:L,atI [tx [x],tx [inv x]] q=some (tx [y]):=by
 have:q=0 ∨ q=1:=by omega
 rcases this with rfl | rfl
 ·exact ⟨x,rfl⟩
 ·exact ⟨inv x,rfl⟩
end Kx
namespace Wd
def J (u v:List L):Prop:=∀ x y,u.getLast? = some x→v.head? = some y→y≠inv x
end Wd
namespace L2
open PySem PySem.Spec PyProof.Rows Wd
def cQ (w:List L):List (List L):=(List.range (max 1 w.length)).map fun i=>w.drop i++w.take i
end L2
namespace Wd
def Rt (m p:List L):Prop:=∃ a b,m=a++b∧p=b++a
end Wd
namespace L2
open PySem PySem.Spec PyProof.Rows Wd
theorem jM {m p:List L}:Rt m p ↔ p∈cQ m:=by
 unfold cQ
 rw [CN]
 constructor
 ·rintro ⟨a,b,rfl,rfl⟩
  by_cases hb:b=[]
  ·subst hb
   refine ⟨0,EB.mpr (by omega),by simp⟩
  ·have:=CW.mpr hb
   refine ⟨a.length,EB.mpr (by rw [BB];omega),?_⟩
   rw [List.drop_left' rfl,List.take_left' rfl]
 ·rintro ⟨i,_,rfl⟩
  exact ⟨m.take i,m.drop i,(B_ i m).symm,rfl⟩
section
variable {X:Cx} {tg:Expr}
end
section
variable {X:Cx} {o e:Expr} {es:List Expr} {to:TE} {t:TA} {name:Str} {apos Ia:Pos} {T id:String} {r:V→List V→Hp→VK→Prop} {K:PySem.W.Frag}
end
theorem kI:∀ {bs:List Bool} {us:List Value} {i:Nat} {v:Value},bo (bs.map V.bl) us→us[i]? = some v→∃ b,bs[i]? = some b∧v = .bool b
 | [],us,i,v,r,h=>by
  rw [Eh] at r
  cases r
  simp at h
 | b::bs,us,i,v,r,h=>by
  rw [Cq] at r
  cases r with
  | cons r1 r2 =>
   cases i with
   | zero =>
    simp at h
    subst h
    exact ⟨b,rfl,r1⟩
   | succ i =>
    obtain ⟨b',e1,e2⟩:=kI (i:=i) r2 (by simpa using h)
    exact ⟨b',by simpa using e1,e2⟩
theorem kJ:∀ bs:List Bool,((List.range bs.length).all fun i=>bs.getD i true)=bs.all id
 | []=>rfl
 | b::bs=>by
  rw [B6,List.range_succ_eq_map,EM,List.all_map,EM]
  have ih:=kJ bs
  show (b && (List.range bs.length).all fun i=>(b::bs).getD (i+1) true)=_
  have e:(fun i=>(b::bs).getD (i+1) true)=fun i=>bs.getD i true:=by funext i;simp
  rw [e,ih]
  rfl
section
variable {X:Cx}
inductive sR (x:V)(y:V)(H:Hp)(Q:VK):Prop
 | mk:∀ a b xs,(x = .ref a)→(y = .ref b)→(H a=some (.lst xs))→(H b=some (.lst []))→(Q (.bl xs.isEmpty) H)→sR x y H Q
theorem ja (hu:X.A.units+64 < cLine):OpR X (compareOp .Eq) sR:=by
 intro G6 s σ H x y v u Q I rx ry h
 obtain ⟨a,b,xs,rfl,rfl,ha,hb,q⟩:=h
 cases rx
 cases ry
 obtain ⟨its,n,rv,ea,_⟩:=I.lst ha
 obtain ⟨its2,n2,rv2,eb,_⟩:=I.lst hb
 cases rv2
 have hla:s.heap.IsList a its.toArray:=⟨_,ea,rfl,_,rfl⟩
 have hlb:s.heap.IsList b ([]:List Value).toArray:=⟨_,eb,rfl,_,rfl⟩
 cases xs with
 | nil =>
  cases rv
  refine EqBoolInt.of_rc (SeqAt.RcAt.lists (e:=fun _=>true) hla hlb rfl (by omega) (fun j hj=>by simp at hj)) ?_
  exact ⟨.bl true,H,I,rfl,q⟩
 | cons z r =>
  cases rv with
  | cons r1 r2 =>
   refine EqBoolInt.of_rc (SeqAt.RcAt.lists_lengths hla hlb (by simp) (by omega)) ?_
   exact ⟨.bl false,H,I,rfl,q⟩
inductive AM (K:PySem.W.Frag)(xs:List V)(H:Hp)(Q:VK):Prop
 | mk:∀ (l:Addr) (bs:List Bool),(xs=[.ref l])→(SqL K H l (bs.map V.bl))→(Q (.bl (bs.all id)) H)→AM K xs H Q
theorem du (hc:X.calm=true):cE X (.builtin "all") (AM X.K):=by
 intro G6 s σ H xs us Q I r h
 obtain ⟨l,bs,rfl,hq,q⟩:=h
 obtain ⟨u,rfl,ru⟩:=dC r
 cases ru
 obtain ⟨its,rv,pl,_⟩:=I.list hq
 have hl:=pl.isList
 have hlen:its.length=bs.length:=by rw [← rv.length,BK]
 have Hg:l < s.heap.objs.size:=by obtain ⟨_,e,_⟩:=hl;exact BU e
 refine call_all_walk (Fo hl ?_)
 refine ⟨_,_,_,_,_,_,fun i=>bs.getD i true,rfl,Walks.list (A:=X.A.in1) (I.ok.hd hc) _ l (Cr Hg) its.toArray,⟨⟨_,B5 _ rfl,rfl,rfl⟩,hl.push _⟩,?_,fun h' tk hk=>?_⟩
 ·intro i v s' Q' E' hP hQ'
  have hP:its[i]? = some v:=by simpa using hP
  obtain ⟨b,hb,e⟩:=kI rv hP
  subst e
  have:bs.getD i true=b:=by rw [E_,hb];rfl
  have hQ':Q' (bs.getD i true) s':=hQ'
  rw [this] at hQ'
  exact DZ hQ'
 ·have old:∀ b o,s.heap.get? b=some o→h'.get? b=some o:=fun b o e=>hk b o (fun z=>by rw [BE.mp z] at e;exact absurd (BU e) (Co _)) (BD _ e)
  refine ⟨.bl _,H,I.kept old,rfl,?_⟩
  have e:((List.range its.toArray.size).all fun i=>bs.getD i true)=bs.all id:=by
   rw [B4,hlen]
   exact kJ bs
  rw [e]
  exact q
inductive cI (K:PySem.W.Frag)(xs:List V)(H:Hp)(Q:VK):Prop
 | mk:∀ x t b n,(xs=[x,.ty n])→(jx K H x t)→(PySem.W.kitOne K t (.type n)=some b)→(Q (.bl b) H)→cI K xs H Q
theorem jN:cE X (.builtin "isinstance") (cI X.K):=by
 intro G6 s σ H xs us Q I r h
 obtain ⟨x,t,b,n,rfl,ty,e,q⟩:=h
 obtain ⟨u,u2,rfl,rx,r2⟩:=mD r
 cases r2
 exact mG I rx ty e fun tk=>⟨.bl b,H,I.tok _,rfl,q⟩
def Bl (K:PySem.W.Frag)(a:Addr)(to:TE):TE:=fun σ H Q=>to σ H fun y H1=>∃ (z:Str) (r:Option Value),y = .str z∧PySem.W.nsIn K a z=some r∧Q (.bl r.isSome) H1
theorem xu {K:PySem.W.Frag}{w:World}{a:Addr}{x:Str}{o:Expr}{to:TE}{p pos:Pos}(D:DTx K w a)(hK:X.K=K)(hw:X.w=w)(hlo:(a == sysModules)=false)(hg:Gl X x)(hm:X.mg x=some (.ref a))(ho:PE X o to)
  (hd:(x == ("__debug__":Str))=false:=by decide):PE X (.Compare o [.In] [.Name x p] pos) (Bl K a to):=by
 subst hK hw
 intro G6 s σ H Q I h
 refine wpAny_Compare1 (thn (ho G6 s σ H _ I h) fun v s1 ⟨y,H1,I1,ry,z,r,e1,e2,q⟩=>cf I1 hg hm ?_ hd) rfl
 subst e1
 obtain ⟨t,rfl⟩:=ry
 obtain ⟨es,n,hl,hk⟩:=D.ob
 obtain ⟨m,F⟩:=I1.fr
 exact PySem.W.topIn_K F I1.ok.mod.kin hl hk e2 hlo ⟨.bl _,H1,I1.tok _,rfl,q⟩
inductive sS (x:V)(vs:List V)(H:Hp)(Q:VK):Prop
 | mk:∀ z y i rest,(x = .str z)→(vs=[.str y])→(Builtin.Str.occurrences z y 0 z.length 1=i::rest)→(Q (.int (i:Nat)) H)→sS x vs H Q
theorem qA:MtR X "str.index" sS:=by
 intro G6 s σ H x vs v us Q I rx rv h
 obtain ⟨z,y,i,rest,rfl,rfl,ho,q⟩:=h
 obtain ⟨t,rfl⟩:=rx
 obtain ⟨u1,rfl,⟨t1,rfl⟩⟩:=dC rv
 exact SC.index ho ⟨.int _,H,I.tok _,⟨_,rfl⟩,q⟩
def Bm (z:Str):List V:=z.cps.toList.map fun c=>.str ⟨#[c]⟩
theorem d9 {K:PySem.W.Frag}(hK:X.K=K):OpR X (compareOp .NotIn) (rIn K true):=by
 subst hK
 exact iT
end
end L2
namespace PySem
open Sem (wp)
section
variable {prog:Program} {w:World} {A:Around} {E:Value→Shared→Prop} {s:Shared} {z TI TO i1 i2:Addr} {x y:Str} {t u:Tok} {k c d:Nat} {a b:Value}
end
end PySem
namespace PySem
end PySem
namespace L2
open PySem PySem.Spec PyProof.Rows
theorem Inv.stepT {X:Cx}{G6:List (Addr × Obj)}{σ:St}{H:Hp}{s:Shared}{h':Heap}{t':Nat}{ch:List Addr}{T:Addr}{xs:List V}{its:List Value}(I:Inv X G6 σ H s)(hf:∀ b∈ch,jB X G6 H b)
  (k:∀ b o,b∉ch→s.heap.get? b=some o→h'.get? b=some o) (hT:s.heap.objs.size≤T) (hz:xs.length≤sizeLine) (rv:bo xs its) (ht:IsTup h' T its.toArray) (hnd:NoD h' T) (there:∀ b∈ch,∃ o,s.heap.get? b=some o):Inv X G6 σ (upd H T (.tup xs)) { s with heap:=h',toks:=t' }:=by
 have hn:H T=none:=I.hok.fresh hT
 have ne:∀ {b o},s.heap.get? b=some o→b≠T:=fun e=>Cr (BX (BU e) hT)
 have nch:∀ {b u},H b=some u→b∉ch:=fun e z=>by rw [(hf _ z).1] at e;cases e
 refine I.step (g':=s.gens) (d':=s.drawn) (ch:=ch) (fun b hb=>?_) (fun b o _ _ hc e _=>k b o hc e) (fun b o _ _ hc e _=>⟨o.slots,k b o hc e⟩) (fun b o _ e n=>by rw [ay (ne e)];exact n) (fun b o hc e=>⟨o,k b o hc e⟩)
  (fun b ys e=>by rw [ay (aE e hn)];exact e) (fun b o u e=>by rw [ay (aE e hn)];exact e) (fun b ps e=>⟨#[],by rw [ay (aE e hn),e];simp⟩) (fun m hm=>?_) (fun b u e=>?_) I.bare
 ·obtain ⟨_,f1,_,f3,f4,f5⟩:=hf b hb
  exact ⟨f3,f1,f4,f5⟩
 ·obtain ⟨o,es,ep,ho,r⟩:=hm
  exact ⟨o,es,ep,k _ o (fun z=>(hf _ z).2.1 rfl) ho,r⟩
 ·by_cases hb:b=T
  ·subst hb
   rw [af] at e
   cases e
   exact ⟨hz,its,rv,ht,hnd⟩
  ·rw [ay hb] at e
   refine (I.hok b u e).stay (fun c v hc q=>k c v ?_ q) (fun c q=>by rw [ay (aE q hn)];exact q) fun c ys q=>by rw [ay (aE q hn)];exact q
   rcases hc with z | z
   ·rw [z];exact nch e
   ·exact nch z
section
variable {X:Cx}
end
end L2
namespace L2
open PySem PySem.Spec PyProof.Rows Wd
theorem xv {X:Cx}{x:Str}{k j:Nat}{sp:Sp}{p pos:Pos}(F:Fnc X.prog X.w X.K X.mg X.base x [] j sp)(hr:dj k X.A)(hj:j≤k)(hg:Gl X x)
  (HM:(x == ("__debug__":Str))=false:=by decide):PE X (.Call (.Name x p) [] [] pos) (lN sp [] E0 zk):=by
 obtain ⟨f,fd,hm,hk,hb,F⟩:=F.ex
 exact qc F (hr.mono hj) hg hm hk hb .nil xf HM
def nC:Expr→Bool
 | .Starred _ _=>false
 | _=>true
theorem uF {e:Expr}(h:nC e=true)(es:List Expr)(env:Env):starEach (e::es) env=(false,eval e env)::starEach es env:=by
 cases e <;> first | rfl | cases h
theorem sT {X:Cx}{e:Expr}{es:List Expr}{te:TE}{t:TA}(ha:PE X e te)(hr:PA X es t)(h:nC e=true:=by rfl):PA X (e::es) (wN te t):=aa ha hr (uF h _ _)
theorem cJ {X:Cx}{K:PySem.W.Frag}(hK:X.K=K):cE X (.builtin "isinstance") (cI K):=by
 subst hK
 exact jN
def ltr (c:Nat):Option L:=([0,1,2,3,4,5,6,7,8,9,10,11]:List L).find? fun x=>cp x == c
theorem kK:∀ x:L,ltr (cp x)=some x:=by decide
theorem gZ {c:Nat}{x:L}(h:ltr c=some x):cp x=c:=by
 have:=List.find?_some h
 simpa using this
def qB (z:Str):Bool:=match z.cps.toList with
 | [c]=>(ltr c).isSome
 | _=>false
def okC (m:Int)(c:Nat):Bool:=match ltr c with
 | some x=>decide (((x.val % 6:Nat):Int) < m)
 | none=>false
def isW (m:Int)(z:Str):Bool:=z.cps.toList.all (okC m)
def wg:V→Bool
 | .str z=>qB z
 | _=>false
def wdV (m:Int):V→Bool
 | .str z=>isW m z
 | _=>false
inductive Th (K:PySem.W.Frag)(H:Hp):V→Prop
 | str (z:Str) (h:z.length≤500):Th K H (.str z)
 | oth {x:V} {n:String} (ty:jx K H x (.type n)) (e:PySem.W.kitOne K (.type n) (.type "str")=some false) (ns:∀ z,x ≠ .str z):Th K H x
theorem qC {x:V}(ns:∀ z,x ≠ .str z):wg x=false:=by
 cases x with
 | str z=>exact absurd rfl (ns z)
 | _=>rfl
theorem uG {m:Int}{x:V}(ns:∀ z,x ≠ .str z):wdV m x=false:=by
 cases x with
 | str z=>exact absurd rfl (ns z)
 | _=>rfl
theorem nD {K:PySem.W.Frag}:PySem.W.kitOne K (.type "str") (.type "str")=some true:=by unfold PySem.W.kitOne; rw [if_pos (by rfl)]
theorem uH {K:PySem.W.Frag}:PySem.W.kitOne K (.type "NoneType") (.type "str")=some false:=by kernel_rfl
theorem qD {K:PySem.W.Frag}:PySem.W.kitOne K (.type "bool") (.type "str")=some false:=by kernel_rfl
theorem uI {K:PySem.W.Frag}:PySem.W.kitOne K (.type "int") (.type "str")=some false:=by kernel_rfl
theorem qF {K:PySem.W.Frag}:PySem.W.kitOne K (.type "list") (.type "str")=some false:=by kernel_rfl
theorem uJ {K:PySem.W.Frag}:PySem.W.kitOne K (.type "tuple") (.type "str")=some false:=by kernel_rfl
structure Bk (K:PySem.W.Frag) (a:Addr):Prop where
 lo:(a == sysModules)=false
 all:∀ z:Str,∃ r,PySem.W.nsIn K a z=some r∧r.isSome=qB z
def y6 (e:DictEntry):Str:=match e.key with
 | .str x _=>x
 | _=>""
def g0:List Str:=([0,1,2,3,4,5,6,7,8,9,10,11]:List L).map fun x=>toS [x]
theorem zI:∀ x:L,x∈([0,1,2,3,4,5,6,7,8,9,10,11]:List L):=by decide
theorem qG (z:Str):qB z=g0.any (fun y=>y == z):=by
 have key:∀ c:Nat,(ltr c).isSome=g0.any (fun y=>y == (⟨#[c]⟩:Str)):=by
  intro c
  rw [Du]
  constructor
  ·intro h
   obtain ⟨x,hx⟩:=Ef.mp h
   have e:=gZ hx
   rw [DQ]
   refine ⟨toS [x],CN.mpr ⟨x,zI x,rfl⟩,?_⟩
   rw [← e]
   exact Dz.mpr rfl
  ·intro h
   obtain ⟨y,hy,e⟩:=DQ.mp h
   obtain ⟨x,_,rfl⟩:=CN.mp hy
   have e:=Dz.mp e
   have e2:[cp x]=[c]:=Ci (fun s:Str=>s.cps.toList) e
   have e3:cp x=c:=by simpa using e2
   rw [← e3,kK]
   rfl
 obtain ⟨⟨l⟩⟩:=z
 match l with
 | [c]=>exact key c
 | [] =>
  symm
  show _=false
  rw [DG]
  intro y hy e
  obtain ⟨x,_,rfl⟩:=CN.mp hy
  have e:=Ci (fun s:Str=>s.cps.toList.length) (Dz.mp e)
  cases e
 | a::b::r =>
  symm
  show _=false
  rw [DG]
  intro y hy e
  obtain ⟨x,_,rfl⟩:=CN.mp hy
  have e:=Ci (fun s:Str=>s.cps.toList.length) (Dz.mp e)
  cases e
theorem zJ {K:PySem.W.Frag}{w:World}{a:Addr}{es:Array DictEntry}{n:Nat}(lo:(a == sysModules)=false)(hl:K.lookup a=some ⟨.type "dict",none,.dict es n,#[]⟩)(hk:PySem.W.KeysLit w.params es.toList)(hn:es.toList.map y6=g0):Bk K a:=by
 refine ⟨lo,fun z=>?_⟩
 have hs:∀ e∈es.toList,e.key.isStr z=(y6 e == z)∧e.refKey=false:=by
  intro e he
  obtain ⟨x,t,e1,_⟩:=hk.all e he
  unfold y6 DictEntry.refKey
  rw [e1]
  exact ⟨rfl,rfl⟩
 have ha:es.toList.any (fun e=>e.key.isStr z)=qB z:=by
  rw [qG,← hn,List.any_map]
  rw [Du,DQ,DQ]
  constructor
  ·rintro ⟨e,he,q⟩
   exact ⟨e,he,by rw [(hs e he).1] at q;exact q⟩
  ·rintro ⟨e,he,q⟩
   exact ⟨e,he,by rw [(hs e he).1];exact q⟩
 have hr:es.toList.any (fun e=>e.refKey)=false:=by
  rw [DG]
  intro e he
  rw [(hs e he).2]
  decide
 unfold PySem.W.nsIn
 rw [hl]
 dsimp only
 cases hf:es.toList.find? (fun e=>e.key.isStr z) with
 | some e =>
  refine ⟨some e.val,rfl,?_⟩
  rw [← ha]
  symm
  exact DQ.mpr ⟨e,List.mem_of_find?_eq_some hf,by have:=List.find?_some hf;exact this⟩
 | none =>
  refine ⟨none,?_,?_⟩
  ·dsimp only
   rw [hr]
   rfl
  ·rw [← ha]
   symm
   show _=false
   rw [DG]
   intro e he q
   exact List.find?_eq_none.mp hf e he q
end L2
namespace Kx
open PySem PySem.Spec PyProof.Rows L2 Wd
inductive eX (K:PySem.W.Frag)(vs:List V)(H:Hp)(Q:VK)(Hc:XK):Prop
 | mk:∀ x,(vs=[x])→(Th K H x)→(Q (.bl (wg x)) H)→eX K vs H Q Hc
inductive uK (vs:List V)(H:Hp)(Q:VK)(Hc:XK):Prop
 | mk:∀ (x:L),(vs=[tx [x]])→(Q (.int ((x.val % 6:Nat):Int)) H)→uK vs H Q Hc
inductive uL (K:PySem.W.Frag)(vs:List V)(H:Hp)(Q:VK)(Hc:XK):Prop
 | mk:∀ (m:Int) (x:V),(vs=[.int m,x])→(1≤m)→(m≤6)→(Th K H x)→(∀ H',aF H H'→Q (.bl (wdV m x)) H')→uL K vs H Q Hc
theorem nE {x y:L}:tx [x]=tx [y] ↔ x=y:=⟨fun e=>by have:=kF e; simpa using this,fun e=>by rw [e]⟩
theorem xy:∀ x:L,Builtin.Str.occurrences ("abcdef":Str) (Txt.lower (toS [x])) 0 ("abcdef":Str).length 1=[x.val % 6]:=by
 have q:∀ x:L,Builtin.Str.occurrences ("abcdef":Str) (⟨(([x].map cp).map lo1).toArray⟩:Str) 0 ("abcdef":Str).length 1=[x.val % 6]:=by decide +kernel
 intro x
 rw [i0]
 exact q x
theorem xA (m:Int)(x:L):okC m (cp x)=decide (((x.val % 6:Nat):Int) < m):=by unfold okC; rw [kK]
theorem nF {c:Nat}(h:(ltr c).isSome=true):∃ x:L,(⟨#[c]⟩:Str)=toS [x]∧c=cp x:=by
 obtain ⟨x,hx⟩:=Ef.mp h
 exact ⟨x,by rw [← gZ hx];rfl,(gZ hx).symm⟩
theorem xB {m:Int}{c:Nat}(h:(ltr c).isSome=false):okC m c=false:=by
 unfold okC
 cases e:ltr c with
 | none=>rfl
 | some x=>rw [e] at h;cases h
theorem Bn (c:Nat):okC 6 c=(ltr c).isSome:=by
 unfold okC
 cases ltr c with
 | none=>rfl
 | some x=>exact BM (by have:=Nat.mod_lt x.val (show 0 < 6 by decide);omega)
end Kx
namespace L2
open PySem PySem.Spec PyProof.Rows Wd
section
variable {X:Cx}
inductive sU (x:V)(y:V)(H:Hp)(Q:VK):Prop
 | mk:∀ a b xs,(x = .ref a)→(y = .ref b)→(H a=some (.lst xs))→(H b=some (.lst []))→(Q (.bl (!xs.isEmpty)) H)→sU x y H Q
theorem dP (hu:X.A.units+64 < cLine):OpR X (compareOp .NotEq) sU:=by
 intro G6 s σ H x y v u Q I rx ry h
 obtain ⟨a,b,xs,rfl,rfl,ha,hb,q⟩:=h
 cases rx
 cases ry
 obtain ⟨its,n,rv,ea,_⟩:=I.lst ha
 obtain ⟨its2,n2,rv2,eb,_⟩:=I.lst hb
 cases rv2
 have hla:s.heap.IsList a its.toArray:=⟨_,ea,rfl,_,rfl⟩
 have hlb:s.heap.IsList b ([]:List Value).toArray:=⟨_,eb,rfl,_,rfl⟩
 cases xs with
 | nil =>
  cases rv
  refine Fv (SeqAt.RcNeAt.lists (e:=fun _=>true) hla hlb rfl (by omega) (fun j hj=>by simp at hj)) ?_
  exact ⟨.bl false,H,I,rfl,q⟩
 | cons z r =>
  cases rv with
  | cons r1 r2 =>
   refine Fv (SeqAt.RcNeAt.lists_lengths hla hlb (by simp) (by omega)) ?_
   exact ⟨.bl true,H,I,rfl,q⟩
end
theorem kL {K:PySem.W.Frag}:PySem.W.kitOne K (.type "tuple") (.type "tuple")=some true:=by unfold PySem.W.kitOne; rw [if_pos (by rfl)]
theorem nG {K:PySem.W.Frag}:PySem.W.kitOne K (.type "list") (.type "tuple")=some false:=by kernel_rfl
end L2
namespace Kx
open PySem PySem.Spec PyProof.Rows L2 Wd
def ofS (z:Str):Option (List L):=z.cps.toList.mapM ltr
theorem nH:∀ u:List L,(u.map cp).mapM ltr=some u
 | []=>rfl
 | x::r=>by rw [Cq,List.mapM_cons,kK,nH r];rfl
theorem uM (u:List L):ofS (toS u)=some u:=by unfold ofS; rw [ck]; exact nH u
theorem kM:∀ l:List Nat,l.all (okC 6)=(l.mapM ltr).isSome
 | []=>rfl
 | c::r=>by
  rw [EM,List.mapM_cons,Bn,kM r]
  cases ltr c <;> cases r.mapM ltr <;> rfl
theorem Bo (z:Str):isW 6 z=(ofS z).isSome:=kM _
theorem s12:toS [0,1,2,3,4,5,6,7,8,9,10,11]=("abcdefABCDEF":Str):=by decide +kernel
end Kx
namespace L2
open PySem PySem.Spec PyProof.Rows Wd
theorem qH {K:PySem.W.Frag}{a:Addr}{xs:List V}{own:List Str}{cap:List Nat}{g:TG}{ti:TT}{te:TE}{σ:St}{H:Hp}{Q:VK}(Pv:Nat→List V→St→Hp→Prop)(h0:Pv 0 [] (stB own cap σ) H)(hz:∀ i ys σ H,i≤xs.length→Pv i ys σ H→ys.length≤i)(hn:xs.length≤sizeLine)
  (hl:∀ i ys σ H,Pv i ys σ H→SqT K H a xs)
  (hs:∀ i ys σ H x (N:List V→St→Hp→Prop),xs[i]? = some x→Pv i ys σ H→(∀ ys' σ' H'',Pv (i+1) ys' σ' H''→N ys' σ' H'')→g x σ H fun σ2 H2=>ti σ2 H2 fun b H3=>if b=true then te σ2 H3 fun y H4=>N (ys++[y]) σ2 H4 else N ys σ2 H3)
  (hd:∀ ys σ H D,Pv xs.length ys σ H→H D=none→Q (.ref D) (upd H D (.lst ys))) :
  qk own cap g ti te Q σ (Itt K a) H:=by
 refine cj (J:=Itt K a) xs.length Pv h0 hz hn (fun i ys σ H hi p=>⟨xs,xs[i],hl i ys σ H p,BC hi⟩) (fun ys σ H p=>⟨xs,hl _ ys σ H p,BG _⟩) ?_ hd
 rintro i ys σ H x H' N hi p ⟨rfl,hx⟩ hN
 exact hs i ys σ _ x N (hx xs (hl i ys σ _ p)) p hN
theorem jb {K:PySem.W.Frag}{a:Addr}{xs:List V}{own:List Str}{cap:List Nat}{g:TG}{ti:TT}{te:TE}{σ:St}{H:Hp}{Q:VK}(Pv:Nat→List V→St→Hp→Prop)(h0:Pv 0 [] (stB own cap σ) H)(hz:∀ i ys σ H,i≤xs.length→Pv i ys σ H→ys.length≤i)(hn:xs.length≤sizeLine)
  (hl:∀ i ys σ H,Pv i ys σ H→SqL K H a xs)
  (hs:∀ i ys σ H x (N:List V→St→Hp→Prop),xs[i]? = some x→Pv i ys σ H→(∀ ys' σ' H'',Pv (i+1) ys' σ' H''→N ys' σ' H'')→g x σ H fun σ2 H2=>ti σ2 H2 fun b H3=>if b=true then te σ2 H3 fun y H4=>N (ys++[y]) σ2 H4 else N ys σ2 H3)
  (hd:∀ ys σ H D,Pv xs.length ys σ H→H D=none→Q (.ref D) (upd H D (.lst ys))) :
  qk own cap g ti te Q σ (Itl K a) H:=by
 refine cj (J:=Itl K a) xs.length Pv h0 hz hn (fun i ys σ H hi p=>⟨xs,xs[i],hl i ys σ H p,BC hi⟩) (fun ys σ H p=>⟨xs,hl _ ys σ H p,BG _⟩) ?_ hd
 rintro i ys σ H x H' N hi p ⟨rfl,hx⟩ hN
 exact hs i ys σ _ x N (hx xs (hl i ys σ _ p)) p hN
theorem uN {X:Cx}{a:Expr}{ta:TE}(ha:PE X a ta)(he:∀ whole,isTrue a X.env whole=(do let v ← whole; standAt a.pos; holding [v] (truthy v))):PT X a (wM ta):=by
 intro G6 s σ H Q I h
 refine isTrue_plain (thn (ha G6 s σ H _ I h) fun v s1 ⟨x,H1,I1,r1,q1⟩=>sF G6 s1 σ H1 x v Q I1 r1 ?_) (he _)
 obtain ⟨k,e,q⟩:=q1
 subst e
 exact ⟨k,rfl,q⟩
theorem qI {c:TT}{tb:TS}{D:eQ}{σ:St}{H:Hp}(W:Nat→St→Hp→Prop)(E:St→Hp→Prop)(h0:∃ m,W m σ H)
  (turn:∀ nx:St→Hp→Prop,(∀ σ H,E σ H→nx σ H)→∀ m σ H,W m σ H→c σ H fun b H1=>if b=true then ∃ N:St→Hp→Prop,(∀ σ' H',N σ' H'→∃ m',m' < m∧W m' σ' H')∧tb { D with nx:=N,ct:=N,bk:=nx } σ H1 else nx σ H1)
  (he:∀ σ H,E σ H→D.nx σ H):sv c tb D σ H:=⟨W,h0,turn D.nx he⟩
theorem qJ {u:List L}(h:1 < u.length):∃ x mid z,u=x::(mid++[z]):=by
 match u,h with
 | x::y::r,_ =>
  refine ⟨x,(y::r).dropLast,(y::r).getLast (by simp),?_⟩
  rw [List.dropLast_concat_getLast]
theorem Fd.neT {H:Hp}{d a:Addr}{xs:List V}(F:Fd H d)(h:H a=some (.tup xs)):a≠d:=by
 obtain ⟨c,i,l,t,ns,h1,h2,h3,h4⟩:=F.ex
 exact gG h h1 (by intro z;cases z)
end L2
namespace L2
open PySem PySem.Spec PyProof.Rows
theorem d_ {X:Cx}{i:Nat}{y:Str}{py spos:Pos}{elt iter tg:Expr}{ifs:List Expr}{scope:Scope}{pos:Pos}{NB own:List Str}{cap:List Nat}{wi:TI}{g:TG}{ti:TT}{te:TE}(hN:X.N.Nodup)(hi0:X.N[i]? = some y)(hx:Loc X.env.scope y)(B:Blk X scope NB own cap)(hc:X.calm=true)(hi:PI X tg iter wi)
  (hg:∀ C fp s₀ H₀,PG (cxB X NB own scope C fp s₀ H₀) tg g) (ht:∀ C fp s₀ H₀,PIf (cxB X NB own scope C fp s₀ H₀) ifs ti) (he:∀ C fp s₀ H₀,PE (cxB X NB own scope C fp s₀ H₀) elt te)
  (hs:∀ x,foldedSetIterable iter X.env x=pure x:=by intro _;rfl) (hsw:swapsWith (.ListComp elt [⟨tg,iter,ifs,0⟩] scope pos) (some (.Name y py)) spos.line X.env=pure true:=by rfl) (hf:X.fn y=true ∨ X.env.scope.names.lookup y=some .local:=by first | exact .inl rfl | exact .inr rfl | assumption):PS X (.Assign [.Name y py] (.ListComp elt [⟨tg,iter,ifs,0⟩] scope pos) spos) (ze (xh own cap wi g ti te) (pW i)):=by
 intro G6 s σ H DD I0 h
 rw [exec_Assign_Name_used _ _ _ _ hsw]
 refine fu (D1 (fu ?_))
 show wpAny _ X.A (do let _ ← comprehension (.ListComp elt [⟨tg,iter,ifs,0⟩] scope pos) scope X.env _ (newList []) false (eval iter X.env) (some (assign (.Name y py) X.env))) _ _ s
 have hclos:=dM (env:=X.env) (scope:=scope) fun y hy e=>I0.ok.has y.1 (.inl (B.free y hy e))
 refine fu (CB (Fu (use:=some (assign (.Name y py) X.env)) (Q:=fun _ s'=>SP X G6 DD .next s') rfl hs hclos B.kind B.names (thn (hi G6 s σ H _ I0 h) fun v s1 h1=>thn h1 fun itv s2 h2=>?_)) (fun _ s' hq=>BH (BH hq)) fun _ _ e=>e)
 obtain ⟨it,fp,tn,J,H2,rfl,I,T,Hz,f2,W,⟨m0,w0⟩,turn⟩:=h2
 refine FG ?_
 refine wpAny_newFunctionEnv B.nocell (by intro y hy;simp at hy) (fun h₁ hns₁ hsb₁=>?_) B.kind
 dsimp only at hns₁ hsb₁ ⊢
 generalize hP:s2.heap.push { cls:=.type "list",dict:=none,data:=.seq ([]:List Value).toArray }=P at hns₁ hsb₁ ⊢
 have hC:P.objs.size=s2.heap.objs.size+1:=by rw [← hP,EC]
 have hDC:s2.heap.objs.size≠P.objs.size:=by rw [hC];exact Cr (Nat.lt_succ_self _)
 have HR:s2.heap.objs.size≤P.objs.size:=by rw [hC];exact EW _
 have old:∀ b o,s2.heap.get? b=some o→h₁.get? b=some o:=fun b o e=>by
  refine (hsb₁.2 b ?_).trans (BD _ (hP ▸ BD _ e))
  exact Cr (BX (BU e) HR)
 have hD:h₁.get? s2.heap.objs.size=some { cls:=.type "list",data:=.seq ([]:List Value).toArray 0 }:=by
  refine (hsb₁.2 _ hDC).trans (BD _ ?_)
  rw [← hP]
  exact B5 _ rfl
 have hfs:∀ b∈fp,∃ o,s2.heap.get? b=some o:=fun b hb=>let ⟨o,e,_⟩:=T.obj _ _ Hz b hb;⟨o,e⟩
 have st4:tn 0 h₁:=T.keep _ _ _ Hz fun b _ o e=>old b o e
 generalize htk:s2.toks+([]:List (Str × Value)).length=tk4
 have I4:=B.start (C:=P.objs.size) (tk:=tk4) I f2 hfs HR old hns₁
 have fOk:∀ {H':Hp} {b:Addr} {ob:Obj},b∈fp→H' b=none→jB (cxB X NB own scope P.objs.size fp s2 H2) [(s2.heap.objs.size,ob)] H' b:=fun {H' b ob} hb hn=>by
  obtain ⟨o,e⟩:=hfs b hb
  refine ⟨hn,(I4.ok.exf b hb).1,I4.ok.exfs b hb,.inl hb,(I4.ok.exf b hb).2,fun p hp=>?_⟩
  have ep:p=(s2.heap.objs.size,ob):=BE.mp (show p∈[(s2.heap.objs.size,ob)] from hp)
  rw [ep]
  exact fun z=>absurd (BU e) (by rw [← z];exact Co _)
 have dnf:s2.heap.objs.size∉frs X.stack:=fun z=>by
  rcases B2.mp (I.stkSub _ z) with z | z
  ·exact absurd I.lt (by rw [← z];exact Co _)
  ·exact I.nofs (BG _) z
 have I3D:∀ {σ3:St} {H3:Hp} {s3:Shared} {its:List Value} {k:Nat},Inv (cxB X NB own scope P.objs.size fp s2 H2) [] σ3 H3 s3→s3.heap.get? s2.heap.objs.size=some { cls:=.type "list",data:=.seq its.toArray k }→H3 s2.heap.objs.size=none →
   Inv (cxB X NB own scope P.objs.size fp s2 H2) [(s2.heap.objs.size,{ cls:=.type "list",data:=.seq its.toArray k })] σ3 H3 s3:=fun I3 e n=>I3.pins_of fun p hp=>by
  have ep:=BE.mp hp
  subst ep
  exact ⟨e,n,hDC,dnf,fun v z=>by cases z⟩
 have ndf:s2.heap.objs.size∉fp:=fun z=>by
  obtain ⟨o,e⟩:=hfs _ z
  exact absurd (BU e) (Co _)
 have nCD:∀ x c,(cxB X NB own scope P.objs.size fp s2 H2).env.cells.lookup x=some c→c≠s2.heap.objs.size:=fun x c e z=>by
  obtain ⟨v,o,ho,_⟩:=I.cell x c (B.cells I.ok e).1
  rw [z] at ho
  exact absurd (BU ho) (Co _)
 have loop:∀ s₃:Shared,s₃ = { s2 with heap:=h₁,toks:=tk4 }→codeAny (model X.prog X.w) X.A (.compLoop (.ListComp elt [⟨tg,iter,ifs,0⟩] scope pos) 0 (.ref it) (.ref s2.heap.objs.size) (cxB X NB own scope P.objs.size fp s2 H2).env)
   (compPost (model X.prog X.w) X.A X.xe (some (assign (.Name y py) X.env)) (fun _ s'=>SP X G6 DD .next s') (.ref s2.heap.objs.size) P.objs.size) s₃:=by
  rintro s₃ rfl
  refine iX (fun n s'=>∃ i σB H' ys its k,Inv (cxB X NB own scope P.objs.size fp s2 H2) [] σB H' s'∧tn i s'.heap∧(∀ b∈fp,H' b=none)∧s'.heap.get? s2.heap.objs.size=some { cls:=.type "list",data:=.seq (its:List Value).toArray k }∧bo ys its∧H' s2.heap.objs.size=none∧W i n ys σB H') ?_ m0
   ⟨0,stB own cap σ,H2,[],[],0,I4,st4,fun b hb=>(f2 b hb).1,hD,.nil,I.hok.fresh (BG _),w0⟩
  rintro n s3 ⟨i,σ3,H3,ys,its,k,I3,st3,fr3,hD3,rv,hn3,w3⟩
  rcases turn i n ys σ3 H3 w3 with ⟨stop,hz,q⟩ | ⟨go,hz,step⟩
  ·refine thn (T.done (cxB X NB own scope P.objs.size fp s2 H2) rfl rfl rfl hc i _ s3 σ3 H3 noE (I3D I3 hD3 hn3) (fun b hb=>fOk hb (fr3 b hb)) st3 stop) fun r s4 zq1=>?_
   obtain ⟨hr,I4'⟩:=zq1
   subst hr
   have hD4:s4.heap.get? s2.heap.objs.size=some { cls:=.type "list",data:=.seq (its:List Value).toArray k }:=(I4'.pin (s2.heap.objs.size,_) (BN _ (BE.mpr rfl))).1
   have I5:Inv (cxB X NB own scope P.objs.size fp s2 H2) [] σ3 H3 s4:=I4'.pins_of fun p hp=>absurd (show p∈([]:List (Addr × Obj)) from hp) (by simp)
   obtain ⟨mC,hnC,_⟩:=I5.loc
   have I6:Inv X G6 σ (upd H3 s2.heap.objs.size (.lst ys)) s4:=B.done (h'':=s4.heap) I f2 HR (BG _) hDC I5 hn3 hD4 rv hz ⟨rfl,fun _ _=>rfl⟩
   obtain ⟨oC,es,ep,hoC,hdC,rC⟩:=hnC
   have hCn:(upd H3 s2.heap.objs.size (.lst ys)) P.objs.size=none:=by rw [ay hDC.symm];exact I5.free
   have nL:P.objs.size≠X.env.locals:=fun z=>absurd I.lt (by rw [← z];exact Gb.mpr HR)
   have I7:Inv X (G6++[(P.objs.size,oC)]) σ (upd H3 s2.heap.objs.size (.lst ys)) s4:=I6.pins_of fun p hp=>by
    rcases BR.mp hp with z | z
    ·exact I6.pin p (BN _ z)
    ·have ep:=BE.mp z
     subst ep
     exact ⟨hoC,hCn,nL,I.nofs HR,fun v z=>by rw [hdC] at z;cases z⟩
   refine thn (aX (pos:=py) hN hi0 hx hf (G6++[(P.objs.size,oC)]) s4 σ _ (.ref s2.heap.objs.size) (.ref s2.heap.objs.size) (fun σ' H'=>DD.nx σ' H'∧H'=upd H3 s2.heap.objs.size (.lst ys)) I7 rfl ⟨q _ hn3,rfl⟩) fun _ s5 zq2=>?_
   obtain ⟨σ5,H5,I8,q5,e5⟩:=zq2
   subst e5
   have pC:=(I8.pin (P.objs.size,oC) (BN _ (BN _ (BE.mpr rfl)))).1
   refine ⟨mC,⟨oC,es,ep,pC,hdC,rC⟩,fun h'' sb=>⟨σ5,_,?_,q5⟩⟩
   have I9:Inv X G6 σ5 (upd H3 s2.heap.objs.size (.lst ys)) s5:=I8.pins_of fun p hp=>I8.pin p (BN _ (Cb _ hp))
   refine I9.turned (t':=s5.toks) (it:=P.objs.size) (fun b o hb e=>(sb.2 b hb).trans e) hCn nL (.inr (Cn I.sz HR)) (fun x c e z=>?_) fun p hp z=>?_
   ·obtain ⟨v,o,ho,_⟩:=I.cell x c e
    exact absurd (BU ho) (by rw [z];exact Gb.mpr HR)
   ·exact absurd (BU (I.pin p hp).1) (by rw [z];exact Gb.mpr HR)
  ·refine thn (T.item (cxB X NB own scope P.objs.size fp s2 H2) rfl rfl rfl hc i _ s3 σ3 H3 noE (I3D I3 hD3 hn3) (fun b hb=>fOk hb (fr3 b hb)) st3 go) fun r s4 zq3=>?_
   obtain ⟨u,hr,h4⟩:=zq3
   subst hr
   refine thn h4 fun _ s5 zq4=>?_
   obtain ⟨x,H5,I5,r5,y5,st5,fr5⟩:=zq4
   have I5':=I5.pinned (fun b hb=>fOk hb (fr5 b hb)) (T.obj _ _ st5)
   refine thn (hg _ fp s2 H2 _ s5 σ3 H5 x u _ I5' r5 (step x H5 y5)) fun _ s6 zq5=>?_
   obtain ⟨σ6,H6,I6,q6⟩:=zq5
   refine thn (ht _ fp s2 H2 _ s6 σ6 H6 _ I6 q6) fun b s7 zq6=>?_
   obtain ⟨H7,I7,q7⟩:=zq6
   have pinned:∀ {σ8:St} {H8:Hp} {s8:Shared},Inv (cxB X NB own scope P.objs.size fp s2 H2) ([(s2.heap.objs.size,{ cls:=.type "list",data:=.seq (its:List Value).toArray k })]++gr fp s5.heap) σ8 H8 s8 →
     tn (i+1) s8.heap∧(∀ b∈fp,H8 b=none)∧s8.heap.get? s2.heap.objs.size=some { cls:=.type "list",data:=.seq (its:List Value).toArray k }∧H8 s2.heap.objs.size=none:=fun {σ8 H8 s8} I8=>by
    refine ⟨T.keep _ _ _ st5 fun b hb o e=>(I8.pin (b,o) (BN _ (BN _ (bZ hb e)))).1,fun b hb=>?_,?_,?_⟩
    ·obtain ⟨o,e,d⟩:=T.obj _ _ st5 b hb
     exact (I8.pin (b,o) (BN _ (BN _ (bZ hb e)))).2.1
    ·exact (I8.pin (s2.heap.objs.size,_) (BN _ (Cb _ (BE.mpr rfl)))).1
    ·exact (I8.pin (s2.heap.objs.size,_) (BN _ (Cb _ (BE.mpr rfl)))).2.1
   have nopin:∀ {pp:List (Addr × Obj)} {σ8:St} {H8:Hp} {s8:Shared},Inv (cxB X NB own scope P.objs.size fp s2 H2) pp σ8 H8 s8→Inv (cxB X NB own scope P.objs.size fp s2 H2) [] σ8 H8 s8:=fun I8=>I8.pins_of fun p hp=>absurd (show p∈([]:List (Addr × Obj)) from hp) (by simp)
   cases b with
   | false =>
    rw [if_neg B3] at q7 ⊢
    obtain ⟨m',hm,w7⟩:=q7
    obtain ⟨p1,p2,p3,p4⟩:=pinned I7
    exact ⟨m',hm,i+1,σ6,H7,ys,its,k,nopin I7,p1,p2,p3,rv,p4,w7⟩
   | true =>
    rw [if_pos rfl] at q7 ⊢
    refine thn (he _ fp s2 H2 _ s7 σ6 H7 _ I7 q7) fun yv s8 zq7=>?_
    obtain ⟨y,H8,I8,r8,m',hm,w8⟩:=zq7
    obtain ⟨p1,p2,p3,p4⟩:=pinned I8
    refine Ey Cz ⟨_,p3,rfl⟩ EU (EK _ _) (Fs s2.heap.objs.size its.toArray k yv (by rw [B4,← rv.length];omega)) ⟨p3,?_⟩
    have q:=FM p3 fun a=>a.push yv
    have ea:its.toArray.push yv=(its++[yv]).toArray:=by simp
    rw [ea] at q
    have I9:Inv (cxB X NB own scope P.objs.size fp s2 H2) [] σ6 H8 { s8 with heap:=s8.heap.update s2.heap.objs.size (Obj.mapSeq fun a=>a.push yv),toks:=s8.toks } :=
     (nopin I8).turned (it:=s2.heap.objs.size) (fun b o hb e=>(Ck s8.heap _ (Ne.symm hb)).trans e) p4 hDC (.inr (BG _)) (fun x c e=>nCD x c e) fun p hp=>absurd (show p∈([]:List (Addr × Obj)) from hp) (by simp)
    refine ⟨m',hm,i+1,σ6,H8,ys++[y],its++[yv],_,I9,?_,p2,q,rv.append (.cons r8 .nil),p4,w8⟩
    refine T.keep _ _ _ p1 fun b hb o e=>(Ck s8.heap _ ?_).trans e
    intro z
    rw [z] at ndf
    exact ndf hb
 exact codeAny_compStart_list (loop _ rfl) (T.self X.A 0 _ _ _ st4 (loop _ rfl))
end L2
namespace L2
open PySem PySem.Spec PyProof.Rows Wd
section
variable {X:Cx}
end
end L2
namespace L2
open PySem PySem.Spec PyProof.Rows
section
variable {X:Cx}
end
section
variable {prog:Program} {w:World} {A:Around} {E:Value→Shared→Prop} {s:Shared}
end
section
variable {X:Cx}
end
end L2
namespace PySem
open Sem (wp)
open AutoSeq1 (wpAny_loadPart')
set_option maxHeartbeats 1000000 in
theorem nI (tp:Addr)(its:Array Value)(m:Nat)(dc:Option Addr)(sls:Array (Option Value)) :
  Meets (Builtin.«enumerate.__new__» ⟨[.type "enumerate",.ref tp],[]⟩) (fun _ R s=>s.heap.get? tp=some { cls:=.type "tuple",dict:=dc,data:=.seq its m,slots:=sls } ∧
   R (.ok (.ret (.ref (s.heap.push { cls:=.type "tuple_iterator",data:=.fields #[.ref tp,.int 0 0] }).objs.size)))
    { s with heap:=(s.heap.push { cls:=.type "tuple_iterator",data:=.fields #[.ref tp,.int 0 0] }).push { cls:=.type "enumerate",data:=.fields #[.none,.bool false,.ref s.heap.objs.size,rawInt 0,.none,.none] } }) :=
 .of_wp fun prog w A R s h=>by
  obtain ⟨hp,gg,dd,tk,os⟩:=s;obtain ⟨ht,h⟩:=h
  have hsub:=sub_enumerate
  have hT:Heap.IsTuple (Shared.heap ⟨hp,gg,dd,tk,os⟩) tp its:=⟨_,ht,rfl,m,rfl⟩
  wp_walk using wpAny_loadPart' ht
  refine wpAny_stack_any fun stk=>BH ?_
  split
  ·rename_i cc _ _ _ _ _
   cases (cc == Value.type "enumerate")
   ·(wp_walk using wpAny_loadPart' ht,DT hT);exact ⟨_,rfl,h⟩
   ·(wp_walk using wpAny_loadPart' ht,DT hT);exact ⟨_,rfl,h⟩
  ·(wp_walk using wpAny_loadPart' ht,DT hT);exact ⟨_,rfl,h⟩
section
variable {prog:Program} {w:World} {A:Around} {E:Value→Shared→Prop} {s:Shared}
theorem qK {tp:Addr}{its:Array Value}{Q:Value→Shared→Prop}(hT:s.heap.IsTuple tp its)
  (h:∀ h',IsEnum h' (s.heap.objs.size+1) s.heap.objs.size 0 .none→h'.IsTupleIter s.heap.objs.size tp 0→(∀ b o,s.heap.get? b=some o→h'.get? b=some o)→Q (.ref (s.heap.objs.size+1)) { s with heap:=h' }) :
  wpAny (model prog w) A (call (.type "enumerate") [.ref tp]) Q E s:=by
 obtain ⟨⟨c,dc,dt,sls⟩,ht,hc,m,hd⟩:=hT
 obtain rfl:c = .type "tuple":=hc
 obtain rfl:dt = .seq its m:=hd
 refine callType_new F.called_enumerate (by decide) (F.typeCall_enumerate_1 _) (F.newCall_enumerate_1 _) (fun ob=>F.args_object_init_2 ob _) F.entry_enumerate_new (nI tp its m dc sls) ⟨ht,?_⟩
 have hz:(s.heap.push { cls:=.type "tuple_iterator",data:=.fields #[.ref tp,.int 0 0] }).objs.size=s.heap.objs.size+1:=EC ..
 show _∧_
 rw [hz]
 have he:=B5 (s.heap.push { cls:=.type "tuple_iterator",data:=.fields #[.ref tp,.int 0 0] }) (o:={ cls:=.type "enumerate",data:=.fields #[.none,.bool false,.ref s.heap.objs.size,rawInt 0,.none,.none] }) rfl
 rw [hz] at he
 exact ⟨⟨_,he,rfl⟩,h _ he ⟨_,BD _ (B5 _ rfl),rfl,rfl⟩ fun b o q=>BD _ (BD _ q)⟩
theorem lU {it tp:Addr}{k:Nat}{its:Array Value}{v:Value}{Q:Value→Shared→Prop}(hit:s.heap.IsTupleIter it tp k)(ht:s.heap.IsTuple tp its)(hv:its[k]? = some v)
  (hQ:∀ h',h'.IsTupleIter it tp (k+1)→Heap.SameBut it s.heap h'→Q v { s with heap:=h' }):wpAny (model prog w) A (Builtin.SmallTypes.nextOf (.ref it)) Q E s:=by
 obtain ⟨oi,gi,ci,di⟩:=id hit
 obtain ⟨ot,gt,_,nt,dt⟩:=ht
 unfold Builtin.SmallTypes.nextOf
 refine fu (CJ (name:=Str.ofString "__next__") hit.typeIs Dy (C4 Dy hit.typeIs E3 ?_ (EO _)))
 show wpAny _ _ (field (.ref it) 0 >>= _) _ _ s
 refine fu (Cp gi di (x:=.ref tp) rfl ?_)
 show wpAny _ _ (if (Value.ref tp == Value.none)=true then _ else _) _ _ s
 rw [if_neg (show ¬ ((Value.ref tp == Value.none)=true) from B3)]
 show wpAny _ _ (field (.ref it) 1 >>= _) _ _ s
 refine fu (Cp gi di (x:=.int k 0) rfl ?_)
 show wpAny _ _ (seqItems? (.ref tp) >>= _) _ _ s
 refine fu (wpAny_seqItems gt dt ?_)
 simp only [BQ,hv]
 refine fu (C9 gi di (by simp) (BH ⟨v,rfl,BH (hQ _ ?_ (E1 ..))⟩))
 exact ⟨_,CH _ gi (CU (CG di _)),(D3 ..).trans ci,by rw [CG di];simp [rawInt]⟩
theorem jc {it tp:Addr}{k:Nat}{its:Array Value}{Q:Value→Shared→Prop}(hh:A.handled=none)(hit:s.heap.IsTupleIter it tp k)(ht:s.heap.IsTuple tp its)(hv:its[k]? = none)
  (hE:∀ h' e,Heap.ExtBut it s.heap h'→(∃ o,h'.get? e=some o∧o.cls = .type "StopIteration")→E (.ref e) { s with heap:=h' }):wpAny (model prog w) A (Builtin.SmallTypes.nextOf (.ref it)) Q E s:=by
 obtain ⟨oi,gi,ci,di⟩:=id hit
 obtain ⟨ot,gt,_,nt,dt⟩:=ht
 unfold Builtin.SmallTypes.nextOf
 refine fu (CJ (name:=Str.ofString "__next__") hit.typeIs Dy (C4 Dy hit.typeIs E3 ?_ (EO _)))
 show wpAny _ _ (field (.ref it) 0 >>= _) _ _ s
 refine fu (Cp gi di (x:=.ref tp) rfl ?_)
 show wpAny _ _ (if (Value.ref tp == Value.none)=true then _ else _) _ _ s
 rw [if_neg (show ¬ ((Value.ref tp == Value.none)=true) from B3)]
 show wpAny _ _ (field (.ref it) 1 >>= _) _ _ s
 refine fu (Cp gi di (x:=.int k 0) rfl ?_)
 show wpAny _ _ (seqItems? (.ref tp) >>= _) _ _ s
 refine fu (wpAny_seqItems gt dt ?_)
 simp only [BQ,hv]
 refine fu (Ei (fu (C9 gi di (by simp) ?_)))
 show wpAny _ _ (newExc (.type "StopIteration") [] >>= _) _ _ _
 refine fu ?_
 simp only [newExc,newTuple]
 refine fu (CF ?_ (by size_fits))
 refine fu (m:=firstArgMember _ _) (EZ (a:=Value.none) (by first | rfl | (simp only [firstArgMember];rfl)) (CF ?_ (by size_fits)))
 simp only [raiseNew]
 refine fu (wpAny_handled ?_)
 first | rw [show A.in1.handled=none from hh] | rw [hh]
 exact fu (BH (Gf (hE _ _ (((E1 ..).extBut.push _).push _) ⟨_,B5 _ rfl,rfl⟩)))
theorem xD {prog:Program}{w:World}{A:Around}(hh:A.handled=none)(it tp:Addr)(Hj:tp≠it)(its:Array Value) :
  Draws prog w A it [it,tp] its.size (fun i x=>its[i]? = some x) (fun i h=>h.IsTupleIter it tp i∧h.IsTuple tp its) where
 live:=fun i h st=>let ⟨⟨o,e,_⟩,_⟩:=st;⟨o,e⟩
 frame:=fun i h h' st kk=>⟨st.1.at fun o e=>kk it (by simp) o e,let ⟨o,e,r⟩:=st.2;⟨o,kk tp (by simp) o e,r⟩⟩
 item:=fun i s Q E hi st hQ=>lU st.1 st.2 (DC hi) fun h' G8 sb=>hQ _ h' s.toks (DC hi) ⟨G8,let ⟨o,e,r⟩:=st.2;⟨o,(sb.2 tp Hj).trans e,r⟩⟩ sb
 done:=fun s Q E st hE=>jc hh st.1 st.2 (Array.getElem?_eq_none (BG _)) hE
end
end PySem
namespace L2
open PySem PySem.Spec PyProof.Rows Wd
def wj (K:PySem.W.Frag)(a:Addr):It:=⟨fun i H=>∃ xs x,SqL K H a xs∧xs[i]? = some x,
 fun i H v H'=>∃ (T:Addr) (x:V),H T=none∧v = .ref T∧(∀ xs,SqL K H a xs→xs[i]? = some x)∧H'=upd H T (.tup [.int i,x]),fun i H=>∃ xs,SqL K H a xs∧xs.length≤i⟩
def wk (K:PySem.W.Frag)(a:Addr):It:=⟨fun i H=>∃ xs x,SqT K H a xs∧xs[i]? = some x,
 fun i H v H'=>∃ (T:Addr) (x:V),H T=none∧v = .ref T∧(∀ xs,SqT K H a xs→xs[i]? = some x)∧H'=upd H T (.tup [.int i,x]),fun i H=>∃ xs,SqT K H a xs∧xs.length≤i⟩
theorem jd {X:Cx}{G6:List (Addr × Obj)}{σ:St}{H:Hp}{s:Shared}{E:Value→Shared→Prop}{elts:List Expr}{k:Nat}{pos:Pos}{e it:Addr}{fp:List Addr}{n i:Nat}{Pv:Nat→Value→Prop}{St':Nat→Heap→Prop}{old:Value}{tn:Nat→Heap→Prop}{Y:V→Hp→Prop}{x:V}
  (D:Draws X.prog X.w X.A.in1 it fp n Pv St') (I:Inv X G6 σ H s) (hf:∀ b∈[e,it],jB X G6 H b) (he:IsEnum s.heap e it i old) (Hs:St' i s.heap) (hi:i < n) (Hj:e≠it) (hef:e∉fp) (hrel:∀ u,Pv i u→bH x u) (hit:∃ o,s.heap.get? it=some o)
  (hY:∀ T,H T=none→Y (.ref T) (upd H T (.tup [.int i,x]))) (htn:∀ h',St' (i+1) h'→(∃ old,IsEnum h' e it ((i:Int)+1) old)→tn (i+1) h') :
  wpAny (model X.prog X.w) X.A (pyNext (.ref e)) (fun r s1=>∃ u,r=some u ∧
   wpAny (model X.prog X.w) X.A (letOwnedTupleGo (.Tuple elts k pos) (.ref e) u) (fun _ s2=>∃ y H',Inv X G6 σ H' s2∧bH y u∧Y y H'∧tn (i+1) s2.heap∧∀ b∈[e,it],H' b=none) E s1) E s:=by
 refine wpAny_pyNext_enum_itemD D he Hs hi Hj hef fun u h' tk hu b1 b2 b3 b4 b5=>⟨_,rfl,wpAny_letOwnedTupleGo_enum b1 fun h2 c1 e2=>?_⟩
 have hTe:s.heap.objs.size≠e:=Gm (BU he)
 have kk:∀ b o,b∉[e,it]→s.heap.get? b=some o→h2.get? b=some o:=fun b o hb q=>by
  simp only [B2,Cd,Do,not_or] at hb
  exact e2.extBut _ _ hb.1 (b5 b o hb.1 hb.2 q)
 have there:∀ b∈[e,it],∃ o,s.heap.get? b=some o:=fun b hb=>by
  simp only [B2,Cd,Do] at hb
  rcases hb with rfl | rfl
  ·exact ⟨_,he⟩
  ·exact hit
 have I2:Inv X G6 σ (upd H s.heap.objs.size (.tup [.int i,x])) { s with heap:=h2,toks:=tk+1 } :=
  I.stepT (ch:=[e,it]) (its:=[.int i tk,u]) hf kk (BG _) (by show 2≤sizeLine;decide) (.cons ⟨_,rfl⟩ (.cons (hrel u hu) .nil)) ⟨_,e2.extBut _ _ hTe b3,rfl,_,rfl⟩ ⟨_,e2.extBut _ _ hTe b3,rfl⟩ there
 have hn:H s.heap.objs.size=none:=I.hok.fresh (BG _)
 refine ⟨.ref s.heap.objs.size,_,I2,rfl,hY _ hn,htn h2 (D.frame _ _ _ b2 fun b hb o q=>e2.extBut _ _ (fun z=>hef (z ▸ hb)) q) ⟨_,c1⟩,fun b hb=>?_⟩
 obtain ⟨o,q⟩:=there b hb
 rw [ay (Cr (BU q))]
 exact (hf b hb).1
theorem qL {P:Program}{w:World}{K:PySem.W.Frag}{elts:List Expr}{k:Nat}{pos:Pos}{e it a:Addr}(Hj:e≠it) :
  tQ P w K (.Tuple elts k pos) (wj K a) [e,it] e (fun i h=>(∃ old,IsEnum h e it i old)∧h.IsListIter it a i) where
 mem:=by simp
 obj:=fun i h st b hb=>by
  obtain ⟨⟨old,s1⟩,⟨o,s2,_,d2⟩⟩:=st
  simp only [B2,Cd,Do] at hb
  rcases hb with rfl | rfl
  ·exact ⟨_,s1,fun v q=>by cases q⟩
  ·exact ⟨_,s2,fun v q=>by rw [d2] at q;cases q⟩
 keep:=fun i h h' st kk=>by
  obtain ⟨⟨old,s1⟩,s2⟩:=st
  exact ⟨⟨old,kk e (by simp) _ s1⟩,s2.at fun o q=>kk it (by simp) o q⟩
 item:=by
  intro X hP hw hK hc i G6 s σ H E I hf st hg
  subst hP hw hK
  obtain ⟨xs,x,hq,hx⟩:=hg
  obtain ⟨its,rv,p,hz⟩:=I.list hq
  obtain ⟨u,hu,ru⟩:=rv.get hx
  obtain ⟨⟨old,s1⟩,s2⟩:=st
  have hu':its.toArray[i]? = some u:=by simpa using hu
  have ha:a≠e:=fun z=>by obtain ⟨o,q,c,_⟩:=p.isList;rw [z,s1] at q;cases q;simp at c
  have hb:a≠it:=fun z=>by obtain ⟨o,q,c,_⟩:=p.isList;obtain ⟨o2,q2,c2,_⟩:=s2;rw [z,q2] at q;cases q;rw [c2] at c;simp at c
  refine jd (tn:=fun i h=>(∃ old,IsEnum h e it i old)∧h.IsListIter it a i) (Draws.list (by exact I.ok.hd hc) it a hb its.toArray) I hf s1 ⟨s2,p.isList⟩ (Cs.mp hu').1 Hj (by simp only [B2,Cd,Do,not_or];exact ⟨Hj,fun z=>ha z.symm⟩)
   (fun u2 h2=>by rw [show its.toArray[i]? = some u2 from h2] at hu';cases hu';exact ru) (let ⟨o,q,_⟩:=s2;⟨o,q⟩) (fun T hT=>⟨T,x,hT,rfl,fun ys hy=>by rw [I.list_inj hy hq];exact hx,rfl⟩) fun h' G8 ho=>⟨by simpa using ho,G8.1⟩
 done:=by
  intro X hP hw hK hc i G6 s σ H E I hf st hg
  subst hP hw hK
  obtain ⟨xs,hq,hx⟩:=hg
  obtain ⟨its,rv,p,hz⟩:=I.list hq
  obtain ⟨⟨old,s1⟩,s2⟩:=st
  obtain ⟨f0,f1,f2,f3,f4,f5⟩:=hf it (by simp)
  have hl:=rv.length
  exact wpAny_pyNext_enum_end (I.ok.hd hc) s1 s2 p.isList (by simp;omega) fun h' eb=>⟨rfl,I.turned (t':=s.toks) (fun b o hb q=>eb b o hb q) f0 f1 f3 f4 f5⟩
 self:=fun _ _ _ _ _ st h=>let ⟨⟨_,s1⟩,_⟩:=st;Ez s1 h
theorem qM {P:Program}{w:World}{K:PySem.W.Frag}{elts:List Expr}{k:Nat}{pos:Pos}{e it a:Addr}(Hj:e≠it) :
  tQ P w K (.Tuple elts k pos) (wk K a) [e,it] e (fun i h=>(∃ old,IsEnum h e it i old)∧h.IsTupleIter it a i) where
 mem:=by simp
 obj:=fun i h st b hb=>by
  obtain ⟨⟨old,s1⟩,⟨o,s2,_,d2⟩⟩:=st
  simp only [B2,Cd,Do] at hb
  rcases hb with rfl | rfl
  ·exact ⟨_,s1,fun v q=>by cases q⟩
  ·exact ⟨_,s2,fun v q=>by rw [d2] at q;cases q⟩
 keep:=fun i h h' st kk=>by
  obtain ⟨⟨old,s1⟩,s2⟩:=st
  exact ⟨⟨old,kk e (by simp) _ s1⟩,s2.at fun o q=>kk it (by simp) o q⟩
 item:=by
  intro X hP hw hK hc i G6 s σ H E I hf st hg
  subst hP hw hK
  obtain ⟨xs,x,hq,hx⟩:=hg
  obtain ⟨its,rv,p,hz⟩:=I.tuple hq
  obtain ⟨u,hu,ru⟩:=rv.get hx
  obtain ⟨⟨old,s1⟩,s2⟩:=st
  have hu':its.toArray[i]? = some u:=by simpa using hu
  have ha:a≠e:=fun z=>by obtain ⟨o,q,c,_⟩:=p;rw [z,s1] at q;cases q;simp at c
  have hb:a≠it:=fun z=>by obtain ⟨o,q,c,_⟩:=p;obtain ⟨o2,q2,c2,_⟩:=s2;rw [z,q2] at q;cases q;rw [c2] at c;simp at c
  refine jd (tn:=fun i h=>(∃ old,IsEnum h e it i old)∧h.IsTupleIter it a i) (xD (by exact I.ok.hd hc) it a hb its.toArray) I hf s1 ⟨s2,p⟩ (Cs.mp hu').1 Hj (by simp only [B2,Cd,Do,not_or];exact ⟨Hj,fun z=>ha z.symm⟩)
   (fun u2 h2=>by rw [show its.toArray[i]? = some u2 from h2] at hu';cases hu';exact ru) (let ⟨o,q,_⟩:=s2;⟨o,q⟩) (fun T hT=>⟨T,x,hT,rfl,fun ys hy=>by rw [I.tuple_inj hy hq];exact hx,rfl⟩) fun h' G8 ho=>⟨by simpa using ho,G8.1⟩
 done:=by
  intro X hP hw hK hc i G6 s σ H E I hf st hg
  subst hP hw hK
  obtain ⟨xs,hq,hx⟩:=hg
  obtain ⟨its,rv,p,hz⟩:=I.tuple hq
  obtain ⟨⟨old,s1⟩,s2⟩:=st
  obtain ⟨f0,f1,f2,f3,f4,f5⟩:=hf it (by simp)
  have hl:=rv.length
  have hb:a≠it:=fun z=>by obtain ⟨o,q,c,_⟩:=p;obtain ⟨o2,q2,c2,_⟩:=s2;rw [z,q2] at q;cases q;rw [c2] at c;simp at c
  have T:wpAny (model X.prog X.w) X.A (pyNext (.ref e)) (fun r s1=>r=none∧Inv X G6 σ H s1) E s:=by
   have hT:s.TypeIs (.ref e) "enumerate":=⟨_,s1,rfl⟩
   unfold pyNext
   refine fu (D2 (CJ (name:=Str.ofString "__next__") hT F.slot_enumerate_next (C4 F.slot_enumerate_next hT F.entry_enumerate_next ?_ (F.args_enumerate_next_1 _))))
   show wpAny _ _ (field (.ref e) 2 >>= _) _ _ _
   refine fu (Cp s1 rfl (x:=.ref it) rfl (fu (jc (by exact I.ok.hd hc) s2 p (by simp;omega) fun h' ex eb hx'=>?_)))
   obtain ⟨o,ho,hcl⟩:=hx'
   exact fu (wpAny_isInstance (T:="StopIteration") (b:=true) ⟨o,ho,hcl⟩ isSubtype_stop (BH ⟨rfl,I.turned (t':=s.toks) (fun b o hb q=>eb b o hb q) f0 f1 f3 f4 f5⟩))
  exact T
 self:=fun _ _ _ _ _ st h=>let ⟨⟨_,s1⟩,_⟩:=st;Ez s1 h
section
variable {X:Cx}
theorem fp2 {G6:List (Addr × Obj)}{σ:St}{H:Hp}{s:Shared}(I:Inv X G6 σ H s):∀ b∈[s.heap.objs.size+1,s.heap.objs.size],jB X G6 H b:=fun b hb=>by
 have hge:s.heap.objs.size≤b:=by
  simp only [B2,Cd,Do] at hb
  rcases hb with rfl | rfl <;> omega
 exact I.fpOk hge (I.hok.fresh hge)
end
theorem uO {K:PySem.W.Frag}{a:Addr}{xs:List V}{g:TG}{tb:TS}{D:eQ}{σ:St}{H:Hp}(Pv:Nat→St→Hp→Prop)(h0:Pv 0 σ H)(hl:∀ i σ H,i≤xs.length→Pv i σ H→SqL K H a xs)
  (hs:∀ i x σ H T,xs[i]? = some x→Pv i σ H→H T=none→g (.ref T) σ (upd H T (.tup [.int i,x])) fun σ2 H2=>tb { D with nx:=Pv (i+1),ct:=Pv (i+1),bk:=D.nx } σ2 H2) (hd:∀ σ H,Pv xs.length σ H→D.nx σ H) :
  ∃ W:Nat→Nat→St→Hp→Prop,(∃ m,W 0 m σ H)∧∀ i m σ H,W i m σ H →
   ((wj K a).stop i H∧D.nx σ H) ∨ ((wj K a).go i H∧∃ N:St→Hp→Prop,(∀ σ' H',N σ' H'→∃ m',m' < m∧W (i+1) m' σ' H')∧∀ x H',(wj K a).yld i H x H'→g x σ H' fun σ2 H2=>tb { D with nx:=N,ct:=N,bk:=D.nx } σ2 H2):=by
 refine ⟨fun i m σ H=>m=xs.length - i∧i≤xs.length∧Pv i σ H,⟨xs.length,by simp,CC _,h0⟩,?_⟩
 rintro i m σ H ⟨rfl,hi,p⟩
 have q:=hl i σ H hi p
 by_cases Hg:i < xs.length
 ·refine .inr ⟨⟨xs,xs[i],q,by simp [Hg]⟩,Pv (i+1),fun σ' H' p'=>⟨xs.length - (i+1),by omega,rfl,Hg,p'⟩,?_⟩
  rintro v H' ⟨T,x,hT,rfl,hx,rfl⟩
  exact hs i x σ _ T (hx xs q) p hT
 ·obtain rfl:i=xs.length:=by omega
  exact .inl ⟨⟨xs,q,BG _⟩,hd σ H p⟩
theorem uP {K:PySem.W.Frag}{a:Addr}{xs:List V}{g:TG}{tb:TS}{D:eQ}{σ:St}{H:Hp}(Pv:Nat→St→Hp→Prop)(h0:Pv 0 σ H)(hl:∀ i σ H,i≤xs.length→Pv i σ H→SqT K H a xs)
  (hs:∀ i x σ H T,xs[i]? = some x→Pv i σ H→H T=none→g (.ref T) σ (upd H T (.tup [.int i,x])) fun σ2 H2=>tb { D with nx:=Pv (i+1),ct:=Pv (i+1),bk:=D.nx } σ2 H2) (hd:∀ σ H,Pv xs.length σ H→D.nx σ H) :
  ∃ W:Nat→Nat→St→Hp→Prop,(∃ m,W 0 m σ H)∧∀ i m σ H,W i m σ H →
   ((wk K a).stop i H∧D.nx σ H) ∨ ((wk K a).go i H∧∃ N:St→Hp→Prop,(∀ σ' H',N σ' H'→∃ m',m' < m∧W (i+1) m' σ' H')∧∀ x H',(wk K a).yld i H x H'→g x σ H' fun σ2 H2=>tb { D with nx:=N,ct:=N,bk:=D.nx } σ2 H2):=by
 refine ⟨fun i m σ H=>m=xs.length - i∧i≤xs.length∧Pv i σ H,⟨xs.length,by simp,CC _,h0⟩,?_⟩
 rintro i m σ H ⟨rfl,hi,p⟩
 have q:=hl i σ H hi p
 by_cases Hg:i < xs.length
 ·refine .inr ⟨⟨xs,xs[i],q,by simp [Hg]⟩,Pv (i+1),fun σ' H' p'=>⟨xs.length - (i+1),by omega,rfl,Hg,p'⟩,?_⟩
  rintro v H' ⟨T,x,hT,rfl,hx,rfl⟩
  exact hs i x σ _ T (hx xs q) p hT
 ·obtain rfl:i=xs.length:=by omega
  exact .inl ⟨⟨xs,q,BG _⟩,hd σ H p⟩
end L2
namespace PySem
open Sem (wp)
section
variable {prog:Program} {w:World} {A:Around} {E:Value→Shared→Prop} {s:Shared} {z TI TO i1 i2:Addr} {k n1 n2:Nat} {a b:Value} {fp1 fp2:List Addr} {P1 P2:Nat→Value→Prop} {S1 S2:Nat→Heap→Prop}
end
end PySem
namespace PySem
end PySem
namespace L2
open PySem PySem.Spec PyProof.Rows Wd
section
variable {X:Cx}
end
end L2
namespace Kx
open PySem PySem.Spec PyProof.Rows L2 Wd
inductive Stp where
 | out (n:Nat)
 | inn (n:Nat) (x:L)
 | rng (n:Nat) (u:List L) (m:Nat)
def Stp.hd:Stp→Str
 | .out _=>"out"
 | .inn _ _=>"in"
 | .rng _ _ _=>"ring"
def Stp.args:Stp→List V
 | .out n=>[.int n]
 | .inn n x=>[.int n,tx [x]]
 | .rng n u m=>[.int n,tx u,.int m]
def Stp.vs (s:Stp):List V:=.str s.hd::s.args
def Gd (c:Nat):Prop:=(48≤c∧c≤57) ∨ 65≤c
end Kx
namespace L2
open PySem PySem.Spec PyProof.Rows Wd
section
variable {X:Cx} {tg:Expr}
def iSq (K:PySem.W.Frag)(tl:TE):TI:=fun σ H R=>tl σ H fun x H1=>∃ a xs,x = .ref a∧((SqL K H1 a xs∧R (Itl K a) H1) ∨ (SqT K H1 a xs∧R (Itt K a) H1))
theorem zK {l:Expr}{tl:TE}(hl:PE X l tl):PI X tg l (iSq X.K tl):=by
 intro G6 s σ H R I h
 refine thn (hl G6 s σ H _ I h) fun v s1 zq1=>?_
 obtain ⟨x,H1,I1,r1,q1⟩:=zq1
 obtain ⟨a,xs,e,hq⟩:=q1
 subst e
 cases r1
 have fp:∀ b∈[s1.heap.objs.size],jB X G6 H1 b:=fun b hb=>by
  obtain rfl:b=s1.heap.objs.size:=by simpa using hb
  exact I1.fpOk (BG _) (I1.hok.fresh (BG _))
 rcases hq with ⟨hq,q⟩ | ⟨hq,q⟩
 ·obtain ⟨its,rv,p,hz⟩:=I1.list hq
  exact Fo p.isList ⟨s1.heap.objs.size,[s1.heap.objs.size],_,_,H1,rfl,I1.kept (t':=s1.toks) fun b o e=>BD _ e,iJ a _,⟨_,B5 _ rfl,rfl,rfl⟩,fp,q⟩
 ·obtain ⟨its,rv,p,hz⟩:=I1.tuple hq
  exact DT (show s1.heap.IsTuple a its.toArray from p) ⟨s1.heap.objs.size,[s1.heap.objs.size],_,_,H1,rfl,I1.kept (t':=s1.toks) fun b o e=>BD _ e,gp a _,⟨_,B5 _ rfl,rfl,rfl⟩,fp,q⟩
inductive xE (K:PySem.W.Frag)(x:V)(y:V)(H:Hp)(Q:VK):Prop
 | mk:∀ a b xs,(x = .ref a)→(y = .ref b)→(SqT K H a xs)→(H b=some (.tup []))→(Q (.bl (!xs.isEmpty)) H)→xE K x y H Q
theorem lV (hu:X.A.units+64 < cLine):OpR X (compareOp .NotEq) (xE X.K):=by
 intro G6 s σ H x y v u Q I rx ry h
 obtain ⟨a,b,xs,rfl,rfl,ha,hb,q⟩:=h
 cases rx
 cases ry
 obtain ⟨its,rv,pa,_⟩:=I.tuple ha
 obtain ⟨its2,rv2,pb,_⟩:=I.tuple (SqT.of hb)
 cases rv2
 refine Fv (SeqAt.RcNeAt.tuples (e:=fun _=>true) (show s.heap.IsTuple a its.toArray from pa) (show s.heap.IsTuple b ([]:List Value).toArray from pb) (by omega) (fun j _ h2=>by simp at h2)) ?_
 have e:(!((List.range (min its.toArray.size ([]:List Value).toArray.size)).all (fun _=>true) && its.toArray.size == ([]:List Value).toArray.size))=!xs.isEmpty:=by
  have hl:=rv.length
  cases xs with
  | nil=>cases rv;rfl
  | cons z r=>cases rv with | cons r1 r2=>simp
 rw [e]
 exact ⟨.bl _,H,I,rfl,q⟩
end
end L2
namespace Kx
open PySem PySem.Spec PyProof.Rows L2 Wd
def dV:V→PyData
 | .int i=>.int i
 | .str z=>.str z
 | _=>.none
end Kx
namespace Wd
end Wd
namespace Kx
open PySem PySem.Spec PyProof.Rows L2 Wd
end Kx
namespace Wd
def rfI (u:List L)(a b:L):Int:=((u.idxOf b:Int) - (u.idxOf a:Int)) % (u.length:Int)
def ic (u:List L)(x z:L):Int:=if rfI u x z < rfI u x (inv x) then 1 else 0
def sd (u:List L)(x y:L):Int:=ic u x y - ic u x (inv y)
def lt6 (j:Nat):L:=if h:j < 12 then ⟨j,h⟩ else 0
end Wd
namespace L2
open PySem PySem.Spec PyProof.Rows
section
variable {X:Cx}
end
end L2
namespace Kx
open PySem PySem.Spec PyProof.Rows L2 Wd
theorem je:∀ (r:List Str) (x:Str),risingS x r=true→(x::r).Pairwise fun a b=>a.cps.toList≤b.cps.toList
 | [],x,_=>by simp
 | z::r,x,h=>by
  have l:=eM (z::r) x h
  unfold risingS at h
  rw [Cw] at h
  exact List.Pairwise.cons (fun y hy=>l.2 y (BZ _ hy)) (je r z h.2)
theorem nJ {l:List Str}(h:sortedS l=true):l.Pairwise fun a b=>a.cps.toList≤b.cps.toList:=by
 cases l with
 | nil=>exact .nil
 | cons x r=>exact je r x h
def BA (k:Nat):List L:=(List.range k).map lt6++bk ((List.range k).map lt6)
end Kx
namespace Wd
open PySem L2
def lcp:List L→List L→List L
 | x::u,y::v=>if x=y then x::lcp u v else []
 | _,_=>[]
theorem dE:∀ u v:List L,lcp u v <+: u∧lcp u v <+: v
 | [],_=>by unfold lcp;exact ⟨DJ,DJ⟩
 | _::_,[]=>by unfold lcp;exact ⟨DJ,DJ⟩
 | x::u,y::v=>by
  unfold lcp
  split
  ·rename_i h
   subst h
   obtain ⟨h1,h2⟩:=dE u v
   exact ⟨DA.mpr ⟨rfl,h1⟩,DA.mpr ⟨rfl,h2⟩⟩
  ·exact ⟨DJ,DJ⟩
theorem jO:∀ {p u v:List L},p <+: u→p <+: v→p <+: lcp u v
 | [],_,_,_,_=>DJ
 | a::p,[],_,h,_=>by simp at h
 | a::p,_::_,[],_,h=>by simp at h
 | a::p,x::u,y::v,h,g=>by
  obtain ⟨e1,h3⟩:=DA.mp h
  obtain ⟨e2,h4⟩:=DA.mp g
  subst e1 e2
  unfold lcp
  rw [if_pos rfl]
  exact DA.mpr ⟨rfl,jO h3 h4⟩
theorem qN {u v:List L}{i:Nat}{x y:L}(e:u.take i=v.take i)(hx:u[i]? = some x)(hy:v[i]? = some y)(ne:x≠y):lcp u v=u.take i:=by
 obtain ⟨p1,p2⟩:=dE u v
 have li:=(BF.mp hx).1
 have h:u.take i <+: lcp u v:=jO (EJ _ _) (e ▸ EJ _ _)
 refine (h.eq_of_length_le ?_).symm
 rw [BJ]
 rcases Nat.lt_or_ge i (lcp u v).length with q | q
 ·have q1:=Fw.mp p1 i q
  have q2:=Fw.mp p2 i q
  rw [hx] at q1
  rw [hy] at q2
  exact absurd ((BW q1).trans (BW q2).symm) ne
 ·omega
theorem uQ {u v:List L}(e:u.take (min u.length v.length)=v.take (min u.length v.length)):lcp u v=u.take v.length:=by
 obtain ⟨p1,p2⟩:=dE u v
 have e2:u.take v.length=u.take (min u.length v.length):=by
  rcases FW u.length v.length with q | q
  ·rw [Dv q,BV q,BV (BG _)]
  ·rw [Dh q]
 rw [e2]
 have h:u.take (min u.length v.length) <+: lcp u v:=jO (EJ _ _) (e ▸ EJ _ _)
 refine (h.eq_of_length_le ?_).symm
 have l1:=p1.length_le
 have l2:=p2.length_le
 rw [BJ]
 omega
def jf (t o:List L):Bool:=decide (o≠t) && decide (t.length≤6*(lcp t o).length)
def fnd (V:List (List L))(t:List L):Option (List L):=V.find? (jf t)
def gD (V:List (List L)):Option (List L × List L × List L):=V.findSome? fun t=>(fnd V t).map fun o=>(t,o,lcp t o)
structure Ord (V:List (List L)):Prop where
 nd:V.Nodup
 so:V.Pairwise fun a b=>a.map cp≤b.map cp
def trn (R:List (List L)):List (List L):=R.flatMap fun r=>cQ r++cQ (bk r)
end Wd
namespace HT
open PySem PySem.Spec PyProof.Rows
section
variable {prog:Program} {w:World} {A:Around} {E:Value→Shared→Prop} {s:Shared}
theorem nK {t sl:Addr}{its:Array Value}{vl vu:Value}{lo hi:Option Int}{Q:Value→Shared→Prop}(ht:IsTup s.heap t its)(hs:s.heap.IsSliceOf sl vl vu .none)(pl:IsPart vl lo)(pu:IsPart vu hi)
  (hw:sIx its.size 0 lo=0∧sIx its.size its.size hi=its.size) (h:Q (.ref t) s):wpAny (model prog w) A (getItem (.ref t) (.ref sl)) Q E s:=by
 obtain ⟨os,hos,hcs,hds⟩:=id hs
 have hTs:s.TypeIs (.ref sl) "slice":=⟨os,hos,hcs⟩
 unfold getItem
 try with_reducible refine Da ?_
 first | refine fu (BH ?_) | skip
 refine fu (Fp ht.typeIs (by decide) ?_)
 refine fu (CJ (name:=Str.ofString "__getitem__") ht.typeIs CD (C4 CD ht.typeIs ET ?_ (Fe _ _)))
 show wpAny _ _ (Builtin.Tuple.tupleItemsOf (.ref t) >>= _) _ _ s
 refine fu (tupleItemsOf_ ht (fu (FS hTs ?_)))
 rw [if_pos (by decide)]
 refine fu (cO hs pl pu ?_)
 show wpAny _ _ (if (((sIx its.size 0 lo:Nat):Int) == 0 && (1:Int) == 1 && (sIx its.size its.size hi - sIx its.size 0 lo) == its.size)=true then _ else _) _ _ s
 rw [if_pos (by rw [hw.1,hw.2];simp)]
 refine fu ?_
 unfold Builtin.Tuple.tupleIsExact
 refine fu (FS ht.typeIs (BH ?_))
 rw [if_pos (by decide)]
 refine fu (Ei ?_)
 first
  | exact BH ⟨_,rfl,BH h⟩
  | exact fu (BH (BH ⟨_,rfl,BH h⟩))
end
end HT
namespace L2
open PySem PySem.Spec PyProof.Rows Wd
inductive xF (K:PySem.W.Frag)(x:V)(lo:Option Int)(hi:Option Int)(H:Hp)(Q:VK):Prop
 | mk:∀ a xs,(x = .ref a)→(SqT K H a xs)→((eG xs lo hi=xs→Q (.ref a) H))→(∀ p,H p=none→Q (.ref p) (upd H p (.tup (eG xs lo hi))))→xF K x lo hi H Q
theorem uR {X:Cx}:SlR X (xF X.K):=by
 intro G6 s σ H x v vl vu lo hi sl Q I rx hs pl pu h
 obtain ⟨a,xs,rfl,hx,hw,q⟩:=h
 by_cases hh:HT.sIx xs.length 0 lo=0∧HT.sIx xs.length xs.length hi=xs.length
 ·cases rx
  obtain ⟨its,r,ht,hz⟩:=I.tuple hx
  have hlen:its.toArray.size=xs.length:=by rw [B4];exact r.length.symm
  have e:eG xs lo hi=xs:=by unfold eG;rw [hh.1,hh.2,ED,FV,Eb]
  exact ⟨"tuple",_,CD.lookup,ht.typeIs,HT.nK ht hs pl pu (by rw [hlen];exact hh) ⟨.ref a,H,I,rfl,hw e⟩⟩
 ·exact wW G6 s σ H (.ref a) v vl vu lo hi sl Q I rx hs pl pu ⟨a,xs,rfl,hx,hh,q⟩
end L2
namespace Kx
open PySem PySem.Spec PyProof.Rows L2 Wd
theorem at0 {α:Type}(c:α)(t:List α):atI (c::t) (0:Int)=some c:=by unfold atI ixN; simp
theorem nl:¬ ("letter":Str) = "number":=by decide +kernel
theorem nt:¬ ("turn":Str) = "number":=by decide +kernel
theorem tl:¬ ("turn":Str) = "letter":=by decide +kernel
end Kx
namespace Wd
open PySem L2
theorem xG {m p:List L}(h:Rt m p):Rt (bk m) (bk p):=by
 obtain ⟨a,b,rfl,rfl⟩:=h
 exact ⟨bk b,bk a,fD _ _,fD _ _⟩
theorem uS {r u:List L}:bk u∈cQ r ↔ u∈cQ (bk r):=by
 rw [← jM,← jM]
 constructor
 ·intro h
  have:=xG h
  rwa [xj] at this
 ·intro h
  have:=xG h
  rwa [xj] at this
theorem kO {u r:List L}(h:u.length=r.length):(∃ i,i+u.length≤(r++r).length∧((r++r).drop i).take u.length=u) ↔ u∈cQ r:=by
 rw [← jM]
 constructor
 ·rintro ⟨i,hi,e⟩
  rw [BB] at hi
  have hi:i≤r.length:=by omega
  rw [List.drop_append_of_le_length hi,h,List.take_append,B0,BV (by rw [B0];omega)] at e
  refine ⟨r.take i,r.drop i,(B_ i r).symm,?_⟩
  rw [← e]
  congr 2
  omega
 ·rintro ⟨a,b,rfl,rfl⟩
  refine ⟨a.length,by simp,?_⟩
  rw [BO,List.drop_left,← BO,Ge]
end Wd
namespace Kx
open PySem L2 Wd
def jP (w:List L)(n:Nat):Bool:=decide (n+1 < w.length) && decide (w[n+1]? = (w[n]?).map inv)
def fL (w:List L)(n:Nat)(u:List L)(m:Nat):Bool:=decide (m≤u.length) && decide (n+m≤w.length) && decide ((w.drop n).take m=u.take m)
def stB (R:List (List L))(w:List L):Stp→Bool
 | .out n=>jP w n
 | .inn n _=>decide (n≤w.length)
 | .rng n u m=>fL w n u m && decide (u∈trn R)
def chg (w:List L):Stp→List L
 | .out n=>w.take n++w.drop (n+2)
 | .inn n x=>w.take n++[x]++[inv x]++w.drop n
 | .rng n u m=>w.take n++bk (u.drop m)++w.drop (n+m)
def f_ (R:List (List L))(w:List L)(s:Stp):Option (List L):=if stB R w s && decide ((chg w s).length≤2000) then some (chg w s) else none
theorem cK {R:List (List L)}{w:List L}{s:Stp}(h:stB R w s=false):f_ R w s=none:=by unfold f_; rw [h]; rfl
theorem dQ {R:List (List L)}{w:List L}{s:Stp}(h:2000 < (chg w s).length):f_ R w s=none:=by
 unfold f_
 rw [if_neg]
 rw [BI (by omega),EE]
 decide
theorem cL {R:List (List L)}{w:List L}{s:Stp}(h:stB R w s=true)(hl:(chg w s).length≤2000):f_ R w s=some (chg w s):=by
 unfold f_
 rw [if_pos]
 rw [h,BM hl]
 rfl
def Sk:Stp→Prop
 | .out n=>n≤5000
 | .inn n _=>n≤5000
 | .rng n u m=>n≤5000∧u.length≤400∧m≤5000
theorem jQ {R:List (List L)}{w:List L}{s:Stp}(hs:Sk s)(h:stB R w s=true):(chg w s).length≤w.length+402:=by
 cases s with
 | out n=>unfold chg;rw [BB,BJ,B0];omega
 | inn n x=>unfold chg;simp only [BB,BJ,B0,B6,CK];omega
 | rng n u m=>unfold chg;have:=hs.2.1;simp only [BB,BJ,B0,bJ];omega
theorem g8 {R:List (List L)}{w u:List L}{s:Stp}(h:f_ R w s=some u):u.length≤2000:=by
 unfold f_ at h
 split at h
 ·rename_i q
  rw [Cw,C6] at q
  cases h
  exact q.2
 ·cases h
def bz (R:List (List L)):List L→List Stp→Nat→List L ⊕ Nat
 | w,[],_=>.inl w
 | w,s::r,i=>match f_ R w s with
  | some u=>bz R u r (i+1)
  | none=>.inr i
end Kx
namespace PySem
open Sem (wp)
section
variable {prog:Program} {w:World} {A:Around} {E:Value→Shared→Prop} {s:Shared}
section
variable {R:Result→Shared→Prop} {I:Addr} {fp wr:List Addr} {G:Array GenState→Array GenState→Prop} {n:Nat} {P:Nat→Value→Prop} {St:Nat→Shared→Prop}
end
end
section
variable {K:Type} [DecidableEq K] {prog:Program} {w:World} {knd:KeyKind prog w K} {A:Around} {E:Value→Shared→Prop} {s:Shared}
section
variable {R:Result→Shared→Prop} {I:Addr} {fp wr:List Addr} {G:Array GenState→Array GenState→Prop} {n:Nat} {P:Nat→Value→Prop} {St:Nat→Shared→Prop}
end
end
section
variable {prog:Program} {w:World} {A:Around} {E:Value→Shared→Prop} {s:Shared}
end
end PySem
namespace Tv
open PySem PyProof.Rows
theorem aQ {σ:Type}{M:Model}{A:Around}{E:Value→Shared→Prop}{s:Shared}{α:Type}{c:Prop}[Decidable c]{x y:StateT σ Sem α}{Q:α→σ→Prop}{st:σ}(h:c)(p:wpS M A E s x Q st):wpS M A E s (if c then x else y) Q st:=by
 rw [if_pos h];exact p
theorem aR {σ:Type}{M:Model}{A:Around}{E:Value→Shared→Prop}{s:Shared}{α:Type}{c:Prop}[Decidable c]{x y:StateT σ Sem α}{Q:α→σ→Prop}{st:σ}(h:¬ c)(p:wpS M A E s y Q st):wpS M A E s (if c then x else y) Q st:=by
 rw [if_neg h];exact p
def kof (κ:KeyKind)(p:Keyed):κ.α:=(κ.keyOf p.1).getD κ.dflt
def Gd (κ:KeyKind)(p:Keyed):Prop:=∃ a,κ.keyOf p.1=some a
theorem Gd.eq {κ:KeyKind}{p:Keyed}(h:Gd κ p):κ.keyOf p.1=some (kof κ p):=by
 obtain ⟨a,e⟩:=h
 unfold kof
 rw [e]
 rfl
structure TB (kd:SortKind) (st:SortSt):Prop where
 kind:kindOf st=kd
 failed:failedOf st=none
def Lt1 (κ:KeyKind)(prog:Program)(w:World)(A:Around)(s:Shared)(kd:SortKind):Prop:=∀ (E:Value→Shared→Prop) (x y:Value) (a b:κ.α) (Q:Bool→Shared→Prop),κ.keyOf x=some a→κ.keyOf y=some b→Q (κ.blt a b) s→wpAny (model prog w) A (keyLt' kd x y) Q E s
def gal:Bool→Keyed→Array Keyed→Nat→Nat→Nat→StateT SortSt Sem (Option Nat):=sortPriv% PySem.Builtin.gallop
def gbd (lf:Bool)(key:Keyed)(arr:Array Keyed)(b i:Nat):StateT SortSt Sem (Option Bool):=do
 let it ← elem' arr (b+i)
 if lf then lt' it key else return (← lt' key it).map (!·)
def y7 (lf:Bool)(key:Keyed)(arr:Array Keyed)(b n d0 u0:Nat):StateT SortSt Sem (Option Nat):=do
 let mut dn:=d0
 let mut up:=u0
 for _ in [0:n] do
  if dn≥up then break
  let md:=dn+(up - dn) / 2
  let some mr ← gbd lf key arr b md | return none
  if mr then dn:=md+1 else up:=md
 return some up
theorem xH (lf:Bool)(key:Keyed)(arr:Array Keyed)(b n h:Nat):gal lf key arr b n h=(do
 let mut la:=0
 let mut of:=1
 let some rt ← gbd lf key arr b h | return none
 if rt then
  for _ in [0:n] do
   if of≥n - h then break
   let some mr ← gbd lf key arr b (h+of) | return none
   if !mr then break
   la:=of
   of:=2*of+1
  y7 lf key arr b n (h+la+1) (h+min of (n - h))
 else
  for _ in [0:n] do
   if of≥h+1 then break
   let some fd ← gbd lf key arr b (h - of) | return none
   if fd then break
   la:=of
   of:=2*of+1
  y7 lf key arr b n (h+1 - min of (h+1)) (h - la)):=rfl
section
variable {prog:Program} {w:World} {A:Around} {E:Value→Shared→Prop} {s:Shared} {κ:KeyKind} {kd:SortKind}
theorem jg {st:SortSt}{x y:Keyed}{Q:Option Bool→SortSt→Prop}(hO:Lt1 κ prog w A s kd)(hB:TB kd st)(hx:Gd κ x)(hy:Gd κ y)(h:Q (some (κ.blt (kof κ x) (kof κ y))) st):wpS (model prog w) A E s (lt' x y) Q st:=by
 rw [lt'_eq]
 refine BS (E4 ?_)
 rw [hB.kind]
 refine BS (Gc (D2 (hO _ x.1 y.1 _ _ _ hx.eq hy.eq ⟨rfl,?_⟩)))
 exact BY h
def bdB (κ:KeyKind)(lf:Bool)(key:κ.α)(x:κ.α):Bool:=if lf then κ.blt x key else !κ.blt key x
theorem uT {st:SortSt}{lf:Bool}{key p:Keyed}{arr:Array Keyed}{b i:Nat}{Q:Option Bool→SortSt→Prop}(hO:Lt1 κ prog w A s kd)(hB:TB kd st)(hk:Gd κ key)(e:arr[b+i]? = some p)(hp:Gd κ p)
  (h:Q (some (bdB κ lf (kof κ key) (kof κ p))) st):wpS (model prog w) A E s (gbd lf key arr b i) Q st:=by
 unfold gbd
 rw [elem'_eq,e]
 refine BS (BY ?_)
 unfold bdB at h
 cases lf with
 | true=>exact jg hO hB hp hk h
 | false=>exact BS (jg hO hB hk hp (BY h))
theorem jR {st:SortSt}{lf:Bool}{key:Keyed}{arr:Array Keyed}{b n h:Nat}{Q:Option Nat→SortSt→Prop}(hO:Lt1 κ prog w A s kd)(hB:TB kd st)(hk:Gd κ key)(B:Nat→Bool)(hh:h < n)
  (at_:∀ i,i < n→∃ p,arr[b+i]? = some p∧Gd κ p∧bdB κ lf (kof κ key) (kof κ p)=B i) (mono:∀ i j,i≤j→j < n→B j=true→B i=true)
  (hq:∀ k,k≤n→(∀ i,i < k→B i=true)→(∀ i,k≤i→i < n→B i=false)→Q (some k) st):wpS (model prog w) A E s (gal lf key arr b n h) Q st:=by
 have ask:∀ {i:Nat} {R:Option Bool→SortSt→Prop},i < n→R (some (B i)) st→wpS (model prog w) A E s (gbd lf key arr b i) R st:=fun {i R} hi r=>by
  obtain ⟨p,e,g,eb⟩:=at_ i hi
  exact uT hO hB hk e g (by rw [eb];exact r)
 have no:∀ i j,i≤j→j < n→B i=false→B j=false:=fun i j Hi hj e=>by
  cases ej:B j with
  | false=>rfl
  | true=>rw [mono i j Hi hj ej] at e;cases e
 -- the last part
 have fin:∀ dn up,dn≤up→up≤n→(∀ i,i < dn→B i=true)→(∀ i,up≤i→i < n→B i=false)→wpS (model prog w) A E s (y7 lf key arr b n dn up) Q st:=by
  intro dn up h1 h2 h3 h4
  unfold y7
  refine BS (Dq (CI (I:=fun x c G8=>G8=st∧∃ dn up,c=(none,dn,up)∧dn≤up∧up≤n∧up - dn≤n - x∧(∀ i,i < dn→B i=true)∧(∀ i,up≤i→i < n→B i=false))
   (Q:=fun c G8=>G8=st∧∃ k,c=(none,k,k)∧k≤n∧(∀ i,i < k→B i=true)∧(∀ i,k≤i→i < n→B i=false)) ?step ?fin ⟨rfl,dn,up,rfl,h1,h2,by omega,h3,h4⟩) ?post)
  case post =>
   rintro c G8 ⟨rfl,k,rfl,a1,a2,a3⟩
   exact BY (hq k a1 a2 a3)
  case fin =>
   rintro c G8 ⟨rfl,dn,up,rfl,a1,a2,a3,a4,a5⟩
   have:dn=up:=by omega
   subst this
   exact ⟨rfl,dn,rfl,a2,a4,a5⟩
  case step =>
   rintro x c G8 _ hx ⟨rfl,dn,up,rfl,a1,a2,a3,a4,a5⟩
   dsimp only
   by_cases hd:dn≥up
   ·refine aQ hd ?_
    have:dn=up:=by omega
    subst this
    exact BY ⟨rfl,dn,rfl,a2,a4,a5⟩
   ·refine aR hd ?_
    refine BS (ask (by omega) ?_)
    cases eb:B (dn+(up - dn) / 2) with
    | true =>
     simp only [Dx]
     exact BY ⟨rfl,dn+(up - dn) / 2+1,up,rfl,by omega,a2,by omega,fun i hi=>mono i _ (by omega) (by omega) eb,a5⟩
    | false =>
     simp only [Cc,C_]
     exact BY ⟨rfl,dn,dn+(up - dn) / 2,rfl,by omega,by omega,by omega,a4,fun i hi1 hi2=>no _ i (by omega) hi2 eb⟩
 rw [xH]
 refine BS (ask hh ?_)
 cases eh:B h with
 | true =>
  dsimp only
  refine aQ rfl ?_
  refine BS (Dq (CI (I:=fun x c G8=>G8=st∧∃ la of,c=(none,la,of)∧la < of∧x+1≤of∧h+la < n∧B (h+la)=true)
   (Q:=fun c G8=>G8=st∧∃ la of,c=(none,la,of)∧la < of∧h+la < n∧B (h+la)=true∧(of≥n - h ∨ (h+of < n∧B (h+of)=false))) ?step ?fin ⟨rfl,0,1,rfl,by omega,by omega,by omega,eh⟩) ?post)
  case post =>
   rintro c G8 ⟨rfl,la,of,rfl,a1,a2,a3,a4⟩
   dsimp only
   refine fin (h+la+1) (h+min of (n - h)) (by omega) (by omega) (fun i hi=>mono i _ (by omega) a2 a3) fun i hi1 hi2=>?_
   rcases a4 with a4 | ⟨a4,a5⟩
   ·omega
   ·exact no _ i (by omega) hi2 a5
  case fin =>
   rintro c G8 ⟨rfl,la,of,rfl,a1,a2,a3,a4⟩
   exact ⟨rfl,la,of,rfl,a1,a3,a4,.inl (by omega)⟩
  case step =>
   rintro x c G8 _ hx ⟨rfl,la,of,rfl,a1,a2,a3,a4⟩
   dsimp only
   by_cases ho:of≥n - h
   ·refine aQ ho ?_
    exact BY ⟨rfl,la,of,rfl,a1,a3,a4,.inl ho⟩
   ·refine aR ho ?_
    refine BS (ask (by omega) ?_)
    cases eb:B (h+of) with
    | true =>
     simp only [Eo,Cc,C_]
     exact BY ⟨rfl,of,2*of+1,rfl,by omega,by omega,by omega,eb⟩
    | false =>
     simp only [Bool.not_false,Dx]
     exact BY ⟨rfl,la,of,rfl,a1,a3,a4,.inr ⟨by omega,eb⟩⟩
 | false =>
  dsimp only
  refine aR B3 ?_
  refine BS (Dq (CI (I:=fun x c G8=>G8=st∧∃ la of,c=(none,la,of)∧la < of∧x+1≤of∧la≤h∧B (h - la)=false)
   (Q:=fun c G8=>G8=st∧∃ la of,c=(none,la,of)∧la < of∧la≤h∧B (h - la)=false∧(of≥h+1 ∨ (of≤h∧B (h - of)=true))) ?step ?fin ⟨rfl,0,1,rfl,by omega,by omega,by omega,eh⟩) ?post)
  case post =>
   rintro c G8 ⟨rfl,la,of,rfl,a1,a2,a3,a4⟩
   dsimp only
   refine fin (h+1 - min of (h+1)) (h - la) (by omega) (by omega) (fun i hi=>?_) fun i hi1 hi2=>no _ i hi1 hi2 a3
   rcases a4 with a4 | ⟨a4,a5⟩
   ·omega
   ·exact mono i _ (by omega) (by omega) a5
  case fin =>
   rintro c G8 ⟨rfl,la,of,rfl,a1,a2,a3,a4⟩
   exact ⟨rfl,la,of,rfl,a1,a3,a4,.inl (by omega)⟩
  case step =>
   rintro x c G8 _ hx ⟨rfl,la,of,rfl,a1,a2,a3,a4⟩
   dsimp only
   by_cases ho:of≥h+1
   ·refine aQ ho ?_
    exact BY ⟨rfl,la,of,rfl,a1,a3,a4,.inl ho⟩
   ·refine aR ho ?_
    refine BS (ask (by omega) ?_)
    cases eb:B (h - of) with
    | false =>
     simp only [Cc,C_]
     exact BY ⟨rfl,of,2*of+1,rfl,by omega,by omega,by omega,eb⟩
    | true =>
     simp only [Dx]
     exact BY ⟨rfl,la,of,rfl,a1,a3,a4,.inr ⟨by omega,eb⟩⟩
end
def mlo:Array Keyed→Array Keyed→StateT SortSt Sem (Array Keyed):=sortPriv% PySem.Builtin.mergeLo
def smg:Nat→StateT SortSt Sem Unit:=sortPriv% PySem.Builtin.setMinGallop
abbrev mDn (a b o:Array Keyed)(i j:Nat):Array Keyed:=o++a.extract i a.size++b.extract j b.size
abbrev mLa (a b o:Array Keyed)(i j:Nat):Array Keyed:=o++b.extract j b.size++a.extract i a.size
theorem xI (a b:Array Keyed):mlo a b=(do
 rule "list.sort.merge-lo"
 let mut o:Array Keyed:=#[← elem' b 0]
 let mut i:=0
 let mut j:=1
 if j == b.size then return mDn a b o i j
 if i+1 == a.size then return mLa a b o i j
 let mut g:=gallopOf (← get)
 for _ in [0:a.size+b.size] do
  let mut p:=0
  let mut q:=0
  for _ in [0:a.size+b.size] do
   let some w ← lt' (← elem' b j) (← elem' a i) | return mDn a b o i j
   if w then
    o:=o.push (← elem' b j)
    j:=j+1
    q:=q+1
    p:=0
    if j == b.size then return mDn a b o i j
    if q≥g then break
   else
    o:=o.push (← elem' a i)
    i:=i+1
    p:=p+1
    q:=0
    if i+1 == a.size then return mLa a b o i j
    if p≥g then break
  rule "list.sort.gallop"
  g:=g+1
  for _ in [0:a.size+b.size] do
   if g > 1 then g:=g - 1
   smg g
   let some k ← gal false (← elem' b j) a i (a.size - i) 0 | return mDn a b o i j
   p:=k
   if k > 0 then
    o:=o++a.extract i (i+k)
    i:=i+k
    if i+1 == a.size then return mLa a b o i j
    if i == a.size then return mDn a b o i j
   o:=o.push (← elem' b j)
   j:=j+1
   if j == b.size then return mDn a b o i j
   let some k ← gal true (← elem' a i) b j (b.size - j) 0 | return mDn a b o i j
   q:=k
   if k > 0 then
    o:=o++b.extract j (j+k)
    j:=j+k
    if j == b.size then return mDn a b o i j
   o:=o.push (← elem' a i)
   i:=i+1
   if i+1 == a.size then return mLa a b o i j
   if p < 7 && q < 7 then break
  g:=g+1
  smg g
 unsupported "internal:list.sort.merge-bound"):=rfl
end Tv
namespace Tv
open PySem PyProof.Rows
variable {κ:KeyKind} {kd:SortKind}
def lek (κ:KeyKind)(x y:Keyed):Prop:=κ.kle (kof κ x) (kof κ y)
theorem dR {x y z:Keyed}(h:lek κ x y)(g:lek κ y z):lek κ x z:=DR h g
theorem qO (x:Keyed):lek κ x x:=C3 _
def Srt (κ:KeyKind)(l:List Keyed):Prop:=l.Pairwise (lek κ)
theorem Srt.drop {l:List Keyed}(h:Srt κ l)(i:Nat):Srt κ (l.drop i):=List.Pairwise.sublist (List.drop_sublist i l) h
theorem Srt.take {l:List Keyed}(h:Srt κ l)(i:Nat):Srt κ (l.take i):=List.Pairwise.sublist (List.take_sublist i l) h
def Lel (κ:KeyKind)(l m:List Keyed):Prop:=∀ x∈l,∀ y∈m,lek κ x y
theorem bC {l m:List Keyed}:Srt κ (l++m) ↔ Srt κ l∧Srt κ m∧Lel κ l m:=List.pairwise_append
theorem Srt.at {l:List Keyed}(h:Srt κ l){i j:Nat}{x y:Keyed}(Hi:i≤j)(hx:l[i]? = some x)(hy:l[j]? = some y):lek κ x y:=by
 by_cases e:i=j
 ·subst e
  rw [hx] at hy
  cases hy
  exact qO _
 ·obtain ⟨h1,e1⟩:=BF.mp hx
  obtain ⟨h2,e2⟩:=BF.mp hy
  have:=Fl.mp h i j h1 h2 (by omega)
  rw [e1,e2] at this
  exact this
theorem cm {l:List Keyed}{i:Nat}{x:Keyed}(h:l[i]? = some x):l.drop i=x::l.drop (i+1):=by
 obtain ⟨h1,e1⟩:=BF.mp h
 rw [Ct h1,e1]
theorem bA {l:List Keyed}{i:Nat}{x:Keyed}(h:l[i]? = some x):l.take (i+1)=l.take i++[x]:=by
 rw [Cu,h]
 rfl
structure Mc (κ:KeyKind) (A B O:List Keyed) (i j:Nat):Prop where
 pm:O.Perm (A.take i++B.take j)
 so:Srt κ O
 la:Lel κ O (A.drop i)
 lb:Lel κ O (B.drop j)
 hi:i≤A.length
 hj:j≤B.length
theorem Mc.pushA {A B O:List Keyed}{i j:Nat}(M:Mc κ A B O i j)(sA:Srt κ A){x:Keyed}(h:A[i]? = some x)(hx:Lel κ [x] (B.drop j)):Mc κ A B (O++[x]) (i+1) j:=by
 have ed:=cm h
 have sd:=sA.drop i
 rw [ed] at sd
 have sd':=DU.mp sd
 refine ⟨?_,bC.mpr ⟨M.so,FH _ _,fun o ho y hy=>?_⟩,fun o ho y hy=>?_,fun o ho y hy=>?_,(BF.mp h).1,M.hj⟩
 ·rw [bA h]
  refine (M.pm.append_right [x]).trans ?_
  rw [BO,BO]
  exact Dm _ DB
 ·rw [BE] at hy
  subst hy
  exact M.la o ho _ (by rw [ed];exact Ca)
 ·rcases BR.mp ho with ho | ho
  ·exact M.la o ho y (by rw [ed];exact BZ _ hy)
  ·rw [BE] at ho
   subst ho
   exact sd'.1 y hy
 ·rcases BR.mp ho with ho | ho
  ·exact M.lb o ho y hy
  ·exact hx o ho y hy
theorem Mc.pushB {A B O:List Keyed}{i j:Nat}(M:Mc κ A B O i j)(sB:Srt κ B){x:Keyed}(h:B[j]? = some x)(hx:Lel κ [x] (A.drop i)):Mc κ A B (O++[x]) i (j+1):=by
 have ed:=cm h
 have sd:=sB.drop j
 rw [ed] at sd
 have sd':=DU.mp sd
 refine ⟨?_,bC.mpr ⟨M.so,FH _ _,fun o ho y hy=>?_⟩,fun o ho y hy=>?_,fun o ho y hy=>?_,M.hi,(BF.mp h).1⟩
 ·rw [bA h]
  refine (M.pm.append_right [x]).trans ?_
  rw [BO]
 ·rw [BE] at hy
  subst hy
  exact M.lb o ho _ (by rw [ed];exact Ca)
 ·rcases BR.mp ho with ho | ho
  ·exact M.la o ho y hy
  ·exact hx o ho y hy
 ·rcases BR.mp ho with ho | ho
  ·exact M.lb o ho y (by rw [ed];exact BZ _ hy)
  ·rw [BE] at ho
   subst ho
   exact sd'.1 y hy
theorem Mc.pushAs {A B O:List Keyed}{i j:Nat}(M:Mc κ A B O i j)(sA:Srt κ A):∀ k,i+k≤A.length→Lel κ ((A.drop i).take k) (B.drop j)→Mc κ A B (O++(A.drop i).take k) (i+k) j
 | 0,_,_=>by simpa using M
 | k+1,hk,hl=>by
  have Hg:i+k < A.length:=by omega
  have e:(A.drop i)[k]? = some A[i+k]:=by rw [C1,BC Hg]
  have et:(A.drop i).take (k+1)=(A.drop i).take k++[A[i+k]]:=bA e
  rw [et] at hl ⊢
  have ih:=Mc.pushAs M sA k (by omega) fun x hx=>hl x (Cb _ hx)
  have:=ih.pushA sA (BC Hg) fun x hx=>hl x (BN _ hx)
  rw [BO] at this
  exact this
theorem Mc.pushBs {A B O:List Keyed}{i j:Nat}(M:Mc κ A B O i j)(sB:Srt κ B):∀ k,j+k≤B.length→Lel κ ((B.drop j).take k) (A.drop i)→Mc κ A B (O++(B.drop j).take k) i (j+k)
 | 0,_,_=>by simpa using M
 | k+1,hk,hl=>by
  have Hg:j+k < B.length:=by omega
  have e:(B.drop j)[k]? = some B[j+k]:=by rw [C1,BC Hg]
  have et:(B.drop j).take (k+1)=(B.drop j).take k++[B[j+k]]:=bA e
  rw [et] at hl ⊢
  have ih:=Mc.pushBs M sB k (by omega) fun x hx=>hl x (Cb _ hx)
  have:=ih.pushB sB (BC Hg) fun x hx=>hl x (BN _ hx)
  rw [BO] at this
  exact this
def Mg (κ:KeyKind)(A B R:List Keyed):Prop:=R.Perm (A++B)∧Srt κ R
theorem Mc.perm {A B O:List Keyed}{i j:Nat}(M:Mc κ A B O i j):(O++(A.drop i++B.drop j)).Perm (A++B):=by
 have h1:(O++(A.drop i++B.drop j)).Perm ((A.take i++B.take j)++(A.drop i++B.drop j)):=M.pm.append_right _
 refine h1.trans ?_
 have h2:((A.take i++B.take j)++(A.drop i++B.drop j)).Perm ((A.take i++A.drop i)++(B.take j++B.drop j)):=by
  rw [BO,BO]
  refine Dm _ ?_
  rw [← BO,← BO]
  exact Et _ DB
 rw [B_,B_] at h2
 exact h2
theorem Mc.done {A B O:List Keyed}{i j:Nat}(M:Mc κ A B O i j)(sA:Srt κ A)(sB:Srt κ B)(h:i=A.length ∨ j=B.length):Mg κ A B (O++A.drop i++B.drop j):=by
 refine ⟨by rw [BO];exact M.perm,?_⟩
 rw [BO]
 refine bC.mpr ⟨M.so,bC.mpr ⟨sA.drop i,sB.drop j,fun x hx y hy=>?_⟩,fun o ho y hy=>?_⟩
 ·rcases h with h | h
  ·subst h;rw [DP] at hx;cases hx
  ·subst h;rw [DP] at hy;cases hy
 ·rcases BR.mp hy with hy | hy
  ·exact M.la o ho y hy
  ·exact M.lb o ho y hy
theorem Mc.last {A B O:List Keyed}{i j:Nat}(M:Mc κ A B O i j)(sA:Srt κ A)(sB:Srt κ B)(h:i+1=A.length)(hl:∀ z,A[A.length - 1]? = some z→Lel κ B [z]):Mg κ A B (O++B.drop j++A.drop i):=by
 have Hg:i < A.length:=by omega
 have ed:A.drop i=[A[i]]:=by rw [cm (BC Hg),Eu (by omega)]
 refine ⟨?_,?_⟩
 ·refine List.Perm.trans ?_ M.perm
  rw [BO]
  exact Dm _ DB
 ·rw [BO]
  refine bC.mpr ⟨M.so,bC.mpr ⟨sB.drop j,sA.drop i,fun x hx y hy=>?_⟩,fun o ho y hy=>?_⟩
  ·rw [ed] at hy
   exact hl A[i] (by rw [show A.length - 1=i by omega];exact BC Hg) x (Dp hx) y hy
  ·rcases BR.mp hy with hy | hy
   ·exact M.lb o ho y hy
   ·exact M.la o ho y hy
theorem kP (a b o:Array Keyed)(i j:Nat):(mDn a b o i j).toList=o.toList++a.toList.drop i++b.toList.drop j:=by
 simp [mDn,De,BV]
theorem kQ (a b o:Array Keyed)(i j:Nat):(mLa a b o i j).toList=o.toList++b.toList.drop j++a.toList.drop i:=by
 simp [mLa,De,BV]
theorem kR (a:Array Keyed)(i k:Nat):(a.extract i (i+k)).toList=(a.toList.drop i).take k:=by
 simp [De,List.take_drop]
theorem kT {lf:Bool}{key x y:κ.α}(h:κ.kle x y)(hb:bdB κ lf key y=true):bdB κ lf key x=true:=by
 unfold bdB at hb ⊢
 cases lf with
 | true=>exact KeyOrd.klt_of_kle_of_klt h hb
 | false =>
  have hb:(!κ.blt key y)=true:=hb
  have hy:κ.kle y key:=by show κ.blt key y=false;simpa using hb
  have:=DR h hy
  show (!κ.blt key x)=true
  have this:κ.blt key x=false:=this
  rw [this]
  rfl
end Tv
namespace Tv
open PySem PyProof.Rows
section
variable {prog:Program} {w:World} {A:Around} {E:Value→Shared→Prop} {s:Shared} {κ:KeyKind} {kd:SortKind}
structure Ok (kd:SortKind) (st G8:SortSt):Prop where
 tb:TB kd G8
 ar:arrOf G8=arrOf st
 pd:pendingOf G8=pendingOf st
theorem Ok.refl {st:SortSt}(h:TB kd st):Ok kd st st:=⟨h,rfl,rfl⟩
theorem g9 {st G8:SortSt}{g:Nat}{Q:Unit→SortSt→Prop}(h:Ok kd st G8)(q:∀ Ha,Ok kd st Ha→Q () Ha):wpS (model prog w) A E s (smg g) Q G8:=by
 refine Ej (q _ ⟨⟨h.tb.kind,h.tb.failed⟩,h.ar,h.pd⟩)
theorem a_ {st:SortSt}{arr:Array Keyed}{i:Nat}{x:Keyed}{Q:Keyed→SortSt→Prop}(e:arr.toList[i]? = some x)(h:Q x st):wpS (model prog w) A E s (elem' arr i) Q st:=by
 have e':arr[i]? = some x:=by simpa using e
 rw [elem'_eq,e']
 exact BY h
theorem kU {st:SortSt}{lf:Bool}{key:Keyed}{arr:Array Keyed}{i:Nat}{Q:Option Nat→SortSt→Prop}(hO:Lt1 κ prog w A s kd)(hB:TB kd st)(hk:Gd κ key)(hg:∀ x∈arr.toList,Gd κ x)(sa:Srt κ arr.toList)(hi:i < arr.size)
  (hq:∀ k,i+k≤arr.size→(∀ x∈(arr.toList.drop i).take k,bdB κ lf (kof κ key) (kof κ x)=true)→(∀ x∈arr.toList.drop (i+k),bdB κ lf (kof κ key) (kof κ x)=false)→Q (some k) st) :
  wpS (model prog w) A E s (gal lf key arr i (arr.size - i) 0) Q st:=by
 have hl:arr.toList.length=arr.size:=BL
 refine jR hO hB hk (fun t=>match arr.toList[i+t]? with | some p=>bdB κ lf (kof κ key) (kof κ p) | none=>false) (by omega) (fun t ht=>?_) (fun t u htu hu hb=>?_) (fun k hk' h1 h2=>hq k (by omega) (fun x hx=>?_) fun x hx=>?_)
 ·have Hg:i+t < arr.toList.length:=by omega
  have e:=BC Hg
  refine ⟨arr.toList[i+t],by simpa using e,hg _ (CA Hg),?_⟩
  rw [e]
 ·have h1:i+t < arr.toList.length:=by omega
  have h2:i+u < arr.toList.length:=by omega
  have e1:=BC h1
  have e2:=BC h2
  rw [e2] at hb
  rw [e1]
  exact kT (sa.at (by omega) e1 e2) hb
 ·obtain ⟨t,e⟩:=C0 hx
  have ht:t < k:=by
   have:=(BF.mp e).1
   rw [BJ] at this
   omega
  rw [Fg,if_pos ht,C1] at e
  have:=h1 t ht
  rw [e] at this
  exact this
 ·obtain ⟨t,e⟩:=C0 hx
  rw [C1] at e
  have Hg:=(BF.mp e).1
  have:=h2 (k+t) (by omega) (by omega)
  rw [show i+(k+t)=i+k+t by omega,e] at this
  exact this
theorem not_lt {x y:Keyed}(h:κ.blt (kof κ x) (kof κ y)=false):lek κ y x:=h
theorem qP {x y:Keyed}(h:κ.blt (kof κ x) (kof κ y)=true):lek κ x y:=D4 h
theorem fM {l:List Keyed}(sl:Srt κ l){i:Nat}{x y:Keyed}(e:l[i]? = some y)(h:lek κ x y):Lel κ [x] (l.drop i):=fun z hz t ht=>by
 rw [BE] at hz
 subst hz
 rw [cm e] at ht
 rcases B2.mp ht with rfl | ht
 ·exact h
 ·have sd:=sl.drop i
  rw [cm e] at sd
  exact dR h ((DU.mp sd).1 t ht)
abbrev MSt:=Option (Array Keyed) × Array Keyed × Nat × Nat × Nat × Nat × Nat
def jp3 (a b:Array Keyed)(i g p q:Nat)(o:Array Keyed)(j:Nat):StateT SortSt Sem (ForInStep MSt):=do
 let e ← elem' a i
 if (i+1+1 == a.size)=true then pure (.done (some (mLa a b (o.push e) (i+1) j),o.push e,i+1,j,g,p,q))
 else if (decide (p < 7) && decide (q < 7))=true then pure (.done (none,o.push e,i+1,j,g,p,q)) else pure (.yield (none,o.push e,i+1,j,g,p,q))
def jp2 (a b:Array Keyed)(j g p q:Nat)(o:Array Keyed)(i:Nat):StateT SortSt Sem (ForInStep MSt):=do
 let e ← elem' b j
 if (j+1 == b.size)=true then pure (.done (some (mDn a b (o.push e) i (j+1)),o.push e,i,j+1,g,p,q))
 else do
  let f ← elem' a i
  let y ← gal true f b (j+1) (b.size - (j+1)) 0
  match y with
  | some k=>if k > 0 then (if (j+1+k == b.size)=true then pure (.done (some (mDn a b (o.push e++b.extract (j+1) (j+1+k)) i (j+1+k)),o.push e++b.extract (j+1) (j+1+k),i,j+1+k,g,p,k)) else jp3 a b i g p k (o.push e++b.extract (j+1) (j+1+k)) (j+1+k)) else jp3 a b i g p k (o.push e) (j+1)
  | _=>pure (.done (some (mDn a b (o.push e) i (j+1)),o.push e,i,j+1,g,p,q))
def jp1 (a b:Array Keyed)(o:Array Keyed)(i j p q g:Nat):StateT SortSt Sem (ForInStep MSt):=do
 smg g
 let e ← elem' b j
 let y ← gal false e a i (a.size - i) 0
 match y with
 | some k=>if k > 0 then (if (i+k+1 == a.size)=true then pure (.done (some (mLa a b (o++a.extract i (i+k)) (i+k) j),o++a.extract i (i+k),i+k,j,g,k,q)) else if (i+k == a.size)=true then pure (.done (some (mDn a b (o++a.extract i (i+k)) (i+k) j),o++a.extract i (i+k),i+k,j,g,k,q)) else jp2 a b j g k q (o++a.extract i (i+k)) (i+k)) else jp2 a b j g k q o i
 | _=>pure (.done (some (mDn a b o i j),o,i,j,g,p,q))
def Pst (κ:KeyKind)(a b:Array Keyed)(x:Nat)(st:SortSt)(r:ForInStep MSt)(G8:SortSt):Prop:=match r with
 | .done c=>((∃ r z,c=(some r,z)∧Mg κ a.toList b.toList r.toList) ∨ ∃ o i j g p q,c=(none,o,i,j,g,p,q)∧Mc κ a.toList b.toList o.toList i j∧i+1 < a.size∧j < b.size∧x+2≤i+j)∧Ok kd st G8
 | .yield c=>∃ o i j g p q,c=(none,o,i,j,g,p,q)∧Mc κ a.toList b.toList o.toList i j∧i+1 < a.size∧j < b.size∧x+2≤i+j∧Ok kd st G8
structure Two (κ:KeyKind) (a b:Array Keyed):Prop where
 ga:∀ x∈a.toList,Gd κ x
 gb:∀ x∈b.toList,Gd κ x
 sa:Srt κ a.toList
 sb:Srt κ b.toList
 hl:∀ z,a.toList[a.size - 1]? = some z→Lel κ b.toList [z]
theorem Two.atA {a b:Array Keyed}(T:Two κ a b){i:Nat}(hi:i < a.size):∃ x,a.toList[i]? = some x∧Gd κ x:=⟨a.toList[i]'(by rw [BL]; exact hi),BC (by rw [BL]; exact hi),T.ga _ (CA _)⟩
theorem Two.atB {a b:Array Keyed}(T:Two κ a b){i:Nat}(hi:i < b.size):∃ x,b.toList[i]? = some x∧Gd κ x:=⟨b.toList[i]'(by rw [BL]; exact hi),BC (by rw [BL]; exact hi),T.gb _ (CA _)⟩
theorem Two.dn {a b:Array Keyed}(T:Two κ a b){o:Array Keyed}{i j:Nat}(M:Mc κ a.toList b.toList o.toList i j)(h:i=a.size ∨ j=b.size):Mg κ a.toList b.toList (mDn a b o i j).toList:=by
 rw [kP]
 exact M.done T.sa T.sb (by rw [BL,BL];exact h)
theorem Two.ls {a b:Array Keyed}(T:Two κ a b){o:Array Keyed}{i j:Nat}(M:Mc κ a.toList b.toList o.toList i j)(h:i+1=a.size):Mg κ a.toList b.toList (mLa a b o i j).toList:=by
 rw [kQ]
 exact M.last T.sa T.sb (by rw [BL];exact h) (by rw [BL];exact T.hl)
theorem nM {st G8:SortSt}{a b o:Array Keyed}{i j g p q x:Nat}{xa:Keyed}(T:Two κ a b)(M:Mc κ a.toList b.toList o.toList i j)(hi:i+1 < a.size)(hj:j < b.size)(hx:x+2≤i+j)(ok:Ok kd st G8)(HP:a.toList[i]? = some xa)(hle:Lel κ [xa] (b.toList.drop j)) :
  wpS (model prog w) A E s (jp3 a b i g p q o j) (Pst (kd:=kd) κ a b x st) G8:=by
 unfold jp3
 refine BS (a_ HP ?_)
 have M':Mc κ a.toList b.toList (o.push xa).toList (i+1) j:=by rw [D5];exact M.pushA T.sa HP hle
 by_cases hia:i+1+1=a.size
 ·refine aQ (by simpa using hia) ?_
  exact BY ⟨.inl ⟨_,_,rfl,T.ls M' hia⟩,ok⟩
 ·refine aR (by simpa using hia) ?_
  by_cases hpq:(decide (p < 7) && decide (q < 7))=true
  ·refine aQ hpq ?_
   exact BY ⟨.inr ⟨_,_,_,_,_,_,rfl,M',by omega,hj,by omega⟩,ok⟩
  ·refine aR hpq ?_
   exact BY ⟨_,_,_,_,_,_,rfl,M',by omega,hj,by omega,ok⟩
theorem eY {x y:Keyed}:bdB κ false (kof κ x) (kof κ y)=true→lek κ y x:=fun h=>by
 unfold bdB at h
 have h:(!κ.blt (kof κ x) (kof κ y))=true:=h
 show κ.blt (kof κ x) (kof κ y)=false
 simpa using h
theorem fN {x y:Keyed}:bdB κ false (kof κ x) (kof κ y)=false→lek κ x y:=fun h=>by
 unfold bdB at h
 have h:(!κ.blt (kof κ x) (kof κ y))=false:=h
 exact qP (by simpa using h)
theorem jS {x y:Keyed}:bdB κ true (kof κ x) (kof κ y)=true→lek κ y x:=fun h=>qP h
theorem g_ {x y:Keyed}:bdB κ true (kof κ x) (kof κ y)=false→lek κ x y:=fun h=>h
theorem nN {st G8:SortSt}{a b o:Array Keyed}{i j g p q x:Nat}{xb:Keyed}(hO:Lt1 κ prog w A s kd)(T:Two κ a b)(M:Mc κ a.toList b.toList o.toList i j)(hi:i+1 < a.size)(hj:j < b.size)(hx:x+2≤i+j)(ok:Ok kd st G8)(HN:b.toList[j]? = some xb)(hle:Lel κ [xb] (a.toList.drop i)) :
  wpS (model prog w) A E s (jp2 a b j g p q o i) (Pst (kd:=kd) κ a b x st) G8:=by
 have la:a.toList.length=a.size:=BL
 have lb:b.toList.length=b.size:=BL
 unfold jp2
 refine BS (a_ HN ?_)
 have M':Mc κ a.toList b.toList (o.push xb).toList i (j+1):=by rw [D5];exact M.pushB T.sb HN hle
 by_cases hjb:j+1=b.size
 ·refine aQ (by simpa using hjb) ?_
  exact BY ⟨.inl ⟨_,_,rfl,T.dn M' (.inr hjb)⟩,ok⟩
 refine aR (by simpa using hjb) ?_
 obtain ⟨xa,HP,gxa⟩:=T.atA (i:=i) (by omega)
 refine BS (a_ HP (BS (kU hO ok.tb gxa T.gb T.sb (by omega) fun k hk t1 t2=>?_)))
 dsimp only
 have MB:Mc κ a.toList b.toList ((o.push xb).toList++(b.toList.drop (j+1)).take k) i (j+1+k):=M'.pushBs T.sb k (by omega) fun z hz=>fM T.sa HP (jS (t1 z hz)) z (BE.mpr rfl)
 have rest:Lel κ [xa] (b.toList.drop (j+1+k)):=fun z hz y hy=>by
  rw [BE] at hz
  subst hz
  exact g_ (t2 y hy)
 by_cases hk0:k > 0
 ·refine aQ hk0 ?_
  have MB':Mc κ a.toList b.toList (o.push xb++b.extract (j+1) (j+1+k)).toList i (j+1+k):=by rw [E5,kR];exact MB
  by_cases hje:j+1+k=b.size
  ·refine aQ (by simpa using hje) ?_
   exact BY ⟨.inl ⟨_,_,rfl,T.dn MB' (.inr hje)⟩,ok⟩
  ·refine aR (by simpa using hje) ?_
   exact nM T MB' hi (by omega) (by omega) ok HP rest
 ·refine aR hk0 ?_
  have:k=0:=by omega
  subst this
  exact nM T M' hi (by omega) (by omega) ok HP rest
theorem nO {st G8:SortSt}{a b o:Array Keyed}{i j g p q x:Nat}(hO:Lt1 κ prog w A s kd)(T:Two κ a b)(M:Mc κ a.toList b.toList o.toList i j)(hi:i+1 < a.size)(hj:j < b.size)(hx:x+2≤i+j)(ok:Ok kd st G8) :
  wpS (model prog w) A E s (jp1 a b o i j p q g) (Pst (kd:=kd) κ a b x st) G8:=by
 have la:a.toList.length=a.size:=BL
 have lb:b.toList.length=b.size:=BL
 unfold jp1
 refine BS (g9 ok fun st3 ok3=>?_)
 obtain ⟨xb,HN,gxb⟩:=T.atB hj
 refine BS (a_ HN (BS (kU hO ok3.tb gxb T.ga T.sa (by omega) fun k hk t1 t2=>?_)))
 dsimp only
 have MA:Mc κ a.toList b.toList (o.toList++(a.toList.drop i).take k) (i+k) j:=M.pushAs T.sa k (by omega) fun z hz=>fM T.sb HN (eY (t1 z hz)) z (BE.mpr rfl)
 have rest:Lel κ [xb] (a.toList.drop (i+k)):=fun z hz y hy=>by
  rw [BE] at hz
  subst hz
  exact fN (t2 y hy)
 by_cases hk0:k > 0
 ·refine aQ hk0 ?_
  have MA':Mc κ a.toList b.toList (o++a.extract i (i+k)).toList (i+k) j:=by rw [E5,kR];exact MA
  by_cases h1:i+k+1=a.size
  ·refine aQ (by simpa using h1) ?_
   exact BY ⟨.inl ⟨_,_,rfl,T.ls MA' h1⟩,ok3⟩
  ·refine aR (by simpa using h1) ?_
   by_cases h2:i+k=a.size
   ·refine aQ (by simpa using h2) ?_
    exact BY ⟨.inl ⟨_,_,rfl,T.dn MA' (.inl h2)⟩,ok3⟩
   ·refine aR (by simpa using h2) ?_
    exact nN hO T MA' (by omega) hj (by omega) ok3 HN rest
 ·refine aR hk0 ?_
  have:k=0:=by omega
  subst this
  exact nN hO T M hi hj hx ok3 HN rest
abbrev TS (α:Type):=StateT SortSt Sem α
abbrev T6:=Option (Array Keyed) × Array Keyed × Nat × Nat × Nat × Nat
abbrev T5:=Option (Array Keyed) × Array Keyed × Nat × Nat × Nat
def mBe {α:Type}(c:Option (Array Keyed) × α):TS (Array Keyed):=match c.1 with
 | some r=>pure r
 | none=>unsupported "internal:list.sort.merge-bound"
def mB1 (a b:Array Keyed)(g:Nat):T6→TS (ForInStep T6):=fun (_,o,i,j,p,q)=>do
 let y ← elem' b j
 let x ← elem' a i
 let w ← lt' y x
 match w with
 | some w =>
  if w=true then do
   let e ← elem' b j
   if (j+1 == b.size)=true then pure (.done (some (mDn a b (o.push e) i (j+1)),o.push e,i,j+1,0,q+1))
   else if q+1≥g then pure (.done (none,o.push e,i,j+1,0,q+1)) else pure (.yield (none,o.push e,i,j+1,0,q+1))
  else do
   let e ← elem' a i
   if (i+1+1 == a.size)=true then pure (.done (some (mLa a b (o.push e) (i+1) j),o.push e,i+1,j,p+1,0))
   else if p+1≥g then pure (.done (none,o.push e,i+1,j,p+1,0)) else pure (.yield (none,o.push e,i+1,j,p+1,0))
 | _=>pure (.done (some (mDn a b o i j),o,i,j,p,q))
def mB3 (a b:Array Keyed):MSt→TS (ForInStep MSt):=fun (_,o,i,j,g,p,q)=>if g > 1 then jp1 a b o i j p q (g - 1) else jp1 a b o i j p q g
def mB2 (a b:Array Keyed)(g:Nat):T6→TS (ForInStep T5)
 | (some r,o,i,j,_)=>pure (.done (some r,o,i,j,g))
 | (none,o,i,j,p,q)=>do
  rule "list.sort.gallop"
  match ← forIn [0:a.size+b.size] ((none,o,i,j,g+1,p,q):MSt) fun _ d=>mB3 a b d with
  | (some r,o,i,j,g,_)=>pure (.done (some r,o,i,j,g))
  | (none,o,i,j,g,_)=>do
   smg (g+1)
   pure (.yield (none,o,i,j,g+1))
def mB0 (a b:Array Keyed):T5→TS (ForInStep T5):=fun (_,o,i,j,g)=>do
 let d ← forIn [0:a.size+b.size] ((none,o,i,j,0,0):T6) fun _ d=>mB1 a b g d
 mB2 a b g d
theorem uU (a b:Array Keyed):mlo a b=(do
 rule "list.sort.merge-lo"
 let e ← elem' b 0
 if (1 == b.size)=true then pure (mDn a b #[e] 0 1)
 else if (0+1 == a.size)=true then pure (mLa a b #[e] 0 1)
 else do
  let st ← get
  let c ← forIn [0:a.size+b.size] ((none,#[e],0,1,gallopOf st):T5) fun _ c=>mB0 a b c
  mBe c):=by
 rw [xI]
 refine Ci (bind _) (funext fun u=>Ci (bind _) (funext fun e=>Ci (ite _ _) (Ci (ite _ _) (Ci (bind _) (funext fun st=>?_)))))
 refine congr (Ci bind (Ci (forIn _ _) (funext fun x=>funext fun c=>?_))) (funext fun c=>?_)
 ·refine congr (Ci bind (Ci (forIn _ _) (funext fun y=>funext fun d=>rfl))) (funext fun d=>?_)
  rcases d with ⟨_ | r,d⟩
  ·refine Ci (bind _) (funext fun u=>?_)
   refine congr (Ci bind (Ci (forIn _ _) (funext fun y=>funext fun d=>rfl))) (funext fun d=>?_)
   rcases d with ⟨_ | r,d⟩ <;> rfl
  ·rfl
 ·rcases c with ⟨_ | r,c⟩ <;> rfl
theorem uV {st:SortSt}{a b:Array Keyed}{Q:Array Keyed→SortSt→Prop}(hO:Lt1 κ prog w A s kd)(hB:TB kd st)(ga:∀ x∈a.toList,Gd κ x)(gb:∀ x∈b.toList,Gd κ x)(sa:Srt κ a.toList)(sb:Srt κ b.toList)(h0:0 < a.size)(h1:0 < b.size)
  (hf:∀ x y,a.toList[0]? = some x→b.toList[0]? = some y→lek κ y x) (hl:∀ z,a.toList[a.size - 1]? = some z→Lel κ b.toList [z])
  (hq:∀ r G8,Ok kd st G8→Mg κ a.toList b.toList r.toList→Q r G8):wpS (model prog w) A E s (mlo a b) Q st:=by
 have la:a.toList.length=a.size:=BL
 have lb:b.toList.length=b.size:=BL
 have hl:∀ z,a.toList[a.toList.length - 1]? = some z→Lel κ b.toList [z]:=by rw [la];exact hl
 have atA:∀ {i:Nat},i < a.size→∃ x,a.toList[i]? = some x∧Gd κ x:=fun {i} hi=>⟨a.toList[i]'(by omega),BC (by omega),ga _ (CA _)⟩
 have atB:∀ {i:Nat},i < b.size→∃ x,b.toList[i]? = some x∧Gd κ x:=fun {i} hi=>⟨b.toList[i]'(by omega),BC (by omega),gb _ (CA _)⟩
 rw [uU]
 refine BS (Gc (Ei ⟨rfl,?_⟩))
 obtain ⟨y0,ey0,gy0⟩:=atB h1
 obtain ⟨x0,ex0,gx0⟩:=atA h0
 refine BS (a_ ey0 ?_)
 have M0:Mc κ a.toList b.toList [y0] 0 1:=by
  have:Mc κ a.toList b.toList ([]++[y0]) 0 (0+1):=Mc.pushB (O:=[]) (i:=0) (j:=0) ⟨Fm _,.nil,(fun x hx=>by cases hx),(fun x hx=>by cases hx),CC _,CC _⟩ sb ey0 (fM sa ex0 (hf _ _ ex0 ey0))
  exact this
 have dn:∀ {o:Array Keyed} {i j:Nat},Mc κ a.toList b.toList o.toList i j→(i=a.size ∨ j=b.size)→Mg κ a.toList b.toList (mDn a b o i j).toList:=fun M h=>by rw [kP];exact M.done sa sb (by rw [la,lb];exact h)
 have ls:∀ {o:Array Keyed} {i j:Nat},Mc κ a.toList b.toList o.toList i j→i+1=a.size→Mg κ a.toList b.toList (mLa a b o i j).toList:=fun M h=>by rw [kQ];exact M.last sa sb (by rw [la];exact h) hl
 by_cases hb1:1=b.size
 ·refine aQ (by simpa using hb1) ?_
  exact BY (hq _ _ (.refl hB) (dn (o:=#[y0]) M0 (.inr hb1)))
 refine aR (by simpa using hb1) ?_
 by_cases ha1:0+1=a.size
 ·refine aQ (by simpa using ha1) ?_
  exact BY (hq _ _ (.refl hB) (ls (o:=#[y0]) M0 ha1))
 refine aR (by simpa using ha1) ?_
 refine BS (E4 ?_)
 refine BS (Dq (CI (I:=fun x c G8=>∃ o i j g,c=(none,o,i,j,g)∧Mc κ a.toList b.toList o.toList i j∧i+1 < a.size∧j < b.size∧x+1≤i+j∧Ok kd st G8)
  (Q:=fun c G8=>∃ r z,c=(some r,z)∧Mg κ a.toList b.toList r.toList∧Ok kd st G8) ?step ?fin ⟨#[y0],0,1,_,rfl,M0,by omega,by omega,by omega,.refl hB⟩) ?post)
 case post =>
  rintro c G8 ⟨r,z,rfl,m,ok⟩
  unfold mBe
  exact BY (hq _ _ ok m)
 case fin =>
  rintro c G8 ⟨o,i,j,g,rfl,M,hi,hj,hx,ok⟩
  omega
 case step =>
  rintro x c st1 _ hx ⟨o,i,j,g,rfl,M,hi,hj,Hi,ok1⟩
  unfold mB0
  dsimp only
  refine BS (Dq (CI (I:=fun y c G8=>G8=st1∧∃ o i j p q,c=(none,o,i,j,p,q)∧Mc κ a.toList b.toList o.toList i j∧i+1 < a.size∧j < b.size∧x+1+y≤i+j)
   (Q:=fun c G8=>G8=st1∧((∃ r z,c=(some r,z)∧Mg κ a.toList b.toList r.toList) ∨ ∃ o i j p q,c=(none,o,i,j,p,q)∧Mc κ a.toList b.toList o.toList i j∧i+1 < a.size∧j < b.size∧x+2≤i+j)) ?step1 ?fin1 ⟨rfl,o,i,j,0,0,rfl,M,hi,hj,by omega⟩) ?post1)
  case fin1 =>
   rintro c G8 ⟨rfl,o,i,j,p,q,rfl,M,hi,hj,hy⟩
   exact ⟨rfl,.inr ⟨o,i,j,p,q,rfl,M,hi,hj,by omega⟩⟩
  case step1 =>
   rintro y c G8 _ hy ⟨rfl,o,i,j,p,q,rfl,M,hi,hj,Hi⟩
   unfold mB1
   dsimp only
   obtain ⟨xb,HN,gxb⟩:=atB hj
   obtain ⟨xa,HP,gxa⟩:=atA (i:=i) (by omega)
   refine BS (a_ HN (BS (a_ HP (BS (jg hO ok1.tb gxb gxa ?_)))))
   cases eb:κ.blt (kof κ xb) (kof κ xa) with
   | true =>
    simp only [Dx]
    refine BS (a_ HN ?_)
    have M':Mc κ a.toList b.toList (o.push xb).toList i (j+1):=by rw [D5];exact M.pushB sb HN (fM sa HP (qP eb))
    by_cases hjb:j+1=b.size
    ·refine aQ (by simpa using hjb) ?_
     exact BY ⟨rfl,.inl ⟨_,_,rfl,dn M' (.inr hjb)⟩⟩
    ·refine aR (by simpa using hjb) ?_
     by_cases hqg:q+1≥g
     ·refine aQ hqg ?_
      exact BY ⟨rfl,.inr ⟨_,_,_,_,_,rfl,M',hi,by omega,by omega⟩⟩
     ·refine aR hqg ?_
      exact BY ⟨rfl,_,_,_,_,_,rfl,M',hi,by omega,by omega⟩
   | false =>
    simp only [Cc,C_]
    refine BS (a_ HP ?_)
    have M':Mc κ a.toList b.toList (o.push xa).toList (i+1) j:=by rw [D5];exact M.pushA sa HP (fM sb HN (not_lt eb))
    by_cases hia:i+1+1=a.size
    ·refine aQ (by simpa using hia) ?_
     exact BY ⟨rfl,.inl ⟨_,_,rfl,ls M' hia⟩⟩
    ·refine aR (by simpa using hia) ?_
     by_cases hpg:p+1≥g
     ·refine aQ hpg ?_
      exact BY ⟨rfl,.inr ⟨_,_,_,_,_,rfl,M',by omega,hj,by omega⟩⟩
     ·refine aR hpg ?_
      exact BY ⟨rfl,_,_,_,_,_,rfl,M',by omega,hj,by omega⟩
  case post1 =>
   rintro c G8 ⟨rfl,⟨r,z,rfl,m⟩ | ⟨o,i,j,p,q,rfl,M,hi,hj,Hi⟩⟩
   ·exact BY ⟨r,_,rfl,m,ok1⟩
   unfold mB2
   dsimp only
   refine BS (Gc (Ei ⟨rfl,?_⟩))
   refine BS (Dq (CI (I:=fun y c G8=>∃ o i j g p q,c=(none,o,i,j,g,p,q)∧Mc κ a.toList b.toList o.toList i j∧i+1 < a.size∧j < b.size∧x+2≤i+j∧Ok kd st G8)
    (Q:=fun c G8=>((∃ r z,c=(some r,z)∧Mg κ a.toList b.toList r.toList) ∨ ∃ o i j g p q,c=(none,o,i,j,g,p,q)∧Mc κ a.toList b.toList o.toList i j∧i+1 < a.size∧j < b.size∧x+2≤i+j)∧Ok kd st G8) ?step2 ?fin2 ⟨o,i,j,_,p,q,rfl,M,hi,hj,Hi,ok1⟩) ?post2)
   case fin2 =>
    rintro c G8 ⟨o,i,j,g,p,q,rfl,M,hi,hj,Hi,ok⟩
    exact ⟨.inr ⟨o,i,j,g,p,q,rfl,M,hi,hj,Hi⟩,ok⟩
   case post2 =>
    rintro c G8 ⟨⟨r,z,rfl,m⟩ | ⟨o,i,j,g,p,q,rfl,M,hi,hj,Hi⟩,ok⟩
    ·exact BY ⟨r,_,rfl,m,ok⟩
    ·dsimp only
     exact BS (g9 ok fun Ha ok'=>BY ⟨o,i,j,_,rfl,M,hi,hj,by omega,ok'⟩)
   case step2 =>
    rintro y c Hz _ hy ⟨o,i,j,g,p,q,rfl,M,hi,hj,Hi,ok2⟩
    change wpS _ _ _ _ (if g > 1 then jp1 a b o i j p q (g - 1) else jp1 a b o i j p q g) _ _
    refine Dq (Q:=Pst (kd:=kd) κ a b x st) ?_ fun r G8 h=>?_
    rotate_left
    ·cases r with
     | done c=>exact h
     | yield c=>exact h
    by_cases hg:g > 1
    ·refine aQ hg ?_
     exact nO hO ⟨ga,gb,sa,sb,by rw [← la];exact hl⟩ M hi hj Hi ok2
    ·refine aR hg ?_
     exact nO hO ⟨ga,gb,sa,sb,by rw [← la];exact hl⟩ M hi hj Hi ok2
end
end Tv
namespace Tv
open PySem PyProof.Rows
def mhi:Array Keyed→Array Keyed→StateT SortSt Sem (Array Keyed):=sortPriv% PySem.Builtin.mergeHi
abbrev hDn (a b o:Array Keyed)(i j:Nat):Array Keyed:=a.extract 0 i++b.extract 0 j++o.reverse
abbrev hFb (a b o:Array Keyed)(i j:Nat):Array Keyed:=b.extract 0 j++a.extract 0 i++o.reverse
theorem xJ (a b:Array Keyed):mhi a b=(do
 rule "list.sort.merge-hi"
 let mut i:=a.size - 1
 let mut j:=b.size
 let mut o:Array Keyed:=#[← elem' a i]
 if i == 0 then return hDn a b o i j
 if j == 1 then return hFb a b o i j
 let mut g:=gallopOf (← get)
 for _ in [0:a.size+b.size] do
  let mut p:=0
  let mut q:=0
  for _ in [0:a.size+b.size] do
   let some w ← lt' (← elem' b (j - 1)) (← elem' a (i - 1)) | return hDn a b o i j
   if w then
    i:=i - 1
    o:=o.push (← elem' a i)
    p:=p+1
    q:=0
    if i == 0 then return hDn a b o i j
    if p≥g then break
   else
    j:=j - 1
    o:=o.push (← elem' b j)
    q:=q+1
    p:=0
    if j == 1 then return hFb a b o i j
    if q≥g then break
  rule "list.sort.gallop"
  g:=g+1
  for _ in [0:a.size+b.size] do
   if g > 1 then g:=g - 1
   smg g
   let some t ← gal false (← elem' b (j - 1)) a 0 i (i - 1) | return hDn a b o i j
   let k:=i - t
   p:=k
   if k > 0 then
    o:=o++(a.extract t i).reverse
    i:=t
    if i == 0 then return hDn a b o i j
   j:=j - 1
   o:=o.push (← elem' b j)
   if j == 1 then return hFb a b o i j
   let some t ← gal true (← elem' a (i - 1)) b 0 j (j - 1) | return hDn a b o i j
   let k:=j - t
   q:=k
   if k > 0 then
    o:=o++(b.extract t j).reverse
    j:=t
    if j == 1 then return hFb a b o i j
    if j == 0 then return hDn a b o i j
   i:=i - 1
   o:=o.push (← elem' a i)
   if i == 0 then return hDn a b o i j
   if p < 7 && q < 7 then break
  g:=g+1
  smg g
 unsupported "internal:list.sort.merge-bound"):=rfl
variable {κ:KeyKind} {kd:SortKind}
structure Mh (κ:KeyKind) (A B R:List Keyed) (i j:Nat):Prop where
 pm:R.Perm (A.drop i++B.drop j)
 so:Srt κ R
 la:Lel κ (A.take i) R
 lb:Lel κ (B.take j) R
 hi:i≤A.length
 hj:j≤B.length
theorem Mh.pushA {A B R:List Keyed}{i j:Nat}(M:Mh κ A B R (i+1) j)(sA:Srt κ A){x:Keyed}(h:A[i]? = some x)(hx:Lel κ (B.take j) [x]):Mh κ A B (x::R) i j:=by
 have et:=bA h
 have st:=sA.take (i+1)
 rw [et] at st
 have G8:=bC.mp st
 refine ⟨?_,DU.mpr ⟨fun y hy=>M.la x (by rw [et];simp) y hy,M.so⟩,fun y hy z hz=>?_,fun y hy z hz=>?_,by have:=M.hi;omega,M.hj⟩
 ·rw [cm h,List.cons_append]
  exact M.pm.cons x
 ·rcases B2.mp hz with rfl | hz
  ·exact G8.2.2 y hy _ (by simp)
  ·exact M.la y (by rw [et];exact Cb _ hy) z hz
 ·rcases B2.mp hz with rfl | hz
  ·exact hx y hy _ (by simp)
  ·exact M.lb y hy z hz
theorem Mh.pushB {A B R:List Keyed}{i j:Nat}(M:Mh κ A B R i (j+1))(sB:Srt κ B){x:Keyed}(h:B[j]? = some x)(hx:Lel κ (A.take i) [x]):Mh κ A B (x::R) i j:=by
 have et:=bA h
 have st:=sB.take (j+1)
 rw [et] at st
 have G8:=bC.mp st
 refine ⟨?_,DU.mpr ⟨fun y hy=>M.lb x (by rw [et];simp) y hy,M.so⟩,fun y hy z hz=>?_,fun y hy z hz=>?_,M.hi,by have:=M.hj;omega⟩
 ·rw [cm h]
  exact (M.pm.cons x).trans List.perm_middle.symm
 ·rcases B2.mp hz with rfl | hz
  ·exact hx y hy _ (by simp)
  ·exact M.la y hy z hz
 ·rcases B2.mp hz with rfl | hz
  ·exact G8.2.2 y hy _ (by simp)
  ·exact M.lb y (by rw [et];exact Cb _ hy) z hz
theorem Mh.pushAs {A B R:List Keyed}{t j:Nat}(sA:Srt κ A):∀ k,Mh κ A B R (t+k) j→Lel κ (B.take j) ((A.drop t).take k)→Mh κ A B ((A.drop t).take k++R) t j
 | 0,M,_=>by simpa using M
 | k+1,M,hl=>by
  have Hg:t+k < A.length:=by have:=M.hi;omega
  have e:(A.drop t)[k]? = some A[t+k]:=by rw [C1,BC Hg]
  have et:(A.drop t).take (k+1)=(A.drop t).take k++[A[t+k]]:=bA e
  rw [et] at hl ⊢
  have M1:Mh κ A B (A[t+k]::R) (t+k) j:=Mh.pushA M sA (BC Hg) fun y hy z hz=>hl y hy z (BN _ hz)
  have:=Mh.pushAs sA k M1 fun y hy z hz=>hl y hy z (Cb _ hz)
  rw [BO]
  exact this
theorem Mh.pushBs {A B R:List Keyed}{t i:Nat}(sB:Srt κ B):∀ k,Mh κ A B R i (t+k)→Lel κ (A.take i) ((B.drop t).take k)→Mh κ A B ((B.drop t).take k++R) i t
 | 0,M,_=>by simpa using M
 | k+1,M,hl=>by
  have Hg:t+k < B.length:=by have:=M.hj;omega
  have e:(B.drop t)[k]? = some B[t+k]:=by rw [C1,BC Hg]
  have et:(B.drop t).take (k+1)=(B.drop t).take k++[B[t+k]]:=bA e
  rw [et] at hl ⊢
  have M1:Mh κ A B (B[t+k]::R) i (t+k):=Mh.pushB M sB (BC Hg) fun y hy z hz=>hl y hy z (BN _ hz)
  have:=Mh.pushBs sB k M1 fun y hy z hz=>hl y hy z (Cb _ hz)
  rw [BO]
  exact this
theorem Mh.perm {A B R:List Keyed}{i j:Nat}(M:Mh κ A B R i j):(A.take i++B.take j++R).Perm (A++B):=by
 have h1:(A.take i++B.take j++R).Perm (A.take i++B.take j++(A.drop i++B.drop j)):=M.pm.append_left _
 refine h1.trans ?_
 have h2:((A.take i++B.take j)++(A.drop i++B.drop j)).Perm ((A.take i++A.drop i)++(B.take j++B.drop j)):=by
  rw [BO,BO]
  refine Dm _ ?_
  rw [← BO,← BO]
  exact Et _ DB
 rw [B_,B_] at h2
 exact h2
theorem Mh.done {A B R:List Keyed}{i j:Nat}(M:Mh κ A B R i j)(sA:Srt κ A)(sB:Srt κ B)(h:i=0 ∨ j=0):Mg κ A B (A.take i++B.take j++R):=by
 refine ⟨M.perm,bC.mpr ⟨bC.mpr ⟨sA.take i,sB.take j,fun x hx y hy=>?_⟩,M.so,fun o ho y hy=>?_⟩⟩
 ·rcases h with h | h
  ·subst h;simp at hx
  ·subst h;simp at hy
 ·rcases BR.mp ho with ho | ho
  ·exact M.la o ho y hy
  ·exact M.lb o ho y hy
theorem Mh.first {A B R:List Keyed}{i j:Nat}(M:Mh κ A B R i j)(sA:Srt κ A)(sB:Srt κ B)(h:j=1)(hf:∀ z,B[0]? = some z→Lel κ [z] A):Mg κ A B (B.take j++A.take i++R):=by
 refine ⟨List.Perm.trans (Et _ DB) M.perm,bC.mpr ⟨bC.mpr ⟨sB.take j,sA.take i,fun x hx y hy=>?_⟩,M.so,fun o ho y hy=>?_⟩⟩
 ·subst h
  cases B with
  | nil=>simp at hx
  | cons z B =>
   have hx:x=z:=by simpa using hx
   subst hx
   exact hf x rfl x (by simp) y (Dg hy)
 ·rcases BR.mp ho with ho | ho
  ·exact M.lb o ho y hy
  ·exact M.la o ho y hy
theorem qQ (a b o:Array Keyed)(i j:Nat):(hDn a b o i j).toList=a.toList.take i++b.toList.take j++o.toList.reverse:=by
 simp [hDn,De]
theorem qR (a b o:Array Keyed)(i j:Nat):(hFb a b o i j).toList=b.toList.take j++a.toList.take i++o.toList.reverse:=by
 simp [hFb,De]
theorem nQ (a:Array Keyed)(t i:Nat):((a.extract t i).reverse).toList.reverse=(a.toList.drop t).take (i - t):=by
 simp [De]
section
variable {prog:Program} {w:World} {A:Around} {E:Value→Shared→Prop} {s:Shared}
theorem kW {st:SortSt}{lf:Bool}{key:Keyed}{arr:Array Keyed}{n:Nat}{Q:Option Nat→SortSt→Prop}(hO:Lt1 κ prog w A s kd)(hB:TB kd st)(hk:Gd κ key)(hg:∀ x∈arr.toList,Gd κ x)(sa:Srt κ arr.toList)(hn:0 < n)(hna:n≤arr.size)
  (hq:∀ k,k≤n→(∀ x∈arr.toList.take k,bdB κ lf (kof κ key) (kof κ x)=true)→(∀ x∈(arr.toList.drop k).take (n - k),bdB κ lf (kof κ key) (kof κ x)=false)→Q (some k) st) :
  wpS (model prog w) A E s (gal lf key arr 0 n (n - 1)) Q st:=by
 have hl:arr.toList.length=arr.size:=BL
 refine jR hO hB hk (fun t=>match arr.toList[t]? with | some p=>bdB κ lf (kof κ key) (kof κ p) | none=>false) (by omega) (fun t ht=>?_) (fun t u htu hu hb=>?_) (fun k hk' h1 h2=>hq k (by omega) (fun x hx=>?_) fun x hx=>?_)
 ·have Hg:t < arr.toList.length:=by omega
  have e:=BC Hg
  refine ⟨arr.toList[t],by rw [Gn];simpa using e,hg _ (CA Hg),?_⟩
  rw [e]
 ·have h1:t < arr.toList.length:=by omega
  have h2:u < arr.toList.length:=by omega
  have e1:=BC h1
  have e2:=BC h2
  rw [e2] at hb
  rw [e1]
  exact kT (sa.at (by omega) e1 e2) hb
 ·obtain ⟨t,e⟩:=C0 hx
  have ht:t < k:=by
   have:=(BF.mp e).1
   rw [BJ] at this
   omega
  rw [Fg,if_pos ht] at e
  have:=h1 t ht
  rw [e] at this
  exact this
 ·obtain ⟨t,e⟩:=C0 hx
  have ht:t < n - k:=by
   have:=(BF.mp e).1
   rw [BJ] at this
   omega
  rw [Fg,if_pos ht,C1] at e
  have:=h2 (k+t) (by omega) (by omega)
  rw [e] at this
  exact this
theorem hG {l:List Keyed}(sl:Srt κ l){i:Nat}{x y:Keyed}(e:l[i]? = some y)(h:lek κ y x):Lel κ (l.take (i+1)) [x]:=fun z hz t ht=>by
 rw [BE] at ht
 subst ht
 rw [bA e] at hz
 rcases BR.mp hz with hz | hz
 ·have st:=sl.take (i+1)
  rw [bA e] at st
  exact dR ((bC.mp st).2.2 z hz y (by simp)) h
 ·rw [BE] at hz
  subst hz
  exact h
structure mf (κ:KeyKind) (a b:Array Keyed):Prop where
 ga:∀ x∈a.toList,Gd κ x
 gb:∀ x∈b.toList,Gd κ x
 sa:Srt κ a.toList
 sb:Srt κ b.toList
 hf:∀ z,b.toList[0]? = some z→Lel κ [z] a.toList
theorem mf.atA {a b:Array Keyed}(T:mf κ a b){i:Nat}(hi:i < a.size):∃ x,a.toList[i]? = some x∧Gd κ x:=⟨a.toList[i]'(by rw [BL]; exact hi),BC (by rw [BL]; exact hi),T.ga _ (CA _)⟩
theorem mf.atB {a b:Array Keyed}(T:mf κ a b){i:Nat}(hi:i < b.size):∃ x,b.toList[i]? = some x∧Gd κ x:=⟨b.toList[i]'(by rw [BL]; exact hi),BC (by rw [BL]; exact hi),T.gb _ (CA _)⟩
theorem mf.dn {a b:Array Keyed}(T:mf κ a b){o:Array Keyed}{i j:Nat}(M:Mh κ a.toList b.toList o.toList.reverse i j)(h:i=0 ∨ j=0):Mg κ a.toList b.toList (hDn a b o i j).toList:=by
 rw [qQ]
 exact M.done T.sa T.sb h
theorem mf.fb {a b:Array Keyed}(T:mf κ a b){o:Array Keyed}{i j:Nat}(M:Mh κ a.toList b.toList o.toList.reverse i j)(h:j=1):Mg κ a.toList b.toList (hFb a b o i j).toList:=by
 rw [qR]
 exact M.first T.sa T.sb h T.hf
theorem eZ (o:Array Keyed)(x:Keyed):(o.push x).toList.reverse=x::o.toList.reverse:=by simp
theorem nS (o:Array Keyed)(a:Array Keyed)(t i:Nat):(o++(a.extract t i).reverse).toList.reverse=(a.toList.drop t).take (i - t)++o.toList.reverse:=by
 rw [E5,List.reverse_append,nQ]
abbrev HSt:=Option (Array Keyed) × Nat × Nat × Array Keyed × Nat × Nat × Nat
def hq3 (a b:Array Keyed)(i g p q j:Nat)(o:Array Keyed):StateT SortSt Sem (ForInStep HSt):=do
 let e ← elem' a (i - 1)
 if (i - 1 == 0)=true then pure (.done (some (hDn a b (o.push e) (i - 1) j),i - 1,j,o.push e,g,p,q))
 else if (decide (p < 7) && decide (q < 7))=true then pure (.done (none,i - 1,j,o.push e,g,p,q)) else pure (.yield (none,i - 1,j,o.push e,g,p,q))
def hq2 (a b:Array Keyed)(j g p q i:Nat)(o:Array Keyed):StateT SortSt Sem (ForInStep HSt):=do
 let e ← elem' b (j - 1)
 if (j - 1 == 1)=true then pure (.done (some (hFb a b (o.push e) i (j - 1)),i,j - 1,o.push e,g,p,q))
 else do
  let f ← elem' a (i - 1)
  let y ← gal true f b 0 (j - 1) (j - 1 - 1)
  match y with
  | some t=>if j - 1 - t > 0 then (if (t == 1)=true then pure (.done (some (hFb a b (o.push e++(b.extract t (j - 1)).reverse) i t),i,t,o.push e++(b.extract t (j - 1)).reverse,g,p,j - 1 - t)) else if (t == 0)=true then pure (.done (some (hDn a b (o.push e++(b.extract t (j - 1)).reverse) i t),i,t,o.push e++(b.extract t (j - 1)).reverse,g,p,j - 1 - t)) else hq3 a b i g p (j - 1 - t) t (o.push e++(b.extract t (j - 1)).reverse)) else hq3 a b i g p (j - 1 - t) (j - 1) (o.push e)
  | _=>pure (.done (some (hDn a b (o.push e) i (j - 1)),i,j - 1,o.push e,g,p,q))
def hq1 (a b:Array Keyed)(i j:Nat)(o:Array Keyed)(p q g:Nat):StateT SortSt Sem (ForInStep HSt):=do
 smg g
 let e ← elem' b (j - 1)
 let y ← gal false e a 0 i (i - 1)
 match y with
 | some t=>if i - t > 0 then (if (t == 0)=true then pure (.done (some (hDn a b (o++(a.extract t i).reverse) t j),t,j,o++(a.extract t i).reverse,g,i - t,q)) else hq2 a b j g (i - t) q t (o++(a.extract t i).reverse)) else hq2 a b j g (i - t) q i o
 | _=>pure (.done (some (hDn a b o i j),i,j,o,g,p,q))
def Hst (κ:KeyKind)(a b:Array Keyed)(x:Nat)(st:SortSt)(r:ForInStep HSt)(G8:SortSt):Prop:=match r with
 | .done c=>((∃ r z,c=(some r,z)∧Mg κ a.toList b.toList r.toList) ∨ ∃ i j o g p q,c=(none,i,j,o,g,p,q)∧Mh κ a.toList b.toList o.toList.reverse i j∧0 < i∧1 < j∧x+2+i+j≤a.size+b.size)∧Ok kd st G8
 | .yield c=>∃ i j o g p q,c=(none,i,j,o,g,p,q)∧Mh κ a.toList b.toList o.toList.reverse i j∧0 < i∧1 < j∧x+2+i+j≤a.size+b.size∧Ok kd st G8
theorem nU {st G8:SortSt}{a b o:Array Keyed}{i j g p q x:Nat}{xa:Keyed}(T:mf κ a b)(M:Mh κ a.toList b.toList o.toList.reverse i j)(hi:0 < i)(hj:1 < j)(hx:x+2+i+j≤a.size+b.size)(ok:Ok kd st G8)(HP:a.toList[i - 1]? = some xa)(hle:Lel κ (b.toList.take j) [xa]) :
  wpS (model prog w) A E s (hq3 a b i g p q j o) (Hst (kd:=kd) κ a b x st) G8:=by
 unfold hq3
 refine BS (a_ HP ?_)
 have M':Mh κ a.toList b.toList (o.push xa).toList.reverse (i - 1) j:=by
  rw [eZ]
  exact Mh.pushA (by rw [show i - 1+1=i by omega];exact M) T.sa HP hle
 by_cases h0:i - 1=0
 ·refine aQ (by simpa using h0) ?_
  exact BY ⟨.inl ⟨_,_,rfl,T.dn M' (.inl h0)⟩,ok⟩
 ·refine aR (by simpa using h0) ?_
  by_cases hpq:(decide (p < 7) && decide (q < 7))=true
  ·refine aQ hpq ?_
   exact BY ⟨.inr ⟨_,_,_,_,_,_,rfl,M',by omega,hj,by omega⟩,ok⟩
  ·refine aR hpq ?_
   exact BY ⟨_,_,_,_,_,_,rfl,M',by omega,hj,by omega,ok⟩
theorem nW {st G8:SortSt}{a b o:Array Keyed}{i j g p q x:Nat}{xb:Keyed}(hO:Lt1 κ prog w A s kd)(T:mf κ a b)(M:Mh κ a.toList b.toList o.toList.reverse i j)(hi:0 < i)(hj:1 < j)(hx:x+2+i+j≤a.size+b.size)(ok:Ok kd st G8)(HN:b.toList[j - 1]? = some xb)(hle:Lel κ (a.toList.take i) [xb]) :
  wpS (model prog w) A E s (hq2 a b j g p q i o) (Hst (kd:=kd) κ a b x st) G8:=by
 have la:a.toList.length=a.size:=BL
 have lb:b.toList.length=b.size:=BL
 have hia:=M.hi
 have hjb:=M.hj
 unfold hq2
 refine BS (a_ HN ?_)
 have M':Mh κ a.toList b.toList (o.push xb).toList.reverse i (j - 1):=by
  rw [eZ]
  exact Mh.pushB (by rw [show j - 1+1=j by omega];exact M) T.sb HN hle
 by_cases h1:j - 1=1
 ·refine aQ (by simpa using h1) ?_
  exact BY ⟨.inl ⟨_,_,rfl,T.fb M' h1⟩,ok⟩
 refine aR (by simpa using h1) ?_
 obtain ⟨xa,HP,gxa⟩:=T.atA (i:=i - 1) (by omega)
 refine BS (a_ HP (BS (kW hO ok.tb gxa T.gb T.sb (by omega) (by omega) fun t ht t1 t2=>?_)))
 dsimp only
 have up:Lel κ (b.toList.take t) [xa]:=fun z hz y hy=>by
  rw [BE] at hy
  subst hy
  exact jS (t1 z hz)
 have MB:Mh κ a.toList b.toList ((b.toList.drop t).take (j - 1 - t)++(o.push xb).toList.reverse) i t:=Mh.pushBs T.sb (j - 1 - t) (by rw [show t+(j - 1 - t)=j - 1 by omega];exact M') fun y hy z hz=>by
  have:=hG T.sa HP (g_ (t2 z hz))
  rw [show i - 1+1=i by omega] at this
  exact this y hy z (by simp)
 by_cases hk0:j - 1 - t > 0
 ·refine aQ hk0 ?_
  have MB':Mh κ a.toList b.toList (o.push xb++(b.extract t (j - 1)).reverse).toList.reverse i t:=by rw [nS];exact MB
  by_cases ht1:t=1
  ·refine aQ (by simpa using ht1) ?_
   exact BY ⟨.inl ⟨_,_,rfl,T.fb MB' ht1⟩,ok⟩
  ·refine aR (by simpa using ht1) ?_
   by_cases ht0:t=0
   ·refine aQ (by simpa using ht0) ?_
    exact BY ⟨.inl ⟨_,_,rfl,T.dn MB' (.inr ht0)⟩,ok⟩
   ·refine aR (by simpa using ht0) ?_
    exact nU T MB' hi (by omega) (by omega) ok HP up
 ·refine aR hk0 ?_
  have:t=j - 1:=by omega
  subst this
  exact nU T M' hi (by omega) (by omega) ok HP up
theorem nX {st G8:SortSt}{a b o:Array Keyed}{i j g p q x:Nat}(hO:Lt1 κ prog w A s kd)(T:mf κ a b)(M:Mh κ a.toList b.toList o.toList.reverse i j)(hi:0 < i)(hj:1 < j)(hx:x+2+i+j≤a.size+b.size)(ok:Ok kd st G8) :
  wpS (model prog w) A E s (hq1 a b i j o p q g) (Hst (kd:=kd) κ a b x st) G8:=by
 have la:a.toList.length=a.size:=BL
 have lb:b.toList.length=b.size:=BL
 have hia:=M.hi
 have hjb:=M.hj
 unfold hq1
 refine BS (g9 ok fun st3 ok3=>?_)
 obtain ⟨xb,HN,gxb⟩:=T.atB (i:=j - 1) (by omega)
 refine BS (a_ HN (BS (kW hO ok3.tb gxb T.ga T.sa hi (by omega) fun t ht t1 t2=>?_)))
 dsimp only
 have up:Lel κ (a.toList.take t) [xb]:=fun z hz y hy=>by
  rw [BE] at hy
  subst hy
  exact eY (t1 z hz)
 have MA:Mh κ a.toList b.toList ((a.toList.drop t).take (i - t)++o.toList.reverse) t j:=Mh.pushAs T.sa (i - t) (by rw [show t+(i - t)=i by omega];exact M) fun y hy z hz=>by
  have:=hG T.sb HN (fN (t2 z hz))
  rw [show j - 1+1=j by omega] at this
  exact this y hy z (by simp)
 by_cases hk0:i - t > 0
 ·refine aQ hk0 ?_
  have MA':Mh κ a.toList b.toList (o++(a.extract t i).reverse).toList.reverse t j:=by rw [nS];exact MA
  by_cases ht0:t=0
  ·refine aQ (by simpa using ht0) ?_
   exact BY ⟨.inl ⟨_,_,rfl,T.dn MA' (.inl ht0)⟩,ok3⟩
  ·refine aR (by simpa using ht0) ?_
   exact nW hO T MA' (by omega) hj (by omega) ok3 HN up
 ·refine aR hk0 ?_
  have:t=i:=by omega
  subst this
  exact nW hO T M hi hj hx ok3 HN up
abbrev H6:=Option (Array Keyed) × Nat × Nat × Array Keyed × Nat × Nat
abbrev H5:=Option (Array Keyed) × Nat × Nat × Array Keyed × Nat
def hB1 (a b:Array Keyed)(g:Nat):H6→TS (ForInStep H6):=fun (_,i,j,o,p,q)=>do
 let y ← elem' b (j - 1)
 let x ← elem' a (i - 1)
 let w ← lt' y x
 match w with
 | some w =>
  if w=true then do
   let e ← elem' a (i - 1)
   if (i - 1 == 0)=true then pure (.done (some (hDn a b (o.push e) (i - 1) j),i - 1,j,o.push e,p+1,0))
   else if p+1≥g then pure (.done (none,i - 1,j,o.push e,p+1,0)) else pure (.yield (none,i - 1,j,o.push e,p+1,0))
  else do
   let e ← elem' b (j - 1)
   if (j - 1 == 1)=true then pure (.done (some (hFb a b (o.push e) i (j - 1)),i,j - 1,o.push e,0,q+1))
   else if q+1≥g then pure (.done (none,i,j - 1,o.push e,0,q+1)) else pure (.yield (none,i,j - 1,o.push e,0,q+1))
 | _=>pure (.done (some (hDn a b o i j),i,j,o,p,q))
def hB3 (a b:Array Keyed):HSt→TS (ForInStep HSt):=fun (_,i,j,o,g,p,q)=>if g > 1 then hq1 a b i j o p q (g - 1) else hq1 a b i j o p q g
def hB2 (a b:Array Keyed)(g:Nat):H6→TS (ForInStep H5)
 | (some r,i,j,o,_)=>pure (.done (some r,i,j,o,g))
 | (none,i,j,o,p,q)=>do
  rule "list.sort.gallop"
  match ← forIn [0:a.size+b.size] ((none,i,j,o,g+1,p,q):HSt) fun _ d=>hB3 a b d with
  | (some r,i,j,o,g,_)=>pure (.done (some r,i,j,o,g))
  | (none,i,j,o,g,_)=>do
   smg (g+1)
   pure (.yield (none,i,j,o,g+1))
def hB0 (a b:Array Keyed):H5→TS (ForInStep H5):=fun (_,i,j,o,g)=>do
 let d ← forIn [0:a.size+b.size] ((none,i,j,o,0,0):H6) fun _ d=>hB1 a b g d
 hB2 a b g d
theorem uW (a b:Array Keyed):mhi a b=(do
 rule "list.sort.merge-hi"
 let e ← elem' a (a.size - 1)
 if (a.size - 1 == 0)=true then pure (hDn a b #[e] (a.size - 1) b.size)
 else if (b.size == 1)=true then pure (hFb a b #[e] (a.size - 1) b.size)
 else do
  let st ← get
  let c ← forIn [0:a.size+b.size] ((none,a.size - 1,b.size,#[e],gallopOf st):H5) fun _ c=>hB0 a b c
  mBe c):=by
 rw [xJ]
 refine Ci (bind _) (funext fun u=>Ci (bind _) (funext fun e=>Ci (ite _ _) (Ci (ite _ _) (Ci (bind _) (funext fun st=>?_)))))
 refine congr (Ci bind (Ci (forIn _ _) (funext fun x=>funext fun c=>?_))) (funext fun c=>?_)
 ·refine congr (Ci bind (Ci (forIn _ _) (funext fun y=>funext fun d=>rfl))) (funext fun d=>?_)
  rcases d with ⟨_ | r,d⟩
  ·refine Ci (bind _) (funext fun u=>?_)
   refine congr (Ci bind (Ci (forIn _ _) (funext fun y=>funext fun d=>rfl))) (funext fun d=>?_)
   rcases d with ⟨_ | r,d⟩ <;> rfl
  ·rfl
 ·rcases c with ⟨_ | r,c⟩ <;> rfl
theorem uX {st:SortSt}{a b:Array Keyed}{Q:Array Keyed→SortSt→Prop}(hO:Lt1 κ prog w A s kd)(hB:TB kd st)(T:mf κ a b)(h0:0 < a.size)(h1:0 < b.size)
  (hl:∀ z,a.toList[a.size - 1]? = some z→Lel κ b.toList [z])
  (hq:∀ r G8,Ok kd st G8→Mg κ a.toList b.toList r.toList→Q r G8):wpS (model prog w) A E s (mhi a b) Q st:=by
 have la:a.toList.length=a.size:=BL
 have lb:b.toList.length=b.size:=BL
 rw [uW]
 refine BS (Gc (Ei ⟨rfl,?_⟩))
 obtain ⟨z0,ez0,gz0⟩:=T.atA (i:=a.size - 1) (by omega)
 refine BS (a_ ez0 ?_)
 have M0:Mh κ a.toList b.toList (#[z0]:Array Keyed).toList.reverse (a.size - 1) b.size:=by
  have:Mh κ a.toList b.toList [z0] (a.size - 1) b.size:=Mh.pushA (R:=[]) (by
   rw [show a.size - 1+1=a.size by omega]
   refine ⟨?_,.nil,(fun x hx y hy=>by cases hy),(fun x hx y hy=>by cases hy),by omega,by omega⟩
   rw [Eu (by omega),Eu (by omega)]
   exact Fm _) T.sa ez0 (by rw [BV (by omega)];exact hl _ ez0)
  exact this
 by_cases ha1:a.size - 1=0
 ·refine aQ (by simpa using ha1) ?_
  exact BY (hq _ _ (.refl hB) (T.dn M0 (.inl ha1)))
 refine aR (by simpa using ha1) ?_
 by_cases hb1:b.size=1
 ·refine aQ (by simpa using hb1) ?_
  exact BY (hq _ _ (.refl hB) (T.fb M0 hb1))
 refine aR (by simpa using hb1) ?_
 refine BS (E4 ?_)
 refine BS (Dq (CI (I:=fun x c G8=>∃ i j o g,c=(none,i,j,o,g)∧Mh κ a.toList b.toList o.toList.reverse i j∧0 < i∧1 < j∧x+1+i+j≤a.size+b.size∧Ok kd st G8)
  (Q:=fun c G8=>∃ r z,c=(some r,z)∧Mg κ a.toList b.toList r.toList∧Ok kd st G8) ?step ?fin ⟨_,_,_,_,rfl,M0,by omega,by omega,by omega,.refl hB⟩) ?post)
 case post =>
  rintro c G8 ⟨r,z,rfl,m,ok⟩
  unfold mBe
  exact BY (hq _ _ ok m)
 case fin =>
  rintro c G8 ⟨i,j,o,g,rfl,M,hi,hj,hx,ok⟩
  omega
 case step =>
  rintro x c st1 _ hx ⟨i,j,o,g,rfl,M,hi,hj,Hi,ok1⟩
  unfold hB0
  dsimp only
  refine BS (Dq (CI (I:=fun y c G8=>G8=st1∧∃ i j o p q,c=(none,i,j,o,p,q)∧Mh κ a.toList b.toList o.toList.reverse i j∧0 < i∧1 < j∧x+1+y+i+j≤a.size+b.size)
   (Q:=fun c G8=>G8=st1∧((∃ r z,c=(some r,z)∧Mg κ a.toList b.toList r.toList) ∨ ∃ i j o p q,c=(none,i,j,o,p,q)∧Mh κ a.toList b.toList o.toList.reverse i j∧0 < i∧1 < j∧x+2+i+j≤a.size+b.size)) ?step1 ?fin1 ⟨rfl,i,j,o,0,0,rfl,M,hi,hj,by omega⟩) ?post1)
  case fin1 =>
   rintro c G8 ⟨rfl,i,j,o,p,q,rfl,M,hi,hj,hy⟩
   exact ⟨rfl,.inr ⟨i,j,o,p,q,rfl,M,hi,hj,by omega⟩⟩
  case step1 =>
   rintro y c G8 _ hy ⟨rfl,i,j,o,p,q,rfl,M,hi,hj,Hi⟩
   unfold hB1
   dsimp only
   have hia:=M.hi
   have hjb:=M.hj
   obtain ⟨xb,HN,gxb⟩:=T.atB (i:=j - 1) (by omega)
   obtain ⟨xa,HP,gxa⟩:=T.atA (i:=i - 1) (by omega)
   refine BS (a_ HN (BS (a_ HP (BS (jg hO ok1.tb gxb gxa ?_)))))
   cases eb:κ.blt (kof κ xb) (kof κ xa) with
   | true =>
    simp only [Dx]
    refine BS (a_ HP ?_)
    have M':Mh κ a.toList b.toList (o.push xa).toList.reverse (i - 1) j:=by
     rw [eZ]
     refine Mh.pushA (by rw [show i - 1+1=i by omega];exact M) T.sa HP ?_
     have:=hG T.sb HN (qP eb)
     rwa [show j - 1+1=j by omega] at this
    by_cases hi0:i - 1=0
    ·refine aQ (by simpa using hi0) ?_
     exact BY ⟨rfl,.inl ⟨_,_,rfl,T.dn M' (.inl hi0)⟩⟩
    ·refine aR (by simpa using hi0) ?_
     by_cases hpg:p+1≥g
     ·refine aQ hpg ?_
      exact BY ⟨rfl,.inr ⟨_,_,_,_,_,rfl,M',by omega,hj,by omega⟩⟩
     ·refine aR hpg ?_
      exact BY ⟨rfl,_,_,_,_,_,rfl,M',by omega,hj,by omega⟩
   | false =>
    simp only [Cc,C_]
    refine BS (a_ HN ?_)
    have M':Mh κ a.toList b.toList (o.push xb).toList.reverse i (j - 1):=by
     rw [eZ]
     refine Mh.pushB (by rw [show j - 1+1=j by omega];exact M) T.sb HN ?_
     have:=hG T.sa HP (not_lt eb)
     rwa [show i - 1+1=i by omega] at this
    by_cases hj1:j - 1=1
    ·refine aQ (by simpa using hj1) ?_
     exact BY ⟨rfl,.inl ⟨_,_,rfl,T.fb M' hj1⟩⟩
    ·refine aR (by simpa using hj1) ?_
     by_cases hqg:q+1≥g
     ·refine aQ hqg ?_
      exact BY ⟨rfl,.inr ⟨_,_,_,_,_,rfl,M',hi,by omega,by omega⟩⟩
     ·refine aR hqg ?_
      exact BY ⟨rfl,_,_,_,_,_,rfl,M',hi,by omega,by omega⟩
  case post1 =>
   rintro c G8 ⟨rfl,⟨r,z,rfl,m⟩ | ⟨i,j,o,p,q,rfl,M,hi,hj,Hi⟩⟩
   ·exact BY ⟨r,_,rfl,m,ok1⟩
   unfold hB2
   dsimp only
   refine BS (Gc (Ei ⟨rfl,?_⟩))
   refine BS (Dq (CI (I:=fun y c G8=>∃ i j o g p q,c=(none,i,j,o,g,p,q)∧Mh κ a.toList b.toList o.toList.reverse i j∧0 < i∧1 < j∧x+2+i+j≤a.size+b.size∧Ok kd st G8)
    (Q:=fun c G8=>((∃ r z,c=(some r,z)∧Mg κ a.toList b.toList r.toList) ∨ ∃ i j o g p q,c=(none,i,j,o,g,p,q)∧Mh κ a.toList b.toList o.toList.reverse i j∧0 < i∧1 < j∧x+2+i+j≤a.size+b.size)∧Ok kd st G8) ?step2 ?fin2 ⟨i,j,o,_,p,q,rfl,M,hi,hj,Hi,ok1⟩) ?post2)
   case fin2 =>
    rintro c G8 ⟨i,j,o,g,p,q,rfl,M,hi,hj,Hi,ok⟩
    exact ⟨.inr ⟨i,j,o,g,p,q,rfl,M,hi,hj,Hi⟩,ok⟩
   case post2 =>
    rintro c G8 ⟨⟨r,z,rfl,m⟩ | ⟨i,j,o,g,p,q,rfl,M,hi,hj,Hi⟩,ok⟩
    ·exact BY ⟨r,_,rfl,m,ok⟩
    ·dsimp only
     exact BS (g9 ok fun Ha ok'=>BY ⟨i,j,o,_,rfl,M,hi,hj,by omega,ok'⟩)
   case step2 =>
    rintro y c Hz _ hy ⟨i,j,o,g,p,q,rfl,M,hi,hj,Hi,ok2⟩
    change wpS _ _ _ _ (if g > 1 then hq1 a b i j o p q (g - 1) else hq1 a b i j o p q g) _ _
    refine Dq (Q:=Hst (kd:=kd) κ a b x st) ?_ fun r G8 h=>?_
    rotate_left
    ·cases r with
     | done c=>exact h
     | yield c=>exact h
    by_cases hg:g > 1
    ·refine aQ hg ?_
     exact nX hO T M hi hj Hi ok2
    ·refine aR hg ?_
     exact nX hO T M hi hj Hi ok2
end
end Tv
namespace Tv
open PySem PyProof.Rows
variable {κ:KeyKind} {kd:SortKind}
def SrI (κ:KeyKind)(xs:Array Keyed)(lo hi:Nat):Prop:=∀ i j,lo≤i→i≤j→j < hi→κ.kle (KK κ xs i) (KK κ xs j)
def NiI (κ:KeyKind)(xs:Array Keyed)(lo hi:Nat):Prop:=∀ i j,lo≤i→i≤j→j < hi→κ.kle (KK κ xs j) (KK κ xs i)
structure Rp (lo hi:Nat) (xs ys:Array Keyed):Prop where
 pm:ys.Perm xs
 out:∀ k,(k < lo ∨ hi≤k)→ys[k]? = xs[k]?
theorem Rp.refl (lo hi:Nat)(xs:Array Keyed):Rp lo hi xs xs:=⟨FY _,fun _ _=>rfl⟩
theorem Rp.trans {lo hi:Nat}{xs ys zs:Array Keyed}(h:Rp lo hi xs ys)(g:Rp lo hi ys zs):Rp lo hi xs zs:=⟨g.pm.trans h.pm,fun k hk=>(g.out k hk).trans (h.out k hk)⟩
theorem Rp.size {lo hi:Nat}{xs ys:Array Keyed}(h:Rp lo hi xs ys):ys.size=xs.size:=h.pm.size_eq
theorem Rp.mirror {lo hi i j:Nat}{xs:Array Keyed}(h1:lo≤i)(h2:j≤hi)(hj:j≤xs.size):Rp lo hi xs (mirror xs i j ((j - i) / 2)):=by
 refine ⟨mirror_perm _ _ _ _,fun k hk=>?_⟩
 rw [getElem?_mirror_all hj,if_neg (by omega)]
theorem Rp.bubble {lo hi src d:Nat}{xs:Array Keyed}(h1:lo+d≤src)(h2:src < hi)(hs:src < xs.size):Rp lo hi xs (bubble xs src d):=by
 refine ⟨bubble_perm _ _ _,fun k hk=>?_⟩
 rw [getElem?_bubble hs d (by omega),if_neg (by omega),if_neg (by omega)]
structure Rs (kd:SortKind) (κ:KeyKind) (lo hi:Nat) (st G8:SortSt):Prop where
 tb:TB kd G8
 pd:pendingOf G8=pendingOf st
 gd:∀ x∈(arrOf G8).toList,Gd κ x
 rp:Rp lo hi (arrOf st) (arrOf G8)
theorem Rs.refl {lo hi:Nat}{st:SortSt}(h:TB kd st)(g:∀ x∈(arrOf st).toList,Gd κ x):Rs kd κ lo hi st st:=⟨h,rfl,g,.refl _ _ _⟩
theorem Rs.arr {lo hi:Nat}{st G8:SortSt}(h:Rs kd κ lo hi st G8){ys:Array Keyed}(r:Rp lo hi (arrOf G8) ys):Rs kd κ lo hi st (setArr G8 ys) :=
 ⟨⟨h.tb.kind,h.tb.failed⟩,h.pd,fun x hx=>h.gd x ((D6.mp r.pm).mem_iff.mp hx),h.rp.trans r⟩
theorem xK {xs:Array Keyed}(g:∀ x∈xs.toList,Gd κ x){i:Nat}(hi:i < xs.size):∃ x p,xs[i]? = some (x,p)∧κ.keyOf x=some (KK κ xs i):=by
 have e:xs[i]? = some xs[i]:=getElem?_pos xs i hi
 refine ⟨xs[i].1,xs[i].2,e,?_⟩
 have:=(g xs[i] (by simp)).eq
 rw [this]
 unfold KK kof
 rw [e]
section
variable {prog:Program} {w:World} {A:Around} {E:Value→Shared→Prop} {s:Shared}
theorem eg {st:SortSt}{i j:Nat}{Q:Option Bool→SortSt→Prop}(hO:Lt1 κ prog w A s kd)(hB:TB kd st)(g:∀ x∈(arrOf st).toList,Gd κ x)(hi:i < (arrOf st).size)(hj:j < (arrOf st).size)
  (h:Q (some (κ.blt (KK κ (arrOf st) i) (KK κ (arrOf st) j))) st):wpS (model prog w) A E s (ltAt' i j) Q st:=by
 obtain ⟨x,p,e1,k1⟩:=xK g hi
 obtain ⟨y,q,e2,k2⟩:=xK g hj
 have hx:Gd κ (x,p):=⟨_,k1⟩
 have hy:Gd κ (y,q):=⟨_,k2⟩
 rw [ltAt'_eq]
 refine BS (E4 ?_)
 show wpS _ _ _ _ (do let x ← elem' (arrOf st) i;let y ← elem' (arrOf st) j;lt' x y) Q st
 rw [elem'_eq,elem'_eq,e1,e2]
 refine BS (BY (BS (BY (jg hO hB hx hy ?_))))
 have a1:kof κ (x,p)=_:=BW (hx.eq.symm.trans k1)
 have a2:kof κ (y,q)=_:=BW (hy.eq.symm.trans k2)
 rw [a1,a2]
 exact h
def zL (lo a nr:Nat):StateT SortSt Sem (Option Nat):=do
 let mut n:=a
 for _ in [a:nr] do
  let some sm ← ltAt' (lo+n) (lo+n - 1) | return none
  if sm then break
  n:=n+1
 return some n
def uY (lo a nr:Nat):StateT SortSt Sem (Option Nat):=do
 reverseSlice' lo (lo+a)
 zL lo a nr
def zM (lo a nr:Nat):StateT SortSt Sem (Option Nat):=do
 rule "list.sort.descending-run"
 let mut n:=a+1
 let mut e:=0
 for _ in [a+1:nr] do
  let some sm ← ltAt' (lo+n) (lo+n - 1) | return none
  if sm then
   if e > 0 then reverseSlice' (lo+n - (e+1)) (lo+n)
   e:=0
  else
   let some lg ← ltAt' (lo+n - 1) (lo+n) | return none
   if lg then break
   e:=e+1
  n:=n+1
 if e > 0 then reverseSlice' (lo+n - (e+1)) (lo+n)
 uY lo n nr
theorem nY {xs:Array Keyed}{lo x:Nat}(a1:SrI κ xs lo (lo+x))(h1:1≤x)(e:κ.blt (KK κ xs (lo+x)) (KK κ xs (lo+x - 1))=false):SrI κ xs lo (lo+(x+1)):=fun i j hi Hi hj=>by
 by_cases q:j < lo+x
 ·exact a1 i j hi Hi q
 ·have:j=lo+x:=by omega
  subst this
  by_cases q2:i=lo+x
  ·subst q2;exact C3 _
  ·exact DR (a1 i (lo+x - 1) hi (by omega) (by omega)) e
theorem qS {st:SortSt}{lo a nr:Nat}{Q:Option Nat→SortSt→Prop}(hO:Lt1 κ prog w A s kd)(hB:TB kd st)(g:∀ x∈(arrOf st).toList,Gd κ x)(h1:1≤a)(h2:a≤nr)(h3:lo+nr≤(arrOf st).size)(hs:SrI κ (arrOf st) lo (lo+a))
  (h:∀ n,a≤n→n≤nr→SrI κ (arrOf st) lo (lo+n)→Q (some n) st):wpS (model prog w) A E s (zL lo a nr) Q st:=by
 unfold zL
 refine BS (Dq (CI (I:=fun x c G8=>G8=st∧c=(none,x)∧SrI κ (arrOf st) lo (lo+x))
  (Q:=fun c G8=>G8=st∧∃ n,c=(none,n)∧a≤n∧n≤nr∧SrI κ (arrOf st) lo (lo+n)∧(n=nr ∨ κ.klt (KK κ (arrOf st) (lo+n)) (KK κ (arrOf st) (lo+n - 1)))) ?step ?fin ⟨rfl,rfl,hs⟩) ?post)
 case fin =>
  rintro c G8 ⟨rfl,rfl,a1⟩
  have e:max a nr=nr:=by omega
  rw [e] at a1 ⊢
  exact ⟨rfl,nr,rfl,by omega,BG _,a1,.inl rfl⟩
 case step =>
  rintro x c G8 hx1 hx2 ⟨rfl,rfl,a1⟩
  dsimp only
  refine BS (eg hO hB g (by omega) (by omega) ?_)
  cases e:κ.blt (KK κ (arrOf G8) (lo+x)) (KK κ (arrOf G8) (lo+x - 1)) with
  | true =>
   simp only [Dx]
   exact BY ⟨rfl,x,rfl,hx1,by omega,a1,.inr e⟩
  | false =>
   simp only [Cc,C_]
   exact BY ⟨rfl,rfl,nY a1 (by omega) e⟩
 case post =>
  rintro c G8 ⟨rfl,n,rfl,a1,a2,a3,a4⟩
  exact BY (h n a1 a2 a3)
theorem jh {st G8:SortSt}{lo a nr:Nat}{Q:Option Nat→SortSt→Prop}(hO:Lt1 κ prog w A s kd)(R:Rs kd κ lo (lo+nr) st G8)(h1:1≤a)(h2:a≤nr)(h3:lo+nr≤(arrOf st).size)(hs:NiI κ (arrOf G8) lo (lo+a))
  (h:∀ n Ha,1≤n→n≤nr→Rs kd κ lo (lo+nr) st Ha→SrI κ (arrOf Ha) lo (lo+n)→Q (some n) Ha):wpS (model prog w) A E s (uY lo a nr) Q G8:=by
 have hz:=R.rp.size
 unfold uY
 refine BS (wpS_reverse ?_)
 have R':Rs kd κ lo (lo+nr) st (setArr G8 (mirror (arrOf G8) lo (lo+a) ((lo+a - lo) / 2))):=R.arr (Rp.mirror (BG _) (by omega) (by omega))
 refine qS hO R'.tb R'.gd h1 h2 (by rw [R'.rp.size];exact h3) (fun i j hi Hi hj=>?_) fun n a1 a2 a3=>h n _ (by omega) a2 R' a3
 show κ.kle (KK κ (mirror (arrOf G8) lo (lo+a) ((lo+a - lo) / 2)) i) (KK κ (mirror (arrOf G8) lo (lo+a) ((lo+a - lo) / 2)) j)
 rw [KK_mirror (by omega),KK_mirror (by omega),if_pos (by omega),if_pos (by omega)]
 exact hs _ _ (by omega) (by omega) (by omega)
theorem kX {st G8:SortSt}{lo a nr:Nat}{Q:Option Nat→SortSt→Prop}(hO:Lt1 κ prog w A s kd)(R:Rs kd κ lo (lo+nr) st G8)(h2:a+1≤nr)(h3:lo+nr≤(arrOf st).size)(hs:NiI κ (arrOf G8) lo (lo+(a+1)))
  (h:∀ n Ha,1≤n→n≤nr→Rs kd κ lo (lo+nr) st Ha→SrI κ (arrOf Ha) lo (lo+n)→Q (some n) Ha):wpS (model prog w) A E s (zM lo a nr) Q G8:=by
 unfold zM
 refine BS (Gc (Ei ⟨rfl,?_⟩))
 dsimp only
 refine BS (Dq (CI (I:=fun x c Ha=>∃ e,c=(none,x,e)∧Rs kd κ lo (lo+nr) st Ha∧NiI κ (arrOf Ha) lo (lo+x)∧e+1≤x∧∀ i,lo+x - (e+1)≤i→i < lo+x→KK κ (arrOf Ha) i=KK κ (arrOf Ha) (lo+x - 1))
  (Q:=fun c Ha=>∃ x e,c=(none,x,e)∧a+1≤x∧x≤nr∧Rs kd κ lo (lo+nr) st Ha∧NiI κ (arrOf Ha) lo (lo+x)∧e+1≤x∧∀ i,lo+x - (e+1)≤i→i < lo+x→KK κ (arrOf Ha) i=KK κ (arrOf Ha) (lo+x - 1)) ?step ?fin ⟨0,rfl,R,hs,by omega,fun i h1 h2=>by congr 1;omega⟩) ?post)
 case fin =>
  rintro c Ha ⟨e,rfl,R,hs,he,hk⟩
  have ex:max (a+1) nr=nr:=by omega
  rw [ex] at hs he hk ⊢
  exact ⟨nr,e,rfl,h2,BG _,R,hs,he,hk⟩
 case post =>
  rintro c Ha ⟨x,e,rfl,hx1,hx2,R,hs,he,hk⟩
  have hz:=R.rp.size
  dsimp only
  by_cases h0:e > 0
  ·refine aQ h0 ?_
   refine BS (wpS_reverse ?_)
   refine jh hO (R.arr (Rp.mirror (by omega) (by omega) (by omega))) (by omega) hx2 h3 (fun i j hi Hi hj=>?_) h
   show κ.kle (KK κ (mirror (arrOf Ha) _ _ _) j) (KK κ (mirror (arrOf Ha) _ _ _) i)
   rw [Ep (by omega) hk,Ep (by omega) hk]
   exact hs i j hi Hi hj
  ·refine aR h0 ?_
   exact jh hO R (by omega) hx2 h3 hs h
 case step =>
  rintro x c Ha hx1 hx2 ⟨e,rfl,R,hs,he,hk⟩
  have hz:=R.rp.size
  dsimp only
  refine BS (eg hO R.tb R.gd (by omega) (by omega) ?_)
  cases e1:κ.blt (KK κ (arrOf Ha) (lo+x)) (KK κ (arrOf Ha) (lo+x - 1)) with
  | true =>
   simp only [Dx]
   have nx:∀ xs:Array Keyed,(∀ k,KK κ xs k=KK κ (arrOf Ha) k)→NiI κ xs lo (lo+(x+1)):=fun xs ek i j hi Hi hj=>by
    rw [ek,ek]
    by_cases q:j < lo+x
    ·exact hs i j hi Hi q
    ·have:j=lo+x:=by omega
     subst this
     by_cases q2:i=lo+x
     ·subst q2;exact C3 _
     ·exact DR (D4 e1) (hs i (lo+x - 1) hi (by omega) (by omega))
   by_cases h0:e > 0
   ·refine aQ h0 ?_
    exact BS (wpS_reverse (BY ⟨0,rfl,R.arr (Rp.mirror (by omega) (by omega) (by omega)),nx _ (Ep (by omega) hk),by omega,fun i h1 h2=>by congr 1;omega⟩))
   ·refine aR h0 ?_
    exact BY ⟨0,rfl,R,nx _ fun _=>rfl,by omega,fun i h1 h2=>by congr 1;omega⟩
  | false =>
   simp only [Cc,C_]
   refine BS (eg hO R.tb R.gd (by omega) (by omega) ?_)
   cases e2:κ.blt (KK κ (arrOf Ha) (lo+x - 1)) (KK κ (arrOf Ha) (lo+x)) with
   | true =>
    simp only [Dx]
    exact BY ⟨x,e,rfl,hx1,by omega,R,hs,he,hk⟩
   | false =>
    simp only [Cc,C_]
    have ee:KK κ (arrOf Ha) (lo+x)=KK κ (arrOf Ha) (lo+x - 1):=KeyOrd.kle_antisymm e2 e1
    refine BY ⟨e+1,rfl,R,fun i j hi Hi hj=>?_,by omega,fun i h1 h2=>?_⟩
    ·by_cases q:j < lo+x
     ·exact hs i j hi Hi q
     ·have:j=lo+x:=by omega
      subst this
      by_cases q2:i=lo+x
      ·subst q2;exact C3 _
      ·rw [ee];exact hs i (lo+x - 1) hi (by omega) (by omega)
    ·rw [show lo+(x+1) - 1=lo+x by omega]
     by_cases q:i=lo+x
     ·subst q;rfl
     ·rw [ee];exact hk i (by omega) (by omega)
theorem qT {st:SortSt}{lo nr:Nat}{Q:Option Nat→SortSt→Prop}(hO:Lt1 κ prog w A s kd)(hB:TB kd st)(g:∀ x∈(arrOf st).toList,Gd κ x)(h1:1≤nr)(h3:lo+nr≤(arrOf st).size)
  (h:∀ n G8,1≤n→n≤nr→Rs kd κ lo (lo+nr) st G8→SrI κ (arrOf G8) lo (lo+n)→Q (some n) G8):wpS (model prog w) A E s (countRun' lo nr) Q st:=by
 have R:Rs kd κ lo (lo+nr) st st:=.refl hB g
 rw [countRun'_eq]
 change wpS _ _ _ _ (do
  let mut n:=1
  for _ in [1:nr] do
   let some sm ← ltAt' (lo+n) (lo+n - 1) | return none
   if sm then break
   n:=n+1
  if n == nr then return some n
  if n > 1 then
   let some rs ← ltAt' lo (lo+n - 1) | return none
   if rs then return some n
   reverseSlice' lo (lo+n)
  zM lo n nr) _ _
 refine BS (Dq (CI (I:=fun x c G8=>G8=st∧c=(none,x)∧SrI κ (arrOf st) lo (lo+x))
  (Q:=fun c G8=>G8=st∧∃ n,c=(none,n)∧1≤n∧n≤nr∧SrI κ (arrOf st) lo (lo+n)∧(n=nr ∨ κ.klt (KK κ (arrOf st) (lo+n)) (KK κ (arrOf st) (lo+n - 1)))) ?step ?fin ⟨rfl,rfl,fun i j hi Hi hj=>by have:i=j:=(by omega);subst this;exact C3 _⟩) ?post)
 case fin =>
  rintro c G8 ⟨rfl,rfl,a1⟩
  have e:max 1 nr=nr:=by omega
  rw [e] at a1 ⊢
  exact ⟨rfl,nr,rfl,by omega,BG _,a1,.inl rfl⟩
 case step =>
  rintro x c G8 hx1 hx2 ⟨rfl,rfl,a1⟩
  dsimp only
  refine BS (eg hO hB g (by omega) (by omega) ?_)
  cases e:κ.blt (KK κ (arrOf G8) (lo+x)) (KK κ (arrOf G8) (lo+x - 1)) with
  | true =>
   simp only [Dx]
   exact BY ⟨rfl,x,rfl,hx1,by omega,a1,.inr e⟩
  | false =>
   simp only [Cc,C_]
   exact BY ⟨rfl,rfl,nY a1 (by omega) e⟩
 rintro c G8 ⟨rfl,n,rfl,a1,a2,a3,a4⟩
 dsimp only
 by_cases hn:n=nr
 ·refine aQ (by simpa using hn) ?_
  exact BY (h n G8 a1 a2 R a3)
 ·refine aR (by simpa using hn) ?_
  have lt:κ.klt (KK κ (arrOf G8) (lo+n)) (KK κ (arrOf G8) (lo+n - 1)):=a4.resolve_left hn
  by_cases hg:n > 1
  ·refine aQ hg ?_
   refine BS (eg hO hB g (by omega) (by omega) ?_)
   cases e:κ.blt (KK κ (arrOf G8) lo) (KK κ (arrOf G8) (lo+n - 1)) with
   | true =>
    simp only [Dx]
    exact BY (h n G8 a1 a2 R a3)
   | false =>
    simp only [Cc,C_]
    refine BS (wpS_reverse ?_)
    have same:∀ i,lo≤i→i < lo+n→KK κ (arrOf G8) i=KK κ (arrOf G8) (lo+n - 1):=fun i hi1 hi2=>by
     have b1:=a3 i (lo+n - 1) hi1 (by omega) (by omega)
     have b2:=a3 lo i (BG _) hi1 hi2
     exact KeyOrd.kle_antisymm b1 (DR e b2)
    refine kX hO (R.arr (Rp.mirror (BG _) (by omega) (by omega))) (by omega) h3 (fun i j hi Hi hj=>?_) h
    show κ.kle (KK κ (mirror (arrOf G8) _ _ _) j) (KK κ (mirror (arrOf G8) _ _ _) i)
    rw [Ep (by omega) same,Ep (by omega) same]
    by_cases q:j < lo+n
    ·rw [same i hi (by omega),same j (by omega) q]
     exact C3 _
    ·have:j=lo+n:=by omega
     subst this
     by_cases q2:i=lo+n
     ·subst q2;exact C3 _
     ·rw [same i hi (by omega)]
      exact D4 lt
  ·refine aR hg ?_
   have:n=1:=by omega
   subst this
   refine kX hO R (by omega) h3 (fun i j hi Hi hj=>?_) h
   by_cases q2:i=j
   ·subst q2;exact C3 _
   ·have e1:i=lo:=by omega
    have e2:j=lo+1:=by omega
    subst e1 e2
    exact D4 lt
end
end Tv
namespace Tv
open PySem PyProof.Rows
variable {κ:KeyKind} {kd:SortKind}
section
variable {prog:Program} {w:World} {A:Around} {E:Value→Shared→Prop} {s:Shared}
theorem qU {st:SortSt}{lo n ok:Nat}{Q:Bool→SortSt→Prop}(hO:Lt1 κ prog w A s kd)(hB:TB kd st)(g:∀ x∈(arrOf st).toList,Gd κ x)(hn:lo+n≤(arrOf st).size)(hok:ok≤n)(hs:SrI κ (arrOf st) lo (lo+ok))
  (h:∀ G8,Rs kd κ lo (lo+n) st G8→SrI κ (arrOf G8) lo (lo+n)→Q true G8):wpS (model prog w) A E s (binarySort' lo n ok) Q st:=by
 rw [binarySort'_eq]
 refine BS (Dq (CI (I:=fun y c G8=>c=(none,())∧Rs kd κ lo (lo+n) st G8∧SrI κ (arrOf G8) lo (lo+min y n))
  (Q:=fun c G8=>c=(none,())∧Rs kd κ lo (lo+n) st G8∧SrI κ (arrOf G8) lo (lo+n)) ?step ?fin ?init) ?post)
 case post =>
  rintro c G8 ⟨rfl,R,hs'⟩
  exact BY (h G8 R hs')
 case init =>
  refine ⟨rfl,.refl hB g,fun i j hi Hi hj=>?_⟩
  by_cases e:i=j
  ·subst e;exact C3 _
  ·exact hs i j hi Hi (by omega)
 case fin =>
  rintro c G8 ⟨hc,R,hs'⟩
  rw [show min (max (max ok 1) n) n=n by omega] at hs'
  exact ⟨hc,R,hs'⟩
 case step =>
  rintro y c G8 hy1 hy2 ⟨rfl,R,hs'⟩
  have hz:=R.rp.size
  rw [show min y n=y by omega] at hs'
  refine BS (Dq (CI (I:=fun x c Ha=>Ha=G8∧∃ l r,c=(none,l,r)∧l≤r∧r≤y∧r - l≤y - x ∧
    (∀ i,lo≤i→i < lo+l→κ.kle (KK κ (arrOf G8) i) (KK κ (arrOf G8) (lo+y)))∧(∀ i,lo+r≤i→i < lo+y→κ.klt (KK κ (arrOf G8) (lo+y)) (KK κ (arrOf G8) i)))
   (Q:=fun c Ha=>Ha=G8∧∃ l r,c=(none,l,r)∧l≤y ∧
    (∀ i,lo≤i→i < lo+l→κ.kle (KK κ (arrOf G8) i) (KK κ (arrOf G8) (lo+y)))∧(∀ i,lo+l≤i→i < lo+y→κ.klt (KK κ (arrOf G8) (lo+y)) (KK κ (arrOf G8) i))) ?istep ?ifin ?iinit) ?ipost)
  case iinit=>exact ⟨rfl,0,y,rfl,by omega,by omega,by omega,fun i h1 h2=>by omega,fun i h1 h2=>by omega⟩
  case ifin =>
   rintro c Ha ⟨rfl,l,r,rfl,q1,q2,q3,q4,q5⟩
   have:l=r:=by omega
   subst this
   exact ⟨rfl,l,l,rfl,q2,q4,q5⟩
  case istep =>
   rintro x c Ha _ hx ⟨rfl,l,r,rfl,q1,q2,q3,q4,q5⟩
   dsimp only
   by_cases hge:l≥r
   ·refine aQ hge ?_
    have:l=r:=by omega
    subst this
    exact BY ⟨rfl,l,l,rfl,q2,q4,q5⟩
   ·refine aR hge ?_
    refine BS (eg hO R.tb R.gd (by omega) (by omega) ?_)
    cases e:κ.blt (KK κ (arrOf Ha) (lo+y)) (KK κ (arrOf Ha) (lo+(l+r) / 2)) with
    | true =>
     simp only [Dx]
     refine BY ⟨rfl,l,(l+r) / 2,rfl,by omega,by omega,by omega,q4,fun i h1 h2=>?_⟩
     exact KeyOrd.klt_of_klt_of_kle e (hs' _ _ (by omega) h1 h2)
    | false =>
     simp only [Cc,C_]
     refine BY ⟨rfl,(l+r) / 2+1,r,rfl,by omega,by omega,by omega,fun i h1 h2=>?_,q5⟩
     exact DR (hs' i (lo+(l+r) / 2) h1 (by omega) (by omega)) (show κ.kle _ _ from e)
  case ipost =>
   rintro c Ha ⟨rfl,l,r,rfl,hl,q4,q5⟩
   show wpS _ _ _ _ (do moveDown' (lo+y) (lo+l);pure (ForInStep.yield (none,()))) _ _
   rw [moveDown'_eq]
   have hk:lo+y < (arrOf Ha).size:=by omega
   refine BS (Ej (BY ⟨rfl,R.arr (Rp.bubble (by omega) (by omega) hk),?_⟩))
   rw [show min (y+1) n=y+1 by omega]
   intro i j hi Hi hj
   show κ.kle (KK κ (bubble (arrOf Ha) (lo+y) (lo+y - (lo+l))) i) (KK κ (bubble (arrOf Ha) (lo+y) (lo+y - (lo+l))) j)
   rw [KK_bubble hk (by omega),KK_bubble hk (by omega),show lo+y - (lo+y - (lo+l))=lo+l by omega]
   repeat' split
   all_goals first
    | (exfalso;omega)
    | exact C3 _
    | exact q4 _ (by omega) (by omega)
    | exact D4 (q5 _ (by omega) (by omega))
    | exact hs' _ _ (by omega) (by omega) (by omega)
end
theorem nZ:∀ (r:List Keyed) (z b:Nat) (arr:Array Keyed) (X Y Z:List Keyed),arr.toList=X++(Y++Z)→X.length=z+b→Y.length=r.length →
  ((r.zipIdx b).foldl (fun a (p,j)=>a.setIfInBounds (z+j) p) arr).toList=X++(r++Z)
 | [],z,b,arr,X,Y,Z,e,h1,h2=>by
  rw [FI.mp h2] at e
  exact e
 | p::r,z,b,arr,X,Y,Z,e,h1,h2=>by
  cases Y with
  | nil=>simp at h2
  | cons y Y =>
   rw [List.zipIdx_cons,FT]
   have:=nZ r z (b+1) (arr.setIfInBounds (z+b) p) (X++[p]) Y Z (by
    rw [Fb,e,← h1,List.set_append_right _ _ (BG _),Gp]
    simp) (by simp [h1];omega) (by simpa using h2)
   rw [this]
   simp
def mAt (i:Nat):StateT SortSt Sem Bool:=do
 let u ← get
 let (some (za,la,pw),some (zb,lb,_)):=((pendingOf u)[i]?,(pendingOf u)[i+1]?) | unsupported "internal:list.sort.pending"
 set (setPending u (((pendingOf u).setIfInBounds i (za,la+lb,pw)).eraseIdxIfInBounds (i+1)))
 let some c ← gal false (← elem' (arrOf u) zb) (arrOf u) za la 0 | return false
 let (za,la):=(za+c,la - c)
 if la == 0 then return true
 let some lb ← gal true (← elem' (arrOf u) (za+la - 1)) (arrOf u) zb lb (lb - 1) | return false
 if lb == 0 then return true
 let x:=(arrOf u).extract za zb
 let y:=(arrOf u).extract zb (zb+lb)
 let out ← if la≤lb then mlo x y else mhi x y
 modify fun v=>setArr v (out.toList.zipIdx.foldl (fun a (p,j)=>a.setIfInBounds (za+j) p) (arrOf v))
 return (failedOf (← get)).isNone
theorem xM (i:Nat):mergeAt' i=mAt i:=rfl
end Tv
namespace Tv
open PySem PyProof.Rows
variable {κ:KeyKind} {kd:SortKind}
theorem Lel.sym_take {l:List Keyed}(h:Srt κ l)(i:Nat):Lel κ (l.take i) (l.drop i):=by
 have:Srt κ (l.take i++l.drop i):=by rw [B_];exact h
 exact (bC.mp this).2.2
theorem Lel.memL {l l' m:List Keyed}(h:Lel κ l m)(hs:∀ x∈l',x∈l):Lel κ l' m:=fun x hx y hy=>h x (hs x hx) y hy
theorem Lel.memR {l m m':List Keyed}(h:Lel κ l m)(hs:∀ x∈m',x∈m):Lel κ l m':=fun x hx y hy=>h x hx y (hs y hy)
theorem Lel.mid {l m:List Keyed}{x:Keyed}(h:Lel κ l [x])(g:Lel κ [x] m):Lel κ l m:=fun a ha b hb=>dR (h a ha x (BE.mpr rfl)) (g x (BE.mpr rfl) b hb)
theorem hJ {l:List Keyed}{x:Keyed}(h:Srt κ l)(e:l[0]? = some x):Lel κ [x] l:=fun a ha y hy=>by
 rw [BE] at ha
 subst ha
 obtain ⟨i,hi⟩:=C0 hy
 exact h.at (CC _) e hi
theorem n8 {l:List Keyed}{x:Keyed}(h:Srt κ l)(e:l[l.length - 1]? = some x):Lel κ l [x]:=fun a ha y hy=>by
 rw [BE] at hy
 subst hy
 obtain ⟨i,hi⟩:=C0 ha
 have:=(BF.mp hi).1
 exact h.at (by omega) hi e
theorem uZ {l m n:List Keyed}:Lel κ (l++m) n ↔ Lel κ l n∧Lel κ m n :=
 ⟨fun h=>⟨h.memL fun x hx=>Cb _ hx,h.memL fun x hx=>BN _ hx⟩,fun h x hx=>(BR.mp hx).elim (h.1 x) (h.2 x)⟩
theorem kY {l m n:List Keyed}:Lel κ l (m++n) ↔ Lel κ l m∧Lel κ l n :=
 ⟨fun h=>⟨h.memR fun x hx=>Cb _ hx,h.memR fun x hx=>BN _ hx⟩,fun h x hx y hy=>(BR.mp hy).elim (h.1 x hx y) (h.2 x hx y)⟩
theorem xN {A B r:List Keyed}{c m:Nat}{b0 al:Keyed}(sA:Srt κ A)(sB:Srt κ B)(e0:B[0]? = some b0)(el:A[A.length - 1]? = some al)
  (h1:Lel κ (A.take c) [b0]) (h2:Lel κ [al] (B.drop m)) (M:Mg κ (A.drop c) (B.take m) r):Mg κ A B (A.take c++(r++B.drop m)):=by
 have mm:∀ x,x∈r ↔ x∈A.drop c++B.take m:=fun x=>M.1.mem_iff
 refine ⟨?_,bC.mpr ⟨sA.take c,bC.mpr ⟨M.2,sB.drop m,?_⟩,kY.mpr ⟨?_,?_⟩⟩⟩
 ·have:(A.take c++(r++B.drop m)).Perm (A.take c++((A.drop c++B.take m)++B.drop m)):=Dm _ (M.1.append_right _)
  refine this.trans (List.Perm.of_eq ?_)
  rw [BO,← BO,B_,B_]
 ·refine Lel.memL (l:=A.drop c++B.take m) (uZ.mpr ⟨?_,Lel.sym_take sB m⟩) fun x hx=>(mm x).mp hx
  exact Lel.mid ((n8 sA el).memL fun x hx=>Dp hx) h2
 ·refine Lel.memR (m:=A.drop c++B.take m) (kY.mpr ⟨Lel.sym_take sA c,?_⟩) fun x hx=>(mm x).mp hx
  exact Lel.mid h1 ((hJ sB e0).memR fun x hx=>Dg hx)
 ·exact Lel.mid h1 ((hJ sB e0).memR fun x hx=>Dp hx)
section
variable {prog:Program} {w:World} {A:Around} {E:Value→Shared→Prop} {s:Shared}
theorem u6 {st u:SortSt}{Q:PUnit→SortSt→Prop}(h:Q ⟨⟩ u):wpS (model prog w) A E s (set u:StateT SortSt Sem PUnit) Q st:=by
 unfold wpS
 rw [StateT.run_set]
 exact BH ⟨rfl,h⟩
theorem kZ {st:SortSt}{lf:Bool}{key:Keyed}{arr:Array Keyed}{P M S:List Keyed}{z n h:Nat}{Q:Option Nat→SortSt→Prop}(hO:Lt1 κ prog w A s kd)(hB:TB kd st)(hk:Gd κ key)(hg:∀ x∈arr.toList,Gd κ x)(ea:arr.toList=P++(M++S))(lp:P.length=z)(ln:M.length=n)(sa:Srt κ M)(hh:h < n)
  (hq:∀ k,k≤n→(∀ x∈M.take k,bdB κ lf (kof κ key) (kof κ x)=true)→(∀ x∈M.drop k,bdB κ lf (kof κ key) (kof κ x)=false)→Q (some k) st) :
  wpS (model prog w) A E s (gal lf key arr z n h) Q st:=by
 have ga:∀ i,i < n→arr[z+i]? = M[i]?:=fun i hi=>by
  rw [← CY,ea,Cj (by omega),CL (by omega)]
  congr 1
  omega
 have gm:∀ x∈M,Gd κ x:=fun x hx=>hg x (by rw [ea];exact BN _ (Cb _ hx))
 refine jR hO hB hk (fun t=>match M[t]? with | some p=>bdB κ lf (kof κ key) (kof κ p) | none=>false) hh (fun t ht=>?_) (fun t u htu hu hb=>?_) (fun k hk' h1 h2=>hq k hk' (fun x hx=>?_) fun x hx=>?_)
 ·have Hg:t < M.length:=by omega
  have e:=BC Hg
  exact ⟨M[t],by rw [ga t ht,e],gm _ (CA _),by rw [e]⟩
 ·have e1:=BC (l:=M) (i:=t) (by omega)
  have e2:=BC (l:=M) (i:=u) (by omega)
  rw [e1]
  rw [e2] at hb
  have le:=sa.at htu e1 e2
  dsimp only at hb ⊢
  cases lf with
  | true=>exact KeyOrd.klt_of_kle_of_klt le hb
  | false =>
   have le2:=dR le (eY hb)
   show (!κ.blt _ _)=true
   rw [show κ.blt (kof κ key) (kof κ M[t])=false from le2]
   rfl
 ·obtain ⟨i,hi⟩:=C0 hx
  have l1:=(BF.mp hi).1
  rw [BJ] at l1
  rw [CO (by omega)] at hi
  have:=h1 i (by omega)
  rw [hi] at this
  exact this
 ·obtain ⟨i,hi⟩:=C0 hx
  rw [C1] at hi
  have l1:=(BF.mp hi).1
  have:=h2 (k+i) (by omega) (by omega)
  rw [hi] at this
  exact this
theorem n9 {arr:Array Keyed}{P M S:List Keyed}{i j:Nat}(e:arr.toList=P++(M++S))(h1:P.length=i)(h2:j=i+M.length):(arr.extract i j).toList=M:=by
 rw [De,e,List.extract_eq_drop_take,← h1,List.drop_left,h2,← h1,DM,Ge]
theorem u7 {st:SortSt}{i z na nb pw pw2:Nat}{P Aa B S:List Keyed}{Q:Bool→SortSt→Prop}(hO:Lt1 κ prog w A s kd)(hB:TB kd st)(g:∀ x∈(arrOf st).toList,Gd κ x)(e1:(pendingOf st)[i]? = some (z,na,pw))(e2:(pendingOf st)[i+1]? = some (z+na,nb,pw2))
  (ea:(arrOf st).toList=P++(Aa++(B++S))) (lp:P.length=z) (la:Aa.length=na) (lb:B.length=nb) (h0:0 < na) (h1:0 < nb) (sA:Srt κ Aa) (sB:Srt κ B)
  (h:∀ G8 R,TB kd G8→pendingOf G8=((pendingOf st).setIfInBounds i (z,na+nb,pw)).eraseIdxIfInBounds (i+1)→(arrOf G8).toList=P++(R++S)→Mg κ Aa B R→Q true G8):wpS (model prog w) A E s (mergeAt' i) Q st:=by
 have eb:(arrOf st).toList=(P++Aa)++(B++S):=by rw [ea,BO]
 rw [xM]
 unfold mAt
 refine BS (E4 ?_)
 rw [e1,e2]
 dsimp only
 refine BS (u6 ?_)
 have hB':TB kd (setPending st (((pendingOf st).setIfInBounds i (z,na+nb,pw)).eraseIdxIfInBounds (i+1))):=⟨hB.kind,hB.failed⟩
 generalize hst':setPending st (((pendingOf st).setIfInBounds i (z,na+nb,pw)).eraseIdxIfInBounds (i+1))=G8 at hB' ⊢
 have hp':pendingOf G8=((pendingOf st).setIfInBounds i (z,na+nb,pw)).eraseIdxIfInBounds (i+1):=by rw [← hst']
 have har:arrOf G8=arrOf st:=by rw [← hst']
 obtain ⟨b0,eb0⟩:∃ b0,B[0]? = some b0:=⟨_,BC (by omega)⟩
 obtain ⟨al,eal⟩:∃ al,Aa[Aa.length - 1]? = some al:=⟨_,BC (by omega)⟩
 have gA:∀ x∈Aa,Gd κ x:=fun x hx=>g x (by rw [ea];simp [hx])
 have gB:∀ x∈B,Gd κ x:=fun x hx=>g x (by rw [ea];simp [hx])
 have x0:(arrOf st).toList[z+na]? = some b0:=by
  rw [eb,Cj (by simp;omega),CL (by simp;omega)]
  rw [show z+na - (P++Aa).length=0 by simp;omega]
  exact eb0
 have xl:(arrOf st).toList[z+na - 1]? = some al:=by
  rw [ea,Cj (by omega),CL (by omega)]
  rw [show z+na - 1 - P.length=Aa.length - 1 by omega]
  exact eal
 refine BS (a_ x0 ?_)
 refine BS (kZ hO hB' (gB b0 (B8 eb0)) g ea lp la sA h0 fun c hc t1 t2=>?_)
 dsimp only
 have k1:Lel κ (Aa.take c) [b0]:=fun x hx y hy=>by
  rw [BE] at hy
  subst hy
  exact eY (t1 x hx)
 have k2:Lel κ [b0] (Aa.drop c):=fun x hx y hy=>by
  rw [BE] at hx
  subst hx
  exact fN (t2 y hy)
 by_cases hc0:na - c=0
 ·refine aQ (by simpa using hc0) ?_
  have:Aa.take c=Aa:=BV (by omega)
  rw [this] at k1
  exact BY (h G8 (Aa++B) hB' hp' (by rw [har,ea,BO]) ⟨Fm _,bC.mpr ⟨sA,sB,k1.mid (hJ sB eb0)⟩⟩)
 ·refine aR (by simpa using hc0) ?_
  rw [show z+c+(na - c) - 1=z+na - 1 by omega]
  refine BS (a_ xl ?_)
  refine BS (kZ hO hB' (gA al (B8 eal)) g eb (by simp;omega) lb sB (by omega) fun m hm u1 u2=>?_)
  dsimp only
  have k3:Lel κ (B.take m) [al]:=fun x hx y hy=>by
   rw [BE] at hy
   subst hy
   exact jS (u1 x hx)
  have k4:Lel κ [al] (B.drop m):=fun x hx y hy=>by
   rw [BE] at hx
   subst hx
   exact g_ (u2 y hy)
  by_cases hm0:m=0
  ·refine aQ (by simpa using hm0) ?_
   subst hm0
   exact BY (h G8 (Aa++B) hB' hp' (by rw [har,ea,BO]) ⟨Fm _,bC.mpr ⟨sA,sB,(n8 sA eal).mid k4⟩⟩)
  ·refine aR (by simpa using hm0) ?_
   have ec:(arrOf st).toList=(P++Aa.take c)++(Aa.drop c++(B++S)):=by
    rw [ea]
    conv=>lhs;rw [← B_ c Aa]
    simp only [BO]
   have ed:(arrOf st).toList=(P++Aa)++(B.take m++(B.drop m++S)):=by
    rw [eb]
    conv=>lhs;rw [← B_ m B]
    simp only [BO]
   have ex:((arrOf st).extract (z+c) (z+na)).toList=Aa.drop c:=n9 ec (by simp;omega) (by simp;omega)
   have ey:((arrOf st).extract (z+na) (z+na+m)).toList=B.take m:=n9 ed (by simp;omega) (by simp;omega)
   have sx:((arrOf st).extract (z+c) (z+na)).size=na - c:=by rw [← BL,ex];simp;omega
   have sy:((arrOf st).extract (z+na) (z+na+m)).size=m:=by rw [← BL,ey];simp;omega
   generalize (arrOf st).extract (z+c) (z+na)=x at ex sx ⊢
   generalize (arrOf st).extract (z+na) (z+na+m)=y at ey sy ⊢
   have ga:∀ t∈x.toList,Gd κ t:=fun t ht=>gA t (by rw [ex] at ht;exact Dp ht)
   have gb:∀ t∈y.toList,Gd κ t:=fun t ht=>gB t (by rw [ey] at ht;exact Dg ht)
   have sx':Srt κ x.toList:=by rw [ex];exact sA.drop c
   have sy':Srt κ y.toList:=by rw [ey];exact sB.take m
   have y0:y.toList[0]? = some b0:=by rw [ey,CO (by omega)];exact eb0
   have xn:x.toList[x.size - 1]? = some al:=by
    rw [ex,C1,sx,show c+(na - c - 1)=Aa.length - 1 by omega]
    exact eal
   have fin:∀ (r:Array Keyed) (Hz:SortSt),Ok kd G8 Hz→Mg κ x.toList y.toList r.toList→wpS (model prog w) A E s (do
     modify fun v=>setArr v (r.toList.zipIdx.foldl (fun a (p,j)=>a.setIfInBounds (z+c+j) p) (arrOf v))
     return (failedOf (← get)).isNone:StateT SortSt Sem Bool) Q Hz:=fun r Hz ok M=>by
    rw [ex,ey] at M
    have lr:r.toList.length=(Aa.drop c++B.take m).length:=M.1.length_eq
    refine BS (Ej ?_)
    refine BS (E4 ?_)
    refine BY ?_
    have hf:failedOf (setArr Hz (r.toList.zipIdx.foldl (fun a (p,j)=>a.setIfInBounds (z+c+j) p) (arrOf Hz)))=none:=ok.tb.failed
    rw [hf]
    refine h _ (Aa.take c++(r.toList++B.drop m)) ⟨ok.tb.kind,ok.tb.failed⟩ (ok.pd.trans hp') ?_ (xN sA sB eb0 eal k1 k4 M)
    show (r.toList.zipIdx.foldl (fun a (p,j)=>a.setIfInBounds (z+c+j) p) (arrOf Hz)).toList=_
    rw [nZ r.toList (z+c) 0 (arrOf Hz) (P++Aa.take c) (Aa.drop c++B.take m) (B.drop m++S) (by
     rw [ok.ar,har,ea]
     conv=>lhs;rw [← B_ c Aa,← B_ m B]
     simp only [BO]) (by simp;omega) lr.symm]
    simp only [BO]
   by_cases hle:na - c≤m
   ·refine aQ hle ?_
    refine BS (uV hO hB' ga gb sx' sy' (by omega) (by omega) (fun p q hp hq=>?_) (fun t ht=>?_) fun r Hz ok M=>fin r Hz ok M)
    ·rw [y0] at hq
     cases hq
     rw [ex] at hp
     exact k2 _ (BE.mpr rfl) _ (B8 hp)
    ·rw [xn] at ht
     cases ht
     rw [ey]
     exact k3
   ·refine aR hle ?_
    refine BS (uX hO hB' ⟨ga,gb,sx',sy',fun t ht=>?_⟩ (by omega) (by omega) (fun t ht=>?_) fun r Hz ok M=>fin r Hz ok M)
    ·rw [y0] at ht
     cases ht
     rw [ex]
     exact k2
    ·rw [xn] at ht
     cases ht
     rw [ey]
     exact k3
end
end Tv
namespace Tv
open PySem PyProof.Rows
variable {κ:KeyKind} {kd:SortKind}
def PdL (κ:KeyKind):Nat→List (Nat × Nat × Nat)→List (List Keyed)→Prop
 | _,[],[]=>True
 | z,p::ps,r::rs=>p.1=z∧p.2.1=r.length∧0 < r.length∧Srt κ r∧PdL κ (z+r.length) ps rs
 | _,_,_=>False
theorem PdL.app:∀ {p q:List (Nat × Nat × Nat)} {z:Nat} {rs:List (List Keyed)},PdL κ z (p++q) rs→∃ r1 r2,rs=r1++r2∧r1.length=p.length∧PdL κ z p r1∧PdL κ (z+r1.flatten.length) q r2
 | [],q,z,rs,h=>⟨[],rs,rfl,rfl,trivial,h⟩
 | _::_,q,z,[],h=>h.elim
 | _::p,q,z,r::rs,h=>by
  obtain ⟨a1,a2,a3,a4,a5⟩:=h
  obtain ⟨r1,r2,e,l,b1,b2⟩:=PdL.app a5
  refine ⟨r::r1,r2,by rw [e];rfl,by simp [l],⟨a1,a2,a3,a4,b1⟩,?_⟩
  rw [CM,BB,← Gj]
  exact b2
theorem PdL.join:∀ {p q:List (Nat × Nat × Nat)} {z:Nat} {r1 r2:List (List Keyed)},PdL κ z p r1→PdL κ (z+r1.flatten.length) q r2→PdL κ z (p++q) (r1++r2)
 | [],q,z,[],r2,_,h=>h
 | [],q,z,_::_,r2,h,_=>h.elim
 | _::_,q,z,[],r2,h,_=>h.elim
 | _::p,q,z,r::r1,r2,h,g=>by
  obtain ⟨a1,a2,a3,a4,a5⟩:=h
  rw [CM,BB,← Gj] at g
  exact ⟨a1,a2,a3,a4,PdL.join a5 g⟩
theorem PdL.len:∀ {p:List (Nat × Nat × Nat)} {z:Nat} {rs:List (List Keyed)},PdL κ z p rs→p.length≤rs.flatten.length
 | [],z,[],_=>CC _
 | [],z,_::_,h=>h.elim
 | _::_,z,[],h=>h.elim
 | _::p,z,r::rs,h=>by
  obtain ⟨a1,a2,a3,a4,a5⟩:=h
  have:=PdL.len a5
  rw [CM,BB,B6]
  omega
theorem PdL.same:∀ {p q:List (Nat × Nat × Nat)} {z:Nat} {rs:List (List Keyed)},PdL κ z p rs→q.map (fun t=>(t.1,t.2.1))=p.map (fun t=>(t.1,t.2.1))→PdL κ z q rs
 | [],[],z,rs,h,_=>h
 | [],_::_,z,rs,_,e=>by simp at e
 | _::_,[],z,rs,_,e=>by simp at e
 | _::_,_::_,z,[],h,_=>h.elim
 | x::p,y::q,z,r::rs,h,e=>by
  obtain ⟨a1,a2,a3,a4,a5⟩:=h
  simp only [Cq,List.cons.injEq,Prod.mk.injEq] at e
  exact ⟨e.1.1.trans a1,e.1.2.trans a2,a3,a4,PdL.same a5 e.2⟩
theorem n_ {f:Nat × Nat × Nat→Nat × Nat × Nat}(hf:∀ t,(f t).1=t.1∧(f t).2.1=t.2.1):∀ (l:List (Nat × Nat × Nat)) (i:Nat),(l.modify i f).map (fun t=>(t.1,t.2.1))=l.map (fun t=>(t.1,t.2.1))
 | [],i=>by cases i <;> rfl
 | x::l,0=>by
  show ((f x).1,(f x).2.1)::_=_
  rw [(hf x).1,(hf x).2]
  rfl
 | x::l,i+1=>by
  show (x.1,x.2.1)::(l.modify i f).map _=_
  rw [n_ hf l i]
  rfl
theorem oa {xs:Array Keyed}{i:Nat}{x:Keyed}(h:xs.toList[i]? = some x):KK κ xs i=kof κ x:=by
 rw [CY] at h
 unfold KK kof
 rw [h]
structure Iv (kd:SortKind) (κ:KeyKind) (a0:Array Keyed) (st:SortSt) (lo:Nat):Prop where
 tb:TB kd st
 pm:(arrOf st).Perm a0
 ex:∃ rs T,(arrOf st).toList=rs.flatten++T∧rs.flatten.length=lo∧PdL κ 0 (pendingOf st).toList rs
theorem Iv.gd {a0:Array Keyed}{st:SortSt}{lo:Nat}(I:Iv kd κ a0 st lo)(h0:KeysOf κ a0):∀ x∈(arrOf st).toList,Gd κ x:=fun x hx=>h0 x ((D6.mp I.pm).mem_iff.mp hx)
theorem Iv.part {a0:Array Keyed}{st G8:SortSt}{lo hi:Nat}(I:Iv kd κ a0 st lo)(R:Rs kd κ lo hi st G8):Iv kd κ a0 G8 lo:=by
 obtain ⟨rs,T,e,l,p⟩:=I.ex
 refine ⟨R.tb,R.rp.pm.trans I.pm,rs,(arrOf G8).toList.drop lo,?_,l,by rw [R.pd];exact p⟩
 have:(arrOf G8).toList.take lo=rs.flatten:=by
  have e2:(arrOf st).toList.take lo=rs.flatten:=by rw [e,← l,Ge]
  rw [← e2]
  apply List.ext_getElem?
  intro k
  by_cases hk:k < lo
  ·rw [CO hk,CO hk,CY,CY,R.rp.out k (.inl hk)]
  ·rw [CV (by rw [BJ];omega),CV (by rw [BJ];omega)]
 rw [← this,B_]
theorem Iv.mod {a0:Array Keyed}{st:SortSt}{lo i:Nat}(I:Iv kd κ a0 st lo){f:Nat × Nat × Nat→Nat × Nat × Nat}(hf:∀ t,(f t).1=t.1∧(f t).2.1=t.2.1):Iv kd κ a0 (setPending st ((pendingOf st).modify i f)) lo:=by
 obtain ⟨rs,T,e,l,p⟩:=I.ex
 refine ⟨⟨I.tb.kind,I.tb.failed⟩,I.pm,rs,T,e,l,?_⟩
 show PdL κ 0 ((pendingOf st).modify i f).toList rs
 rw [Array.toList_modify]
 exact p.same (n_ hf _ _)
theorem Iv.push {a0:Array Keyed}{st:SortSt}{lo n w:Nat}(I:Iv kd κ a0 st lo)(hn:0 < n)(hz:lo+n≤(arrOf st).size)(hs:SrI κ (arrOf st) lo (lo+n)):Iv kd κ a0 (setPending st ((pendingOf st).push (lo,n,w))) (lo+n):=by
 obtain ⟨rs,T,e,l,p⟩:=I.ex
 have lT:lo+T.length=(arrOf st).size:=by rw [← BL,e,BB,l]
 have ln:(T.take n).length=n:=by rw [BJ];omega
 have at_:∀ i x,T[i]? = some x→KK κ (arrOf st) (lo+i)=kof κ x:=fun i x hx=>oa (by rw [e,Cj (by omega),← l,DM];exact hx)
 refine ⟨⟨I.tb.kind,I.tb.failed⟩,I.pm,rs++[T.take n],T.drop n,?_,?_,?_⟩
 ·show (arrOf st).toList=_
  rw [e,DN,Ew,BO,B_]
 ·rw [DN,Ew,BB,l,ln]
 ·show PdL κ 0 ((pendingOf st).push (lo,n,w)).toList _
  rw [D5]
  refine PdL.join p ⟨by rw [l];omega,ln.symm,by omega,?_,trivial⟩
  refine Fl.mpr fun i j hi hj Hi=>?_
  rw [BJ] at hi hj
  rw [List.getElem_take,List.getElem_take]
  have:=hs (lo+i) (lo+j) (by omega) (by omega) (by omega)
  rw [at_ i _ (BC (by omega)),at_ j _ (BC (by omega))] at this
  exact this
theorem two_at {l:List (Nat × Nat × Nat)}{i:Nat}(h:i+1 < l.length):∃ p x y q,l=p++x::y::q∧p.length=i:=by
 refine ⟨l.take i,l[i],l[i+1],l.drop (i+2),?_,by rw [BJ];omega⟩
 conv=>lhs;rw [← B_ i l]
 rw [Ct (by omega),Ct h]
section
variable {prog:Program} {w:World} {A:Around} {E:Value→Shared→Prop} {s:Shared}
theorem fO {a0:Array Keyed}{st:SortSt}{lo i:Nat}{Q:Bool→SortSt→Prop}(hO:Lt1 κ prog w A s kd)(h0:KeysOf κ a0)(I:Iv kd κ a0 st lo)(hi:i+1 < (pendingOf st).size)
  (h:∀ G8,Iv kd κ a0 G8 lo→(pendingOf G8).size+1=(pendingOf st).size→(∀ k,lo≤k→(arrOf G8)[k]? = (arrOf st)[k]?)→Q true G8):wpS (model prog w) A E s (mergeAt' i) Q st:=by
 obtain ⟨rs,T,e,l,p⟩:=I.ex
 obtain ⟨p1,x,y,p2,ep,lp⟩:=two_at (l:=(pendingOf st).toList) (i:=i) (by rw [BL];exact hi)
 rw [ep] at p
 obtain ⟨r1,r2,er,_,P1,P2⟩:=p.app
 match r2,P2,er with
 | A1::B1::r2,P2,er =>
  obtain ⟨x1,x2,x3,x4,y1,y2,y3,y4,P3⟩:=P2
  obtain ⟨xa,xb,xc⟩:=x
  obtain ⟨ya,yb,yc⟩:=y
  dsimp only at x1 x2 y1 y2
  subst er
  have ea:(arrOf st).toList=r1.flatten++(A1++(B1++(r2.flatten++T))):=by
   rw [e]
   simp only [DN,CM,BO]
  have e1:(pendingOf st)[i]? = some (r1.flatten.length,A1.length,xc):=by
   rw [← CY,ep,Cj (by omega),lp,Gp,x1,x2,Gn]
   rfl
  have e2:(pendingOf st)[i+1]? = some (r1.flatten.length+A1.length,B1.length,yc):=by
   rw [← CY,ep,Cj (by omega),lp,DM,y1,y2,Gn]
   rfl
  refine u7 hO I.tb (I.gd h0) e1 e2 ea rfl rfl rfl x3 y3 x4 y4 fun G8 R t1 t2 t3 M=>?_
  have lR:R.length=A1.length+B1.length:=by rw [M.1.length_eq,BB]
  have ep':(pendingOf G8).toList=p1++(r1.flatten.length,A1.length+B1.length,xc)::p2:=by
   rw [t2,Array.toList_eraseIdxIfInBounds,Fb,ep,List.set_append_right _ _ (by omega),List.eraseIdx_append_of_length_le (by omega),lp,Gp,DM]
   rfl
  have eT:(arrOf G8).toList=(r1++R::r2).flatten++T:=by
   rw [t3]
   simp only [DN,CM,BO]
  have lT:(r1++R::r2).flatten.length=lo:=by
   rw [← l]
   simp only [DN,CM,BB,lR]
   omega
  refine h G8 ⟨t1,?_,r1++R::r2,T,eT,lT,?_⟩ ?_ fun k hk=>?_
  ·refine Array.Perm.trans (D6.mpr ?_) I.pm
   rw [t3,ea,← BO A1]
   exact Dm _ (M.1.append_right _)
  ·rw [ep']
   refine PdL.join P1 ⟨by omega,lR.symm,by omega,M.2,?_⟩
   rw [lR,← Gj]
   exact P3
  ·rw [← BL,← BL,ep',ep]
   simp only [BB,B6]
   omega
  ·rw [← CY,← CY,eT,e,Cj (by omega),Cj (by omega),lT,l]
theorem Iv.done {a0:Array Keyed}{st:SortSt}(I:Iv kd κ a0 st a0.size)(h:(pendingOf st).size≤1):SortedToK κ (arrOf st) a0.size:=by
 obtain ⟨rs,T,e,l,p⟩:=I.ex
 have hz:(arrOf st).toList.length=a0.size:=by rw [BL];exact I.pm.size_eq
 have hT:T=[]:=FI.mp (by rw [e,BB,l] at hz;omega)
 subst hT
 rw [DH] at e
 rw [← BL] at h
 have sr:Srt κ (arrOf st).toList:=by
  rw [e]
  match (pendingOf st).toList,rs,p,h with
  | [],[],_,_=>exact List.Pairwise.nil
  | [_],[r],p,_=>rw [Ew];exact p.2.2.2.1
  | _::_::_,_,_,h=>simp at h
 intro i j Hi hj
 have e1:=BC (l:=(arrOf st).toList) (i:=i) (by omega)
 have e2:=BC (l:=(arrOf st).toList) (i:=j) (by omega)
 rw [oa e1,oa e2]
 exact sr.at Hi e1 e2
structure SB (kd:SortKind) (a0:Array Keyed) (st:SortSt):Prop where
 perm:(arrOf st).Perm a0
 kind:kindOf st=kd
 failed:failedOf st=none
 pend:pendingOf st=#[]
theorem qV {a0:Array Keyed}{st:SortSt}{Q:Unit→SortSt→Prop}(hO:Lt1 κ prog w A s kd)(h0:KeysOf κ a0)(hB:SB kd a0 st)
  (h:∀ G8,(arrOf G8).Perm a0→failedOf G8=none→SortedToK κ (arrOf G8) a0.size→Q () G8):wpS (model prog w) A E s sortRuns' Q st:=by
 rw [sortRuns'_eq]
 refine BS (E4 ?_)
 dsimp only
 simp only [hB.perm.size_eq]
 refine BS (Dq (CI
  (I:=fun x c G8=>∃ lo,c=(none,lo)∧x≤lo∧lo≤a0.size∧Iv kd κ a0 G8 lo)
  (Q:=fun c G8=>c=(none,a0.size)∧Iv kd κ a0 G8 a0.size) ?step ?fin ⟨0,rfl,BG _,CC _,⟨hB.kind,hB.failed⟩,hB.perm,[],(arrOf st).toList,rfl,rfl,by rw [hB.pend];exact trivial⟩) ?post)
 case fin =>
  rintro c G8 ⟨lo,rfl,h1,h2,I⟩
  have:lo=a0.size:=by omega
  subst this
  exact ⟨rfl,I⟩
 case step =>
  rintro x c G8 hx1 hx2 ⟨lo,rfl,h1,h2,I⟩
  have hz:(arrOf G8).size=a0.size:=I.pm.size_eq
  dsimp only
  by_cases hge:lo≥a0.size
  ·refine aQ hge ?_
   have:lo=a0.size:=by omega
   subst this
   exact BY ⟨rfl,I⟩
  ·refine aR hge ?_
   refine BS (qT hO I.tb (I.gd h0) (by omega) (by omega) fun n Hz n1 n2 R s2=>?_)
   have I2:=I.part R
   have hz2:(arrOf Hz).size=a0.size:=I2.pm.size_eq
   dsimp only
   by_cases hm:n < minRun' a0.size a0.size 0
   ·refine aQ hm ?_
    refine BS (Gc (Ei ⟨rfl,?_⟩))
    refine BS (qU hO I2.tb (I2.gd h0) (by omega) (by omega) s2 fun st3 R3 s3=>?_)
    simp only [Eo,Cc,C_]
    have M1:1≤(min (a0.size - lo) (minRun' a0.size a0.size 0)):=by omega
    have M2:lo+(min (a0.size - lo) (minRun' a0.size a0.size 0))≤a0.size:=by omega
    have IX:=I2.part R3
    have S3:=s3
    refine BS (E4 ?_)
    cases (pendingOf st3).back? with
    | none=>exact BS (Ej (BY ⟨lo+(min (a0.size - lo) (minRun' a0.size a0.size 0)),rfl,by omega,M2,IX.push M1 (by rw [IX.pm.size_eq];exact M2) S3⟩))
    | some t =>
     obtain ⟨a,b,c⟩:=t
     dsimp only
     refine BS (Dq (CI (I:=fun _ c HF=>c=(none,())∧Iv kd κ a0 HF lo∧∀ k,lo≤k→(arrOf HF)[k]? = (arrOf st3)[k]?)
      (Q:=fun c HF=>c=(none,())∧Iv kd κ a0 HF lo∧∀ k,lo≤k→(arrOf HF)[k]? = (arrOf st3)[k]?) ?step1 (fun _ _ h=>h) ⟨rfl,IX,fun _ _=>rfl⟩) ?post1)
     case step1 =>
      rintro y c HF _ _ ⟨rfl,Iw,kw⟩
      refine BS (E4 ?_)
      by_cases hz:(pendingOf HF).size > 1
      ·rw [if_pos hz]
       cases e:(pendingOf HF)[(pendingOf HF).size - 2]? with
       | none=>exact BY ⟨rfl,Iw,kw⟩
       | some t =>
        obtain ⟨a',b',c'⟩:=t
        dsimp only
        by_cases hp:c'≤power' a0.size (2*a+b) (2*a+b+b+(min (a0.size - lo) (minRun' a0.size a0.size 0))) a0.size
        ·refine aQ hp ?_
         exact BY ⟨rfl,Iw,kw⟩
        ·refine aR hp ?_
         refine BS (fO hO h0 Iw (by omega) fun stq Iq _ k2=>?_)
         simp only [Eo,Cc,C_]
         exact BY ⟨rfl,Iq,fun k hk=>(k2 k hk).trans (kw k hk)⟩
      ·rw [if_neg hz]
       exact BY ⟨rfl,Iw,kw⟩
     case post1 =>
      rintro c HF ⟨rfl,Iw,kw⟩
      dsimp only
      refine BS (Ej ?_)
      have J2:=Iw.mod (i:=(pendingOf HF).size - 1) (f:=fun t=>(t.1,t.2.1,power' a0.size (2*a+b) (2*a+b+b+(min (a0.size - lo) (minRun' a0.size a0.size 0))) a0.size)) fun t=>⟨rfl,rfl⟩
      refine BS (Ej (BY ⟨lo+(min (a0.size - lo) (minRun' a0.size a0.size 0)),rfl,by omega,M2,J2.push M1 (by rw [J2.pm.size_eq];exact M2) fun i j hi Hi hj=>?_⟩))
      show κ.kle (KK κ (arrOf HF) i) (KK κ (arrOf HF) j)
      rw [KK_congr (kw i (by omega)),KK_congr (kw j (by omega))]
      exact S3 i j hi Hi hj
   ·refine aR hm ?_
    have M1:1≤n:=by omega
    have M2:lo+n≤a0.size:=by omega
    have IX:=I2
    have S3:=s2
    refine BS (E4 ?_)
    cases (pendingOf Hz).back? with
    | none=>exact BS (Ej (BY ⟨lo+n,rfl,by omega,M2,IX.push M1 (by rw [IX.pm.size_eq];exact M2) S3⟩))
    | some t =>
     obtain ⟨a,b,c⟩:=t
     dsimp only
     refine BS (Dq (CI (I:=fun _ c HG=>c=(none,())∧Iv kd κ a0 HG lo∧∀ k,lo≤k→(arrOf HG)[k]? = (arrOf Hz)[k]?)
      (Q:=fun c HG=>c=(none,())∧Iv kd κ a0 HG lo∧∀ k,lo≤k→(arrOf HG)[k]? = (arrOf Hz)[k]?) ?step2 (fun _ _ h=>h) ⟨rfl,IX,fun _ _=>rfl⟩) ?post2)
     case step2 =>
      rintro y c HG _ _ ⟨rfl,Iw,kw⟩
      refine BS (E4 ?_)
      by_cases hz:(pendingOf HG).size > 1
      ·rw [if_pos hz]
       cases e:(pendingOf HG)[(pendingOf HG).size - 2]? with
       | none=>exact BY ⟨rfl,Iw,kw⟩
       | some t =>
        obtain ⟨a',b',c'⟩:=t
        dsimp only
        by_cases hp:c'≤power' a0.size (2*a+b) (2*a+b+b+n) a0.size
        ·refine aQ hp ?_
         exact BY ⟨rfl,Iw,kw⟩
        ·refine aR hp ?_
         refine BS (fO hO h0 Iw (by omega) fun stq Iq _ k2=>?_)
         simp only [Eo,Cc,C_]
         exact BY ⟨rfl,Iq,fun k hk=>(k2 k hk).trans (kw k hk)⟩
      ·rw [if_neg hz]
       exact BY ⟨rfl,Iw,kw⟩
     case post2 =>
      rintro c HG ⟨rfl,Iw,kw⟩
      dsimp only
      refine BS (Ej ?_)
      have J2:=Iw.mod (i:=(pendingOf HG).size - 1) (f:=fun t=>(t.1,t.2.1,power' a0.size (2*a+b) (2*a+b+b+n) a0.size)) fun t=>⟨rfl,rfl⟩
      refine BS (Ej (BY ⟨lo+n,rfl,by omega,M2,J2.push M1 (by rw [J2.pm.size_eq];exact M2) fun i j hi Hi hj=>?_⟩))
      show κ.kle (KK κ (arrOf HG) i) (KK κ (arrOf HG) j)
      rw [KK_congr (kw i (by omega)),KK_congr (kw j (by omega))]
      exact S3 i j hi Hi hj
 case post =>
  rintro c G8 ⟨rfl,I⟩
  dsimp only
  refine BS (Dq (CI (I:=fun x c Ha=>c=(none,())∧Iv kd κ a0 Ha a0.size∧((pendingOf Ha).size+x≤a0.size ∨ (pendingOf Ha).size≤1))
   (Q:=fun c Ha=>c=(none,())∧Iv kd κ a0 Ha a0.size∧(pendingOf Ha).size≤1) ?_ ?_ ⟨rfl,I,?_⟩) ?_)
  ·rintro x c Ha _ hx ⟨rfl,I',hp⟩
   refine BS (E4 ?_)
   by_cases h1:(pendingOf Ha).size≤1
   ·refine aQ h1 ?_
    exact BY ⟨rfl,I',h1⟩
   ·refine aR h1 ?_
    refine BS (fO hO h0 I' (have pick:∀ (b:Bool) (n:Nat),1 < n→(if b=true then n - 2 - 1 else n - 2)+1 < n:=(fun b n hn=>by cases b <;> simp <;> omega);pick _ _ (by omega)) fun Hz I2 z2 _=>?_)
    simp only [Eo,Cc,C_]
    exact BY ⟨rfl,I2,.inl (by omega)⟩
  ·rintro c Ha ⟨rfl,I',hp⟩
   exact ⟨rfl,I',by omega⟩
  ·obtain ⟨rs,T,e,l,p⟩:=I.ex
   have:=p.len
   rw [BL,l] at this
   exact .inl (by omega)
  ·rintro c Ha ⟨rfl,I',hp⟩
   exact BY (h Ha I'.pm I'.tb.failed (I'.done hp))
end
end Tv
namespace Tv
open PySem PyProof.Rows
variable {κ:KeyKind} {kd:SortKind}
section
variable {prog:Program} {w:World} {A:Around} {E:Value→Shared→Prop} {s:Shared}
theorem sort_any {a:Addr}{its:List Value}{m:Nat}{P:Fin→Shared→Prop}(at_:s.heap.get? a=some (seqObj "list" its.toArray m))(g:KeysOf κ (pairsOf its))
  (hO:Lt1 κ prog w A { s with heap:=((s.heap.update a (Obj.mapSeq fun _=>#[])).push (seqObj "tuple" its.toArray 0)).push (seqObj "list" #[] 0) } kd) (one:∀ x y r,its=x::y::r→∀ (Q:SortKind→Shared→Prop),Q kd { s with heap:=((s.heap.update a (Obj.mapSeq fun _=>#[])).push (seqObj "tuple" its.toArray 0)).push (seqObj "list" #[] 0) }→wpAny (model prog w) A (keyKind' (x::y::r).toArray) Q E { s with heap:=((s.heap.update a (Obj.mapSeq fun _=>#[])).push (seqObj "tuple" its.toArray 0)).push (seqObj "list" #[] 0) }) (lim:its.length≤sizeLine)
  (q:∀ st:SortSt,(arrOf st).Perm (pairsOf its)→SortedToK κ (arrOf st) (pairsOf its).size→P (.done (.ret .none)) { s with heap:=sortedHeap s.heap a its ((arrOf st).map (·.2)) }) :
  wpAny (model prog w) A (Builtin.«list.sort» ⟨[.ref a],[]⟩) P E s:=by
 have la:=BU at_
 have lz:its.toArray.size=its.length:=by simp
 rw [list_sort_plain]
 refine fu (listItems_at at_ rfl (fu (listUpdate_at at_ rfl ?_ (by rw [lz];exact lim))))
 obtain ⟨n1,at1⟩:∃ n1,(s.heap.update a (Obj.mapSeq fun _=>#[])).get? a=some (seqObj "list" #[] n1):=⟨_,get?_update_seq at_ fun _=>#[]⟩
 refine fu (seqEpoch_at at1 rfl (fu (wpAny_newTuple (fu (FG (Da ?_))))))
 have at2:(((s.heap.update a (Obj.mapSeq fun _=>#[])).push (seqObj "tuple" its.toArray 0)).push (seqObj "list" #[] 0)).get? a=some (seqObj "list" #[] n1) :=
  BD _ (BD _ at1)
 show wpAny (model prog w) A _ P E { s with heap:=((s.heap.update a (Obj.mapSeq fun _=>#[])).push (seqObj "tuple" its.toArray 0)).push (seqObj "list" #[] 0) }
 dsimp only
 by_cases two:its.toArray.size < 2
 ·rw [if_pos two,if_pos two]
  refine fu (BH ?_)
  rw [StateT.run_pure]
  refine fu (BH ?_)
  dsimp only
  have zz:((its.toArray.zip its.toArray).map (·.2)).size≤sizeLine+1:=by
   rw [Array.size_map]
   show (pairsOf its).size≤_
   rw [pairsOf_size]
   omega
  refine fu (seqEpoch_at at2 rfl (fu (listUpdate_at at2 rfl ?_ (hsz2:=zz))))
  simp only [bne_self_eq_false,Cc,C_]
  refine BH (q (SortSt.mk' general' (its.toArray.zip its.toArray) #[] 7 none) (FY _) fun i j Hi hj=>?_)
  rw [pairsOf_size] at hj
  have:i=j:=by omega
  subst this
  exact C3 _
 ·rw [if_neg two,if_neg two]
  obtain ⟨x,y,r,rfl⟩:∃ x y r,its=x::y::r:=by
   match its,lz,two with
   | [],_,t=>exact absurd (by simp) t
   | [_],_,t=>exact absurd (by simp) t
   | x::y::r,_,_=>exact ⟨x,y,r,rfl⟩
  refine fu (one _ _ _ rfl _ (fu (CB (qV (κ:=κ) hO (a0:=pairsOf (x::y::r)) (st:=SortSt.mk' kd ((x::y::r).toArray.zip (x::y::r).toArray) #[] 7 none)
   (Q:=fun _ st=>(arrOf st).Perm (pairsOf (x::y::r))∧failedOf st=none∧SortedToK κ (arrOf st) (pairsOf (x::y::r)).size) g ⟨FY _,rfl,rfl,rfl⟩ fun st c1 c2 c3=>⟨c1,c2,c3⟩) ?_ fun _ _ e=>e)))
  rintro ⟨⟨⟩,st⟩ s2 ⟨rfl,c1,c2,c3⟩
  dsimp only
  have zz:((arrOf st).map (·.2)).size≤sizeLine+1:=by
   rw [Array.size_map,c1.size_eq,pairsOf_size]
   omega
  refine fu (seqEpoch_at at2 rfl (fu (listUpdate_at at2 rfl ?_ (hsz2:=zz))))
  rw [c2]
  simp only [bne_self_eq_false,Cc,C_]
  exact BH (q st c1 c3)
end
end Tv
namespace Ts
open PySem PyProof.Rows
section
variable {κ:KeyKind} {prog:Program} {w:World} {A:Around} {E:Value→Shared→Prop} {s:Shared}
theorem sort_any (hO:κ.OneLt){a:Addr}{its:List Value}{m:Nat}{P:Fin→Shared→Prop}(at_:s.heap.get? a=some (seqObj "list" its.toArray m))(g:KeysOf κ (pairsOf its))
  (one:∀ x y r,its=x::y::r→keyKind' (x::y::r).toArray=pure oneType') (lim:its.length≤sizeLine)
  (q:∀ st:SortSt,(arrOf st).Perm (pairsOf its)→SortedToK κ (arrOf st) (pairsOf its).size→P (.done (.ret .none)) { s with heap:=sortedHeap s.heap a its ((arrOf st).map (·.2)) }) :
  wpAny (model prog w) A (Builtin.«list.sort» ⟨[.ref a],[]⟩) P E s :=
 Tv.sort_any (kd:=oneType') at_ g (fun E x y a b Q ha hb h=>hO _ _ _ _ _ _ _ _ _ ha hb h) (fun x y r e Q h=>by rw [one x y r e];exact BH h) lim q
end
end Ts
namespace Wd
section
variable {α:Type}
end
end Wd
namespace PySem
end PySem
namespace L2
open PySem PySem.Spec PyProof.Rows Wd
section
variable {X:Cx}
end
end L2
namespace Wd
def img (ws:List (List L))(x:L):List L:=if x.val < 6 then ws.getD x.val [] else bk (ws.getD (x.val - 6) [])
def sub (ws:List (List L))(u:List L):List L:=u.flatMap (img ws)
def InM (n:Nat)(u:List L):Prop:=∀ x∈u,x.val % 6 < n
theorem og:∀ (u st:List L) (x:L),x∈act u st→x∈u ∨ x∈st
 | [],st,x,h=>.inr h
 | y::u,st,x,h=>by
  rw [gX] at h
  rcases og u _ x h with h | h
  ·exact .inl (BZ _ h)
  ·cases st with
   | nil =>
    have h:x∈[y]:=h
    rw [BE] at h
    exact .inl (h ▸ Ca)
   | cons z r =>
    have h:x∈(if z=inv y then r else y::z::r):=h
    split at h
    ·exact .inr (BZ _ h)
    ·rcases B2.mp h with h | h
     ·exact .inl (h ▸ Ca)
     ·exact .inr h
theorem u9 {u:List L}{x:L}(h:x∈red u):x∈u:=by
 unfold red at h
 rw [List.mem_reverse] at h
 rcases og u [] x h with h | h
 ·exact h
 ·cases h
end Wd
namespace PySem
section
variable {prog:Program} {w:World} {A:Around} {E:Value→Shared→Prop}
end
end PySem
namespace L2
open PySem PySem.Spec PyProof.Rows Wd
section
variable {X:Cx} {pos:Pos}
end
theorem u_ (u:List L):(PyData.str (toS u)).canLay0=true:=by
 unfold PyData.canLay0 PyData.strOk
 rw [← Array.all_toList,ck,D_]
 intro c hc
 obtain ⟨x,_,rfl⟩:=CN.mp hc
 have:=ux x
 exact BM (by omega)
section
variable {X:Cx}
end
end L2
namespace Kx
open PySem PySem.Spec PyProof.Rows L2 Wd
inductive dF (vs:List V)(H:Hp)(Q:VK)(Hc:XK):Prop
 | mk:∀ (d:Addr) (m n:Int),(vs=[.ref d,.int m,.int n])→(Fd H d)→(1≤m)→(m≤6)→(0≤n)→(n≤60)→(∀ (u:List L) (H':Hp),u.length≤n.toNat→InM m.toNat u→Fd H' d→ba d H H'→Q (tx u) H')→dF vs H Q Hc
theorem zN {m:Int}(h1:1≤m)(h2:m≤6):InM m.toNat (sg m):=by
 have:m=1 ∨ m=2 ∨ m=3 ∨ m=4 ∨ m=5 ∨ m=6:=by omega
 rcases this with rfl | rfl | rfl | rfl | rfl | rfl <;> (unfold InM;decide)
theorem InM.snoc {n:Nat}{u:List L}{x:L}(h:InM n u)(hx:x.val % 6 < n):InM n (u++[x]):=fun y hy=>by
 rcases BR.mp hy with hy | hy
 ·exact h y hy
 ·rw [BE] at hy;exact hy ▸ hx
theorem InM.nil {n:Nat}:InM n []:=fun y hy=>by cases hy
end Kx
namespace Wd
end Wd
namespace L2
open PySem PySem.Spec PyProof.Rows Wd
section
variable {X:Cx}
inductive AN (x:V)(y:V)(H:Hp)(Q:VK):Prop
 | mk:∀ da db,(Dt H x da)→(Dt H y db)→(da.canLay0=true)→(db.canLay0=true)→(da.depth≤10)→(Q (.bl (PyData.eqv da db)) H)→AN x y H Q
theorem fP (hu:X.A.units+64 < cLine):OpR X (compareOp .Eq) AN:=by
 intro G6 s σ H x y v u Q I rx ry h
 obtain ⟨da,db,ha,hb,la,lb,dp,q⟩:=h
 obtain ⟨as,ra⟩:=ha.reads I.hok rx
 obtain ⟨bs,rb⟩:=hb.reads I.hok ry
 exact SeqAt.rcAt_reads ra rb la lb (by omega) _ _ _ _ ⟨.bl _,H,I,rfl,q⟩
end
end L2
namespace Kx
open PySem PySem.Spec PyProof.Rows L2 Wd
end Kx
namespace L2
open PySem PySem.Spec PyProof.Rows Wd
section
variable {X:Cx}
end
end L2
namespace L2
open PySem PySem.Spec PyProof.Rows
section
variable {prog:Program} {w:World} {A:Around} {E:Value→Shared→Prop} {s:Shared}
theorem qW {t b:Addr}{ws:List Value}{Q:Value→Shared→Prop}(ht:IsTup s.heap t ([]:List Value).toArray)(hb:IsTup s.heap b ws.toArray)(h1:Q (.ref b) s):wpAny (model prog w) A (binaryOp .Add (.ref t) (.ref b)) Q E s:=by
 obtain ⟨⟨c1,d1,o1,l1⟩,e1,g1,n,k1⟩:=id ht
 obtain ⟨⟨c2,d2,o2,l2⟩,e2,g2,n2,k2⟩:=id hb
 simp only at g1 k1 g2 k2
 subst g1 k1 g2 k2
 exact concat_meets ⟨_,e1,rfl⟩ ⟨_,e2,rfl⟩ FL seq_tuple_add Es Em (Eg _ _) (tuple_addW0 t b _ ws.toArray n n2 d1 d2 l1 l2 rfl) ⟨e1,e2,h1⟩
end
section
variable {X:Cx}
end
end L2
namespace L2
open PySem PySem.Spec PyProof.Rows Wd
section
variable {X:Cx}
inductive xO (x:V)(y:V)(H:Hp)(Q:VK):Prop
 | mk:∀ a b xs ys,(x = .ref a)→(y = .ref b)→(H a=some (.tup xs))→(H b=some (.tup ys))→(xs.length+ys.length≤sizeLine)→(∀ p H',aF H H'→H' p=some (.tup (xs++ys))→Q (.ref p) H')→xO x y H Q
theorem bM:OpR X (binaryOp .Add) xO:=by
 intro G6 s σ H x y v u Q I rx ry h
 obtain ⟨a,b,xs,ys,ex,ey,ha,hb,hz,q⟩:=h
 by_cases hx:xs=[]
 ·subst ex ey hx
  cases rx
  cases ry
  obtain ⟨its,r1,p1,_⟩:=I.tuple (SqT.of ha)
  obtain ⟨its2,r2,p2,_⟩:=I.tuple (SqT.of hb)
  cases r1
  exact qW p1 p2 ⟨.ref b,H,I,rfl,q b H (aF.refl _) hb⟩
 ·exact t_ G6 s σ H x y v u Q I rx ry ⟨a,b,xs,ys,ex,ey,SqT.of ha,SqT.of hb,hx,hz,fun e=>q a H (aF.refl _) (by rw [e,DH];exact ha),fun _ p hp=>q p _ (aF.new hp) af⟩
inductive dS  (xs:List V)(H:Hp)(Q:VK):Prop
 | mk:∀ v d,(xs=[v])→(Dt H v d)→(Sh d)→((∀ i,d = .int i→i.natAbs.log2 < 1920))→(Q (.str d.shown) H)→dS xs H Q
theorem cM (hg:X.A.guards=some [])(hu:X.A.units+64 < cLine):cE X (.builtin "repr") dS:=by
 intro G6 s σ H xs us Q I r h
 obtain ⟨v,d,rfl,q,S,hi,hQ⟩:=h
 obtain ⟨u,rfl,ru⟩:=dC r
 cases q with
 | non=>cases ru;exact P.repr_of_none ⟨.str _,H,I.tok _,⟨_,rfl⟩,hQ⟩
 | bl b=>cases ru;exact P.repr_of_bool ⟨.str _,H,I.tok _,⟨_,rfl⟩,hQ⟩
 | int i=>obtain ⟨t,rfl⟩:=ru;exact P.repr_of_int (hi i rfl) ⟨.str _,H,I.tok _,⟨_,rfl⟩,hQ⟩
 | str x=>obtain ⟨t,rfl⟩:=ru;exact P.repr_of_str ⟨.str _,H,I.tok _,⟨_,rfl⟩,hQ⟩ S.sz
 | lst e qs=>exact dO hg hu G6 s σ H _ _ Q I (.cons ru .nil) ⟨_,_,rfl,.lst e qs,S,hQ⟩
 | tup e qs=>exact dO hg hu G6 s σ H _ _ Q I (.cons ru .nil) ⟨_,_,rfl,.tup e qs,S,hQ⟩
end
inductive AO (x:V)(lo:Option Int)(hi:Option Int)(H:Hp)(Q:VK):Prop
 | mk:∀ a xs,(x = .ref a)→(H a=some (.tup xs))→(∀ p H',aF H H'→H' p=some (.tup (eG xs lo hi))→Q (.ref p) H')→AO x lo hi H Q
theorem bw {X:Cx}:SlR X AO:=by
 intro G6 s σ H x v vl vu lo hi sl Q I rx hs pl pu h
 obtain ⟨a,xs,rfl,hx,q⟩:=h
 exact uR G6 s σ H _ v vl vu lo hi sl Q I rx hs pl pu ⟨a,xs,rfl,SqT.of hx,fun e=>q a H (aF.refl _) (by rw [e];exact hx),fun p hp=>q p _ (aF.new hp) af⟩
theorem sV {d:PyData}(h:d.leavesShort 40=true)(hw:d.weight≤2 ^ 18):d.shown.length≤sizeLine:=by
 have:=PyData.shown_le 40 (by decide) d h
 have e:sizeLine=16777216:=Di
 rw [e]
 omega
structure Sm (d:PyData):Prop where
 sh:d.showable=true
 nd:d.hasDict=false
 dp:d.depth≤4
 lv:d.leavesShort 40=true
 wt:d.weight≤400
 nt:∀ i,d = .int i→i.natAbs.log2 < 1920
theorem va (b:Bool):Sm (.bool b):=⟨rfl,rfl,by cases b <;> decide,rfl,by cases b <;> decide,fun i e=>by cases e⟩
theorem xP {ds:List PyData}(h:∀ d∈ds,Sm d):PyData.showableAll ds=true∧PyData.hasDictAll ds=false∧PyData.depthAll ds≤4∧PyData.leavesShortAll 40 ds=true∧PyData.weightAll ds≤ds.length*401:=by
 induction ds with
 | nil=>exact ⟨rfl,rfl,CC _,rfl,CC _⟩
 | cons d r ih =>
  obtain ⟨a,b,c,e,f⟩:=ih fun x hx=>h x (BZ _ hx)
  have S:=h d Ca
  refine ⟨?_,?_,?_,?_,?_⟩
  ·show (PyData.showable d && PyData.showableAll r)=true
   rw [S.sh,a];rfl
  ·show (PyData.hasDict d || PyData.hasDictAll r)=false
   rw [S.nd,b];rfl
  ·show max (PyData.depth d) (PyData.depthAll r)≤4
   have:=S.dp
   omega
  ·show (PyData.leavesShort 40 d && PyData.leavesShortAll 40 r)=true
   rw [S.lv,e];rfl
  ·show PyData.weight d+1+PyData.weightAll r≤(r.length+1)*401
   have:=S.wt
   omega
theorem vb {ds:List PyData}(h:∀ d∈ds,Sm d)(hl:ds.length≤100):Sh (.tuple ds):=by
 obtain ⟨a,b,c,e,f⟩:=xP h
 have:ds.length*401≤100*401:=Nat.mul_le_mul_right _ hl
 exact ⟨a,b,by show PyData.depthAll ds+1≤10;omega,sV e (by show PyData.weightAll ds≤2 ^ 18;omega)⟩
theorem zO {d:PyData}(S:Sm d):Sh d:=⟨S.sh,S.nd,by have:=S.dp; omega,sV S.lv (by have:=S.wt; omega)⟩
end L2
namespace Kx
open PySem PySem.Spec PyProof.Rows L2 Wd
theorem xQ:bootBuiltins "bool" = some (.type "bool"):=by kernel_rfl
end Kx
namespace L2
open PySem PySem.Spec PyProof.Rows Wd
section
variable {X:Cx}
end
end L2
namespace Wd
def nm (N:List L)(x:L):L:=if x.val < 6 then N.getD x.val 0 else inv (N.getD (x.val - 6) 0)
end Wd
namespace L2
open PySem PySem.Spec PyProof.Rows Wd
section
variable {X:Cx}
end
end L2
namespace Kx
open PySem PySem.Spec PyProof.Rows L2 Wd
end Kx
namespace L2
open PySem PySem.Spec PyProof.Rows
section
variable {prog:Program} {w:World} {A:Around} {E:Value→Shared→Prop} {s:Shared}
theorem ji {l:Addr}{vs:List Value}{ss:List Str}{Q:Value→Shared→Prop}(hl:s.heap.IsList l vs.toArray)(hS:StrsAre vs ss)(lim:vs.length≤sizeLine)
  (q:∀ (out:Array Value) (zs:List Str),StrsAre out.toList zs→zs.Perm ss→sortedS zs=true→Q (.ref (s.heap.objs.size+1)) { s with heap:=sortedAll s.heap vs out }) :
  wpAny (model prog w) A (call (.builtin "sorted") [.ref l]) Q E s:=by
 refine Calls.call_function_entry kind_sorted plain_sorted entry_sorted (args_sorted1 _) ?_
 unfold Builtin.«sorted»
 refine fu (m:=checkCount "sorted" 1 1 _) (BH (fu (collect_list hl (fu (FG ?_)) (hsz:=lim))))
 have z1:((s.heap.push (seqObj "list" #[] 0)).update s.heap.objs.size (Obj.mapSeq (· ++ vs.toArray))).objs.size=s.heap.objs.size+1:=(Heap.size_update ..).trans (size_push' ..)
 have g:(((s.heap.push (seqObj "list" #[] 0)).update s.heap.objs.size (Obj.mapSeq (· ++ vs.toArray))).push (seqObj "list" vs.toArray 0)).get? (s.heap.objs.size+1)=some (seqObj "list" vs.toArray 0):=z1 ▸ B5 _ rfl
 show wpAny _ _ _ _ _ { s with heap:=((s.heap.push (seqObj "list" #[] 0)).update s.heap.objs.size (Obj.mapSeq (· ++ vs.toArray))).push (seqObj "list" vs.toArray 0) }
 rw [z1]
 refine fu (Da (C4 slot_list_sort ⟨_,g,rfl⟩ entry_list_sort (Ts.sort_any strKind_oneLt g hS.keysOf (fun x y r e=>keyKind_strs (by rw [← e];exact hS)) lim fun st a1 a2=>⟨_,rfl,?_⟩) (args_list_sort _)))
 obtain ⟨zs,h1,h2,h3⟩:=sorted_out_str hS a1 a2
 exact BH ⟨_,rfl,q _ zs h1 h2 h3⟩
end
section
variable {X:Cx}
inductive cn (K:PySem.W.Frag)(xs:List V)(H:Hp)(Q:VK):Prop
 | mk:∀ l ys,(xs=[.ref l])→(SqL K H l (ys.map V.str))→(∀ p zs,H p=none→zs.Perm ys→sortedS zs=true→Q (.ref p) (upd H p (.lst (zs.map V.str))))→cn K xs H Q
theorem eA:cE X (.builtin "sorted") (cn X.K):=by
 intro G6 s σ H xs us Q I r h
 obtain ⟨l,ys,rfl,hq,q⟩:=h
 obtain ⟨u,rfl,ru⟩:=dC r
 cases ru
 obtain ⟨its,rv,pl,hz⟩:=I.list hq
 have hS:=d4 rv
 have hlen:its.length=ys.length:=by rw [← rv.length,BK]
 rw [BK] at hz
 refine ji pl.isList hS (by omega) fun out zs hO hp hs=>?_
 obtain ⟨e,he⟩:=sortedAll_at s.heap its out
 have I2:Inv X G6 σ (upd H (s.heap.objs.size+1) (.lst (zs.map V.str))) { s with heap:=sortedAll s.heap its out,toks:=s.toks } :=
  I.laid (fun b o e=>sortedAll_old e) (EW _) ⟨by rw [BK,hp.length_eq];exact hz,out.toList,e,eN hO,by simpa [seqObj] using he⟩
 exact ⟨.ref (s.heap.objs.size+1),_,I2,rfl,q _ zs (I.hok.fresh (EW _)) hp hs⟩
end
section
variable {prog:Program} {w:World} {A:Around} {E:Value→Shared→Prop} {s:Shared}
end
section
variable {X:Cx}
end
end L2
namespace PySem
open Sem (wp)
section
variable {prog:Program} {w:World} {A:Around} {E:Value→Shared→Prop} {s:Shared} {z TI TO i1 i2:Addr} {x y:Str} {t u:Tok} {k c d:Nat} {a b:Value}
end
end PySem
namespace L2
open PySem PySem.Spec PyProof.Rows
section
variable {X:Cx}
end
end L2
namespace PySem
end PySem
namespace L2
open PySem PySem.Spec PyProof.Rows Wd
section
variable {X:Cx}
end
end L2
namespace HT
open PySem PySem.Spec PyProof.Rows
section
variable {prog:Program} {w:World} {A:Around} {E:Value→Shared→Prop} {s:Shared}
theorem eO {sl:Addr}{tk:Tok}{n:Nat}{Q:Int × Int × Nat→Shared→Prop}(hs:s.heap.IsSliceOf sl .none .none (.int (-1) tk))
  (h:Q ((n:Int) - 1,-1,n) s):wpAny (model prog w) A (Builtin.Slice.sliceApplied (.ref sl) (pure (n:Int))) Q E s:=by
 obtain ⟨os,hos,hcs,hds⟩:=id hs
 unfold Builtin.Slice.sliceApplied Builtin.Slice.sliceFields
 refine fu (fu (Cp hos hds (x:=.none) rfl (fu (Cp hos hds (x:=.none) rfl (fu (Cp hos hds (x:=.int (-1) tk) rfl (BH ?_)))))))
 refine fu (slicePart_int ?_)
 show wpAny _ _ (if ((-1:Int) == 0)=true then _ else _) _ _ s
 rw [if_neg (by decide)]
 refine fu (Fi (fu (Fi (fu (BH ?_)))))
 have e:Builtin.Slice.slicePlaces ((n:Int) - 1) (-1) (-1)=n:=by
  unfold Builtin.Slice.slicePlaces
  rw [if_neg (by decide)]
  by_cases hn:n=0
  ·subst hn;decide
  ·rw [if_pos (by omega),show (-(-1):Int)=1 from rfl,Int.ediv_one];omega
 show wpAny _ _ (pure ((n:Int) - 1,(-1:Int),Builtin.Slice.slicePlaces ((n:Int) - 1) (-1) (-1))) _ _ s
 rw [e]
 exact BH h
theorem dv {α β:Type}{f:α→Option β}{g:α→β}:∀ {l:List α},(∀ m∈l,f m=some (g m))→l.filterMap f=l.map g
 | [],_=>rfl
 | a::r,h=>by rw [List.filterMap_cons_some (h a Ca),Cq,dv fun m hm=>h m (BZ _ hm)]
theorem qX (xs:Array Value):((List.range xs.size).filterMap fun (m:Nat)=>xs[((xs.size:Int) - 1+(m:Int)*(-1)).toNat]?).toArray=xs.toList.reverse.toArray:=by
 congr 1
 have e:∀ m∈List.range xs.size,xs[((xs.size:Int) - 1+(m:Int)*(-1)).toNat]? = some ((fun m=>xs.toList.getD (xs.size - 1 - m) .none) m):=by
  intro m hm
  have hm:=EB.mp hm
  have:((xs.size:Int) - 1+(m:Int)*(-1)).toNat=xs.size - 1 - m:=by omega
  rw [this]
  have Hg:xs.size - 1 - m < xs.size:=by omega
  simp [List.getD,Hg]
 rw [dv e]
 apply List.ext_getElem?
 intro i
 rw [B7]
 by_cases hi:i < xs.size
 ·rw [E6 hi,List.getElem?_reverse (by simpa using hi)]
  have Hg:xs.size - 1 - i < xs.size:=by omega
  simp [List.getD,Hg]
 ·rw [CV (by simpa using hi),CV (by simp;omega)]
  rfl
theorem eB {t sl:Addr}{items:Array Value}{tk:Tok}{Q:Value→Shared→Prop}(ht:IsTup s.heap t items)(hs:s.heap.IsSliceOf sl .none .none (.int (-1) tk))
  (h:Q (.ref s.heap.objs.size) { s with heap:=s.heap.push { cls:=.type "tuple",data:=.seq items.toList.reverse.toArray } })
  (hsz:items.size≤sizeLine):wpAny (model prog w) A (getItem (.ref t) (.ref sl)) Q E s:=by
 have Hx:sizeOk (.seq items.toList.reverse.toArray):=by
  show items.toList.reverse.toArray.size≤sizeLine
  rw [B4,Ed,BL]
  exact hsz
 obtain ⟨os,hos,hcs,hds⟩:=id hs
 have hTs:s.TypeIs (.ref sl) "slice":=⟨os,hos,hcs⟩
 unfold getItem
 try with_reducible refine Da ?_
 first | refine fu (BH ?_) | skip
 refine fu (Fp ht.typeIs (by decide) ?_)
 refine fu (CJ (name:=Str.ofString "__getitem__") ht.typeIs CD
  (C4 CD ht.typeIs ET ?_ (Fe _ _)))
 show wpAny _ _ (Builtin.Tuple.tupleItemsOf (.ref t) >>= _) _ _ s
 refine fu (tupleItemsOf_ ht ?_)
 refine fu (FS hTs ?_)
 rw [if_pos (by decide)]
 refine fu (eO hs ?_)
 show wpAny _ _ (if ((((items.size:Nat):Int) - 1 == 0 && (-1:Int) == 1 && items.size == items.size)=true) then _ else _) _ _ s
 rw [if_neg (by simp),qX]
 first
  | exact fu (m:=Builtin.Tuple.tupleExact _) (CF (BH ⟨_,rfl,BH h⟩) Hx)
  | exact fu (m:=Builtin.Tuple.tupleExact _) (CF (fu (BH (BH ⟨_,rfl,BH h⟩))) Hx)
  | exact fu (fu (m:=Builtin.Tuple.tupleExact _) (CF (BH (BH ⟨_,rfl,BH h⟩)) Hx))
  | exact fu (fu (m:=Builtin.Tuple.tupleExact _) (CF (BH ⟨_,rfl,BH h⟩) Hx))
end
end HT
namespace L2
open PySem PySem.Spec PyProof.Rows Wd
section
variable {X:Cx}
def zP (te ts:TE):TE:=fun σ H Q=>te σ H fun x H1=>ts σ H1 fun k H2=>∃ a xs,x = .ref a∧k = .int (-1)∧H2 a=some (.tup xs)∧∀ p,H2 p=none→Q (.ref p) (upd H2 p (.tup xs.reverse))
theorem vc {e st:Expr}{te ts:TE}{pos p2:Pos}(he:PE X e te)(hs:PE X st ts):PE X (.Subscript e (.Slice none none (some st) p2) pos) (zP te ts):=by
 intro G6 s σ H Q I h
 refine F_ (thn (he G6 s σ H _ I h) fun v s1 zq1=>?_)
 obtain ⟨x,H1,I1,r1,q1⟩:=zq1
 refine wpAny_Slice ?_
 rw [evalPart_none]
 refine BH ?_
 refine BH ?_
 rw [evalPart_some]
 refine thn (hs G6 s1 σ H1 _ I1 q1) fun vs s3 zq2=>?_
 obtain ⟨k,H3,I3,r3,a,xs,ez,ek,hx,q3⟩:=zq2
 subst ez ek
 cases r1
 obtain ⟨tk,rfl⟩:=r3
 have I4:Inv X G6 σ H3 { s3 with heap:=s3.heap.push { cls:=.type "slice",data:=.fields #[.none,.none,.int (-1) tk] } }:=I3.kept (t':=s3.toks) fun b ob q=>BD _ q
 obtain ⟨its,r,ht,hz⟩:=I4.tuple (SqT.of (K:=X.K) hx)
 show wpAny (model X.prog X.w) X.A (subscriptTail e (.Slice none none (some st) p2) (.ref a) (.ref s3.heap.objs.size)) (EP X G6 σ Q) X.xe { s3 with heap:=s3.heap.push { cls:=.type "slice",data:=.fields #[.none,.none,.int (-1) tk] } }
 refine tail_any (ops:=[.ref a,.ref s3.heap.objs.size]) ht.typeIs CD.lookup ?_ (by with_unfolding_all rfl)
 refine HT.eB (tk:=tk) ht ⟨_,B5 _ rfl,rfl,rfl⟩ ?_ (by rw [B4,← r.length];exact hz)
 refine ⟨.ref _,_,I4.laid (t':=s3.toks) (o:=.tup xs.reverse) (fun b ob q=>BD _ q) (BG _) ?_,rfl,q3 _ (I4.hok.fresh (BG _))⟩
 refine ⟨by rw [Ed];exact hz,_,?_,IsTup.new _ _,.new _ _ rfl⟩
 exact r.reverse
end
end L2
namespace HT
open PySem PySem.Spec PyProof.Rows PySem.SeqAt
end HT
namespace L2
open PySem PySem.Spec PyProof.Rows Wd
section
variable {X:Cx}
end
theorem xS:bootBuiltins "enumerate" = some (.type "enumerate"):=by kernel_rfl
end L2
namespace Wd
end Wd
namespace Kx
open PySem PySem.Spec PyProof.Rows L2 Wd
def whV:V→Bool
 | .int _=>true
 | _=>false
inductive Wh (K:PySem.W.Frag)(H:Hp):V→Prop
 | mk {x:V} {n:String} {b1 b2:Bool} (ty:jx K H x (.type n)) (e1:PySem.W.kitOne K (.type n) (.type "int")=some b1) (e2:PySem.W.kitOne K (.type n) (.type "bool")=some b2) (h:whV x=(b1 && !b2)):Wh K H x
theorem zQ {K:PySem.W.Frag}:PySem.W.kitOne K (.type "int") (.type "int")=some true:=by unfold PySem.W.kitOne; rw [if_pos (by rfl)]
theorem zR {K:PySem.W.Frag}:PySem.W.kitOne K (.type "int") (.type "bool")=some false:=by kernel_rfl
theorem zS {K:PySem.W.Frag}:PySem.W.kitOne K (.type "bool") (.type "int")=some true:=by kernel_rfl
theorem zT {K:PySem.W.Frag}:PySem.W.kitOne K (.type "bool") (.type "bool")=some true:=by unfold PySem.W.kitOne; rw [if_pos (by rfl)]
theorem zU {K:PySem.W.Frag}:PySem.W.kitOne K (.type "NoneType") (.type "int")=some false:=by kernel_rfl
theorem zW {K:PySem.W.Frag}:PySem.W.kitOne K (.type "NoneType") (.type "bool")=some false:=by kernel_rfl
theorem zX {K:PySem.W.Frag}:PySem.W.kitOne K (.type "str") (.type "int")=some false:=by kernel_rfl
theorem zY {K:PySem.W.Frag}:PySem.W.kitOne K (.type "str") (.type "bool")=some false:=by kernel_rfl
theorem zZ {K:PySem.W.Frag}:PySem.W.kitOne K (.type "list") (.type "int")=some false:=by kernel_rfl
theorem z3 {K:PySem.W.Frag}:PySem.W.kitOne K (.type "list") (.type "bool")=some false:=by kernel_rfl
theorem z4 {K:PySem.W.Frag}:PySem.W.kitOne K (.type "tuple") (.type "int")=some false:=by kernel_rfl
theorem z5 {K:PySem.W.Frag}:PySem.W.kitOne K (.type "tuple") (.type "bool")=some false:=by kernel_rfl
theorem z6 {K:PySem.W.Frag}{H:Hp}{x:V}{d:PyData}(h:Dt H x d):Wh K H x:=by
 cases h with
 | non=>exact .mk .non zU zW rfl
 | bl b=>exact .mk (.bl b) zS zT rfl
 | int i=>exact .mk (.int i) zQ zR rfl
 | str z=>exact .mk (.str z) zX zY rfl
 | lst e q=>exact .mk (.lst e) zZ z3 rfl
 | tup e q=>exact .mk (.tup e) z4 z5 rfl
inductive jT (K:PySem.W.Frag)(vs:List V)(H:Hp)(Q:VK)(Hc:XK):Prop
 | mk:∀ x,(vs=[x])→(Wh K H x)→(Q (.bl (whV x)) H)→jT K vs H Q Hc
def fst (c:Option (Int × Int)):Int:=match c with | some (i,_)=>i | none=>0
def iv (r:List Nat):List V:=r.map fun i:Nat=>V.int (i:Int)
structure Rgs (R:List (List L)):Prop where
 many:R.length≤7
 word:∀ r∈R,r≠[]∧r.length≤90
theorem bW (w:List L):(cQ w).length=max 1 w.length:=by unfold cQ; rw [BK,List.length_range]
theorem bS (w:List L):(bk w).length=w.length:=by unfold bk; rw [Ed,BK]
theorem vd {R:List (List L)}(h:∀ r∈R,r≠[]∧r.length≤90):(trn R).length≤180*R.length:=by
 induction R with
 | nil=>exact BG _
 | cons r R ih =>
  have:=ih fun q hq=>h q (BZ _ hq)
  have hr:=(h r Ca).2
  unfold trn at this ⊢
  rw [List.flatMap_cons,BB,BB,bW,bW,bS,B6]
  omega
theorem hX (R:List (List L))(r:List L):trn (R++[r])=trn R++(cQ r++cQ (bk r)):=by
 unfold trn
 rw [E7,List.flatMap_singleton]
theorem sW {W:List (List L)}:∀ (zs:List Str),(∀ z∈zs,z∈W.map toS)→∃ V:List (List L),zs=V.map toS
 | [],_=>⟨[],rfl⟩
 | z::zs,h=>by
  obtain ⟨v,_,rfl⟩:=CN.mp (h z Ca)
  obtain ⟨V,rfl⟩:=sW zs fun q hq=>h q (BZ _ hq)
  exact ⟨v::V,rfl⟩
theorem sX {zs:List Str}{W:List (List L)}(nd:zs.Nodup)(so:sortedS zs=true)(m:∀ z,z∈zs ↔ z∈W.map toS):∃ V,zs=V.map toS∧Ord V∧∀ x,x∈V ↔ x∈W:=by
 obtain ⟨V,rfl⟩:=sW zs fun z hz=>(m z).mp hz
 refine ⟨V,rfl,⟨?_,?_⟩,fun x=>?_⟩
 ·exact (List.Pairwise.of_map toS (fun a b h e=>h (Ci toS e)) nd)
 ·have:=nJ so
  exact List.Pairwise.of_map toS (fun a b h=>h) this
 ·have:=m (toS x)
  constructor
  ·intro hx
   obtain ⟨v,hv,e⟩:=CN.mp (this.mp (CN.mpr ⟨x,hx,rfl⟩))
   rw [← cH e]
   exact hv
  ·intro hx
   obtain ⟨v,hv,e⟩:=CN.mp (this.mpr (CN.mpr ⟨x,hx,rfl⟩))
   rw [← cH e]
   exact hv
inductive c8 (vs:List V)(H:Hp)(Q:VK)(Hc:XK):Prop
 | mk:∀ (a:Addr) (R:List (List L)),(vs=[.ref a])→((H a=some (.tup (R.map tx)) ∨ H a=some (.lst (R.map tx))))→(Rgs R)→(∀ (l:Addr) (V:List (List L)) (H':Hp),H l=none→Ord V→(∀ x,x∈V ↔ x∈trn R)→H' l=some (.lst (V.map tx))→aF H H'→Q (.ref l) H')→c8 vs H Q Hc
inductive fQ (vs:List V)(H:Hp)(Q:VK)(Hc:XK):Prop
 | mk:∀ (u v:List L),(vs=[tx u,tx v])→(u.length≤2000)→(v.length≤2000)→(∀ H',aF H H'→Q (tx (lcp u v)) H')→fQ vs H Q Hc
theorem dU {w x:List L}(h:x∈cQ w):x.length=w.length:=by
 unfold cQ at h
 obtain ⟨i,hi,rfl⟩:=CN.mp h
 rw [BB,B0,BJ]
 have:=EB.mp hi
 omega
theorem qY {R:List (List L)}(h:∀ r∈R,r≠[]∧r.length≤90){x:List L}(hx:x∈trn R):x≠[]∧x.length≤90:=by
 unfold trn at hx
 obtain ⟨r,hr,hx⟩:=List.mem_flatMap.mp hx
 obtain ⟨h1,h2⟩:=h r hr
 have hl:x.length=r.length:=by
  rcases BR.mp hx with q | q
  ·exact dU q
  ·rw [dU q,bS]
 have:=CW.mpr h1
 exact ⟨CW.mp (by omega),by omega⟩
theorem oh:∀ {V W:List (List L)},V.Nodup→(∀ x∈V,x∈W)→V.length≤W.length
 | [],_,_,_=>CC _
 | v::V,W,nd,h=>by
  obtain ⟨n1,n2⟩:=DW.mp nd
  have hv:=h v Ca
  have:=oh (V:=V) (W:=W.erase v) n2 fun x hx=>(List.mem_erase_of_ne (fun e=>n1 (by rw [← e];exact hx))).mpr (h x (BZ _ hx))
  rw [List.length_erase_of_mem hv] at this
  have:=FN hv
  rw [B6]
  omega
structure Tn (R V:List (List L)):Prop where
 ord:Ord V
 mem:∀ x,x∈V ↔ x∈trn R
theorem Tn.word {R V:List (List L)}(h:Tn R V)(hR:Rgs R){x:List L}(hx:x∈V):x≠[]∧x.length≤90:=qY hR.word ((h.mem x).mp hx)
theorem Tn.len {R V:List (List L)}(h:Tn R V)(hR:Rgs R):V.length≤1260:=by
 have h1:=oh h.ord.nd fun x hx=>(h.mem x).mp hx
 have h2:=vd hR.word
 have h3:=hR.many
 omega
inductive hZ (vs:List V)(H:Hp)(Q:VK)(Hc:XK):Prop
 | mk:∀ (l:Addr) (V:List (List L)),(vs=[.ref l])→(H l=some (.lst (V.map tx)))→(V.length≤4000)→((∀ v∈V,v.length≤2000))→((∀ H':Hp,aF H H'→gD V=none→Q .non H'))→(∀ (H':Hp) (p:Addr) (t o c:List L),aF H H'→gD V=some (t,o,c)→H' p=some (.tup [tx t,tx o,tx c])→Q (.ref p) H')→hZ vs H Q Hc
theorem lW {V:List (List L)}(h:∀ t∈V,fnd V t=none):gD V=none:=by
 unfold gD
 rw [List.findSome?_eq_none_iff]
 intro t ht
 rw [h t ht]
 rfl
theorem lX {V:List (List L)}{i:Nat}{t o:List L}(h:∀ x∈V.take i,fnd V x=none)(ht:V[i]? = some t)(ho:fnd V t=some o):gD V=some (t,o,lcp t o):=by
 unfold gD
 rw [List.findSome?_eq_some_iff]
 obtain ⟨l1,e1⟩:=BF.mp ht
 refine ⟨V.take i,t,V.drop (i+1),?_,by rw [ho];rfl,fun x hx=>by rw [h x hx];rfl⟩
 conv=>lhs;rw [← B_ i V]
 rw [Ct l1,e1]
theorem h_ (F:List (List L)):(F.map tx).all gK=true:=by
 rw [D_]
 intro x hx
 obtain ⟨v,_,rfl⟩:=CN.mp hx
 rfl
theorem qZ (v:List L)(F:List (List L)):inV (tx v) (F.map tx)=decide (v∈F):=by
 unfold inV
 by_cases h:v∈F
 ·rw [BM h,DQ]
  exact ⟨tx v,CN.mpr ⟨v,h,rfl⟩,by simp [tx,eqV]⟩
 ·rw [BI h,DG]
  intro x hx
  obtain ⟨u,hu,rfl⟩:=CN.mp hx
  have:toS u≠toS v:=fun e=>h (by rw [← cH e];exact hu)
  simp [tx,eqV,this]
structure iH (S F:List (List L)):Prop where
 nd:F.Nodup
 mem:∀ x,x∈F ↔ x∈S
theorem iH.nil:iH [] []:=⟨List.nodup_nil,fun x=>Iff.rfl⟩
theorem iH.to {S S' F:List (List L)}(h:iH S F)(e:∀ x,x∈S ↔ x∈S'):iH S' F:=⟨h.nd,fun x=>(h.mem x).trans (e x)⟩
theorem iH.put {S F:List (List L)}(h:iH S F)(v:List L):iH (S++[v]) (if v∈F then F else F++[v]):=by
 by_cases q:v∈F
 ·rw [if_pos q]
  refine ⟨h.nd,fun x=>?_⟩
  rw [BR,BE,h.mem]
  exact ⟨.inl,fun z=>z.elim id fun e=>e ▸ (h.mem v).mp q⟩
 ·rw [if_neg q]
  refine ⟨List.nodup_append.mpr ⟨h.nd,DW.mpr ⟨Cd,List.nodup_nil⟩,fun a ha b hb e=>q (by rw [BE] at hb;rw [← hb,← e];exact ha)⟩,fun x=>?_⟩
  rw [BR,BR,h.mem]
theorem iH.len {S F:List (List L)}(h:iH S F):F.length≤S.length:=oh h.nd fun x hx=>(h.mem x).mp hx
inductive ia (vs:List V)(H:Hp)(Q:VK)(Hc:XK):Prop
 | mk:∀ (d:Addr) (n:Nat),(vs=[.ref d,.int (n:Int)])→(Fd H d)→(n≤10)→(∀ (a:Addr) (R:List (List L)) (H':Hp),Rgs R→(∀ r∈R,r.length≤40)→R.length≤6→H' a=some (.tup (R.map tx))→Fd H' d→ba d H H'→Q (.ref a) H')→ia vs H Q Hc
inductive jU (vs:List V)(H:Hp)(Q:VK)(Hc:XK):Prop
 | mk:∀ (d:Addr),(vs=[.ref d])→(Fd H d)→(∀ (a:Addr) (R:List (List L)) (H':Hp),Rgs R→(∀ r∈R,r.length≤40)→R.length≤6→H' a=some (.tup (R.map tx))→Fd H' d→ba d H H'→Q (.ref a) H')→jU vs H Q Hc
def Wl (n b:Nat)(W:List (List L)):Prop:=W.length≤n∧∀ v∈W,v.length≤b
theorem Wl.snoc {n b:Nat}{W:List (List L)}{v:List L}(h:Wl n b W)(hv:v.length≤b):Wl (n+1) b (W++[v]):=⟨by rw [BB]; have:=h.1; simp; omega,fun x hx=>by
 rcases BR.mp hx with q | q
 ·exact h.2 x q
 ·rw [BE] at q;subst q;exact hv⟩
theorem ib (W:List (List L))(lo hi:Option Int):∃ W':List (List L),eG (W.map tx) lo hi=W'.map tx∧W'.length≤W.length∧∀ v∈W',v∈W:=by
 unfold eG
 rw [← Gi,← Gh]
 exact ⟨_,rfl,by rw [BJ,B0];omega,fun v hv=>Dp (Dg hv)⟩
theorem Wl.cut {n b:Nat}{W:List (List L)}(h:Wl n b W){W':List (List L)}(l:W'.length≤W.length)(m:∀ v∈W',v∈W):Wl n b W':=⟨Cn l h.1,fun v hv=>h.2 v (m v hv)⟩
theorem ve:Str.ofString "a" = toS [0]:=by decide +kernel
theorem z7:Str.ofString "b" = toS [1]:=by decide +kernel
theorem z8:Str.ofString "B" = toS [7]:=by decide +kernel
theorem z9:Str.ofString "e" = toS [4]:=by decide +kernel
theorem oj:Str.ofString "ab" = toS [0,1]:=by decide +kernel
theorem q_:Str.ofString "abAB" = toS [0,1,6,7]:=by decide +kernel
theorem z_:Str.ofString "abABcdCD" = toS [0,1,6,7,2,3,8,9]:=by decide +kernel
theorem Ab:Str.ofString "abcdABCD" = toS [0,1,2,3,6,7,8,9]:=by decide +kernel
theorem Ac:Str.ofString "aabbccdd" = toS [0,0,1,1,2,2,3,3]:=by decide +kernel
theorem Ad:Str.ofString "abcABdCD" = toS [0,1,2,6,7,3,8,9]:=by decide +kernel
theorem cN {z:Str}{w:List L}(e:z=toS w){n:Int}(h0:0≤n)(h1:n≤20)(hw:w.length≤20)(hb:n*(w.length:Int)≤40):MulOk z n∧∃ u:List L,V.str (Txt.mul z n)=tx u∧u.length≤40:=by
 subst e
 refine ⟨fH _ (by omega) (by omega) (by omega),rep n.toNat w,by rw [gY];rfl,?_⟩
 rw [cZ]
 obtain ⟨k,rfl⟩:=B9 h0
 rw [BQ]
 exact_mod_cast hb
theorem vf {H:Hp}{d l:Addr}{o:HO}{W:List (List L)}(F:Fd H d)(h:H l=some (.lst (W.map tx)))(n:l≠d):Fd (L2.upd H l o) d:=by
 obtain ⟨c,i,ll,t,ns,h1,h2,h3,h4⟩:=F.ex
 have hc:c≠l:=fun e=>by
  subst e
  rw [h2] at h
  have h:=HO.lst.inj (BW h)
  cases ns with
  | nil=>exact h3 rfl
  | cons a ns =>
   cases W with
   | nil=>cases h
   | cons w W=>cases (FJ h).1
 exact ⟨c,i,ll,t,ns,by rw [ay n.symm];exact h1,by rw [ay hc];exact h2,h3,h4⟩
end Kx
namespace L2
open PySem PySem.Spec PyProof.Rows
theorem ie {h:Heap}{T:Addr}{o:Obj}{f:Obj→Obj}(ho:h.get? T=some o)(hf:f o=o)(b:Addr):(h.update T f).get? b=h.get? b:=by
 by_cases e:T=b
 ·subst e
  have:=CH f ho (by rw [hf];exact (Heap.get?_some_iff.mp ho).2)
  rw [this,hf,ho]
 ·exact Ck _ _ e
theorem ig {oT:Obj}{ts:Array Value}{i:Nat}{v:Value}(hd:oT.data = .fields ts)(h3:ts[i]? = some v):Obj.mapFields (·.setIfInBounds i v) oT=oT:=by
 obtain ⟨c,d,dt,sl⟩:=oT
 simp only at hd
 subst hd
 obtain ⟨hi,hv⟩:=Cs.mp h3
 have:ts.setIfInBounds i v=ts:=by
  apply Array.ext
  ·simp
  ·intro j h1 h2
   by_cases hj:i=j
   ·subst hj;simp [hv]
   ·rw [Array.getElem_setIfInBounds_ne _ hj]
 simp only [Obj.mapFields,this]
def k9 (T:Addr)(h:Heap)(a:Addr)(fl:Value):Prop :=
 ∃ oe vs oT ts,h.get? a=some oe∧oe.data = .fields vs∧vs[1]? = some (.ref T)∧T≠a∧h.get? T=some oT∧oT.data = .fields ts∧ts[3]? = some fl
def Flt (h:Heap)(a:Addr)(fl:Value):Prop:=∃ T,k9 T h a fl
structure Nts (fs:List Addr) (a:Addr) (fl:Value) (h h':Heap):Prop where
 keep:∀ b o,b∉fs→b≠a→h.get? b=some o→h'.get? b=some o
 slot:∀ b o,b∈fs→h.get? b=some o→∃ sl,h'.get? b=some { o with slots:=sl }
 exc:∀ oe vs,h.get? a=some oe→oe.data = .fields vs→∃ oe' vs',h'.get? a=some oe'∧oe'.cls=oe.cls∧oe'.dict=oe.dict∧oe'.data = .fields vs'∧vs'.size=vs.size∧vs'[2]? = vs[2]?
 fly:∃ T,h.objs.size≤T∧k9 T h' a fl
section
variable {M:Model} {A:Around} {E:Value→Shared→Prop} {s:Shared}
set_option maxHeartbeats 1600000 in
theorem sY {base:Heap}{env:Env}{outer:List Env}{L e:Addr}{oe:Obj}{vs:Array Value}{head:Value}{hadNext:Bool}{Q:Unit→Shared→Prop}
  (H_:A.frames=some (env::outer)) (hl:s.heap.FunFrames base (env::outer)) (hf:env.frame=some L)
  (he:s.heap.get? e=some oe) (hd:oe.data = .fields vs) (hsz:1 < vs.size)
  (h:∀ h',Nts (frs (env::outer)) e (rawInt L) s.heap h'→Q () { s with heap:=h' }) :
  wpAny M A (do let a ← frameOf env;let pl ← entryPlaceOf L hadNext;let b ← EntryCells.newEntry head a .none (rawInt L) .none pl;setField (.ref e) 1 b) Q E s:=by
 have hene:e∉frs (env::outer):=fun hm=>by
  obtain ⟨_,o,ho,hnf⟩:=hl.mem hm
  rw [he] at ho;injection ho with ho;subst ho;exact hnf vs hd
 refine fu (wpAny_frameOf_fun H_ hl hf fun h₁ hs₁=>?_)
 refine fu (wpAny_entryPlaceOf fun pl HV=>?_)
 unfold EntryCells.newEntry newFields
 refine fu (CF ?_ (HV.sizeOk5 _ _ _ _ _))
 generalize hN:({ cls:=.type "traceback",dict:=none,data:=.fields ([head,.ref L,.none,rawInt L,.none]++(if pl.isEmpty then List.replicate 6 Value.none else pl)).toArray }:Obj)=oN
 have hNd:oN.data = .fields ([head,.ref L,.none,rawInt L,.none]++(if pl.isEmpty then List.replicate 6 Value.none else pl)).toArray:=by rw [← hN]
 have hNf:oN.isFreed=false:=by rw [← hN];rfl
 have he₁:h₁.get? e=some oe:=(hs₁.2.1 e hene).trans he
 have he₂:=BD (h:=h₁) oN he₁
 refine C9 he₂ hd hsz (h _ ?_)
 have hTe:h₁.objs.size≠e:=Gm (BU he₁)
 have hd₃:=CG hd (·.setIfInBounds 1 (Value.ref h₁.objs.size))
 have he₃:=CH (Obj.mapFields (·.setIfInBounds 1 (Value.ref h₁.objs.size))) he₂ (CU hd₃)
 have hT₃:=(Ck (h₁.push oN) (Obj.mapFields (·.setIfInBounds 1 (Value.ref h₁.objs.size))) (Ne.symm hTe)).trans (B5 h₁ hNf)
 have keep:∀ b o,b≠e→h₁.get? b=some o→((h₁.push oN).update e (Obj.mapFields (·.setIfInBounds 1 (Value.ref h₁.objs.size)))).get? b=some o:=fun b o hbe hb=>by
  rw [Ck _ _ (Ne.symm hbe)]
  exact BD _ hb
 refine ⟨fun b o hb hbe q=>keep b o hbe ((hs₁.2.1 b hb).trans q),fun b o hb q=>?_,fun oe' vs' q qd=>?_,?_⟩
 ·obtain ⟨sl,q'⟩:=hs₁.2.2 b o q
  exact ⟨sl,keep b _ (fun z=>hene (z ▸ hb)) q'⟩
 ·rw [he] at q;cases q
  rw [hd] at qd;cases qd
  refine ⟨_,_,he₃,D3 _ _,?_,hd₃,by simp,CZ (by decide)⟩
  obtain ⟨c,d,dt,sl⟩:=oe
  cases dt <;> rfl
 ·refine ⟨h₁.objs.size,Ff hs₁.1.symm,_,_,oN,_,he₃,hd₃,by simp [hsz],hTe,hT₃,hNd,?_⟩
  first | (simp;done) | (rcases HV with rfl | ⟨_,_,_,_,_,_,_,rfl⟩ <;> simp)
theorem vg {base:Heap}{env:Env}{outer:List Env}{L e:Addr}{oe:Obj}{vs:Array Value}{Q:Unit→Shared→Prop}
  (H_:A.frames=some (env::outer)) (hl:s.heap.FunFrames base (env::outer)) (hf:env.frame=some L)
  (he:s.heap.get? e=some oe) (hd:oe.data = .fields vs) (h1:vs[1]? = some .none ∨ Flt s.heap e .none)
  (h:∀ h',Nts (frs (env::outer)) e (rawInt L) s.heap h'→Q () { s with heap:=h' }):wpAny M A (noteFrame (.ref e) env) Q E s:=by
 unfold noteFrame
 simp only [hf]
 rcases h1 with h1 | ⟨T,oe',vs',oT,ts,he',hd',h1,hTe,hT,Ip,h3⟩
 ·refine fu (Cp he hd h1 ?_)
  rw [if_neg (by decide)]
  exact sY H_ hl hf he hd (Cs.mp h1).1 h
 ·rw [he] at he';cases he'
  rw [hd] at hd';cases hd'
  refine fu (Cp he hd h1 ?_)
  rw [if_pos (show (Value.ref T != Value.none)=true from by simp)]
  refine fu (Cp hT Ip h3 ?_)
  rw [if_neg (show ¬ ((Value.none == rawInt L)=true) from by simp [rawInt])]
  refine fu (C9 hT Ip (Cs.mp h3).1 ?_)
  have idle:=ie (f:=Obj.mapFields (·.setIfInBounds 3 Value.none)) hT (ig Ip h3)
  refine sY H_ (hl.of_keeps fun b o hb _=>⟨o,(idle b).trans hb,rfl⟩) hf ((idle e).trans he) hd (Cs.mp h1).1 fun h' N=>h h' ?_
  obtain ⟨k1,k2,k3,k4⟩:=N
  refine ⟨fun b o hb hbe q=>k1 b o hb hbe ((idle b).trans q),fun b o hb q=>k2 b o hb ((idle b).trans q),fun o v q d=>k3 o v ((idle e).trans q) d,?_⟩
  obtain ⟨T',b1,b2⟩:=k4
  exact ⟨T',Cn (Ff (Heap.size_after_update ..).symm) b1,b2⟩
theorem fR {T e:Addr}{fl:Value}{Q:Unit→Shared→Prop}(hF:k9 T s.heap e fl)
  (h:∀ h',k9 T h' e .none→(∀ b o,b≠T→s.heap.get? b=some o→h'.get? b=some o)→(∀ b,(∃ o,s.heap.get? b=some o)→∃ o,h'.get? b=some o)→(fl = .none→∀ b,h'.get? b=s.heap.get? b)→Q () { s with heap:=h' }) :
  wpAny M A (setFlight (.ref e) none) Q E s:=by
 obtain ⟨oe,vs,oT,ts,he,hd,h1,hTe,hT,Ip,h3⟩:=hF
 have hsz3:3 < ts.size:=(Cs.mp h3).1
 have other:∀ b,b≠T→(s.heap.update T (Obj.mapFields (·.setIfInBounds 3 ((none:Option Addr).elim Value.none fun f=>rawInt f)))).get? b=s.heap.get? b :=
  fun b hb=>Ck _ _ (Ne.symm hb)
 have hT':=CH (Obj.mapFields (·.setIfInBounds 3 ((none:Option Addr).elim Value.none fun f=>rawInt f))) hT (CU (CG Ip _))
 unfold setFlight
 refine fu (Cp he hd h1 ?_)
 rw [if_pos (show (Value.ref T != Value.none)=true from by simp)]
 refine C9 hT Ip hsz3 (h _ ⟨oe,vs,_,_,(other e (Ne.symm hTe)).trans he,hd,h1,hTe,hT',CG Ip _,by simp [hsz3]⟩ (fun b o hb q=>(other b hb).trans q) (fun b ⟨o,q⟩=>?_) fun z b=>?_)
 ·by_cases z:b=T
  ·subst z;exact ⟨_,hT'⟩
  ·exact ⟨o,(other b z).trans q⟩
 ·subst z
  exact ie hT (ig Ip h3) b
theorem xU {base:Heap}{env:Env}{outer:List Env}{L e:Addr}{oe:Obj}{vs:Array Value}{Q:Unit→Shared→Prop}
  (H_:A.frames=some (env::outer)) (hl:s.heap.FunFrames base (env::outer)) (hf:env.frame=some L)
  (he:s.heap.get? e=some oe) (hd:oe.data = .fields vs) (h1:vs[1]? = some .none ∨ Flt s.heap e .none)
  (h:∀ h',Nts (frs (env::outer)) e .none s.heap h'→Q () { s with heap:=h' }):wpAny M A (leaving env (.ref e)) Q E s:=by
 unfold leaving
 refine fu (vg H_ hl hf he hd h1 fun h₁ N=>?_)
 obtain ⟨k1,k2,k3,T,hT,k4⟩:=N
 refine fR (s:={ s with heap:=h₁ }) k4 fun h₂ f1 f2 f3 _=>h h₂ ⟨fun b o hb hbe q=>f2 b o (fun z=>?_) (k1 b o hb hbe q),fun b o hb q=>?_,fun oe vs q qd=>?_,T,hT,f1⟩
 ·exact absurd (BX (BU q) (z ▸ hT)) (Co _)
 ·obtain ⟨sl,q'⟩:=k2 b o hb q
  exact ⟨sl,f2 b _ (fun z=>absurd (BX (BU q) (z ▸ hT)) (Co _)) q'⟩
 ·obtain ⟨oe',vs',q1,q2⟩:=k3 oe vs q qd
  exact ⟨oe',vs',f2 e _ (fun z=>absurd (BX (BU q) (z ▸ hT)) (Co _)) q1,q2⟩
end
def exo (a C:Addr)(d:Option Addr)(b c:Bool):Heap→Prop:=fun h =>
 ∃ oe vs,h.get? a=some oe∧oe.cls = .ref C∧oe.dict=d∧oe.data = .fields vs∧vs.size=6∧(b=true→vs[1]? = some .none)∧(c=true→vs[2]? = some .none)
abbrev Exo (a C:Addr)(d:Option Addr)(b:Bool)(c:Bool:=false):HO:=.ext (exo a C d b c)
theorem rf {a C:Addr}{d:Option Addr}{b c:Bool}{h1 h2:Heap}(x:exo a C d b c h1)(k:∀ o,h1.get? a=some o→h2.get? a=some o):exo a C d b c h2 :=
 let ⟨oe,vs,q,r⟩:=x;⟨oe,vs,k _ q,r⟩
theorem gE {P:Program}{w:World}{H:Hp}{h:Heap}{a C:Addr}{d:Option Addr}{b c:Bool}(x:exo a C d b c h):bK P w H h a (Exo a C d b c) :=
 ⟨x,let ⟨oe,_,q,_⟩:=x;⟨oe,q⟩,fun _ _ y k=>rf y k⟩
theorem c9 {H:Hp}{a:Addr}{o:HO}(h:H a=some o):upd H a o=H:=by
 funext b
 by_cases e:b=a
 ·subst e;rw [af,h]
 ·rw [ay e]
def CXe (P:Program)(w:World):CXT:=fun outer H s E e s' =>
 ∃ a C d c H',e = .ref a∧s'.os=s.os∧AllBare s'.gens∧Un (frs outer) [] H H' s.heap s'.heap∧HOk P w H' s'.heap∧H' a=some (Exo a C d false c)∧Flt s'.heap a .none∧E (.ref a) none H'
section
variable {P:Program} {w:World} {H:Hp} {h h':Heap} {fs:List Addr} {e C:Addr} {d:Option Addr} {b cx:Bool} {fl:Value}
theorem k_ (ok:HOk P w H h)(he:H e=some (Exo e C d b cx))(hfs:∀ c∈fs,H c=none)(N:Nts fs e fl h h') :
  Un fs [] H (upd H e (Exo e C d false cx)) h h'∧HOk P w (upd H e (Exo e C d false cx)) h':=by
 obtain ⟨⟨oe,vs,g1,g2,g3,g4,g5,g6,g7⟩,_,_⟩:=ok e _ he
 obtain ⟨oe',vs',n1,n2,n3,n4,n5,n6⟩:=N.exc oe vs g1 g4
 have hx:exo e C d false cx h':=⟨oe',vs',n1,n2.trans g2,n3.trans g3,n4,n5.trans g5,(fun z=>by cases z),fun z=>n6.trans (g7 z)⟩
 have ne:∀ c,H c=none→c≠e:=fun c n z=>by rw [z,he] at n;cases n
 have ne':∀ c u,H c=some u→u≠Exo e C d b cx→c≠e:=fun c u q n z=>by rw [z,he] at q;cases q;exact n rfl
 refine ⟨⟨fun c o q n hc _=>N.keep c o hc (ne c n) q,fun c o q n hc _=>N.slot c o hc q,fun c o q n _=>by rw [ay (ne c n)];exact n,fun c o q _=>?_,
  fun c xs q=>by rw [ay (ne' c _ q (by intro z;cases z))];exact q,fun c o u q=>by rw [ay (ne' c _ q (by intro z;cases z))];exact q,fun c ps q=>⟨#[],by rw [ay (ne' c _ q (by intro z;cases z)),q];simp⟩⟩,fun c u q=>?_⟩
 ·by_cases z:c=e
  ·subst z;exact ⟨_,n1⟩
  ·by_cases y:c∈fs
   ·obtain ⟨sl,r⟩:=N.slot c o y q
    exact ⟨_,r⟩
   ·exact ⟨o,N.keep c o y z q⟩
 ·by_cases z:c=e
  ·subst z;rw [af] at q;cases q;exact gE hx
  ·rw [ay z] at q
   refine (ok c u q).stay (fun x v hx q'=>?_) (fun x hx=>by rw [ay (ne' x _ hx (by intro z;cases z))];exact hx) fun x xs hx=>by rw [ay (ne' x _ hx (by intro z;cases z))];exact hx
   have nx:x≠e:=by
    rcases hx with rfl | hx
    ·exact z
    ·exact ne' x _ hx (by intro z;cases z)
   refine N.keep x v (fun y=>?_) nx q'
   have:=hfs x y
   rcases hx with rfl | hx
   ·rw [this] at q;cases q
   ·rw [this] at hx;cases hx
end
def sZ (X:Cx)(E:XK):Prop:=∀ (G6:List (Addr × Obj)) (σ:St) (H:Hp) (s:Shared) (a C:Addr) (d:Option Addr) (c:Bool),Inv X G6 σ H s→H a=some (Exo a C d true c)→E (.ref a) none (upd H a (Exo a C d false c))→X.xe (.ref a) s
section
variable {P:Program} {w:World} {K:PySem.W.Frag} {mg:Str→Option Value} {base:Heap} {N:List Str} {qual:Str} {scope:Scope} {f:Addr} {cd:Value} {A:Around} {outer:List Env} {s:Shared} {H:Hp} {E:XK}
theorem jj {G6:List (Addr × Obj)}{σ:St}{H1:Hp}{s1:Shared}{a C:Addr}{d:Option Addr}{b c:Bool}(I:Inv (jD (CXe P w) P w K mg base N qual scope f cd A outer s H E) G6 σ H1 s1)
  (ha:H1 a=some (Exo a C d b c)) (hf:b=true ∨ Flt s1.heap a .none) (hE:E (.ref a) none (upd H1 a (Exo a C d false c))):(jD (CXe P w) P w K mg base N qual scope f cd A outer s H E).xe (.ref a) s1:=by
 obtain ⟨⟨oe,vs,g1,g2,g3,g4,g5,g6,_⟩,_,_⟩:=I.hok a _ ha
 refine xU (base:=base) (outer:=outer) I.ok.frames I.stack rfl g1 g4 (hf.imp (fun z=>g6 z) id) fun h' Nt=>?_
 obtain ⟨un,hok⟩:=k_ I.hok ha I.stkFree Nt
 have J:=I.call' (s':={ s1 with heap:=h' }) rfl un hok I.bare (fun b z=>absurd z (by simp))
 obtain ⟨T,_,hT⟩:=Nt.fly
 exact ⟨a,C,d,c,_,rfl,J.os,J.bare,J.base,J.hok,af ..,⟨T,hT⟩,hE⟩
theorem c_:sZ (jD (CXe P w) P w K mg base N qual scope f cd A outer s H E) E:=fun G6 σ H1 s1 a C d c I ha hE=>jj I ha (.inl rfl) hE
theorem lY:gx (CXe P w) (jD (CXe P w) P w K mg base N qual scope f cd A outer s H E) E:=by
 intro G6 σ H1 s1 e s' I ⟨a,C,d,c,H',he,os,bare,un,hok,ha,hf,hE⟩
 subst he
 have J:=I.call' os un hok bare (fun b z=>absurd z (by simp))
 exact jj J ha (.inr hf) (by rw [c9 ha];exact hE)
end
abbrev bmV:List Value:=[.type "ValueError",.type "Exception",.type "BaseException",.type "object"]
structure XCl (K:PySem.W.Frag) (C:Addr) (bm:List Value):Prop where
 obj:∃ dd cd k0 k1 k2 k3 k5,K.lookup C=some ⟨.type "type",dd,.cls cd,#[k0,k1,k2,k3,some (.builtin "ValueError.__new__"),k5]⟩∧cd.mro = .ref C::bm∧cd.hasDel=false∧cd.hasDict=true
 tl:PySem.W.tailIn K bmV bm=true
 kp:PySem.W.keepIn K (.ref C)=true
abbrev jV (us:List Value):Obj:={ cls:=.type "tuple",data:=.seq us.toArray }
abbrev om (C t:Addr):Obj:={ cls:=.ref C,data:=.fields #[.ref t,.none,.none,.none,.bool false,.none] }
theorem XCl.at {K:PySem.W.Frag}{C:Addr}{bm:List Value}{h:Heap}(x:XCl K C bm)(X:K.In h):OwnTail h bmV bm∧∃ nm q N bs sn sub ab col dd k0 k1 k2 k3 k5,h.get? C=some (excClassObj nm q C N bs bm true sn sub ab col dd k0 k1 k2 k3 k5 "ValueError.__new__"):=by
 refine ⟨PySem.W.tail_of_in X x.tl,?_⟩
 obtain ⟨dd,cd,k0,k1,k2,k3,k5,hl,hm,hd,hh⟩:=x.obj
 obtain ⟨nm,bs,mro,ns,qn,hdc,sn,sub,ab,col,del⟩:=cd
 dsimp only at hm hd hh
 subst hm hd hh
 exact ⟨nm,qn,ns,bs,sn,sub,ab,col,dd,k0,k1,k2,k3,k5,X _ _ hl⟩
section
variable {prog:Program} {w:World} {A:Around} {E:Value→Shared→Prop} {h:Heap} {g:Array GenState} {d:Drawn} {t:Nat} {os:OsState} {K:PySem.W.Frag} {C fI:Addr} {bm:List Value}
set_option maxHeartbeats 1600000 in
theorem jW {rest:List Value}{Q:Fin→Shared→Prop}(X:K.In h)(x:XCl K C bm)(hi:PySem.W.findIn K (.ref C) "__init__" = some (some (.ref fI)))(hf:PySem.W.isFn K (.ref fI)=true)
  (hq:wpAny (model prog w) A (call (.ref fI) (.ref (h.objs.size+1)::rest)) (fun r s'=>r = .none∧Q (.done (.ret (.ref (h.objs.size+1)))) s') E ⟨(h.push (jV rest)).push (om C h.objs.size),g,d,t,os⟩) (hrest:rest.length≤sizeLine) :
  wpAny (model prog w) A (Builtin.«type.__call__» ⟨.ref C::rest,[]⟩) Q E ⟨h,g,d,t,os⟩:=by
 obtain ⟨T,nm,q,N,bs,sn,sub,ab,col,dd,k0,k1,k2,k3,k5,hC⟩:=x.at X
 have F:=Fc
 repeat (first | with_reducible refine Cv hC ?_ | with_reducible refine wpAny_madeBy_exc hC ?_ | wp_step)
 refine codeAny_call_builtin_code (Code.quiet_builtin _ F.quiet) (wpAny_check_new_subT F T hC ?_)
 refine codeAny_exc_new_subT F T hC ?_ hrest
 show wpAny _ _ _ _ _ _
 have k1:∀ b o,h.get? b=some o→((h.push (jV rest)).push (om C h.objs.size)).get? b=some o:=fun b o e=>BD _ (BD _ e)
 have hC₁:=k1 _ _ hC
 have X₁:K.In ((h.push (jV rest)).push (om C h.objs.size)):=fun b o e=>k1 b o (X b o e)
 have hget:((h.push (jV rest)).push (om C h.objs.size)).get? (h.objs.size+1)=some (om C h.objs.size):=by heap_get
 have hcC:(Value.ref C::bm).contains (.ref C)=true:=by simp
 unfold isInstance
 repeat (first | with_reducible refine Cv hget ?_ | (with_reducible refine Dl hC₁ ?_;rw [hcC]) | wp_step)
 show wpAny _ _ (typeLookup (.ref C) _) _ _ _
 refine (D8 (M:=model prog w) X₁ hi).at ?_
 refine Da (fu ?_)
 unfold bindSpecial
 have L:=PySem.W.looks_typeIn (M:=model prog w) X₁ (Dz.mp hf)
 refine fu (L.at ?_)
 rw [if_pos (by decide)]
 refine BH (fu (CB hq (fun r s' hr=>?_) fun _ _ x=>x))
 obtain ⟨rfl,hQ⟩:=hr
 wp_walk
 exact hQ
theorem s_ {rest:List Value}{Q:Value→Shared→Prop}(X:K.In h)(x:XCl K C bm)(hi:PySem.W.findIn K (.ref C) "__init__" = some (some (.ref fI)))(hf:PySem.W.isFn K (.ref fI)=true)
  (hq:wpAny (model prog w) (A.under (.builtin "type.__call__" ⟨.ref C::rest,[]⟩)) (call (.ref fI) (.ref (h.objs.size+1)::rest)) (fun r s'=>r = .none∧Q (.ref (h.objs.size+1)) s') E ⟨(h.push (jV rest)).push (om C h.objs.size),g,d,t,os⟩) (hrest:rest.length≤sizeLine) :
  wpAny (model prog w) A (call (.ref C) rest) Q E ⟨h,g,d,t,os⟩:=by
 obtain ⟨T,nm,q,N,bs,sn,sub,ab,col,dd,k0,k1,k2,k3,k5,hC⟩:=x.at X
 have f1:=tc_lookup
 have f2:=tc_bind (.ref C)
 have hT:(⟨h,g,d,t,os⟩:Shared).TypeIs (.ref C) "type":=⟨_,hC,rfl⟩
 refine Ex (codeAny_of_tree ?_)
 show wpAny _ _ (callAny (.ref C) _) _ _ _
 repeat (any_goals (first | assumption | with_reducible refine Cv hC ?_ | wp_step))
 refine ⟨rfl,?_⟩
 exact codeAny_call_builtin_at (Code.quiet_builtin _ (by decide +kernel)) entry_typeCall (wpAny_check_type_call_sub hC (jW X x hi hf hq hrest))
end
section
variable {X:Cx} {k:Nat} {f C:Addr} {fd:FuncData} {ps:List Str} {sp:Sp} {x:Str} {p pos:Pos} {e:Expr} {es:List Expr} {t:TA} {bm:List Value}
theorem Inv.madeX {G6:List (Addr × Obj)}{σ:St}{H:Hp}{s:Shared}(I:Inv X G6 σ H s)(us:List Value):Inv X G6 σ (upd H (s.heap.objs.size+1) (Exo (s.heap.objs.size+1) C none true true)) { s with heap:=(s.heap.push (jV us)).push (om C s.heap.objs.size) }:=by
 have I1:=I.kept (h':=s.heap.push (jV us)) (t':=s.toks) (fun b u q=>BD _ q)
 refine I1.laid (a:=s.heap.objs.size+1) (t':=s.toks) (fun b u q=>BD _ q) (Ff (EC _ _)) (gE ⟨om C s.heap.objs.size,_,?_,rfl,rfl,rfl,rfl,(fun _=>rfl),fun _=>rfl⟩)
 have:=B5 (s.heap.push (jV us)) (o:=om C s.heap.objs.size) rfl
 rwa [EC] at this
theorem oo {G6:List (Addr × Obj)}{σ:St}{H:Hp}{s:Shared}{Q:VK}{us:List Value}{vs:List V}(M:XCl X.K C bm)(hi:PySem.W.findIn X.K (.ref C) "__init__" = some (some (.ref f)))(hf:PySem.W.isFn X.K (.ref f)=true)
  (F:fZ X.prog X.w X.K X.mg X.base CX0 k f fd ps sp) (hr:dj (k+1) X.A) (hb:dH X.K fd ps []) (I:Inv X G6 σ H s) (r:bo vs us)
  (h:vs.length≤1000∧∀ x,H x=none→sp (.ref x::vs) (upd H x (Exo x C none true true)) (fun v H2=>v = .non∧Q (.ref x) H2) E0):wpAny (model X.prog X.w) X.A (call (.ref C) us) (EP X G6 σ Q) X.xe s:=by
 obtain ⟨hl0,h⟩:=h
 have hq:=h (s.heap.objs.size+1) (I.hok.fresh (EW _))
 have I2:=Inv.madeX (C:=C) I us
 have r2:bo (V.ref (s.heap.objs.size+1)::vs) (Value.ref (s.heap.objs.size+1)::us):=.cons rfl r
 have hl:(Value.ref (s.heap.objs.size+1)::us++[]).length=ps.length:=by
  have e:=r2.length
  rw [F.len _ _ _ _ hq] at e
  rw [DH]
  exact e.symm
 obtain ⟨hh,g,d,tk,os⟩:=s
 refine s_ I.kIn M hi hf (Ex ?_) (by rw [← r.length,Di];omega)
 have hb':=hb ⟨(hh.push (jV us)).push (om C hh.objs.size),g,d,tk,os⟩ (Value.ref (hh.objs.size+1)::us) I2.kIn hl
 rw [DH] at hb'
 refine Ee (F.run _ X.stack _ _ ⟨Value.ref (hh.objs.size+1)::us,[]⟩ (Value.ref (hh.objs.size+1)::us) _ _ E0 (hr.make C us []) (I2.env0.make C us []) hb' r2 hq) fun r s' hq'=>?_
 cases r with
 | error e=>exact hq'.elim
 | ok fl =>
  cases fl with
  | ret u =>
   obtain ⟨v,H',I3,rv,ev,q3⟩:=I2.after hq'
   subst ev
   exact ⟨rv,⟨V.ref (hh.objs.size+1),H',I3,rfl,q3⟩⟩
  | next=>exact False.elim hq'
  | brk=>exact False.elim hq'
  | cont=>exact False.elim hq'
end
end L2
namespace L2
open PySem PySem.Spec PyProof.Rows Builtin Builtin.ObjectAttr
section
variable {prog:Program} {w:World} {A:Around} {E:Value→Shared→Prop} {h:Heap} {g:Array GenState} {d:Drawn} {t:Nat} {os:OsState} {K:PySem.W.Frag} {C e:Addr} {bm:List Value} {oe:Obj} {vs:Array Value}
theorem xV {rest:List Value}{R:Result→Shared→Prop}(X:K.In h)(x:XCl K C bm)(he:h.get? e=some oe)(hcls:oe.cls = .ref C)(hd:oe.data = .fields vs)(hsz:vs.size=6)(hrest:rest.length≤sizeLine)
  (hq:R (.ok (.ret .none)) ⟨(h.push (jV rest)).update e (Obj.mapFields (·.setIfInBounds 0 (.ref h.objs.size))),g,d,t,os⟩) :
  codeAny (model prog w) A (.call (.builtin "ValueError.__init__") ⟨.ref e::rest,[]⟩) R ⟨h,g,d,t,os⟩:=by
 obtain ⟨T,nm,q,N,bs,sn,sub,ab,col,dd,k0,k1,k2,k3,k5,hC⟩:=x.at X
 have F:=Fc
 refine EL F.init.plain F.initEntry (wpAny_check_init_subT F T hC he hcls ?_)
 unfold Builtin.«BaseException.__init__»
 refine fu (m:=newTuple rest) ?_
 unfold newTuple
 refine CF ?_ (by show rest.toArray.size≤sizeLine;rw [B4];exact hrest)
 have he₁:=BD (h:=h) (jV rest) he
 have h0:∃ a0,vs[0]? = some a0:=⟨vs[0],DC (by omega)⟩
 obtain ⟨a0,h0⟩:=h0
 unfold BaseException.bexcPut
 refine fu (fu (Cp he₁ hd h0 (fu (C9 he₁ hd (by omega) ?_))))
 cases a0 <;> first | exact wpAny_letGo (BH hq) | exact BH (BH hq)
theorem jX {bm:List Value}{self:Value}(T:OwnTail h bmV bm):refuseLoop self "__setattr__" bm=pure ():=by
 induction T with
 | base=>exact Fx.passes self
 | own _ _ _ _ ih=>rw [refuseLoop_ref];exact ih
structure AQ (h h':Heap) (e:Addr) (oe:Obj) (name:Str) (v:Value) (mA:Str→Option Value) (dx:Addr):Prop where
 ns:h'.Ns1 dx fun y=>if y=name then some v else mA y
 exc:h'.get? e=some { oe with dict:=some dx }
 keep:∀ b o,b≠e→b≠dx→h.get? b=some o→h'.get? b=some o
section
variable {name:Str} {v:Value} {mA:Str→Option Value}
set_option maxHeartbeats 1600000 in
theorem lZ {tk:Tok}{Q:Fin→Shared→Prop}{ns:List Str}(X:K.In h)(x:XCl K C bm)(hna:PySem.W.findIn K (.ref C) name=some none)
  (hx:h.get? e=some oe) (hc:oe.cls = .ref C) (hnc:oe.data = .fields vs) (hd:(oe.dict=none∧∀ n,mA n=none) ∨ ∃ dx,oe.dict=some dx∧dx≠e∧h.Ns1 dx mA)
  (hq:∀ h' tk' dx,AQ h h' e oe name v mA dx→(oe.dict=none→dx=h.objs.size)→(∀ dy,oe.dict=some dy→dx=dy)→Q (.done (.ret .none)) ⟨h',g,d,tk',os⟩) (hw:Within mA ns) (hsz:ns.length≤1000) :
  wpAny (model prog w) A (Builtin.«object.__setattr__» ⟨[.ref e,.str name tk,v],[]⟩) Q E ⟨h,g,d,t,os⟩:=by
 obtain ⟨T,nm,q,N,bs,sn,sub,ab,col,dd,k0,k1,k2,k3,k5,hC⟩:=x.at X
 have hpass:=jX (self:=.ref e) T
 have L:=D8 (M:=model prog w) X hna
 unfold Builtin.«object.__setattr__»
 repeat (first | rw [refuse_eq] | (rw [refuseLoop_ref,hpass]) | (with_reducible refine Cv hx ?_;rw [hc]) | with_reducible refine wpAny_mroOf_exc hC ?_ | with_reducible refine L.at ?_ | wp_step)
 rcases hd with ⟨hdn,hmA⟩ | ⟨dx,Hv,Hj,hns⟩
 ·rw [hdn,if_neg (by simp [typeHasDict])]
  split
  ·rename_i Im
   cases Im
  split
  ·rename_i c Im
   rw [hnc] at Im;cases Im
  ·have hx₁:(h.push { cls:=.type "dict",data:=.dict #[] }).get? e=some oe:=BD _ hx
   have hxs:e≠h.objs.size:=Cr (BU hx)
   refine fu (wpAny_alloc' ?_)
   refine fu (wpAny_update' hx₁ ?_)
   refine BH ?_
   have HW:((h.push { cls:=.type "dict",data:=.dict #[] }).update e fun o=>{ cls:=o.cls,dict:=some h.objs.size,data:=o.data,slots:=o.slots }).get? h.objs.size
     = some { cls:=.type "dict",data:=.dict #[] } :=
    (Heap.get?_update_ne _ _ _ _ hxs.symm).trans (Heap.get?_push_at rfl rfl)
   have hnd:((h.push { cls:=.type "dict",data:=.dict #[] }).update e fun o=>{ cls:=o.cls,dict:=some h.objs.size,data:=o.data,slots:=o.slots }).Ns h.objs.size (fun _=>none) :=
    ⟨_,#[],_,HW,rfl,fun e he=>absurd he (by simp),fun _=>rfl⟩
   show wpAny _ _ (storeInDict h.objs.size (.str name tk) name v) _ _ _
   unfold storeInDict newKeyGuard
   refine fu (BH (fu (wpAny_nsSet1 (Heap.Ns1.of_empty hnd) fun h' hn' hs=>?_)))
   obtain ⟨oD,esD,epD,hoD,hdD,hcD⟩:=hn'.count (Within.cons name v Within.nil)
   refine fu (wpAny_lookBehind hoD (by rw [hdD];exact pastItsLine_dict (Cn hcD (by rw [B6,CK,Di];omega))) ?_)
   wp_walk
   refine hq h' _ h.objs.size ⟨?_,?_,fun b o hbx _ hb=>?_⟩ (fun _=>rfl) fun dy q=>by rw [hdn] at q;cases q
   ·obtain ⟨o',es,ep,e1,e2,e3,eu,e4⟩:=hn'
    exact ⟨o',es,ep,e1,e2,e3,eu,fun y=>by rw [e4 y];by_cases hy:y=name <;> simp [hy,hmA]⟩
   ·exact (hs.2 e hxs).trans (CH _ hx₁ (CU hnc))
   ·exact (hs.2 b (Cr (BU hb))).trans ((Heap.get?_update_ne _ _ _ _ hbx).trans (BD _ hb))
 ·rw [Hv]
  refine BH ?_
  show wpAny _ _ (storeInDict dx (.str name tk) name v) _ _ _
  unfold storeInDict newKeyGuard
  refine fu (BH (fu (wpAny_nsSet1 hns fun h' hn' hs=>?_)))
  obtain ⟨oD,esD,epD,hoD,hdD,hcD⟩:=hn'.count (Within.cons name v hw)
  refine fu (wpAny_lookBehind hoD (by rw [hdD];exact pastItsLine_dict (Cn hcD (by rw [B6,Di];omega))) ?_)
  wp_walk
  refine hq h' _ dx ⟨hn',?_,fun b ob _ hbd hb=>(hs.2 b hbd).trans hb⟩ (fun q=>by rw [Hv] at q;cases q) fun dy q=>by rw [Hv] at q;cases q;rfl
  rw [(hs.2 e Hj.symm).trans hx]
  obtain ⟨c,dd,dt,sl⟩:=oe
  simp only at Hv
  subst Hv
  rfl
theorem oq {M:Model}{nameV:Value}{Q:Unit→Shared→Prop}(X:K.In h)(x:XCl K C bm)(hx:h.get? e=some oe)(hc:oe.cls = .ref C)(hq:Q () ⟨h,g,d,t,os⟩) :
  wpAny M A (checkBuiltinCall "object.__setattr__" ⟨[.ref e,nameV,v],[]⟩) Q E ⟨h,g,d,t,os⟩:=by
 obtain ⟨T,nm,q,N,bs,sn,sub,ab,col,dd,k0,k1,k2,k3,k5,hC⟩:=x.at X
 have SF:=Fx
 have hcB:(Value.ref C::bm).contains (.type "object")=true:=by rw [DV,T.hasType SF.hasOwner,Fh]
 have ha:=SF.args (.ref e) nameV v
 simp only [checkBuiltinCall,SF.kind,SF.split]
 refine fu ?_
 unfold isInstance
 repeat (first | (with_reducible refine Cv hx ?_;rw [hc]) | (with_reducible refine Dl hC ?_;rw [hcB]) | wp_step)
 exact hq
theorem xW {Q:Unit→Shared→Prop}{ns:List Str}(X:K.In h)(x:XCl K C bm)(hsa:PySem.W.findIn K (.ref C) "__setattr__" = some (some (.builtin "object.__setattr__")))(hna:PySem.W.findIn K (.ref C) name=some none)
  (hx:h.get? e=some oe) (hc:oe.cls = .ref C) (hnc:oe.data = .fields vs) (hd:(oe.dict=none∧∀ n,mA n=none) ∨ ∃ dx,oe.dict=some dx∧dx≠e∧h.Ns1 dx mA)
  (hq:∀ h' tk' dx,AQ h h' e oe name v mA dx→(oe.dict=none→dx=h.objs.size)→(∀ dy,oe.dict=some dy→dx=dy)→Q () ⟨h',g,d,tk',os⟩) (hw:Within mA ns) (hsz:ns.length≤1000) :
  wpAny (model prog w) A (setAttr (.ref e) name v) Q E ⟨h,g,d,t,os⟩:=by
 obtain ⟨T,nm,q,N,bs,sn,sub,ab,col,dd,k0,k1,k2,k3,k5,hC⟩:=id (x.at X)
 have SF:=Fx
 have f3:=SF.slot.bind (.ref e)
 have L:=D8 (M:=model prog w) X hsa
 unfold setAttr callSpecial? specialOf
 repeat (any_goals (first | assumption | (with_reducible refine Cv hx ?_;rw [hc]) | with_reducible refine L.at ?_ | wp_step))
 refine EL SF.slot.plain SF.entry (oq X x hx hc (lZ X x hna hx hc hnc hd (fun h' tk' dx a b c=>?_) hw hsz))
 repeat (any_goals (first | assumption | wp_step))
 exact hq h' tk' dx a b c
end
end
end L2
namespace L2
open PySem PySem.Spec PyProof.Rows
def xdt (d:Addr)(fs:List (Str × V)):Heap→Prop:=fun h=>∃ mA,h.Ns1 d mA∧(∀ f,jw (fs.lookup f) (mA f))∧PySem.Within mA (fs.map (·.1))
abbrev Xdt (d:Addr)(fs:List (Str × V)):HO:=.ext (xdt d fs)
theorem tf {P:Program}{w:World}{H:Hp}{h:Heap}{d:Addr}{fs:List (Str × V)}(x:xdt d fs h):bK P w H h d (Xdt d fs) :=
 ⟨x,let ⟨_,⟨o,_,_,q,_⟩,_⟩:=x;⟨o,q⟩,fun _ _ y k=>let ⟨mA,n,r⟩:=y;⟨mA,n.at k,r⟩⟩
structure XAt (K:PySem.W.Frag) (C:Addr):Prop where
 cl:∃ bm,XCl K C bm
 sa:PySem.W.findIn K (.ref C) "__setattr__" = some (some (.builtin "object.__setattr__"))
 ga:PySem.W.findIn K (.ref C) "__getattribute__" = some (some (.builtin "BaseException.__getattribute__"))
 gn:PySem.W.findIn K (.ref C) "__getattr__" = some none
section
variable {X:Cx} {G6:List (Addr × Obj)} {σ:St} {H:Hp} {s:Shared} {A:Around} {E:Value→Shared→Prop} {a C:Addr} {b cx:Bool} {f:Str} {y:V} {u:Value} {Q:Unit→Shared→Prop}
theorem bx {P:Program}{w:World}{h:Heap}{d:Option Addr}(ok:HOk P w H h)(e:H a=some (Exo a C d b cx)):exo a C d b cx h:=(ok a _ e).1
theorem ou {P:Program}{w:World}{h:Heap}{d:Addr}{fs:List (Str × V)}(ok:HOk P w H h)(e:H d=some (Xdt d fs)):xdt d fs h:=(ok d _ e).1
theorem rh (I:Inv X G6 σ H s)(ea:H a=some (Exo a C none b cx))(x:XAt X.K C)(hna:PySem.W.findIn X.K (.ref C) f=some none)(ry:bH y u)
  (h:∀ s' dx,H dx=none→dx≠a→Inv X G6 σ (upd (upd H a (Exo a C (some dx) b cx)) dx (Xdt dx [(f,y)])) s'→Q () s'):wpAny (model X.prog X.w) A (setAttr (.ref a) f u) Q E s:=by
 obtain ⟨oe,vs,g1,g2,g3,g4,g5,g6⟩:=bx I.hok ea
 obtain ⟨bm,xc⟩:=x.cl
 obtain ⟨hh,g,dr,tk,os⟩:=s
 refine xW (mA:=fun _=>none) (ns:=[]) I.kIn xc x.sa hna g1 g2 g4 (.inl ⟨g3,fun _=>rfl⟩) (fun h' tk' dx S d1 _=>?_) (fun n hn=>absurd rfl hn) (by simp)
 have Hv:dx=hh.objs.size:=d1 g3
 have H_:H dx=none:=I.hok.fresh (Ff Hv.symm)
 have nea:dx≠a:=fun z=>by rw [z,ea] at H_;cases H_
 have nin:∀ c o,hh.get? c=some o→c≠dx:=fun c o q z=>absurd (BU q) (by rw [z,Hv];exact Co _)
 have neA:∀ c,H c=none→c≠a:=fun c n z=>by rw [z,ea] at n;cases n
 have neA':∀ c v,H c=some v→v≠Exo a C none b cx→c≠a:=fun c v q n z=>by rw [z,ea] at q;cases q;exact n rfl
 have neD:∀ c v,H c=some v→c≠dx:=fun c v q z=>by rw [z,H_] at q;cases q
 have same:∀ c v,H c=some v→v≠Exo a C none b cx→upd (upd H a (Exo a C (some dx) b cx)) dx (Xdt dx [(f,y)]) c=some v:=fun c v q n=>by rw [ay (neD c v q),ay (neA' c v q n)];exact q
 refine h _ dx H_ nea (I.un (t':=tk') ⟨fun c o q n _ _=>S.keep c o (neA c n) (nin c o q) q,fun c o q n _ _=>⟨o.slots,S.keep c o (neA c n) (nin c o q) q⟩,
  fun c o q n _=>by rw [ay (nin c o q),ay (neA c n)];exact n,fun c o q _=>?_,fun c xs q=>same c _ q (by intro z;cases z),fun c o v q=>same c _ q (by intro z;cases z),fun c ps q=>⟨#[],by rw [same c _ q (by intro z;cases z)];simp⟩⟩ fun c v q=>?_)
 ·by_cases z:c=a
  ·subst z;exact ⟨_,S.exc⟩
  ·exact ⟨o,S.keep c o z (nin c o q) q⟩
 ·by_cases z:c=dx
  ·subst z
   rw [af] at q;cases q
   refine tf ⟨_,S.ns,fun n=>?_,fun n hn=>?_⟩
   ·show jw (List.lookup n [(f,y)]) (if n=f then some u else none)
    by_cases z:n=f
    ·subst z;rw [if_pos rfl,DO,Ea];exact ry
    ·rw [if_neg z,DO,Dr.mpr z];exact True.intro
   ·by_cases z:n=f
    ·subst z;exact Ca
    ·exact absurd (show (if n=f then some u else none)=none by rw [if_neg z]) hn
  ·rw [ay z] at q
   by_cases y':c=a
   ·subst y'
    rw [af] at q;cases q
    exact gE ⟨_,vs,S.exc,g2,rfl,g4,g5,g6⟩
   ·rw [ay y'] at q
    have hc:=I.hok c v q
    refine hc.stay (fun p o hp r=>S.keep p o ?_ (nin p o r) r) (fun p hp=>same p _ hp (by intro z;cases z)) fun p xs hp=>same p _ hp (by intro z;cases z)
    rcases hp with rfl | hp
    ·exact y'
    ·exact neA' p _ hp (by intro z;cases z)
theorem ri {dx:Addr}{fs:List (Str × V)}(I:Inv X G6 σ H s)(ea:H a=some (Exo a C (some dx) b cx))(ed:H dx=some (Xdt dx fs))(hl:fs.length≤900)(x:XAt X.K C)(hna:PySem.W.findIn X.K (.ref C) f=some none)(ry:bH y u)(hda:dx≠a)
  (h:∀ s',Inv X G6 σ (upd H dx (Xdt dx (lM f y fs))) s'→Q () s'):wpAny (model X.prog X.w) A (setAttr (.ref a) f u) Q E s:=by
 obtain ⟨oe,vs,g1,g2,g3,g4,g5,g6⟩:=bx I.hok ea
 obtain ⟨mA,n1,n2,n3⟩:=ou I.hok ed
 obtain ⟨bm,xc⟩:=x.cl
 obtain ⟨hh,g,dr,tk,os⟩:=s
 refine xW (mA:=mA) (ns:=fs.map (·.1)) I.kIn xc x.sa hna g1 g2 g4 (.inr ⟨dx,g3,hda,n1⟩) (fun h' tk' dy S _ d2=>?_) n3 (by rw [BK];omega)
 obtain rfl:dy=dx:=d2 dx g3
 refine h _ (I.write (t':=tk') (x:=dy) (e:=dy) (by rw [ed];exact True.intro) (.inl rfl) (fun c o hc q=>?_) ?_ (tf ⟨_,S.ns,fun n=>?_,fun n hn=>?_⟩))
 ·by_cases z:c=a
  ·subst z
   rw [g1] at q;cases q
   rw [S.exc]
   obtain ⟨c1,c2,c3,c4⟩:=oe
   simp only at g3
   subst g3
   rfl
  ·exact S.keep c o z hc q
 ·obtain ⟨o,_,_,e,_⟩:=S.ns;exact ⟨o,e⟩
 ·show jw ((lM f y fs).lookup n) (if n=f then some u else mA n)
  rw [fi]
  by_cases z:n=f
  ·rw [if_pos z,if_pos z];exact ry
  ·rw [if_neg z,if_neg z];exact n2 n
 ·by_cases z:n=f
  ·rw [z];exact (fj f y fs).1
  ·refine (fj f y fs).2 n (n3 n fun w=>hn ?_)
   show (if n=f then some u else mA n)=none
   rw [if_neg z];exact w
end
def Bp (K:PySem.W.Frag)(ta tv:TE)(f:Str):TS:=fun D σ H=>tv σ H fun y H1=>ta σ H1 fun x H2=>∃ a C b cx,x = .ref a∧H2 a=some (Exo a C none b cx)∧XAt K C∧PySem.W.findIn K (.ref C) f=some none ∧
 ∀ dx,H2 dx=none→dx≠a→D.nx σ (upd (upd H2 a (Exo a C (some dx) b cx)) dx (Xdt dx [(f,y)]))
def Bq (K:PySem.W.Frag)(ta tv:TE)(f:Str):TS:=fun D σ H=>tv σ H fun y H1=>ta σ H1 fun x H2=>∃ a C b cx dx fs,x = .ref a∧H2 a=some (Exo a C (some dx) b cx)∧H2 dx=some (Xdt dx fs)∧fs.length≤900∧XAt K C∧PySem.W.findIn K (.ref C) f=some none∧dx≠a ∧
 D.nx σ (upd H2 dx (Xdt dx (lM f y fs)))
section
variable {X:Cx} {o e value:Expr} {es:List Expr} {f x:Str} {p pos pos' apos:Pos} {ta tv te:TE} {t:TA} {R:Addr} {E:XK}
theorem tj (ha:PE X o ta)(hv:PE X value tv)(hs:swapsWith value (some (.Attribute o f pos')) pos.line X.env=pure false):PS X (.Assign [.Attribute o f pos'] value pos) (Bp X.K ta tv f):=by
 intro G6 s σ H D I h
 refine EA (thn (hv G6 s σ H _ I h) fun u s1 ⟨y,H1,I1,ry,q⟩=>thn (ha G6 s1 σ H1 _ I1 q) fun ov s2 zq1=>?_) hs
 obtain ⟨z,H2,I2,rx,a,C,b,cx,ex,ea,c,n,q2⟩:=zq1
 subst ex
 obtain rfl:ov=Value.ref a:=rx
 exact rh I2 ea c n ry fun s3 dx h1 h2 I3=>⟨σ,_,I3,q2 dx h1 h2⟩
theorem xX (ha:PE X o ta)(hv:PE X value tv)(hs:swapsWith value (some (.Attribute o f pos')) pos.line X.env=pure false):PS X (.Assign [.Attribute o f pos'] value pos) (Bq X.K ta tv f):=by
 intro G6 s σ H D I h
 refine EA (thn (hv G6 s σ H _ I h) fun u s1 ⟨y,H1,I1,ry,q⟩=>thn (ha G6 s1 σ H1 _ I1 q) fun ov s2 zq2=>?_) hs
 obtain ⟨z,H2,I2,rx,a,C,b,cx,dx,fs,ex,ea,ed,l,c,n,da,q2⟩:=zq2
 subst ex
 obtain rfl:ov=Value.ref a:=rx
 exact ri I2 ea ed l c n ry da fun s3 I3=>⟨σ,_,I3,q2⟩
def xY (K:PySem.W.Frag)(t:TA):TE:=fun σ H Q=>t σ H fun vs H1=>∃ a C d b cx rest,vs = .ref a::rest∧rest.length≤1000∧H1 a=some (Exo a C d b cx)∧XAt K C∧Q .non H1
structure rj (K:PySem.W.Frag) (R:Addr):Prop where
 rd:PySem.W.readsIn K R (.type "type")=true
 at_:PySem.W.findCls K (.ref R) (.type "type") "__init__" = some (.val (.builtin "ValueError.__init__"))
 ga:PySem.W.specialIn K (.ref R) "__getattribute__" = some (some (.builtin "type.__getattribute__"))
 hd:PySem.W.handedIn (.builtin "ValueError.__init__")=true
theorem rm {G6:List (Addr × Obj)}{σ:St}{H:Hp}{s:Shared}{A:Around}{F:Value→Shared→Prop}{Q:Value→Shared→Prop}{a C:Addr}{d:Option Addr}{b cx:Bool}{rest:List Value}(I:Inv X G6 σ H s)(ea:H a=some (Exo a C d b cx))(x:XAt X.K C)(hl:rest.length≤1000)
  (h:∀ s',Inv X G6 σ H s'→Q .none s'):wpAny (model X.prog X.w) A (call (.builtin "ValueError.__init__") (.ref a::rest)) Q F s:=by
 obtain ⟨oe,vs,g1,g2,g3,g4,g5,g6⟩:=bx I.hok ea
 obtain ⟨bm,xc⟩:=x.cl
 obtain ⟨hh,g,dr,tk,os⟩:=s
 refine Ex (xV I.kIn xc g1 g2 g4 g5 (by rw [Di];omega) (h _ ?_))
 have I1:=I.kept (h':=hh.push (jV rest)) (t':=tk) (fun b u q=>BD _ q)
 have g1':=BD (h:=hh) (jV rest) g1
 have hd':=CG g4 (·.setIfInBounds 0 (Value.ref hh.objs.size))
 have e':=CH (Obj.mapFields (·.setIfInBounds 0 (Value.ref hh.objs.size))) g1' (CU hd')
 have I2:=I1.write (t':=tk) (x:=a) (e:=a) (h':=(hh.push (jV rest)).update a (Obj.mapFields (·.setIfInBounds 0 (Value.ref hh.objs.size)))) (o:=Exo a C d b cx) (by rw [ea];exact True.intro) (.inl rfl) (fun c o hc q=>(Ck _ _ (Ne.symm hc)).trans q) ⟨_,e'⟩
  (gE ⟨_,_,e',(D3 _ _).trans g2,by
   rw [← g3]
   obtain ⟨c1,c2,c3,c4⟩:=oe
   cases c3 <;> rfl,hd',by rw [Fy];exact g5,(fun z=>by rw [CZ (by decide)];exact g6.1 z),fun z=>by rw [CZ (by decide)];exact g6.2 z⟩)
 rwa [c9 ea] at I2
theorem lh {pl:Sem Bool}(B:rj X.K R)(hg:Gl X x)(hm:X.mg x=some (.ref R))(ha:PA X (e::es) t)(HM:(x == ("__debug__":Str))=false:=by decide)
  (Hs:starEach (e::es) X.env=(false,eval e X.env)::starEach es X.env:=by rfl) (HV:(backTo pos (starEach es X.env)).any (·.1)=false:=by rfl)
  (ht:eval (.Call (.Attribute (.Name x p) "__init__" apos) (e::es) [] pos) X.env=(do
   let ov ← eval (.Name x p) X.env
   standAt apos.atName
   let (f,first) ← holding [ov] (getMethod ov "__init__" pl)
   callWith pos f first (backTo pos (starEach (e::es) X.env)) (backToKw pos (keywordEach [] X.env))):=by rfl) :
  PE X (.Call (.Attribute (.Name x p) "__init__" apos) (e::es) [] pos) (xY X.K t):=by
 intro G6 s σ H Q I h
 refine PySem.W.methodCall_KW (pl:=pl) (cf I hg hm ?_ HM) ht
 refine PySem.W.method_cls I.kIn B.ga (PySem.W.cls_value I.kIn B.rd B.at_ B.hd ?_)
 refine EF (thn (ha pos G6 _ σ H _ (I.tok _) h) fun us s2 zq3=>?_) Hs HV
 obtain ⟨vs,H2,I2,r,a,C,d,b,cx,rest,ev,hl,ea,xa,q2⟩:=zq3
 subst ev
 cases r with
 | cons r1 r2 =>
  obtain rfl:_=Value.ref a:=r1
  exact rm I2 ea xa (by rw [← r2.length];exact hl) fun s3 I3=>⟨.non,H2,I3,rfl,q2⟩
def xZ (K:PySem.W.Frag)(te:TE)(E:XK):TS:=fun D σ H=>te σ H fun v H1=>∃ a C d cx,v = .ref a∧H1 a=some (Exo a C d true cx)∧XAt K C∧E (.ref a) none (upd H1 a (Exo a C d false cx))
theorem dW (hx:sZ X E)(hc:X.calm=true)(he:PE X e te):PS X (.Raise (some e) none pos) (xZ X.K te E):=by
 intro G6 s σ H D I h
 rw [arm_exec_Raise]
 refine fu (D1 ?_)
 unfold raiseStmt
 refine fu (fu (thn (he G6 s σ H _ I h) fun v s1 ⟨y,H1,I1,ry,a,C,d,cx,ey,ea,xa,q⟩=>fu (D1 (BH ?_))))
 subst ey
 obtain rfl:v=Value.ref a:=ry
 have fin:=hx G6 σ H1 s1 a C d cx I1 ea q
 obtain ⟨⟨oc,od,odt,Hw⟩,vs,g1,g2,g3,g4,g5,g6⟩:=bx I1.hok ea
 simp only at g2 g3 g4
 subst g2 g3 g4
 obtain ⟨bm,xc⟩:=xa.cl
 obtain ⟨T,nm,q,N,bs,sn,sub,ab,col,dd,k0,k1,k2,k3,k5,hC⟩:=xc.at I1.kIn
 have hcB:(Value.ref C::bm).contains (.type "BaseException")=true:=by rw [DV,T.hasType Fc.hasBase,Fh]
 have hh:=I1.ok.hd hc
 obtain ⟨hp,g,dr,tk,os⟩:=s1
 repeat (first | with_reducible refine Cv g1 ?_ | with_reducible refine Cv hC ?_ | (with_reducible refine Dl hC ?_;rw [hcB]) | wp_step)
 rw [g6.1 rfl]
 refine BH ?_
 rw [if_neg (by decide)]
 exact BH (wpAny_raiseNew_none hh fin)
end
theorem XCl.mro {K:PySem.W.Frag}{C:Addr}{bm:List Value}{h:Heap}(x:XCl K C bm)(X:K.In h){T:String}{b:Bool}(hb:bmV.contains (.type T)=b):PySem.W.mroIn K C (.type T)=some b:=by
 have T':=PySem.W.tail_of_in X x.tl
 obtain ⟨dd,cd,k0,k1,k2,k3,k5,hl,hm,hd,hh⟩:=x.obj
 unfold PySem.W.mroIn PySem.W.clsIn
 rw [hl,Option.bind_some,hm,if_neg (by simp),DV,T'.hasType hb]
 rfl
theorem XCl.cls {K:PySem.W.Frag}{C:Addr}{bm:List Value}(x:XCl K C bm):∃ cd,PySem.W.clsIn K C=some cd∧cd.hasDict=true:=by
 obtain ⟨dd,cd,k0,k1,k2,k3,k5,hl,hm,hd,hh⟩:=x.obj
 exact ⟨cd,by unfold PySem.W.clsIn;rw [hl],hh⟩
section
variable {prog:Program} {w:World} {A:Around} {E:Value→Shared→Prop} {s:Shared} {K:PySem.W.Frag} {C a:Addr} {bm:List Value} {oe:Obj} {od:Option Obj} {name:Str} {fill expr:Bool} {tk:Tok}
theorem lj {Q:Value→Shared→Prop}(X:K.In s.heap)(I:PySem.W.InstAt s.heap a oe C od)(x:XAt K C)
  (h:wpAny (model prog w) A.in1 (Builtin.«object.__getattribute__» ⟨[.ref a,.str name tk],[]⟩) (fun fin s'=>match fin with | .done (.ret v)=>wpAny (model prog w) A (handedOut v) Q E s' | _=>False) (fun _ _=>False) s) :
  wpAny (model prog w) A (getAttrBy (.ref a) (.str name tk) fill expr) Q E s:=by
 obtain ⟨bm,xc⟩:=x.cl
 have hmB:=xc.mro X (T:="BaseException") (b:=true) Fc.hasBase
 have L0:=I.type (M:=model prog w)
 unfold getAttrBy
 refine Da (fu (L0.here (fu ((D8 X x.ga).here ?_))))
 dsimp only
 rw [show (onTheHeap (Value.ref C) && Value.builtin "BaseException.__getattribute__" == Value.builtin "object.__getattribute__")=false from by rw [show (Value.builtin "BaseException.__getattribute__" == Value.builtin "object.__getattribute__")=false from by decide +kernel,EE],if_neg (by decide)]
 unfold getAttrByItsOwn
 refine fu ((PySem.W.looks_hook (mc:=.ref C) (r:=none) X (by rw [if_pos (show onTheHeap (Value.ref C)=true from rfl)];exact x.gn)).here (fu (D2 (Da ?_))))
 unfold callGetattribute
 rw [show (expr && onTheHeap (Value.builtin "BaseException.__getattribute__"))=false from EE _,if_neg (by decide)]
 unfold boundAndCalled
 rw [PySem.F.attr_ValueError.ga.bind]
 refine fu (BH ?_)
 show wpAny _ _ (call (.builtin "BaseException.__getattribute__") [.ref a,.str name tk]) _ _ _
 refine Ex (EL PySem.F.attr_ValueError.ga.plain PySem.F.entry_bexc_ga ?_)
 have hk:builtinKind "BaseException.__getattribute__" = some .slot:=by decide +kernel
 have Il:splitId "BaseException.__getattribute__" = some ("BaseException","__getattribute__"):=by decide +kernel
 have LI:PySem.W.Looks (model prog w) s.heap (isInstance (.ref a) (.type "BaseException")) true:=L0.andThen (PySem.W.looks_mroIn X hmB)
 refine @PySem.W.check_slot (model prog w) _ _ s "BaseException.__getattribute__" "BaseException" "__getattribute__" (.ref a) [.str name tk] [] _ hk Il LI (PySem.F.args_bexc_ga (.ref a) (.str name tk)) ?_
 refine CB h (fun fin s' z=>?_) fun _ _ z=>z.elim
 rcases fin with (_ | _ | _ | _) | _ <;> first | exact z | exact z.elim
theorem rn {v:Value}{Q:Fin→Shared→Prop}(X:K.In s.heap)(I:PySem.W.InstAt s.heap a oe C od)(hf:PySem.W.findObj K C od name=some (.value v))(h:Q (.done (.ret v)) s) :
  wpAny (model prog w) A (Builtin.«object.__getattribute__» ⟨[.ref a,.str name tk],[]⟩) Q E s:=by
 have L0:=I.type (M:=model prog w)
 have L1:=PySem.W.looks_find (M:=model prog w) X I hf
 refine fu (BH (fu (BH (fu (L0.here (fu (L1.here ?_)))))))
 exact BH h
theorem vh {g b:Value}{Q:Fin→Shared→Prop}(X:K.In s.heap)(I:PySem.W.InstAt s.heap a oe C od)(hf:PySem.W.findObj K C od name=some (.bind g b))
  (h:wpAny (model prog w) A (call g [b,.ref a,.ref C]) (fun v s'=>Q (.done (.ret v)) s') E s) :
  wpAny (model prog w) A (Builtin.«object.__getattribute__» ⟨[.ref a,.str name tk],[]⟩) Q E s:=by
 have L0:=I.type (M:=model prog w)
 have L1:=PySem.W.looks_find (M:=model prog w) X I hf
 refine fu (BH (fu (BH (fu (L0.here (fu (L1.here ?_)))))))
 show wpAny _ _ (holding [b] (call g [b,.ref a,.ref C]) >>= ret) _ _ _
 exact fu (Da (CB h (fun v s' z=>BH z) fun _ _ z=>z))
end
theorem XCl.hasDict {K:PySem.W.Frag}{C:Addr}{bm:List Value}(x:XCl K C bm):PySem.W.hasDictIn K C=true:=by
 obtain ⟨cd,h1,h2⟩:=x.cls
 unfold PySem.W.hasDictIn
 rw [h1]
 exact h2
structure XCa (K:PySem.W.Frag) (C:Addr):Prop where
 at_:XAt K C
 ca:PySem.W.findIn K (.ref C) "__class__" = some (some (.builtin "object.__class__"))
 gt:PySem.W.specialIn K (.builtin "object.__class__") "__get__" = some (some (.builtin "getset_descriptor.__get__"))
 tk:PySem.W.takesIn K (.builtin "object.__class__")=some true
theorem lq {K:PySem.W.Frag}{C a:Addr}(x:XCa K C):PySem.W.KitX K (.ref a) (.ref C) (fun h=>∃ oe od,PySem.W.InstAt h a oe C (some od)) where
 ty:=fun _ _ _ zq1=>(by obtain ⟨_,_,I⟩:=zq1;exact I.type)
 it:=fun _ _ X _=>by
  obtain ⟨bm,xc⟩:=x.at_.cl
  obtain ⟨dd,cd,k0,k1,k2,k3,k5,ho,_⟩:=xc.obj
  intro A' Q' E' s' k q
  unfold isType loadHead
  exact fu (wpAny_loadPart (k _ _ (X _ _ ho)) (BH q))
 ne:=fun h tp dd its n sl X htp=>by
  obtain ⟨bm,xc⟩:=x.at_.cl
  obtain ⟨dd,cd,k0,k1,k2,k3,k5,ho,_⟩:=xc.obj
  refine Fz.mpr fun q=>?_
  have e:C=tp:=Value.ref.inj (Dz.mp q)
  subst e
  have z:=Ci Obj.data (BW ((X _ _ ho).symm.trans htp))
  cases z
 ca:=fun {prog w A E Q s} X ⟨oe,od,I⟩ k=>by
  obtain ⟨bm,xc⟩:=x.at_.cl
  obtain ⟨cd,hc,_⟩:=xc.cls
  have hf:PySem.W.findObj K C (some od) "__class__" = some (.bind (.builtin "getset_descriptor.__get__") (.builtin "object.__class__")):=PySem.W.findObj_data (by rw [hc];rfl) x.ca x.gt x.tk
  refine fu (wpAny_mkText ?_)
  unfold getAttrBy?
  refine fu (D2 ?_)
  refine lj (s:={ s with toks:=s.toks+1 }) X I x.at_ (vh (s:={ s with toks:=s.toks+1 }) X I hf (Ex ?_))
  exact PySem.W.class_get (s:={ s with toks:=s.toks+1 }) (ox:=oe) (od:=some od) X I (xc.mro X Fx.hasOwner) (PySem.W.handed_on rfl (BH k))
section
variable {X:Cx} {G6:List (Addr × Obj)} {σ:St} {H:Hp} {s:Shared} {A:Around} {E:Value→Shared→Prop} {a C dx:Addr} {b cx:Bool} {fs:List (Str × V)} {f:Str} {v:V}
theorem ij (I:Inv X G6 σ H s)(ea:H a=some (Exo a C (some dx) b cx))(ed:H dx=some (Xdt dx fs)):∃ oe od,PySem.W.InstAt s.heap a oe C (some od)∧∃ mA:Str→Option Value,(∀ n,PySem.W.lookIn n od=some (mA n))∧∀ n,jw (fs.lookup n) (mA n):=by
 obtain ⟨oe,vs,g1,g2,g3,g4,g5,g6⟩:=bx I.hok ea
 obtain ⟨mA,n1,n2,n3⟩:=ou I.hok ed
 obtain ⟨od,ho,hl⟩:=iM n1
 exact ⟨oe,od,⟨g1,g2,by unfold PySem.W.notCls;rw [g4],by rw [g3];exact ho⟩,mA,hl,n2⟩
theorem vi {ex:Bool}{Q:Value→Shared→Prop}(I:Inv X G6 σ H s)(ea:H a=some (Exo a C (some dx) b cx))(ed:H dx=some (Xdt dx fs))(x:XAt X.K C)(hna:PySem.W.findIn X.K (.ref C) f=some none)(l:fs.lookup f=some v)
  (h:∀ u s',Inv X G6 σ H s'→bH v u→Q u s'):wpAny (model X.prog X.w) A (getAttr (.ref a) f ex) Q E s:=by
 obtain ⟨oe,od,J,mA,hl,r⟩:=ij I ea ed
 obtain ⟨bm,xc⟩:=x.cl
 obtain ⟨u,hu,ru⟩:=jw.some_of (v:=v) (o:=mA f) (by rw [← l];exact r f)
 have hf:PySem.W.findObj X.K C (some od) f=some (.value u):=PySem.W.findObj_own xc.hasDict hna rfl (by rw [hl,hu])
 refine fu (wpAny_mkText ?_)
 refine lj (s:={ s with toks:=s.toks+1 }) I.kIn J x (rn (s:={ s with toks:=s.toks+1 }) I.kIn J hf ?_)
 exact PySem.W.handed_on (mF ru) (h u _ (I.tok _) ru)
end
def tFx (K:PySem.W.Frag)(ta:TE)(f:Str):TE:=fun σ H Q=>ta σ H fun x H1=>∃ a C b cx dx fs v,x = .ref a∧H1 a=some (Exo a C (some dx) b cx)∧H1 dx=some (Xdt dx fs)∧XAt K C∧PySem.W.findIn K (.ref C) f=some none∧fs.lookup f=some v∧Q v H1
inductive Ae (K:PySem.W.Frag)(xs:List V)(H:Hp)(Q:VK):Prop
 | mk:∀ a C b cx dx fs c t r,(xs=[.ref a,c])→(H a=some (Exo a C (some dx) b cx))→(H dx=some (Xdt dx fs))→(XCa K C)→((∀ u,bH c u→u=t))→(PySem.W.kitOne K (.ref C) t=some r)→(Q (.bl r) H)→Ae K xs H Q
section
variable {X:Cx} {e:Expr} {f:Str} {pos:Pos} {ta:TE}
theorem Af (he:PE X e ta)(hb:attributeBase e f X.env (eval e X.env)=eval e X.env):PE X (.Attribute e f pos) (tFx X.K ta f):=by
 intro G6 s σ H Q I h
 refine tV hb (thn (he G6 s σ H _ I h) fun u s1 zq2=>?_)
 obtain ⟨x,H1,I1,rx,a,C,b,cx,dx,fs,v,ex,ea,ed,c,n,l,q⟩:=zq2
 subst ex
 obtain rfl:u=Value.ref a:=rx
 exact vi I1 ea ed c n l fun u' s2 I2 ru=>⟨v,H1,I2,ru,q⟩
theorem rz:cE X (.builtin "isinstance") (Ae X.K):=by
 intro G6 s σ H xs us Q I r h
 obtain ⟨a,C,b,cx,dx,fs,c,t,rr,rfl,ea,ed,x,hc,e,q⟩:=h
 obtain ⟨u,u2,rfl,rx,r2⟩:=mD r
 obtain rfl:=hc _ r2
 obtain rfl:u=Value.ref a:=rx
 obtain ⟨oe,od,J,_⟩:=ij I ea ed
 exact CQ (lq x) I.kIn ⟨oe,_,J⟩ e (fun z=>nomatch z) fun tk=>⟨.bl rr,H,I.tok _,rfl,q⟩
inductive Ag (K:PySem.W.Frag)(xs:List V)(H:Hp)(Q:VK):Prop
 | mk:∀ a C b cx dx fs tp cs ts r,(xs=[.ref a,.ref tp])→(H a=some (Exo a C (some dx) b cx))→(H dx=some (Xdt dx fs))→(XCa K C)→(H tp=some (.tup cs))→((∀ us,bo cs us→us=ts))→(PySem.W.kitAny K (.ref C) ts=some r)→(Q (.bl r) H)→Ag K xs H Q
theorem rA:cE X (.builtin "isinstance") (Ag X.K):=by
 intro G6 s σ H xs us Q I r h
 obtain ⟨a,C,b,cx,dx,fs,tp,cs,ts,rr,rfl,ea,ed,x,et,hc,e,q⟩:=h
 obtain ⟨u,u2,rfl,rx,r2⟩:=mD r
 obtain rfl:u2=Value.ref tp:=r2
 obtain rfl:u=Value.ref a:=rx
 obtain ⟨oe,od,J,_⟩:=ij I ea ed
 obtain ⟨_,its,rv,⟨⟨oc,dd,odt,sl⟩,h1,h2,n,h3⟩,_⟩:=(show bK X.prog X.w H s.heap tp (.tup cs) from I.hok tp _ et)
 obtain rfl:=hc _ rv
 simp only at h2 h3
 subst h2 h3
 exact PySem.W.kia_tup (lq x) I.kIn ⟨oe,_,J⟩ h1 e (fun z=>nomatch z) fun tk=>⟨.bl rr,H,I.tok _,rfl,q⟩
end
abbrev Hd (X:Cx)(v:Value):Cx:={ X with A:=X.A.mark (some v),calm:=false,xe:=fun _ _=>False }
theorem Inv.hold {X:Cx}{G6:List (Addr × Obj)}{σ:St}{H:Hp}{s:Shared}(I:Inv X G6 σ H s)(v:Value):Inv (Hd X v) G6 σ H s :=
 ⟨⟨I.ok.mod,I.ok.kind,I.ok.glob,I.ok.blt,I.ok.above,I.ok.inj,I.ok.has,I.ok.cab,(fun z=>by cases z),I.ok.frames,I.ok.stk,I.ok.exf,I.ok.bs,I.ok.bsz,I.ok.noex,I.ok.exfs,I.ok.funs,I.ok.frf⟩,I.os,I.bare,I.base,I.loc,I.cell,I.free,I.freeC,I.pin,I.hok,I.len⟩
theorem Inv.offHold {X:Cx}{G6:List (Addr × Obj)}{σ:St}{H:Hp}{s:Shared}{v:Value}(ok:X.Ok)(I:Inv (Hd X v) G6 σ H s):Inv X G6 σ H s :=
 ⟨ok,I.os,I.bare,I.base,I.loc,I.cell,I.free,I.freeC,I.pin,I.hok,I.len⟩
def XE (X:Cx)(G6:List (Addr × Obj))(σ:St)(E:XK)(e:Value)(s':Shared):Prop :=
 ∃ a C d c H',e = .ref a∧Inv X G6 σ H' s'∧H' a=some (Exo a C d false c)∧Flt s'.heap a .none∧E (.ref a) none H'
def PEE (X:Cx)(E:XK)(e:Expr)(t:TE):Prop :=
 ∀ (G6:List (Addr × Obj)) (s:Shared) (σ:St) (H:Hp) (Q:VK),Inv X G6 σ H s→t σ H Q→wpAny (model X.prog X.w) X.A (eval e X.env) (EP X G6 σ Q) (XE X G6 σ E) s
section
variable {X:Cx} {G6:List (Addr × Obj)} {σ:St} {H:Hp} {s:Shared}
theorem XE.of {E:XK}{e:Value}{s':Shared}(I:Inv X G6 σ H s)(h:CXe X.prog X.w X.stack H s E e s'):XE X G6 σ E e s':=by
 obtain ⟨a,C,d,c,H',he,os,bare,un,hok,ha,hf,hE⟩:=h
 exact ⟨a,C,d,c,H',he,I.call' os un hok bare (fun b z=>absurd z (by simp)),ha,hf,hE⟩
theorem fS {M:Model}{A:Around}{E:Value→Shared→Prop}{i:Nat}{x:Str}{pos:Pos}{Q:Unit→Shared→Prop}(I:Inv X G6 σ H s)(hN:X.N.Nodup)(hi:X.N[i]? = some x)(hx:X.env.scope.names.lookup x=some .local)
  (h:∀ s',Inv X G6 (σ.set i none) H s'→Q () s'):wpAny M A (do bindName X.env x .none;unbindBehindTheSuite X.env x pos) Q E s:=by
 have hcls:(X.env.scope.kind == .class || (X.env.scope.kind == .module && X.env.locals != X.env.globals))=false:=by rw [I.ok.kind];rfl
 have hiσ:i < σ.length:=by rw [I.len];exact (BF.mp hi).1
 have hk:X.env.kindOf x=some .local:=hx
 refine fu (wpAny_bindName (cY (v:=.non) (u:=.none) I hN hi (.inl hx) rfl (fun s₁ J=>?_) (.inr hx)))
 obtain ⟨m,hn,hl⟩:=id J.loc
 have hm:(m x).isSome=true:=by
  obtain ⟨u,_,q⟩:=hl i x .non hi (by rw [DS hiσ]) (.inl hx)
  rcases q with ⟨_,e⟩ | ⟨e,_⟩
  ·rw [e];rfl
  ·rcases e with e | e <;> (rw [hk] at e;cases e)
 unfold unbindBehindTheSuite
 refine wpAny_onRaise ?_
 unfold unbindName
 refine fu (wpAny_point (fu ?_))
 unfold deleteName
 simp only [hk,hcls]
 rw [if_neg (by decide)]
 refine fu (wpAny_nsDel_keeps hn fun h₂ v hn₂ hs₂=>?_)
 simp only [hm,Dx,Option.isSome_some,Eo,Cc,C_]
 refine BH (wpAny_point (h _ ?_))
 have I:=J
 have cne:=I.cne
 obtain ⟨oL,_,_,hoL,_⟩:=id hn
 have ne:∀ b o,X.s₀.heap.get? b=some o→b≠X.env.locals:=fun b o e=>Cr (BX (BU e) I.ok.above)
 refine ⟨I.ok,I.os,I.bare,⟨fun b o e n hb hx=>(hs₂.2 b (ne b o e)).trans (I.base.keep b o e n hb hx),fun b o e n hb hx=>?_,I.base.free,fun b o e hx=>?_,I.base.tups,I.base.frzs,I.base.tbls⟩,⟨_,hn₂,fun j y v' e1 e2 e3=>?_⟩,fun y c e=>?_,I.free,I.freeC,fun p hp=>?_,fun b ob e=>?_,by simpa using I.len⟩
 ·obtain ⟨sl,e1⟩:=I.base.slot b o e n hb hx
  exact ⟨sl,(hs₂.2 b (ne b o e)).trans e1⟩
 ·obtain ⟨o',e1⟩:=I.base.there b o e hx
  exact ⟨o',(hs₂.2 b (ne b o e)).trans e1⟩
 ·by_cases hj:j=i
  ·subst hj
   rw [DS (by exact hiσ)] at e2
   cases e2
  ·rw [D7 (Ne.symm hj)] at e2
   obtain ⟨u',r',q⟩:=hl j y v' e1 (by rw [D7 (Ne.symm hj)];exact e2) e3
   refine ⟨u',r',?_⟩
   rcases q with ⟨k,e⟩ | ⟨k,c,e,z⟩
   ·refine .inl ⟨k,?_⟩
    have:y≠x:=fun e=>hj (gH hN e1 (e ▸ hi))
    simp [this,e]
   ·exact .inr ⟨k,c,e,z.sameBut hs₂ (cne y c e)⟩
 ·obtain ⟨w',z⟩:=I.cell y c e
  exact ⟨w',z.sameBut hs₂ (cne y c e)⟩
 ·obtain ⟨e,n,ne,nf,d⟩:=I.pin p hp
  exact ⟨(hs₂.2 p.1 ne).trans e,n,ne,nf,d⟩
 ·refine (I.hok b ob e).stay (fun c w' hc q=>(hs₂.2 c ?_).trans q) (fun _ q=>q) fun _ _ q=>q
  rintro rfl
  rcases hc with rfl | hc
  ·rw [I.free] at e;cases e
  ·rw [I.free] at hc;cases hc
end
section
variable {M:Model} {A:Around} {E:Value→Shared→Prop} {s:Shared}
theorem ow {base:Heap}{env:Env}{outer:List Env}{L e:Addr}{oe:Obj}{vs:Array Value}{Q:Unit→Shared→Prop}
  (H_:A.frames=some (env::outer)) (hl:s.heap.FunFrames base (env::outer)) (hf:env.frame=some L)
  (he:s.heap.get? e=some oe) (hd:oe.data = .fields vs) (h1:vs[1]? = some .none ∨ Flt s.heap e .none)
  (h:∀ h',Nts (frs (env::outer)) e .none s.heap h'→Q () { s with heap:=h' }):wpAny M A (noteFrame (.ref e) env) (fun _ s₂=>wpAny M A (setFlight (.ref e) none) Q E s₂) E s:=by
 refine vg H_ hl hf he hd h1 fun h₁ N=>?_
 obtain ⟨k1,k2,k3,T,hT,k4⟩:=N
 refine fR (s:={ s with heap:=h₁ }) k4 fun h₂ f1 f2 f3 _=>h h₂ ⟨fun b o hb hbe q=>f2 b o (fun z=>?_) (k1 b o hb hbe q),fun b o hb q=>?_,fun oe vs q qd=>?_,T,hT,f1⟩
 ·exact absurd (BX (BU q) (z ▸ hT)) (Co _)
 ·obtain ⟨sl,q'⟩:=k2 b o hb q
  exact ⟨sl,f2 b _ (fun z=>absurd (BX (BU q) (z ▸ hT)) (Co _)) q'⟩
 ·obtain ⟨oe',vs',q1,q2⟩:=k3 oe vs q qd
  exact ⟨oe',vs',f2 e _ (fun z=>absurd (BX (BU q) (z ▸ hT)) (Co _)) q1,q2⟩
theorem tm {K:PySem.W.Frag}{C R e:Addr}{bm bm':List Value}{oe:Obj}{h:Heap}{g:Array GenState}{d:Drawn}{t:Nat}{os:OsState}{Q:Bool→Shared→Prop}(X:K.In h)(xC:XCl K C bm)(xR:XCl K R bm')(he:h.get? e=some oe)(hcls:oe.cls = .ref C)
  (hq:Q ((Value.ref C::bm).contains (.ref R)) ⟨h,g,d,t,os⟩):wpAny M A (excMatches (.ref e) (.ref R)) Q E ⟨h,g,d,t,os⟩:=by
 obtain ⟨T,nm,q,N,bs,sn,sub,ab,col,dd,k0,k1,k2,k3,k5,hC⟩:=xC.at X
 obtain ⟨T',nm',q',N',bs',sn',sub',ab',col',dd',k0',k1',k2',k3',k5',hR⟩:=xR.at X
 have hcB:(Value.ref R::bm').contains (.type "BaseException")=true:=by rw [DV,T'.hasType Fc.hasBase,Fh]
 have f:=tc_notTuple
 generalize hb:(Value.ref C::bm).contains (.ref R)=b at hq
 unfold excMatches
 repeat (first | (with_reducible refine Cv he ?_;rw [hcls]) | with_reducible refine Cv hR ?_ | (with_reducible refine Dl hR ?_;rw [hcB]) | (with_reducible refine Dl hC ?_;rw [hb]) | wp_step)
 cases b <;> (wp_walk;exact hq)
end
structure rB (P:Program) (w:World) (K:PySem.W.Frag) (mg:Str→Option Value) (base:Heap) (x:Str) (ps:List Str) (k:Nat) (sp:Sp):Prop where
 ex:∃ (f:Addr) (fd:FuncData),mg x=some (.ref f)∧PySem.W.keepIn K (.ref f)=true∧dH K fd ps []∧fZ P w K mg base (CXe P w) k f fd ps sp
theorem Df.okX {P:Program}{w:World}{K:PySem.W.Frag}{mg:Str→Option Value}{base:Heap}{x:Str}{st:Stmt}{N ps:List Str}{k:Nat}{sp:Sp}(D:Df K mg x st)(S:aN N ps (ao st))
  (hb:∀ (kV doc pm:Value) (an:Option Addr) (Hb ct:Value) (us:List Value),us.length=ps.length→bindArgs (PySem.W.fnOf x x (bU st) (bE st) (ao st) .none kV doc pm an Hb ct) ⟨us,[]⟩=pure (ps.zip us))
  (len:∀ vs H Q E,sp vs H Q E→vs.length=ps.length)
  (Hq:∀ (f:Addr) (Hb:Value) (A:Around) (outer:List Env) (s:Shared) (H:Hp) (vs:List V) (Q:VK) (E:XK),dj k (A.deeper (envOfC x (ao st) s.heap.objs.size f Hb))→sp vs H Q E →
   ∃ t,PSs (jD (CXe P w) P w K mg base N x (ao st) f Hb A outer s H E) (bE st) t∧t { nx:=fun _ H'=>Q .non H',rt:=Q } (start N vs) H):rB P w K mg base x ps (k+1) sp:=by
 obtain ⟨f,fd,hm,F⟩:=D.ex
 refine ⟨f,fd,hm,F.kp,F.binds hb,?_⟩
 obtain ⟨oc,od,kV,doc,pm,an,Hb,ct,Hw,rfl,lk,Im⟩:=F.ex
 exact wO lk Im S len fun A outer s H vs Q E hr Il=>Hq f Hb A outer s H vs Q E hr Il
section
variable {X:Cx} {E:XK} {x:Str} {ps:List Str} {k j:Nat} {sp:Sp} {e a b:Expr} {es:List Expr} {t:TA} {te tb:TE} {tt:TT} {p pos pos':Pos}
theorem x5 (F:rB X.prog X.w X.K X.mg X.base x ps j sp)(hr:dj k X.A)(hj:j≤k)(hx:gx (CXe X.prog X.w) X E)(hg:Gl X x)(ha:PA X (e::es) t)
  (HM:(x == ("__debug__":Str))=false:=by decide) (he:starEach (e::es) X.env=(false,eval e X.env)::starEach es X.env:=by rfl) (HV:(backTo pos (starEach es X.env)).any (·.1)=false:=by rfl) :
  PE X (.Call (.Name x p) (e::es) [] pos) (lN sp [] E t):=by
 obtain ⟨f,fd,hm,hk,hb,F⟩:=F.ex
 exact mH F (hr.mono hj) hg hm hk hb .nil hx ha HM he HV
theorem tq (F:rB X.prog X.w X.K X.mg X.base x ps j sp)(hr:dj k X.A)(hj:j≤k)(hg:Gl X x)(ha:PA X.nox (e::es) t)
  (HM:(x == ("__debug__":Str))=false:=by decide) (he:starEach (e::es) X.env=(false,eval e X.env)::starEach es X.env:=by rfl) (HV:(backTo pos (starEach es X.env)).any (·.1)=false:=by rfl) :
  PEE X E (.Call (.Name x p) (e::es) [] pos) (lN sp [] E t):=by
 obtain ⟨f,fd,hm,hk,hb,F⟩:=F.ex
 intro G6 s σ H Q I h
 refine Dn (cf I hg hm ?_ HM)
 refine Ek (h₀:=X.base) I.ok.mod.kin hk (CB (ha pos G6 s σ H _ (I.wish _) h) (fun us s1 ⟨vs,H1,I0,r,q⟩=>⟨I0.kIn,?_⟩) fun _ _ z=>False.elim z) he HV
 have I1:Inv X G6 σ H1 s1:=I0.unwish
 have r2:bo (vs++[]) (us++[]):=r.append .nil
 have hl:(us++[]).length=ps.length:=by rw [← r2.length];exact F.len _ _ _ _ q
 refine Ex (Ee ((F.mono hj).run X.A X.stack s1 H1 ⟨us,[]⟩ (us++[]) (vs++[]) Q E hr I1.env0 (hb s1 us I1.kIn hl) r2 q) fun r s' hq=>?_)
 cases r with
 | error e=>exact XE.of I1 hq
 | ok fl =>
  cases fl with
  | ret u=>exact I1.after hq
  | next=>exact False.elim hq
  | brk=>exact False.elim hq
  | cont=>exact False.elim hq
def PSE (X:Cx)(E:XK)(st:List Stmt)(t:TS):Prop :=
 ∀ (G6:List (Addr × Obj)) (s:Shared) (σ:St) (H:Hp) (D:eQ),Inv X G6 σ H s→t D σ H→wpAny (model X.prog X.w) X.A (execs st X.env) (SP X G6 D) (XE X G6 σ E) s
theorem vj {i:Nat}(hN:X.N.Nodup)(hi:X.N[i]? = some x)(hx:Loc X.env.scope x)(he:PEE X E e te)(hs:swapsWith e (some (.Name x pos')) pos.line X.env=pure false:=by rfl)(hf:X.fn x=true ∨ X.env.scope.names.lookup x=some .local:=by first | exact .inl rfl | exact .inr rfl | assumption) :
  PSE X E [.Assign [.Name x pos'] e pos] (ze te (pW i)):=by
 intro G6 s σ H D I h
 refine D9 (wpAny_Assign_Name (thn (he G6 s σ H _ I h) fun v s1 zq1=>?_) hs)
 obtain ⟨y,H1,I1,r1,q1⟩:=zq1
 exact cY I1 hN hi hx r1 (fun s2 I2=>DE ⟨_,H1,I2,q1⟩) hf
theorem vk (he:PEE X E e te):PSE X E [.Return (some e) pos] (Az te):=by
 intro G6 s σ H D I h
 exact D9 (wpAny_Return_some (thn (he G6 s σ H _ I h) fun v s1 zq2=>(by obtain ⟨x,H1,I1,r1,q1⟩:=zq2;exact ⟨x,σ,H1,I1,r1,q1⟩)))
def eQ.gone (D:eQ)(i:Nat):eQ:={ nx:=fun σ H=>D.nx (σ.set i none) H,rt:=D.rt,bk:=fun σ H=>D.bk (σ.set i none) H,ct:=fun σ H=>D.ct (σ.set i none) H }
def Br (K:PySem.W.Frag)(R:Addr)(i:Nat)(tb:XK→TS)(ts:TS):TS:=fun D σ H =>
 tb (fun v _ H'=>∃ a C d c bm,v = .ref a∧H' a=some (Exo a C d false c)∧XCl K C bm∧(Value.ref C::bm).contains (.ref R)=true∧ts (D.gone i) (σ.set i (some (.ref a))) H') D σ H
set_option maxHeartbeats 800000 in
theorem x6 {n r:Str}{i:Nat}{R:Addr}{bmR:List Value}{body suite:List Stmt}{b₀:Stmt}{np hpos:Pos}{tb:XK→TS}{ts:TS}(Hs:X.stack=X.env::X.outer)(H_:X.env.frame=some X.env.locals)(hN:X.N.Nodup)(hi:X.N[i]? = some n)(HQ:X.env.scope.names.lookup n=some .local)
  (hg:Gl X r) (hm:X.mg r=some (.ref R)) (xR:XCl X.K R bmR) (hb:∀ E,PSE X E body (tb E)) (hs:∀ v,PSs (Hd X v) (b₀ :: suite) ts) (HM:(r == ("__debug__":Str))=false:=by decide) :
  PS X (.Try body [.ExceptHandler (some (.Name r np)) (some n) (b₀ :: suite) hpos] [] [] pos) (Br X.K R i tb ts):=by
 intro G6 s σ H D I h
 refine wpAny_Try_except (CB (hb _ G6 s σ H D I h) (fun f s₁ hf=>?_) fun e s₁ he=>?_)
 ·cases f with
  | next=>exact DE hf
  | brk=>exact hf
  | cont=>exact hf
  | ret u=>exact hf
 ·obtain ⟨a,C,d,cx,H',rfl,I1,ha,hF,a',C',d',cx',bm,ea',ha',xC,hc,ht⟩:=he
  cases ea'
  have hCC:C=C':=by
   obtain ⟨oe,vs,g1,g2,_⟩:=bx I1.hok ha
   obtain ⟨oe',vs',g1',g2',_⟩:=bx I1.hok ha'
   rw [g1] at g1';cases g1'
   rw [g2] at g2';cases g2';rfl
  subst hCC
  obtain ⟨oe,vs,g1,g2,g3,g4,g5,g6⟩:=bx I1.hok ha
  refine ow (base:=X.base) (env:=X.env) (outer:=X.outer) (L:=X.env.locals) (by rw [I.ok.frames,Hs]) (by rw [← Hs];exact I1.stack) H_ g1 g4 (.inr hF) fun h' Nt=>?_
  obtain ⟨un,hok⟩:=k_ I1.hok ha (by rw [← Hs];exact I1.stkFree) Nt
  have J:=I1.call' (s':={ s₁ with heap:=h' }) rfl (by rw [Hs];exact un) hok I1.bare (fun b z=>absurd z (by simp))
  rw [c9 ha] at J
  obtain ⟨T,_,hT⟩:=Nt.fly
  have JH:=J.hold (.ref a)
  refine wpAny_handleBy_cons (codeAny_handlers_test ?_) (by intro q;cases q)
  refine cf (X:=Hd X (.ref a)) JH hg hm ?_ HM
  obtain ⟨oe2,vs2,k1,k2,_⟩:=bx J.hok ha
  refine tm J.kIn xC xR k1 k2 ?_
  rw [hc]
  refine Fn ?_
  refine fR (s:={ s₁ with heap:=h' }) hT fun h2 _ _ _ same=>?_
  have J2:Inv (Hd X (.ref a)) G6 σ H' { s₁ with heap:=h2 }:=JH.kept (t':=s₁.toks) (fun b u q=>(same rfl b).trans q)
  refine cY (X:=Hd X (.ref a)) J2 hN hi (.inl HQ) (v:=.ref a) rfl (fun s₃ J3=>?_) (.inr HQ)
  refine CB (hs (.ref a) G6 s₃ _ H' (D.gone i) J3 ht) (fun f s₄ hf=>?_) fun _ _ z=>False.elim z
  cases f with
  | next=>obtain ⟨σ',H2,J4,q⟩:=hf;exact fS (J4.offHold I.ok) hN hi HQ fun s' K'=>⟨_,H2,K',q⟩
  | brk=>obtain ⟨σ',H2,J4,q⟩:=hf;exact fS (J4.offHold I.ok) hN hi HQ fun s' K'=>⟨_,H2,K',q⟩
  | cont=>obtain ⟨σ',H2,J4,q⟩:=hf;exact fS (J4.offHold I.ok) hN hi HQ fun s' K'=>⟨_,H2,K',q⟩
  | ret u=>obtain ⟨v,σ',H2,J4,rv,q⟩:=hf;exact fS (J4.offHold I.ok) hN hi HQ fun s' K'=>⟨v,_,H2,K',rv,q⟩
end
section
variable {K:PySem.W.Frag} {C R N:Addr} {dd d0:Option Addr} {c0 oc:Value} {cd cdR:ClassData} {k0 k1 k2 k3 k5:Option Value} {sl sl':Array (Option Value)} {es:Array DictEntry} {n:Nat} {bm bm':List Value}
theorem fT:PySem.W.tailIn K bmV bmV=true:=by
 unfold PySem.W.tailIn
 rw [Ea];rfl
theorem oy (l:K.lookup N=some ⟨oc,d0,.dict es n,sl'⟩)(h:(es.toList.all fun e=>match e.key with | .str _ _=>true | _=>false)=true):PySem.W.nsOkIn K N=true:=by
 unfold PySem.W.nsOkIn;rw [l];dsimp only;rw [← Array.all_toList];exact h
theorem ly (l:K.lookup R=some ⟨c0,d0,.cls cdR,sl⟩)(ok:PySem.W.nsOkIn K cdR.ns=true)(ni:PySem.W.nsIn K cdR.ns "__init__" = some none)(t:PySem.W.tailIn K bmV bm=true):PySem.W.tailIn K bmV (.ref R::bm)=true:=by
 unfold PySem.W.tailIn
 simp only [l,ok,ni,t,Ea,Bool.and_self,Fh]
theorem oz (l:K.lookup C=some ⟨.type "type",dd,.cls cd,#[k0,k1,k2,k3,some (.builtin "ValueError.__new__"),k5]⟩)(m:cd.mro = .ref C::bm)(h1:cd.hasDel=false)(h2:cd.hasDict=true)(t:PySem.W.tailIn K bmV bm=true)(kp:PySem.W.keepIn K (.ref C)=true):XCl K C bm :=
 ⟨⟨dd,cd,k0,k1,k2,k3,k5,l,m,h1,h2⟩,t,kp⟩
theorem x8 {h:Heap}{T:String}{b:Bool}(X:K.In h)(xC:XCl K C bm)(hk:PySem.W.kitMeta T=true)(hb:bmV.contains (.type T)=b):PySem.W.kitOne K (.ref C) (.type T)=some b:=by
 unfold PySem.W.kitOne
 rw [if_neg (show ¬ (Value.ref C == Value.type T)=true from by simp)]
 unfold PySem.W.kitCls
 simp only [hk,Dx]
 exact xC.mro X hb
end
def rD:List (Str × V)→List (Str × V)→List (Str × V)
 | acc,[]=>acc
 | acc,(f,y)::r=>rD (lM f y acc) r
inductive jk (names:List Str)(C:Addr)(vs:List V)(H:Hp)(Q:VK)(E:XK):Prop
 | mk:∀ a ys b cx,(vs = .ref a::ys)→(ys.length=names.length)→(H a=some (Exo a C none b cx))→(∀ dx,H dx=none→dx≠a→Q .non (upd (upd H a (Exo a C (some dx) b cx)) dx (Xdt dx (rD [] (names.zip ys)))))→jk names C vs H Q E
structure XMk (P:Program) (w:World) (K:PySem.W.Frag) (mg:Str→Option Value) (base:Heap) (x:Str) (C:Addr) (names:List Str) (k:Nat):Prop where
 at_:mg x=some (.ref C)
 ca:XCa K C
 no:∀ f∈names,PySem.W.findIn K (.ref C) f=some none
 ex:∃ (f:Addr) (fd:FuncData) (bm:List Value),XCl K C bm∧PySem.W.findIn K (.ref C) "__init__" = some (some (.ref f))∧PySem.W.isFn K (.ref f)=true∧dH K fd ("self" :: names) []∧fZ P w K mg base CX0 k f fd ("self" :: names) (jk names C)
def x9 (C:Addr)(names:List Str)(t:TA):TE:=fun σ H Q=>t σ H fun ys H1=>ys.length=names.length∧names.length≤900∧∀ a dx,H1 a=none→H1 dx=none→dx≠a →
 Q (.ref a) (upd (upd H1 a (Exo a C (some dx) true true)) dx (Xdt dx (rD [] (names.zip ys))))
section
variable {X:Cx} {x:Str} {C:Addr} {names:List Str} {k j:Nat} {e:Expr} {es:List Expr} {t:TA} {p pos:Pos}
theorem rE (M:XMk X.prog X.w X.K X.mg X.base x C names j)(hr:dj k X.A)(hj:j+1≤k)(hg:Gl X x)(ha:PA X (e::es) t)
  (HM:(x == ("__debug__":Str))=false:=by decide) (he:starEach (e::es) X.env=(false,eval e X.env)::starEach es X.env:=by rfl) (HV:(backTo pos (starEach es X.env)).any (·.1)=false:=by rfl) :
  PE X (.Call (.Name x p) (e::es) [] pos) (x9 C names t):=by
 obtain ⟨f,fd,bm,xc,hi,hf,hb,F⟩:=M.ex
 intro G6 s σ H Q I h
 refine Dn (cf I hg M.at_ ?_ HM)
 refine Ek (h₀:=X.base) I.ok.mod.kin xc.kp (thn (ha pos G6 s σ H _ I h) fun us s1 ⟨vs,H1,I1,r,hl,hn,q⟩=>⟨I1.kIn,?_⟩) he HV
 refine oo (k:=j) xc hi hf F (hr.mono hj) hb I1 r ⟨by omega,fun a h0=>⟨a,vs,true,true,rfl,hl,af ..,fun dx Hv ne=>⟨rfl,?_⟩⟩⟩
 rw [b_]
 exact q a dx h0 (by rw [ay ne] at Hv;exact Hv) ne
end
section
variable {K:PySem.W.Frag} {C dx a:Addr} {b:Bool} {H:Hp}
end
section
variable {X:Cx} {K:PySem.W.Frag} {e:Expr} {f:Str} {pos:Pos} {ta:TE}
theorem jl (hK:X.K=K):cE X (.builtin "isinstance") (Ae K):=by subst hK; exact rz
theorem oA (hK:X.K=K):cE X (.builtin "isinstance") (Ag K):=by subst hK; exact rA
theorem oE (hK:X.K=K)(he:PE X e ta)(hb:attributeBase e f X.env (eval e X.env)=eval e X.env):PE X (.Attribute e f pos) (tFx K ta f):=by subst hK; exact Af he hb
end
section
variable {X:Cx} {E:XK} {e a b c:Expr} {te ta tb:TE} {tA:TT} {pos:Pos}
end
end L2
namespace Kx
open PySem PySem.Spec PyProof.Rows L2 Wd
theorem rF {K:PySem.W.Frag}{C:Addr}:PySem.W.kitOne K (.ref C) (.ref C)=some true:=by unfold PySem.W.kitOne; rw [if_pos (by simp)]
theorem rG {K:PySem.W.Frag}{C R:Addr}{bm:List Value}{dd':Option Addr}{cd':ClassData}{sl':Array (Option Value)}(xC:XCl K C bm)(hl':K.lookup R=some ⟨.type "type",dd',.cls cd',sl'⟩):PySem.W.kitOne K (.ref C) (.ref R)=some ((Value.ref C::bm).contains (.ref R)):=by
 obtain ⟨dd,cd,k0,k1,k2,k3,k5,hl,hm,hd,hh⟩:=xC.obj
 unfold PySem.W.kitOne
 by_cases q:(Value.ref C == Value.ref R)=true
 ·rw [if_pos q,Dz.mp q];simp
 ·rw [if_neg q]
  unfold PySem.W.kitCls
  have h1:(PySem.W.clsIn K R).isSome=true:=by unfold PySem.W.clsIn;rw [hl'];rfl
  have h2:PySem.W.typeIn K (.ref R)=some (.type "type"):=by
   show (K.lookup R).map (·.cls)=_
   rw [hl'];rfl
  simp only [h1,h2,Ea,Bool.and_self,Dx]
  unfold PySem.W.subIn PySem.W.mroIn PySem.W.clsIn
  simp only [hl,Option.bind_some,hm,List.isEmpty_cons,Cc,C_]
def Ah (K:PySem.W.Frag)(C:Addr)(bm:List Value)(R:Addr):Prop:=(∃ dd cd sl,K.lookup R=some ⟨.type "type",dd,.cls cd,sl⟩)∧(Value.ref C::bm).contains (.ref R)=false
theorem jm {K:PySem.W.Frag}{C:Addr}{bm:List Value}(xC:XCl K C bm):∀ {Rs:List Addr},(∀ R∈Rs,Ah K C bm R)→PySem.W.kitAny K (.ref C) (Rs.map .ref)=some false
 | [],_=>rfl
 | R::Rs,h=>by
  obtain ⟨⟨dd,cd,sl,hl⟩,hc⟩:=h R Ca
  have ih:=jm xC (Rs:=Rs) fun R' h'=>h R' (BZ _ h')
  rw [Cq]
  unfold PySem.W.kitAny
  rw [rG xC hl,hc]
  simpa using ih
end Kx
namespace L2
open PySem PySem.Spec PyProof.Rows Wd
section
variable {X:Cx}
def Bs (K:PySem.W.Frag)(ta:TA):TI:=fun σ H R=>ta σ H fun vs H1=>∃ a,vs=[.ref a]∧(((∃ xs,SqL K H1 a xs)∧R (wj K a) H1) ∨ ((∃ xs,SqT K H1 a xs)∧R (wk K a) H1))
theorem x_ {K:PySem.W.Frag}(hK:X.K=K){a:Expr}{ta:TA}{p pos tp:Pos}{elts:List Expr}{k:Nat}(hg:Gl X "enumerate")(hm:X.mg "enumerate" = none)(hb:bootBuiltins "enumerate" = some (.type "enumerate"))(ha:PA X [a] ta)(hs:starEach [a] X.env=[(false,eval a X.env)]:=by rfl) :
  PI X (.Tuple elts k tp) (.Call (.Name "enumerate" p) [a] [] pos) (Bs K ta):=by
 subst hK
 intro G6 s σ H R I h
 refine Call_ (gj I hg hm hb (Ds (thn (ha pos G6 s σ H _ I h) fun us s1 zq2=>?_) hs rfl))
 obtain ⟨vs,H1,I1,r1,q1⟩:=zq2
 obtain ⟨l,rfl,hq⟩:=q1
 obtain ⟨u1,rfl,ru⟩:=dC r1
 cases ru
 rcases hq with ⟨⟨xs,hq⟩,q⟩ | ⟨⟨xs,hq⟩,q⟩
 ·obtain ⟨its,rv,pl,hz⟩:=I1.list hq
  refine call_enumerate_list pl.isList fun h' b1 b2 b3 b4=>?_
  have I2:Inv X G6 σ H1 { s1 with heap:=h',toks:=s1.toks }:=I1.kept b4
  exact Ez (s:={ s1 with heap:=h',toks:=s1.toks }) b1 ⟨s1.heap.objs.size+1,[s1.heap.objs.size+1,s1.heap.objs.size],_,wj X.K l,H1,rfl,I2,qL (Nat.succ_ne_self _),⟨⟨_,b1⟩,b2⟩,fp2 I1,q⟩
 ·obtain ⟨its,rv,pl,hz⟩:=I1.tuple hq
  refine qK pl fun h' b1 b2 b4=>?_
  have I2:Inv X G6 σ H1 { s1 with heap:=h',toks:=s1.toks }:=I1.kept b4
  exact Ez (s:={ s1 with heap:=h',toks:=s1.toks }) b1 ⟨s1.heap.objs.size+1,[s1.heap.objs.size+1,s1.heap.objs.size],_,wk X.K l,H1,rfl,I2,qM (Nat.succ_ne_self _),⟨⟨_,b1⟩,b2⟩,fp2 I1,q⟩
end
end L2
namespace Kx
open PySem PySem.Spec PyProof.Rows L2 Wd
inductive El (H:Hp):V→Prop
 | non:El H .non
 | bl (b:Bool):El H (.bl b)
 | int (i:Int):El H (.int i)
 | str (z:Str) (h:z.length≤500) (hc:(PyData.str z).canLay0=true):El H (.str z)
 | nilT {a:Addr} (h:H a=some (.tup [])):El H (.ref a)
 | lstA {a:Addr} (h:H a=some (.lst [.str "a"])):El H (.ref a)
theorem El.same {H H':Hp}{x:V}(s:aF H H')(h:El H x):El H' x:=by
 cases h with
 | non=>exact .non
 | bl b=>exact .bl b
 | int i=>exact .int i
 | str z h hc=>exact .str z h hc
 | nilT h=>exact .nilT (s _ _ h)
 | lstA h=>exact .lstA (s _ _ h)
theorem El.dt {H:Hp}{x:V}(h:El H x):∃ d,Dt H x d∧d.canLay0=true∧d.depth≤10∧∀ z,PyData.eqv d (.str z)=decide (x = .str z):=by
 cases h with
 | non=>exact ⟨_,.non,rfl,by decide,fun z=>by simp [PyData.eqv]⟩
 | bl b=>exact ⟨_,.bl b,rfl,by cases b <;> decide,fun z=>by simp [PyData.eqv]⟩
 | int i=>exact ⟨_,.int i,rfl,by show 0≤10;decide,fun z=>by simp [PyData.eqv]⟩
 | str y h hc=>exact ⟨_,.str y,hc,by show 0≤10;decide,fun z=>by
  show (y == z)=decide (V.str y=V.str z)
  rw [Du,Dz,C6]
  exact ⟨fun e=>by rw [e],fun e=>V.str.inj e⟩⟩
 | nilT h=>exact ⟨_,.tup h .nil,rfl,by decide,fun z=>by simp [PyData.eqv]⟩
 | lstA h=>exact ⟨_,.lst h (.cons (.str _) .nil),by decide +kernel,by decide,fun z=>by simp [PyData.eqv]⟩
theorem El.wh {K:PySem.W.Frag}{H:Hp}{x:V}(h:El H x):Wh K H x:=by
 obtain ⟨d,hd,_⟩:=h.dt
 exact z6 hd
theorem El.th {K:PySem.W.Frag}{H:Hp}{x:V}(h:El H x):Th K H x:=by
 cases h with
 | non=>exact .oth .non uH (by intro z e;cases e)
 | bl b=>exact .oth (.bl b) qD (by intro z e;cases e)
 | int i=>exact .oth (.int i) uI (by intro z e;cases e)
 | str z h hc=>exact .str z h
 | nilT h=>exact .oth (.tup h) uJ (by intro z e;cases e)
 | lstA h=>exact .oth (.lst h) qF (by intro z e;cases e)
def ik:V→Bool
 | .int i=>decide (0≤i)
 | _=>false
def Ai:List V→Bool
 | [h,n]=>ik n && decide (h = .str "out")
 | [h,n,x]=>ik n && (decide (h = .str "in") && wg x)
 | [h,n,u,m]=>ik n && (decide (h = .str "ring") && (wdV 6 u && ik m))
 | _=>false
inductive Sg (K:PySem.W.Frag)(H:Hp):V→Bool→Prop
 | tup {a:Addr} {xs:List V} (h:H a=some (.tup xs)) (p:∀ y∈xs,El H y) (hl:xs.length≤10):Sg K H (.ref a) (Ai xs)
 | flat {x:V} {n:String} (ty:∀ H':Hp,jx K H' x (.type n)) (e:PySem.W.kitOne K (.type n) (.type "tuple")=some false):Sg K H x false
 | lst {a:Addr} {ys:List V} (h:H a=some (.lst ys)):Sg K H (.ref a) false
theorem oF:(PyData.str "out").canLay0=true:=by decide +kernel
theorem tu:(PyData.str "in").canLay0=true:=by decide +kernel
theorem lC:(PyData.str "ring").canLay0=true:=by decide +kernel
theorem yd {H:Hp}{u:List L}(h:u.length≤500):El H (tx u):=.str _ (by rw [ah]; exact h) (u_ u)
theorem ye {H:Hp}{s:Stp}(hs:Sk s):∀ y∈s.vs,El H y:=by
 intro y hy
 have e1:("out":Str).length≤500:=by decide +kernel
 have e2:("in":Str).length≤500:=by decide +kernel
 have e3:("ring":Str).length≤500:=by decide +kernel
 cases s with
 | out n =>
  have hy:y∈[V.str "out",.int n]:=hy
  simp only [B2,Cd,Do] at hy
  rcases hy with rfl | rfl
  ·exact .str _ e1 oF
  ·exact .int _
 | inn n x =>
  have hy:y∈[V.str "in",.int n,tx [x]]:=hy
  simp only [B2,Cd,Do] at hy
  rcases hy with rfl | rfl | rfl
  ·exact .str _ e2 tu
  ·exact .int _
  ·exact yd (by show 1≤500;decide)
 | rng n u m =>
  have hy:y∈[V.str "ring",.int n,tx u,.int m]:=hy
  simp only [B2,Cd,Do] at hy
  have:=hs.2.1
  rcases hy with rfl | rfl | rfl | rfl
  ·exact .str _ e3 lC
  ·exact .int _
  ·exact yd (by omega)
  ·exact .int _
theorem yf (u:List L):wdV 6 (tx u)=true:=by show isW 6 (toS u)=true; rw [Bo,uM]; rfl
theorem yg (x:L):wg (tx [x])=true:=by show (ltr (cp x)).isSome=true; rw [kK]; rfl
theorem il (n:Nat):ik (.int (n:Int))=true:=BM (Int.natCast_nonneg n)
theorem rH (s:Stp):Ai s.vs=true:=by
 cases s with
 | out n=>show (ik (.int n) && decide (V.str "out" = V.str "out"))=true;rw [il];simp
 | inn n x=>show (ik (.int n) && (decide (V.str "in" = V.str "in") && wg (tx [x])))=true;rw [il,yg];simp
 | rng n u m=>show (ik (.int n) && (decide (V.str "ring" = V.str "ring") && (wdV 6 (tx u) && ik (.int m))))=true;rw [il,yf,il];simp
theorem tB {K:PySem.W.Frag}{H:Hp}{p:Addr}{s:Stp}(hs:Sk s)(h:H p=some (.tup s.vs)):Sg K H (.ref p) true:=by
 have:=Sg.tup (K:=K) h (ye hs) (by cases s <;> (show _≤10;simp [Stp.vs,Stp.args]))
 rwa [rH] at this
inductive oG (K:PySem.W.Frag)(vs:List V)(H:Hp)(Q:VK)(Hc:XK):Prop
 | mk:∀ x,(vs=[x])→(Wh K H x)→(Q (.bl (ik x)) H)→oG K vs H Q Hc
inductive e6 (K:PySem.W.Frag)(vs:List V)(H:Hp)(Q:VK)(Hc:XK):Prop
 | mk:∀ x b,(vs=[x])→(Sg K H x b)→(∀ H',aF H H'→Q (.bl b) H')→e6 K vs H Q Hc
structure Rg (R:List (List L)):Prop where
 many:R.length≤7
 word:∀ r∈R,r≠[]∧r.length≤400
theorem Rgs.rg {R:List (List L)}(h:Rgs R):Rg R:=⟨h.many,fun r hr=>⟨(h.word r hr).1,by have:=(h.word r hr).2; omega⟩⟩
inductive jY (vs:List V)(H:Hp)(Q:VK)(Hc:XK):Prop
 | mk:∀ (a:Addr) (R:List (List L)) (u:List L),(vs=[.ref a,tx u])→(H a=some (.tup (R.map tx)))→(Rg R)→(u.length≤400)→(∀ H',aF H H'→Q (.bl (decide (u∈trn R))) H')→jY vs H Q Hc
inductive vn (vs:List V)(H:Hp)(Q:VK)(Hc:XK):Prop
 | mk:∀ (w:List L) (n:Nat),(vs=[tx w,.int (n:Int)])→(w.length≤3000)→(∀ H',aF H H'→Q (.bl (jP w n)) H')→vn vs H Q Hc
inductive jZ (vs:List V)(H:Hp)(Q:VK)(Hc:XK):Prop
 | mk:∀ (w:List L) (n:Nat) (u:List L) (m:Nat),(vs=[tx w,.int (n:Int),tx u,.int (m:Int)])→(w.length≤3000)→(u.length≤400)→(∀ H',aF H H'→Q (.bl (fL w n u m)) H')→jZ vs H Q Hc
inductive oH (vs:List V)(H:Hp)(Q:VK)(Hc:XK):Prop
 | mk:∀ (a p:Addr) (R:List (List L)) (w:List L) (s:Stp),(vs=[.ref a,tx w,.ref p])→(H a=some (.tup (R.map tx)))→(Rg R)→(w.length≤3000)→(H p=some (.tup s.vs))→(Sk s)→(∀ H',aF H H'→Q (.bl (stB R w s)) H')→oH vs H Q Hc
inductive vo (vs:List V)(H:Hp)(Q:VK)(Hc:XK):Prop
 | mk:∀ (p:Addr) (w:List L) (s:Stp),(vs=[tx w,.ref p])→(w.length≤3000)→(H p=some (.tup s.vs))→(Sk s)→(∀ H',aF H H'→Q (tx (chg w s)) H')→vo vs H Q Hc
inductive bP (H:Hp):List V→List Stp→Prop
 | nil:bP H [] []
 | cons {b:Addr} {s:Stp} {xs:List V} {ss:List Stp} (h:H b=some (.tup s.vs)) (hs:Sk s) (r:bP H xs ss):bP H (.ref b::xs) (s::ss)
theorem bP.get {H:Hp}:∀ {xs:List V} {ss:List Stp} {i:Nat} {x:V},bP H xs ss→xs[i]? = some x→∃ b s,x = .ref b∧ss[i]? = some s∧H b=some (.tup s.vs)∧Sk s
 | _,_,0,_,.cons h hs r,e=>by
  simp only [List.getElem?_cons_zero,Option.some.injEq] at e
  exact ⟨_,_,e.symm,rfl,h,hs⟩
 | _,_,i+1,_,.cons h hs r,e=>by
  simp only [List.getElem?_cons_succ] at e
  obtain ⟨b,s,h1,h2,h3,h4⟩:=r.get e
  exact ⟨b,s,h1,by simpa using h2,h3,h4⟩
theorem bP.length {H:Hp}{xs:List V}{ss:List Stp}(h:bP H xs ss):xs.length=ss.length:=by
 induction h with
 | nil=>rfl
 | cons _ _ _ ih=>rw [B6,B6,ih]
theorem bP.mono {H H':Hp}{xs:List V}{ss:List Stp}(s:∀ a ys,H a=some (.tup ys)→H' a=some (.tup ys))(h:bP H xs ss):bP H' xs ss:=by
 induction h with
 | nil=>exact .nil
 | cons h hs _ ih=>exact .cons (s _ _ h) hs ih
theorem bP.same {H H':Hp}{xs:List V}{ss:List Stp}(s:aF H H')(h:bP H xs ss):bP H' xs ss:=h.mono fun _ _ e=>s _ _ e
theorem bP.snoc {H:Hp}{xs:List V}{ss:List Stp}{b:Addr}{s:Stp}(h:bP H xs ss)(hb:H b=some (.tup s.vs))(hs:Sk s):bP H (xs++[.ref b]) (ss++[s]):=by
 induction h with
 | nil=>exact .cons hb hs .nil
 | cons h hs' _ ih=>exact .cons h hs' ih
def yh (CT:Addr)(i:Nat)(H:Hp)(E:XK):Prop:=∀ a dx H',H' a=some (Exo a CT (some dx) false true)→H' dx=some (Xdt dx [("place",.int (i:Int))])→aF H H'→E (.ref a) none H'
inductive ip (CT:Addr)(vs:List V)(H:Hp)(Q:VK)(E:XK):Prop
 | mk:∀ (a p:Addr) (R:List (List L)) (w:List L) (xs:List V) (ss:List Stp),(vs=[.ref a,tx w,.ref p])→(H a=some (.tup (R.map tx)))→(Rg R)→(w.length≤2000)→((H p=some (.tup xs) ∨ H p=some (.lst xs)))→(bP H xs ss)→(ss.length≤4000)→((∀ u,bz R w ss 0 = .inl u→∀ H',aF H H'→Q (tx u) H'))→((∀ i,bz R w ss 0 = .inr i→yh CT i H E))→ip CT vs H Q E
def oL (o:Option (List L)):List V:=o.toList.map tx
inductive j0 (vs:List V)(H:Hp)(Q:VK)(Hc:XK):Prop
 | mk:∀ (d l:Addr) (V:List (List L)) (w:List L),(vs=[.ref d,.ref l,tx w])→(Fd H d)→(H l=some (.lst (V.map tx)))→(V.length≤4000)→((∀ v∈V,v.length≤400))→(w.length≤2000)→(∀ (s:Stp) (p:Addr) (H':Hp),Sk s→H' p=some (.tup s.vs)→Fd H' d→ba d H H'→Q (.ref p) H')→j0 vs H Q Hc
theorem oI (w:List L)(n m:Nat):jK w (some (n:Int)) (some ((n:Int)+(m:Int)))=(w.drop n).take m:=by
 unfold jK
 rw [show ((n:Int)+(m:Int))=((n+m:Nat):Int) by omega,HT.cF,HT.cF]
 by_cases h1:n≤w.length
 ·rw [Dv h1]
  by_cases h2:n+m≤w.length
  ·rw [Dv h2];congr 1;omega
  ·rw [Dh (by omega),BV (by rw [B0];omega),BV (by rw [B0];omega)]
 ·rw [Dh (by omega),Dh (by omega),Dw (by omega),Dw (by omega)]
  simp
theorem jn (x y:List L):(!(Builtin.Str.occurrences (toS x) (toS y) 0 (toS x).length 1).isEmpty)=true ↔ ∃ i,i+y.length≤x.length∧(x.drop i).take y.length=y:=by
 rw [StrLaws.found_iff]
 have key:∀ i,i+y.length≤x.length→(Builtin.Str.subAt (toS x) (toS y) i=true ↔ (x.drop i).take y.length=y):=fun i hi=>by
  rw [StrLaws.subAt_eq,ah,ck,ck,Dz,← Gi,← Gh]
  exact ⟨fun h=>d7 h,fun h=>by rw [h]⟩
 rw [ah,ah]
 constructor
 ·rintro ⟨i,hi,h⟩
  exact ⟨i,hi,(key i hi).mp h⟩
 ·rintro ⟨i,hi,h⟩
  exact ⟨i,hi,(key i hi).mpr h⟩
theorem some_of {P:Program}{w:World}{K:PySem.W.Frag}{mg:Str→Option Value}{base:Heap}{ps:List Str}{k:Nat}(h:Fnc P w K mg base "_law_some" ps k dF):Fnc P w K mg base "_law_some" ps k nA:=by
 obtain ⟨f,fd,h1,h2,h3,h4⟩:=h.ex
 refine ⟨f,fd,h1,h2,h3,h4.imp fun vs H Q E q=>?_⟩
 obtain ⟨d,m,n,e,F,a,b,c,e2,k⟩:=q
 exact ⟨d,m,n,e,F,a,b,c,e2,fun u H' hl _ F' s'=>k u H' hl F' s'⟩
theorem at1 {α:Type}(a b:α)(t:List α):atI (a::b::t) (1:Int)=some b:=bL (j:=1) rfl
theorem at2 {α:Type}(a b c:α)(t:List α):atI (a::b::c::t) (2:Int)=some c:=bL (j:=2) rfl
theorem at3 {α:Type}(a b c d:α)(t:List α):atI (a::b::c::d::t) (3:Int)=some d:=bL (j:=3) rfl
theorem oJ {h n:V}{r:List V}(c:ik n=false):Ai (h::n::r)=false:=by
 match r with
 | []=>show (ik n && _)=false;rw [c];rfl
 | [_]=>show (ik n && _)=false;rw [c];rfl
 | [_,_]=>show (ik n && _)=false;rw [c];rfl
 | _::_::_::_=>rfl
theorem AR {c:Prop}[Decidable c]{ta tb:TE}{σ:L2.St}{H:Hp}{Q:VK}(ok:V→Hp→Prop)(main:∀ x H',ok x H'→Q x H')(hA:(∀ x H',ok x H'→Q x H')→c→ta σ H Q)(hB:(∀ x H',ok x H'→Q x H')→¬ c→tb σ H Q):if c then ta σ H Q else tb σ H Q:=by
 by_cases h:c
 ·rw [if_pos h];exact hA main h
 ·rw [if_neg h];exact hB main h
theorem Aj {c:Bool}{t2:TT}{ta tb:TE}{σ:L2.St}{H:Hp}{Q:VK}(ok:V→Hp→Prop)(main:∀ x H',ok x H'→Q x H')(h1:(∀ x H',ok x H'→Q x H')→c=true→t2 σ H (fun b H1=>if b=true then ta σ H1 Q else tb σ H1 Q))(h2:(∀ x H',ok x H'→Q x H')→tb σ H Q) :
  IsB (V.bl c) H fun k H0=>(if k=true then t2 σ H0 (fun b H1=>if b=true then ta σ H1 Q else tb σ H1 Q) else (if false=true then ta σ H0 Q else tb σ H0 Q)):=by
 refine ⟨c,rfl,?_⟩
 cases c with
 | true=>exact mW (h1 main rfl)
 | false=>exact iG (iG (h2 main))
structure Rgw (R:List (List L)):Prop where
 many:R.length≤7
 word:∀ r∈R,r≠[]∧r.length≤120
theorem Rgs.w {R:List (List L)}(h:Rgs R):Rgw R:=⟨h.many,fun r hr=>⟨(h.word r hr).1,by have:=(h.word r hr).2; omega⟩⟩
theorem Rgw.rg {R:List (List L)}(h:Rgw R):Rg R:=⟨h.many,fun r hr=>⟨(h.word r hr).1,by have:=(h.word r hr).2; omega⟩⟩
theorem lD {R:List (List L)}(h:∀ r∈R,r≠[]∧r.length≤120):(trn R).length≤240*R.length:=by
 induction R with
 | nil=>exact BG _
 | cons r R ih =>
  have:=ih fun q hq=>h q (BZ _ hq)
  have hr:=(h r Ca).2
  unfold trn at this ⊢
  rw [List.flatMap_cons,BB,BB,bW,bW,bS,B6]
  omega
inductive de (vs:List V)(H:Hp)(Q:VK)(Hc:XK):Prop
 | mk:∀ (a:Addr) (R:List (List L)),(vs=[.ref a])→((H a=some (.tup (R.map tx)) ∨ H a=some (.lst (R.map tx))))→(Rgw R)→(∀ (l:Addr) (V:List (List L)) (H':Hp),H l=none→Ord V→(∀ x,x∈V ↔ x∈trn R)→H' l=some (.lst (V.map tx))→aF H H'→Q (.ref l) H')→de vs H Q Hc
theorem oK {P:Program}{w:World}{K:PySem.W.Frag}{mg:Str→Option Value}{base:Heap}{ps:List Str}{k:Nat}(h:Fnc P w K mg base "_law_turns_of" ps k de):Fnc P w K mg base "_law_turns_of" ps k c8:=by
 obtain ⟨f,fd,h1,h2,h3,h4⟩:=h.ex
 refine ⟨f,fd,h1,h2,h3,h4.imp fun vs H Q E q=>?_⟩
 obtain ⟨a,R,e,ha,hR,k⟩:=q
 exact ⟨a,R,e,ha,hR.w,k⟩
def Bu:List L ⊕ Nat→V
 | .inl u=>tx u
 | .inr i=>.int (i:Int)
theorem gF {R:List (List L)}:∀ {w:List L} {ss:List Stp} {i:Nat},w.length≤2000→(∀ u,bz R w ss i = .inl u→u.length≤2000)∧∀ j,bz R w ss i = .inr j→j≤i+ss.length
 | w,[],i,h=>⟨fun u e=>by unfold bz at e;cases e;exact h,fun j e=>by unfold bz at e;cases e⟩
 | w,s::r,i,h=>by
  cases e:f_ R w s with
  | none =>
   refine ⟨fun u z=>?_,fun j z=>?_⟩
   ·unfold bz at z;rw [e] at z;cases z
   ·unfold bz at z;rw [e] at z;cases z;omega
  | some v =>
   obtain ⟨h1,h2⟩:=gF (R:=R) (w:=v) (ss:=r) (i:=i+1) (g8 e)
   refine ⟨fun u z=>h1 u ?_,fun j z=>?_⟩
   ·unfold bz at z;rw [e] at z;exact z
   ·unfold bz at z;rw [e] at z
    have:=h2 j z
    rw [B6];omega
theorem yi {n:Nat}(h:n < 2 ^ 100):((n:Int)).natAbs.log2 < 1920:=by
 show n.log2 < 1920
 by_cases h0:n=0
 ·subst h0;decide
 ·exact BX ((Nat.log2_lt h0).mpr h) (by decide)
theorem bP.app {H:Hp}{xs ys:List V}{ss ts:List Stp}(h:bP H xs ss)(g:bP H ys ts):bP H (xs++ys) (ss++ts):=by
 induction h with
 | nil=>exact g
 | cons h hs _ ih=>exact .cons h hs ih
theorem bP.sb {H H':Hp}{f:Addr}(F:Fd H f)(s:ba f H H'){xs:List V}{ss:List Stp}(h:bP H xs ss):bP H' xs ss:=h.mono fun _ _ e=>s _ _ (F.neT e) e
theorem j1 {H:Hp}{d l:Addr}{o:HO}{xs:List V}{ss:List Stp}(F:Fd H d)(h:H l=some (.lst xs))(hr:bP H xs ss)(n:l≠d):Fd (L2.upd H l o) d:=by
 obtain ⟨c,i,ll,t,ns,h1,h2,h3,h4⟩:=F.ex
 have hc:c≠l:=fun e=>by
  subst e
  rw [h2] at h
  have h:=HO.lst.inj (BW h)
  cases hr with
  | nil=>exact h3 (by cases ns with | nil=>rfl | cons _ _=>cases h)
  | cons _ _ _ =>
   cases ns with
   | nil=>exact h3 rfl
   | cons a ns=>cases (FJ h).1
 exact ⟨c,i,ll,t,ns,by rw [ay n.symm];exact h1,by rw [ay hc];exact h2,h3,h4⟩
inductive e7 (vs:List V)(H:Hp)(Q:VK)(Hc:XK):Prop
 | mk:∀ (l p:Addr) (R Vs:List (List L)) (w:List L) (s:Stp),(vs=[.ref l,tx w,.ref p])→(H l=some (.lst (Vs.map tx)))→((∀ x,x∈Vs ↔ x∈trn R))→(w.length≤2000)→(H p=some (.tup s.vs))→(Sk s)→(∀ q H',H q=none→H' q=some (.lst (oL (f_ R w s)))→aF H H'→Q (.ref q) H')→e7 vs H Q Hc
theorem aw {n:Nat}(h:n≤16777216):n≤sizeLine:=by rw [a9]; exact h
theorem vq {t u:TS}{D:eQ}{σ:L2.St}{H:Hp}(h:t D σ H):dY t u D σ true H:=mW h
theorem tD {t u:TS}{D:eQ}{σ:L2.St}{H:Hp}(h:u D σ H):dY t u D σ false H:=iG h
theorem Ak {u:TT}{σ:L2.St}{Q:Bool→Hp→Prop}{H:Hp}(h:Q true H):ko u σ Q true H:=mW h
theorem AS {u:TT}{σ:L2.St}{Q:Bool→Hp→Prop}{H:Hp}(h:u σ H Q):ko u σ Q false H:=iG h
theorem yj {u:TT}{σ:L2.St}{Q:Bool→Hp→Prop}{H:Hp}(h:u σ H Q):mq u σ Q true H:=mW h
end Kx
namespace L2
open PySem PySem.Spec PyProof.Rows
structure cD (k:Nat) (A:Around):Prop where
 dp:A.depth+3*k+5 < recursionLimit
 un:A.units+16*k+200 < cLine
 gd:A.guards=some []
theorem dj.h {k:Nat}{A:Around}(r:dj k A):cD k A:=⟨r.dp,r.un,r.gd⟩
theorem cD.mark {k:Nat}{A:Around}{v:Option Value}(r:cD k A):cD k (A.mark v):=⟨r.dp,r.un,r.gd⟩
theorem cD.mono {j k:Nat}{A:Around}(r:cD k A)(h:j≤k):cD j A:=⟨by have:=r.dp; omega,by have:=r.un; omega,r.gd⟩
theorem cD.deeper {k:Nat}{A:Around}(r:cD (k+1) A)(env:Env):cD k (A.deeper env) :=
 ⟨by have:=r.dp;show A.depth+1+3*k+5 < _;omega,by have:=r.un;show A.units+3+16*k+200 < _;omega,r.gd⟩
theorem cD.depth {k:Nat}{A:Around}(r:cD k A):A.depth < recursionLimit:=by have:=r.dp; omega
abbrev cxH (P:Program)(w:World)(K:PySem.W.Frag)(mg:Str→Option Value)(base:Heap)(N:List Str)(qual:Str)(scope:Scope)(f:Addr)(cd:Value)(A:Around)(outer:List Env)(s:Shared)(H:Hp):Cx :=
 { jD CX0 P w K mg base N qual scope f cd A outer s H E0 with calm:=false,xe:=fun _ _=>False }
theorem l8 {P:Program}{w:World}{K:PySem.W.Frag}{mg:Str→Option Value}{base:Heap}{N ps:List Str}{qual:Str}{scope:Scope}{f:Addr}{cd:Value}{A:Around}{outer:List Env}{s s1:Shared}{H:Hp}{us:List Value}{vs:List V}
  (S:aN N ps scope) (e0:pO P w K mg base A outer s H) (hl:vs.length=ps.length) (r:bo vs us)
  (x:InCallC s s.heap.objs.size (bindL (envOfC qual scope s.heap.objs.size f cd).kindOf (ps.zip us) fun _=>none) (cellsFrom (s.heap.objs.size+1) scope.names []) (bindC (envOfC qual scope s.heap.objs.size f cd).kindOf (ps.zip us) fun _=>none) s1) :
  Inv (cxH P w K mg base N qual scope f cd A outer s H) [] (start N vs) H s1:=by
 have e1:pO P w K mg base { A with handled:=none } outer s H:=⟨e0.frames,e0.mod,e0.bs,e0.bsz,e0.funs,e0.frf,e0.hok,e0.bare⟩
 have I:=iR (CX:=CX0) (E:=E0) (cd:=cd) (f:=f) S rfl e1 hl r x
 exact ⟨⟨I.ok.mod,I.ok.kind,I.ok.glob,I.ok.blt,I.ok.above,I.ok.inj,I.ok.has,I.ok.cab,(fun z=>by cases z),I.ok.frames,I.ok.stk,I.ok.exf,I.ok.bs,I.ok.bsz,I.ok.noex,I.ok.exfs,I.ok.funs,I.ok.frf⟩,I.os,I.bare,I.base,I.loc,I.cell,I.free,I.freeC,I.pin,I.hok,I.len⟩
section
variable {X:Cx} {x:Str} {ps:List Str} {k j:Nat} {sp:Sp} {e:Expr} {es:List Expr} {t:TA} {p pos:Pos}
end
section
variable {prog:Program} {w:World} {A:Around} {E:Value→Shared→Prop} {h:Heap} {g:Array GenState} {d:Drawn} {t:Nat} {os:OsState} {K:PySem.W.Frag} {C:Addr} {bm:List Value}
end
theorem cD.make {k:Nat}{A:Around}(r:cD (k+1) A)(C:Addr)(us:List Value)(kw:List (Str × Value)):cD k (A.under (.builtin "type.__call__" ⟨.ref C::us,kw⟩)) :=
 ⟨by have:=r.dp;rw [gv];omega,by have:=r.un;rw [gw];omega,by have g:=r.gd;simpa [Around.under,Code.guards,pushGuards,Code.isGuard,guardIds] using g⟩
structure j2 (P:Program) (w:World) (K:PySem.W.Frag) (mg:Str→Option Value) (base:Heap) (k:Nat) (f:Addr) (fd:FuncData) (ps:List Str) (sp:Sp):Prop where
 len:∀ vs H Q E,sp vs H Q E→vs.length=ps.length
 run:∀ (A:Around) (outer:List Env) (s:Shared) (H:Hp) (args:Args) (us:List Value) (vs:List V) (Q:VK),cD k A→pO P w K mg base A outer s H→BindsTo s fd args (ps.zip us)→bo vs us→sp vs H Q E0 →
  codeAny (model P w) A (.call (.ref f) args) (CR CX0 outer P w H s Q E0) s
theorem yk {P:Program}{w:World}{K:PySem.W.Frag}{mg:Str→Option Value}{base:Heap}{k:Nat}{f:Addr}{name qual:Str}{params:Arguments}{body:List Stmt}{scope:Scope}{dV kV doc pm Hb ct oc:Value}{an od:Option Addr}
  {Hw:Array (Option Value)} {N ps:List Str} {sp:Sp} (lk:K.lookup f=some ⟨oc,od,.func (PySem.W.fnOf name qual params body scope dV kV doc pm an Hb ct),Hw⟩) (Im:PySem.W.codeIn K Hb qual=true) (S:aN N ps scope)
  (len:∀ vs H Q E,sp vs H Q E→vs.length=ps.length)
  (Hq:∀ (A:Around) (outer:List Env) (s:Shared) (H:Hp) (vs:List V) (Q:VK),cD k (A.deeper (envOfC qual scope s.heap.objs.size f Hb))→sp vs H Q E0 →
   ∃ t,PSs (cxH P w K mg base N qual scope f Hb A outer s H) body t∧t { nx:=fun _ H'=>Q .non H',rt:=Q } (start N vs) H) :
  j2 P w K mg base (k+1) f (PySem.W.fnOf name qual params body scope dV kV doc pm an Hb ct) ps sp:=by
 refine ⟨len,fun A outer s H args us vs Q hr e0 hbt r Il=>?_⟩
 have hl:=len _ _ _ _ Il
 have KX:K.In s.heap:=e0.mod.kin.keeps fun b o e=>(e0.bs b o e).1
 have lim:s.heap.NoLimit:=e0.mod.nolimit.keeps fun b o e=>(e0.bs b o e).1
 have hkind:∀ y∈ps.zip us,scope.names.lookup y.1=some .local ∨ (scope.names.lookup y.1=some .cell∧((cellsFrom (s.heap.objs.size+1) scope.names []).lookup y.1).isSome=true):=fun ⟨n,v⟩ hy=>by
  rcases S.par n (ES hy).1 with q | q
  ·exact .inl q
  ·exact .inr ⟨q,Er _ _ _ (.inl q)⟩
 refine codeAny_call_function hr.depth (KX _ _ lk) rfl S.co S.gen rfl (PySem.W.codeRec_of KX Im) (hbt _ _ _ _ ?_)
 refine E9 S.kind hkind fun env he s1 xx=>?_
 subst he
 refine ⟨lim.keeps xx.toInCall.keep,codeAny_func ?_⟩
 obtain ⟨t,ht,hq⟩:=Hq A outer s H vs Q (hr.deeper _) Il
 have I:=l8 (w:=w) (f:=f) (cd:=Hb) S e0 hl r xx
 refine CB (ht [] s1 (start N vs) H _ I hq) (fun fl s' hs=>?_) fun e s' hs=>hs.elim
 have fin:∀ {σ':St} {H':Hp} {v:V} {u:Value},Inv (cxH P w K mg base N qual scope f Hb A outer s H) [] σ' H' s'→bH v u→Q v H'→CE outer P w H s Q u s' :=
  fun {σ' H' v u} J rv q=>⟨v,H',J.os,J.bare,J.base,J.hok,rv,q⟩
 cases fl with
 | ret u =>
  obtain ⟨v,σ',H',J,rv,q⟩:=hs
  exact fin J rv q
 | next =>
  obtain ⟨σ',H',J,q⟩:=hs
  exact fin (v:=V.non) (u:=Value.none) J rfl q
 | brk =>
  obtain ⟨_,_,_,q⟩:=hs
  exact False.elim q
 | cont =>
  obtain ⟨_,_,_,q⟩:=hs
  exact False.elim q
theorem j2.ok {P:Program}{w:World}{K:PySem.W.Frag}{mg:Str→Option Value}{base:Heap}{k:Nat}{f:Addr}{fd:FuncData}{ps:List Str}{sp:Sp}(F:j2 P w K mg base k f fd ps sp)(hE:∀ vs H Q E,sp vs H Q E→sp vs H Q E0):fZ P w K mg base CX0 k f fd ps sp :=
 ⟨F.len,fun A outer s H args us vs Q E hr e0 hb r h=>Ee (F.run A outer s H args us vs Q hr.h e0 hb r (hE _ _ _ _ h)) fun r s' q=>by
  cases r with
  | error e=>exact q.elim
  | ok fl=>cases fl <;> exact q⟩
theorem Fun.okH {P:Program}{w:World}{K:PySem.W.Frag}{mg:Str→Option Value}{base:Heap}{x qual:Str}{st:Stmt}{f:Addr}{fd:FuncData}{N ps:List Str}{k:Nat}{sp:Sp}(F:Fun K x qual st f fd)(S:aN N ps (ao st))(len:∀ vs H Q E,sp vs H Q E→vs.length=ps.length)
  (Hq:∀ (Hb:Value) (A:Around) (outer:List Env) (s:Shared) (H:Hp) (vs:List V) (Q:VK),cD k (A.deeper (envOfC qual (ao st) s.heap.objs.size f Hb))→sp vs H Q E0 →
   ∃ t,PSs (cxH P w K mg base N qual (ao st) f Hb A outer s H) (bE st) t∧t { nx:=fun _ H'=>Q .non H',rt:=Q } (start N vs) H):j2 P w K mg base (k+1) f fd ps sp:=by
 obtain ⟨oc,od,kV,doc,pm,an,Hb,ct,Hw,rfl,lk,Im⟩:=F.ex
 exact yk lk Im S len fun A outer s H vs Q hr Il=>Hq Hb A outer s H vs Q hr Il
structure Al (P:Program) (w:World) (K:PySem.W.Frag) (mg:Str→Option Value) (base:Heap) (x:Str) (C:Addr) (names:List Str) (k:Nat):Prop where
 at_:mg x=some (.ref C)
 ca:XCa K C
 ex:∃ (f:Addr) (fd:FuncData) (bm:List Value),XCl K C bm∧PySem.W.findIn K (.ref C) "__init__" = some (some (.ref f))∧PySem.W.isFn K (.ref f)=true∧dH K fd ("self" :: names) []∧j2 P w K mg base k f fd ("self" :: names) (jk names C)
section
variable {X:Cx} {k j:Nat} {f C:Addr} {fd:FuncData} {ps names:List Str} {sp:Sp} {x:Str} {p pos:Pos} {e:Expr} {es:List Expr} {t:TA} {bm:List Value}
theorem oM {G6:List (Addr × Obj)}{σ:St}{H:Hp}{s:Shared}{Q:VK}{us:List Value}{vs:List V}(M:XCl X.K C bm)(hi:PySem.W.findIn X.K (.ref C) "__init__" = some (some (.ref f)))(hf:PySem.W.isFn X.K (.ref f)=true)
  (F:j2 X.prog X.w X.K X.mg X.base k f fd ps sp) (hr:cD (k+1) X.A) (hb:dH X.K fd ps []) (I:Inv X G6 σ H s) (r:bo vs us)
  (h:vs.length≤1000∧∀ x,H x=none→sp (.ref x::vs) (upd H x (Exo x C none true true)) (fun v H2=>v = .non∧Q (.ref x) H2) E0):wpAny (model X.prog X.w) X.A (call (.ref C) us) (EP X G6 σ Q) X.xe s:=by
 obtain ⟨hl0,h⟩:=h
 have hq:=h (s.heap.objs.size+1) (I.hok.fresh (EW _))
 have I2:=Inv.madeX (C:=C) I us
 have r2:bo (V.ref (s.heap.objs.size+1)::vs) (Value.ref (s.heap.objs.size+1)::us):=.cons rfl r
 have hl:(Value.ref (s.heap.objs.size+1)::us++[]).length=ps.length:=by
  have e:=r2.length
  rw [F.len _ _ _ _ hq] at e
  rw [DH]
  exact e.symm
 obtain ⟨hh,g,d,tk,os⟩:=s
 refine s_ I.kIn M hi hf (Ex ?_) (by rw [← r.length,Di];omega)
 have hb':=hb ⟨(hh.push (jV us)).push (om C hh.objs.size),g,d,tk,os⟩ (Value.ref (hh.objs.size+1)::us) I2.kIn hl
 rw [DH] at hb'
 refine Ee (F.run _ X.stack _ _ ⟨Value.ref (hh.objs.size+1)::us,[]⟩ (Value.ref (hh.objs.size+1)::us) _ _ (hr.make C us []) (I2.env0.make C us []) hb' r2 hq) fun r s' hq'=>?_
 cases r with
 | error e=>exact hq'.elim
 | ok fl =>
  cases fl with
  | ret u =>
   obtain ⟨v,H',I3,rv,ev,q3⟩:=I2.after hq'
   subst ev
   exact ⟨rv,⟨V.ref (hh.objs.size+1),H',I3,rfl,q3⟩⟩
  | next=>exact False.elim hq'
  | brk=>exact False.elim hq'
  | cont=>exact False.elim hq'
theorem ym (M:Al X.prog X.w X.K X.mg X.base x C names j)(hr:cD k X.A)(hj:j+1≤k)(hg:Gl X x)(ha:PA X (e::es) t)
  (HM:(x == ("__debug__":Str))=false:=by decide) (he:starEach (e::es) X.env=(false,eval e X.env)::starEach es X.env:=by rfl) (HV:(backTo pos (starEach es X.env)).any (·.1)=false:=by rfl) :
  PE X (.Call (.Name x p) (e::es) [] pos) (x9 C names t):=by
 obtain ⟨f,fd,bm,xc,hi,hf,hb,F⟩:=M.ex
 intro G6 s σ H Q I h
 refine Dn (cf I hg M.at_ ?_ HM)
 refine Ek (h₀:=X.base) I.ok.mod.kin xc.kp (thn (ha pos G6 s σ H _ I h) fun us s1 ⟨vs,H1,I1,r,hl,hn,q⟩=>⟨I1.kIn,?_⟩) he HV
 refine oM (k:=j) xc hi hf F (hr.mono hj) hb I1 r ⟨by omega,fun a h0=>⟨a,vs,true,true,rfl,hl,af ..,fun dx Hv ne=>⟨rfl,?_⟩⟩⟩
 rw [b_]
 exact q a dx h0 (by rw [ay ne] at Hv;exact Hv) ne
end
section
variable {X:Cx} {G6:List (Addr × Obj)} {σ:St} {H:Hp} {s:Shared}
theorem eC {M:Model}{A:Around}{F:Value→Shared→Prop}{Q:Unit→Shared→Prop}{i:Nat}{v:Value}{a C:Addr}{d:Option Addr}{b cx cx':Bool}(I:Inv X G6 σ H s)(ea:H a=some (Exo a C d b cx))(hi:i < 6)(h1:i≠1)(hc:cx'=true→cx=true∧i≠2)
  (h:∀ s',Inv X G6 σ (upd H a (Exo a C d b cx')) s'→Q () s'):wpAny M A (setField (.ref a) i v) Q F s:=by
 obtain ⟨oe,vs,g1,g2,g3,g4,g5,g6,g7⟩:=bx I.hok ea
 obtain ⟨hh,g,dr,tk,os⟩:=s
 refine C9 g1 g4 (by omega) (h _ ?_)
 have hd':=CG g4 (·.setIfInBounds i v)
 have e':=CH (Obj.mapFields (·.setIfInBounds i v)) g1 (CU hd')
 exact I.write (t':=tk) (x:=a) (e:=a) (h':=hh.update a (Obj.mapFields (·.setIfInBounds i v))) (o:=Exo a C d b cx') (by rw [ea];exact True.intro) (.inl rfl) (fun c o hc q=>(Ck _ _ (Ne.symm hc)).trans q) ⟨_,e'⟩
  (gE ⟨_,_,e',(D3 _ _).trans g2,by
   rw [← g3]
   obtain ⟨c1,c2,c3,c4⟩:=oe
   cases c3 <;> rfl,hd',by rw [Fy];exact g5,(fun z=>by rw [CZ h1];exact g6 z),fun z=>by rw [CZ (hc z).2];exact g7 (hc z).1⟩)
theorem rJ {P:Program}{w:World}{A:Around}{F:Value→Shared→Prop}{Q:Value→Shared→Prop}{e:Value}{a C:Addr}{d:Option Addr}{b:Bool}(I:Inv X G6 σ H s)(ea:H a=some (Exo a C d b true))(h:Q .none s) :
  wpAny (model P w) A (runValue (.builtin "proto.unchain" ⟨[e,.ref a,.ref a,.bool false],[]⟩)) Q F s:=by
 obtain ⟨oe,vs,g1,g2,g3,g4,g5,g6,g7⟩:=bx I.hok ea
 refine wpAny_runValue (codeAny_builtin (b:=Builtin.«proto.unchain») (entryFor_of_fast (by rfl)) ?_)
 unfold Builtin.«proto.unchain»
 refine fu (Cp g1 g4 (g7 rfl) ?_)
 rw [if_pos (by decide)]
 exact BH h
def XR (X:Cx)(G6:List (Addr × Obj))(σ:St)(E:XK)(e:Value)(s':Shared):Prop :=
 ∃ a C d c H',e = .ref a∧Inv X G6 σ H' s'∧H' a=some (Exo a C d true c)∧E (.ref a) none (upd H' a (Exo a C d false c))
inductive j3 (K:PySem.W.Frag)(h:Addr)(E:XK)(v:V)(H1:Hp):Prop
 | mk:∀ a C d cx C' d' b',v = .ref a→a≠h→H1 a=some (Exo a C d true cx)→XAt K C→H1 h=some (Exo h C' d' b' true)→E (.ref a) none (upd H1 a (Exo a C d false))→j3 K h E v H1
set_option maxHeartbeats 800000 in
theorem yn {Y:Cx}{h:Addr}{E:XK}{e:Expr}{te:TE}{p:Nat}{pp pos:Pos}{F:Flow→Shared→Prop}(hY:Y=Hd X (.ref h))(he:PE Y e te)(I:Inv Y G6 σ H s)(ht:te σ H (j3 X.K h E)) :
  wpAny (model Y.prog Y.w) Y.A (exec (.Raise (some e) (some (.Constant .none p pp)) pos) Y.env) F (XR Y G6 σ E) s:=by
 subst hY
 rw [arm_exec_Raise]
 refine fu (D1 ?_)
 unfold raiseStmt
 refine fu (fu (CB (he G6 s σ H _ I ht) (fun v s1 zq=>?_) fun _ _ z=>False.elim z))
 obtain ⟨y,H1,I1,ry,a,C,d,cx,C',d',b',ey,ne,ea,xa,eh,q⟩:=zq
 subst ey
 obtain rfl:v=Value.ref a:=ry
 refine fu (D1 (BH ?_))
 refine fu (Da (fu ?_))
 rw [arm_eval_Constant]
 refine BH (fu (D1 (BH (fu (BH ?_)))))
 have hcB:∀ bm,XCl X.K C bm→∀ s2:Shared,X.K.In s2.heap→∃ nm q N bs sn sub ab col dd k0 k1 k2 k3 k5,s2.heap.get? C=some (excClassObj nm q C N bs bm true sn sub ab col dd k0 k1 k2 k3 k5 "ValueError.__new__")∧(Value.ref C::bm).contains (.type "BaseException")=true:=fun bm xc s2 k=>by
  obtain ⟨T,nm,q,N,bs,sn,sub,ab,col,dd,k0,k1,k2,k3,k5,hC⟩:=xc.at k
  exact ⟨nm,q,N,bs,sn,sub,ab,col,dd,k0,k1,k2,k3,k5,hC,by rw [DV,T.hasType Fc.hasBase,Fh]⟩
 obtain ⟨bm,xc⟩:=xa.cl
 refine fu (Da ?_)
 have fx:∀ {F:Value→Shared→Prop} {G:Value→Shared→Prop} {msg:String},G (.ref a) s1→wpAny (model X.prog X.w) (Hd X (.ref h)).A (excFromValue (.ref a) msg) G F s1:=fun {F G msg} k=>by
  obtain ⟨nm,q,N,bs,sn,sub,ab,col,dd,k0,k1,k2,k3,k5,hC,hcB⟩:=hcB bm xc s1 I1.kIn
  obtain ⟨⟨oc,od,odt,Hw⟩,vs,g1,g2,g3,g4,g5,g6⟩:=bx I1.hok ea
  simp only at g2 g3 g4
  subst g2 g3 g4
  obtain ⟨hp,g,dr,tk,os⟩:=s1
  unfold excFromValue
  repeat (first | with_reducible refine Cv g1 ?_ | with_reducible refine Cv hC ?_ | (with_reducible refine Dl hC ?_;rw [hcB]) | wp_step)
  exact k
 refine fx ?_
 dsimp only
 rw [if_pos (by decide)]
 refine fu (BH (fu (eC (cx':=cx) I1 ea (by decide) (by decide) (fun z=>⟨z,by decide⟩) fun s2 I2=>?_)))
 rw [c9 ea] at I2
 refine fu (eC (cx':=cx) I2 ea (by decide) (by decide) (fun z=>⟨z,by decide⟩) fun s3 I3=>?_)
 rw [c9 ea] at I3
 have ea3:upd H1 a (Exo a C d true) h=some (Exo h C' d' b' true):=(ay (Ne.symm ne)).trans eh
 have fin:∀ s4,Inv (Hd X (.ref h)) G6 σ (upd H1 a (Exo a C d true)) s4→XR (Hd X (.ref h)) G6 σ E (.ref a) s4:=fun s4 I4=>⟨a,C,d,false,_,rfl,I4,af ..,by rw [b_];exact q⟩
 have un:∀ {F:Value→Shared→Prop} {G:Value→Shared→Prop},G .none s3→wpAny (model X.prog X.w) (Hd X (.ref h)).A (runValue (.builtin "proto.unchain" ⟨[.ref a,.ref h,.ref h,.bool false],[]⟩)) G F s3:=fun {F G} k=>rJ I3 eh k
 have up:∀ {F:Value→Shared→Prop} {G:Unit→Shared→Prop},(∀ s4,Inv (Hd X (.ref h)) G6 σ (upd H1 a (Exo a C d true)) s4→G () s4)→wpAny (model X.prog X.w) (Hd X (.ref h)).A (updateField a 2 (.ref h)) G F s3:=fun {F G} k =>
  eC (i:=2) (v:=.ref h) I3 ea (by decide) (by decide) (fun z=>by cases z) k
 obtain ⟨nm,q',N,bs,sn,sub,ab,col,dd,k0,k1,k2,k3,k5,hC,hcB⟩:=hcB bm xc s3 I3.kIn
 obtain ⟨⟨oc,od,odt,Hw⟩,vs,g1,g2,g3,g4,g5,g6⟩:=bx I3.hok ea
 simp only at g2 g3 g4
 subst g2 g3 g4
 obtain ⟨hp,g,dr,tk,os⟩:=s3
 repeat (first | with_reducible refine Cv g1 ?_ | with_reducible refine Cv hC ?_ | (with_reducible refine Dl hC ?_;rw [hcB]) | wp_step)
 rw [g6.1 rfl]
 refine BH ?_
 rw [if_neg (by decide)]
 refine BH ?_
 unfold raiseNew
 refine fu (wpAny_handled ?_)
 show wpAny _ _ (if (Value.ref h != Value.ref a)=true then _ else _) _ _ _
 rw [if_pos (by simpa using Ne.symm ne)]
 exact fu (Da (un (fu (up fun s4 I4=>Gf (fin s4 I4)))))
end
section
variable {M:Model} {A:Around} {E:Value→Shared→Prop} {s:Shared}
theorem k9.eqv {T e:Addr}{fl:Value}{h h':Heap}(F:k9 T h e fl)(k:∀ b,h'.get? b=h.get? b):k9 T h' e fl:=by
 obtain ⟨oe,vs,oT,ts,he,hd,h1,hTe,hT,Ip,h3⟩:=F
 exact ⟨oe,vs,oT,ts,(k _).trans he,hd,h1,hTe,(k _).trans hT,Ip,h3⟩
theorem oO {env:Env}{L T e:Addr}{Q:Unit→Shared→Prop}(hf:env.frame=some L)(hF:k9 T s.heap e (rawInt L))(h:Q () s):wpAny M A (noteFrame (.ref e) env) Q E s:=by
 obtain ⟨oe,vs,oT,ts,he,hd,h1,hTe,hT,Ip,h3⟩:=hF
 unfold noteFrame
 simp only [hf]
 refine fu (Cp he hd h1 ?_)
 rw [if_pos (show (Value.ref T != Value.none)=true from by simp)]
 refine fu (Cp hT Ip h3 ?_)
 rw [if_pos (by simp)]
 exact BH h
theorem jo {env:Env}{L T e:Addr}{Q:Unit→Shared→Prop}(hf:env.frame=some L)(hF:k9 T s.heap e (rawInt L))(h:∀ h',(∀ b,h'.get? b=s.heap.get? b)→Q () { s with heap:=h' }):wpAny M A (setFlight (.ref e) env.frame) Q E s:=by
 obtain ⟨oe,vs,oT,ts,he,hd,h1,hTe,hT,Ip,h3⟩:=hF
 unfold setFlight
 simp only [hf]
 refine fu (Cp he hd h1 ?_)
 rw [if_pos (show (Value.ref T != Value.none)=true from by simp)]
 exact C9 hT Ip (Cs.mp h3).1 (h _ fun b=>ie hT (ig Ip h3) b)
theorem vt {α:Type}{what:String}{env:Env}{L T e:Addr}{Q:α→Shared→Prop}(hf:env.frame=some L)(hF:k9 T s.heap e (rawInt L))(h:∀ h',(∀ b,h'.get? b=s.heap.get? b)→E (.ref e) { s with heap:=h' }):wpAny M A (PySem.passOn what (.ref e) env:Sem α) Q E s:=by
 obtain ⟨oe,vs,oT,ts,he,hd,h1,_⟩:=id hF
 unfold PySem.passOn
 refine fu (Cp he hd h1 ?_)
 rw [if_neg (show ¬ ((Value.ref T == Value.none)=true) from by simp)]
 exact fu (jo hf hF fun h' k=>Gf (h h' k))
theorem vv {env:Env}{L T e:Addr}(hf:env.frame=some L)(hF:k9 T s.heap e (rawInt L))(h:∀ h',(∀ b,h'.get? b=s.heap.get? b)→E (.ref e) { s with heap:=h' }):cameBackBy M A env E (.ref e) s:=by
 obtain ⟨oe,vs,oT,ts,he,hd,h1,_⟩:=id hF
 unfold cameBackBy
 refine fu (Cp he hd h1 ?_)
 rw [if_neg (show ¬ ((Value.ref T == Value.none)=true) from by simp)]
 exact jo hf hF fun h' k=>h h' k
end
def j4 (X:Cx)(E:XK):Prop:=∀ (G6:List (Addr × Obj)) (σ:St) (H:Hp) (s:Shared) (a C:Addr) (d:Option Addr) (c:Bool) (T:Addr),Inv X G6 σ H s→H a=some (Exo a C d false c)→X.s₀.heap.objs.size≤T→H T=none→T≠X.env.locals→T∉X.fs→(∀ p∈X.pn++G6,p.1≠T) →
 k9 T s.heap a (rawInt X.env.locals)→E (.ref a) none H→X.xe (.ref a) s
section
variable {P:Program} {w:World} {K:PySem.W.Frag} {mg:Str→Option Value} {base:Heap} {N:List Str} {qual:Str} {scope:Scope} {f:Addr} {cd:Value} {A:Around} {outer:List Env} {s:Shared} {H:Hp} {E:XK}
theorem j5:j4 (jD (CXe P w) P w K mg base N qual scope f cd A outer s H E) E:=by
 intro G6 σ H1 s1 a C d c T I ha hT0 hTH hTL hTf hTp hF hE
 show wpAny _ _ (leaving _ _) _ _ _
 unfold leaving
 refine fu (oO rfl hF (fR hF fun h' f1 f2 f3 _=>?_))
 have neT:∀ b u,H1 b=some u→b≠T:=fun b u q z=>by rw [z,hTH] at q;cases q
 have un:Un (frs (jD (CXe P w) P w K mg base N qual scope f cd A outer s H E).stack) [T] H1 H1 s1.heap h' :=
  ⟨fun b o q _ _ hb=>f2 b o (by simpa using hb) q,fun b o q _ _ hb=>⟨o.slots,f2 b o (by simpa using hb) q⟩,fun b o _ n _=>n,fun b o q _=>f3 b ⟨o,q⟩,fun _ _ q=>q,fun _ _ _ q=>q,fun _ ps q=>⟨#[],by rw [q];simp⟩⟩
 have hok:HOk P w H1 h':=fun b u q=>(I.hok b u q).stay (fun x v hx q'=>f2 x v (by
  rcases hx with rfl | hx
  ·exact neT _ _ q
  ·exact neT _ _ hx) q') (fun _ q=>q) fun _ _ q=>q
 have J:=I.call' (s':={ s1 with heap:=h' }) (ch:=[T]) rfl un hok I.bare (fun b z=>by
  obtain rfl:b=T:=by simpa using z
  refine ⟨.inr hT0,hTL,fun x c e z=>?_,hTp⟩
  obtain ⟨v,hc⟩:=I.cell x c e
  obtain ⟨oe,vs,oT,ts,_,_,_,_,hT,Ip,_⟩:=hF
  subst z
  obtain ⟨o,ho,hd⟩:=hc
  rw [hT] at ho;cases ho
  rw [Ip] at hd;cases hd)
 exact ⟨a,C,d,c,H1,rfl,J.os,J.bare,J.base,J.hok,ha,⟨T,f1⟩,hE⟩
end
def tE (a C:Addr)(d:Option Addr)(c:Bool)(T:Addr):Heap→Prop:=fun h =>
 ∃ oe vs,h.get? a=some oe∧oe.cls = .ref C∧oe.dict=d∧oe.data = .fields vs∧vs.size=6∧vs[1]? = some (.ref T)∧(c=true→vs[2]? = some .none)
theorem vw {P:Program}{w:World}{H:Hp}{h:Heap}{a C:Addr}{d:Option Addr}{c:Bool}{T:Addr}(x:tE a C d c T h):bK P w H h a (.ext (tE a C d c T)) :=
 ⟨x,let ⟨oe,_,q,_⟩:=x;⟨oe,q⟩,fun _ _ y k=>let ⟨oe,vs,q,r⟩:=y;⟨oe,vs,k _ q,r⟩⟩
section
variable {X:Cx} {G6:List (Addr × Obj)} {σ:St} {H:Hp} {s:Shared} {E:XK} {e:Expr} {te:TE} {pos:Pos}
theorem Bv {i:Nat}{n:Str}{M:Model}{A:Around}{v h:Value}{hpos:Pos}{what:String}(Hs:X.stack=X.env::X.outer)(H_:X.env.frame=some X.env.locals)(hN:X.N.Nodup)(hi:X.N[i]? = some n)(HQ:X.env.scope.names.lookup n=some .local)
  (ro:j4 X E) (ok:X.Ok) (hA:A.frames=some X.stack) (x:XR (Hd X h) G6 σ E v s) :
  wpAny M A (noteFrame v X.env) (fun _ s₃'=>wpAny M A (do bindName X.env n .none;unbindBehindTheSuite X.env n hpos)
       (fun _ s₄=>wpAny M A (PySem.passOn what v X.env:Sem Flow) (fun _ _=>False) (notedBy M A X.env fun x s'=>cameBackBy M X.A X.env X.xe x s') s₄)
       (fun y s₄=>wpAny M A (setFlight v none) (fun _ s₅=>(notedBy M A X.env fun x s'=>cameBackBy M X.A X.env X.xe x s') y s₅) (notedBy M A X.env fun x s'=>cameBackBy M X.A X.env X.xe x s') s₄) s₃') (notedBy M A X.env fun x s'=>cameBackBy M X.A X.env X.xe x s') s:=by
 obtain ⟨a,C,d,c,H',rfl,I0,ha,hE⟩:=x
 have I1:=I0.offHold ok
 obtain ⟨oe,vs,g1,g2,g3,g4,g5,g6,g7⟩:=bx I1.hok ha
 refine vg (base:=X.base) (outer:=X.outer) (L:=X.env.locals) (by rw [hA,Hs]) (by rw [← Hs];exact I1.stack) H_ g1 g4 (.inl (g6 rfl)) fun h' Nt=>?_
 obtain ⟨un,hok⟩:=k_ I1.hok ha (by rw [← Hs];exact I1.stkFree) Nt
 have J:=I1.call' (s':={ s with heap:=h' }) rfl (by rw [Hs];exact un) hok I1.bare (fun b z=>absurd z (by simp))
 obtain ⟨T,hTn,hF⟩:=Nt.fly
 obtain ⟨of,fs,oT,ts,he,hd,h1,hTe,hT,Ip,h3⟩:=id hF
 have hTH:upd H' a (Exo a C d false c) T=none:=by rw [ay hTe];exact I1.hok.fresh hTn
 have hTL:T≠X.env.locals:=fun z=>absurd I1.lt (by rw [← z];exact Gb.mpr hTn)
 have hTf:T∉X.fs:=I1.nofs hTn
 have hTp:∀ p∈X.pn++G6,p.1≠T:=fun p hp z=>by
  have:=BU (I1.pin p hp).1
  rw [z] at this
  exact absurd this (Gb.mpr hTn)
 have hT0:X.s₀.heap.objs.size≤T:=Cn I1.sz hTn
 have eJ:upd H' a (Exo a C d false c) a=some (Exo a C d false c):=af ..
 obtain ⟨oe',vs',k1,k2,k3,k4,k5,k6,k7⟩:=bx J.hok eJ
 have ef:oe'=of:=by
  have z:h'.get? a=some oe':=k1
  rw [he] at z;cases z;rfl
 subst ef
 have ev:vs'=fs:=by rw [k4] at hd;cases hd;rfl
 subst ev
 have J2:=J.write (t':=s.toks) (x:=a) (e:=a) (h':=h') (o:=.ext (tE a C d c T)) (by rw [eJ];exact True.intro) (.inl rfl) (fun _ _ _ q=>q) ⟨_,k1⟩ (vw ⟨_,_,k1,k2,k3,k4,k5,h1,k7⟩)
 rw [b_] at J2
 have hTH2:upd H' a (.ext (tE a C d c T)) T=none:=by rw [ay hTe];exact I1.hok.fresh hTn
 have J3:Inv X ((T,oT)::G6) σ (upd H' a (.ext (tE a C d c T))) { s with heap:=h' } :=
  ⟨J2.ok,J2.os,J2.bare,J2.base,J2.loc,J2.cell,J2.free,J2.freeC,fun p hp=>by
   rcases BR.mp hp with hp | hp
   ·exact J2.pin p (BR.mpr (.inl hp))
   ·rcases B2.mp hp with rfl | hp
    ·exact ⟨hT,hTH2,hTL,hTf,fun v z=>by rw [Ip] at z;cases z⟩
    ·exact J2.pin p (BR.mpr (.inr hp)),J2.hok,J2.len⟩
 refine fS J3 hN hi HQ fun s4 J4=>?_
 have e4:upd H' a (.ext (tE a C d c T)) a=some (.ext (tE a C d c T)):=af ..
 obtain ⟨⟨o4,v4,m1,m2,m3,m4,m5,m6,m7⟩,_,_⟩:=J4.hok a _ e4
 have mT:=(J4.pin (T,oT) (BR.mpr (.inr (Ca)))).1
 have F4:k9 T s4.heap a (rawInt X.env.locals):=⟨o4,v4,oT,ts,m1,m4,m6,hTe,mT,Ip,h3⟩
 have J5:Inv X G6 (σ.set i none) (upd H' a (.ext (tE a C d c T))) s4 :=
  ⟨J4.ok,J4.os,J4.bare,J4.base,J4.loc,J4.cell,J4.free,J4.freeC,fun p hp=>J4.pin p (by
   rcases BR.mp hp with hp | hp
   ·exact BR.mpr (.inl hp)
   ·exact BR.mpr (.inr (BZ _ hp))),J4.hok,J4.len⟩
 have J6:=J5.write (t':=s4.toks) (x:=a) (e:=a) (h':=s4.heap) (o:=Exo a C d false c) (by rw [e4];exact True.intro) (.inl rfl) (fun _ _ _ q=>q) ⟨_,m1⟩ (gE ⟨_,_,m1,m2,m3,m4,m5,(fun z=>by cases z),m7⟩)
 rw [b_] at J6
 refine vt H_ F4 fun h5 k5=>?_
 have F5:k9 T h5 a (rawInt X.env.locals):=F4.eqv k5
 refine oO (s:={ s4 with heap:=h5 }) H_ F5 (vv (s:={ s4 with heap:=h5 }) H_ F5 fun h6 k6=>?_)
 have J7:Inv X G6 (σ.set i none) (upd H' a (Exo a C d false c)) { s4 with heap:=h6 }:=J6.kept (t':=s4.toks) (fun b u q=>(k6 b).trans ((k5 b).trans q))
 exact ro G6 _ _ _ a C d c T J7 (af ..) hT0 hTH hTL hTf hTp (F5.eqv k6) hE
def Am (K:PySem.W.Frag)(R:Addr)(i:Nat)(tb:XK→TS)(te:TE)(E:XK):TS:=fun D σ H =>
 tb (fun v _ H'=>∃ a C d c bm,v = .ref a∧H' a=some (Exo a C d false c)∧XCl K C bm∧(Value.ref C::bm).contains (.ref R)=true∧te (σ.set i (some (.ref a))) H' (j3 K a E)) D σ H
set_option maxHeartbeats 800000 in
theorem vx {n r:Str}{i:Nat}{R:Addr}{bmR:List Value}{body:List Stmt}{np hpos rp pp:Pos}{kk:Nat}{tb:XK→TS}(Hs:X.stack=X.env::X.outer)(H_:X.env.frame=some X.env.locals)(hN:X.N.Nodup)(hi:X.N[i]? = some n)(HQ:X.env.scope.names.lookup n=some .local)
  (hg:Gl X r) (hm:X.mg r=some (.ref R)) (xR:XCl X.K R bmR) (ro:j4 X E) (hb:∀ E,PSE X E body (tb E)) (hs:∀ a,PE (Hd X (.ref a)) e te) (HM:(r == ("__debug__":Str))=false:=by decide) :
  PS X (.Try body [.ExceptHandler (some (.Name r np)) (some n) [.Raise (some e) (some (.Constant .none kk pp)) rp] hpos] [] [] pos) (Am X.K R i tb te E):=by
 intro G6 s σ H D I h
 refine wpAny_Try_except (CB (hb _ G6 s σ H D I h) (fun f s₁ hf=>?_) fun e s₁ he=>?_)
 ·cases f with
  | next=>exact DE hf
  | brk=>exact hf
  | cont=>exact hf
  | ret u=>exact hf
 ·obtain ⟨a,C,d,cx,H',rfl,I1,ha,hF,a',C',d',cx',bm,ea',ha',xC,hc,ht⟩:=he
  cases ea'
  have hCC:C=C':=by
   obtain ⟨oe,vs,g1,g2,_⟩:=bx I1.hok ha
   obtain ⟨oe',vs',g1',g2',_⟩:=bx I1.hok ha'
   rw [g1] at g1';cases g1'
   rw [g2] at g2';cases g2';rfl
  subst hCC
  obtain ⟨oe,vs,g1,g2,g3,g4,g5,g6⟩:=bx I1.hok ha
  refine ow (base:=X.base) (env:=X.env) (outer:=X.outer) (L:=X.env.locals) (by rw [I.ok.frames,Hs]) (by rw [← Hs];exact I1.stack) H_ g1 g4 (.inr hF) fun h' Nt=>?_
  obtain ⟨un,hok⟩:=k_ I1.hok ha (by rw [← Hs];exact I1.stkFree) Nt
  have J:=I1.call' (s':={ s₁ with heap:=h' }) rfl (by rw [Hs];exact un) hok I1.bare (fun b z=>absurd z (by simp))
  rw [c9 ha] at J
  obtain ⟨T,_,hT⟩:=Nt.fly
  have JH:=J.hold (.ref a)
  refine wpAny_handleBy_cons (codeAny_handlers_test ?_) (by intro q;cases q)
  refine cf (X:=Hd X (.ref a)) JH hg hm ?_ HM
  obtain ⟨oe2,vs2,k1,k2,_⟩:=bx J.hok ha
  refine tm J.kIn xC xR k1 k2 ?_
  rw [hc]
  refine Fn ?_
  refine fR (s:={ s₁ with heap:=h' }) hT fun h2 _ _ _ same=>?_
  have J2:Inv (Hd X (.ref a)) G6 σ H' { s₁ with heap:=h2 }:=JH.kept (t':=s₁.toks) (fun b u q=>(same rfl b).trans q)
  refine cY (X:=Hd X (.ref a)) J2 hN hi (.inl HQ) (v:=.ref a) rfl (fun s₃ J3=>?_) (.inr HQ)
  refine D9 (CB (yn (F:=fun _ _=>False) rfl (hs a) J3 ht) (fun _ _ z=>False.elim z) fun e s₄ hx=>?_)
  have:=Bv (M:=model X.prog X.w) (A:=(Hd X (.ref a)).A) (hpos:=hpos) (what:="try.except-as") (σ:=σ.set i (some (.ref a))) Hs H_ hN hi HQ ro I.ok JH.ok.frames hx
  exact this
end
end L2
namespace L2
open PySem PySem.Spec PyProof.Rows
open Builtin
theorem eP:fillsNumberSlot (.type "tuple") "mul" = pure false :=
 PySem.fillsNumberSlot_seq (id:="tuple.__mul__") (r:=some (.builtin "tuple.__rmul__")) F.slot_tuple_mul.lookup (by decide +kernel) F.slot_tuple_rmul.lookup (by decide +kernel)
theorem jq:seqRepeat? (.type "tuple")=pure (some (.builtin "tuple.__mul__")):=by
 unfold seqRepeat?
 rw [PySem.seqSlot_of (T:="tuple") (name:="__mul__") (id:="tuple.__mul__") F.slot_tuple_mul.lookup (by decide +kernel),PySem.seqSlot_of (T:="tuple") (name:="__rmul__") (id:="tuple.__rmul__") F.slot_tuple_rmul.lookup (by decide +kernel)]
 rfl
theorem gh (a:Int)(t:Tok)(l:Addr)(items:Array Value)(n:Nat)(od:Option Addr)(Hw:Array (Option Value)) :
  Meets (Builtin.«int.__rmul__» ⟨[.int a t,.ref l],[]⟩) (fun _ R s=>s.heap.get? l=some { cls:=.type "tuple",dict:=od,data:=.seq items n,slots:=Hw }∧R (.ok (.ret Value.notImplemented)) s) :=
 .of_wp fun prog w A R s h=>by
  obtain ⟨hp,g,d,tk,os⟩:=s
  obtain ⟨hl,h⟩:=h
  wp_walk
  exact ⟨_,rfl,h⟩
theorem lF (x:Value)(k:Nat):(List.replicate k #[x]).foldl (· ++ ·) #[]=(List.replicate k x).toArray:=by
 have:=fm [x] k []
 rw [List.nil_append] at this
 have e:(List.replicate k [x]).flatten=List.replicate k x:=by
  clear this
  induction k with
  | zero=>rfl
  | succ k ih=>rw [Dk,CM,ih];rfl
 rw [e] at this
 exact this
theorem iq (k:Int)(t:Tok)(l:Addr)(x:Value)(n:Nat)(od:Option Addr)(Hw:Array (Option Value))(h2:2≤k)(h9:k < 1000) :
  Meets (Builtin.«tuple.__mul__» ⟨[.ref l,.int k t],[]⟩) (fun _ R s=>s.heap.get? l=some { cls:=.type "tuple",dict:=od,data:=.seq #[x] n,slots:=Hw }∧R (.ok (.ret (.ref s.heap.objs.size))) { s with heap:=s.heap.push { cls:=.type "tuple",data:=.seq ((List.replicate k.toNat #[x]).foldl (· ++ ·) #[]) } }) :=
 .of_wp fun prog w A R s h=>by
  obtain ⟨hp,g,d,tk,os⟩:=s
  obtain ⟨hl,h⟩:=h
  wp_walk
  rw [if_neg (by simp only [Bool.or_eq_true,C6];omega)]
  wp_walk
  dsimp only
  rw [if_neg (by simp;omega)]
  rw [if_neg (by simp;omega)]
  rw [if_neg (by simp;omega)]
  rw [if_neg (by simp [Tuple.tupleTooMany,sizeLine];omega)]
  wp_walk
  rw [lF] at h ⊢
  rw [if_neg (by simp [Di];omega)]
  wp_walk
  exact ⟨_,rfl,h⟩
theorem j6 (t:Tok)(l:Addr)(x:Value)(n:Nat)(od:Option Addr)(Hw:Array (Option Value)) :
  Meets (Builtin.«tuple.__mul__» ⟨[.ref l,.int 1 t],[]⟩) (fun _ R s=>s.heap.get? l=some { cls:=.type "tuple",dict:=od,data:=.seq #[x] n,slots:=Hw }∧R (.ok (.ret (.ref l))) s) :=
 .of_wp fun prog w A R s h=>by
  obtain ⟨hp,g,d,tk,os⟩:=s
  obtain ⟨hl,h⟩:=h
  wp_walk
  exact ⟨_,rfl,h⟩
section
variable {X:Cx}
inductive yo (x:V)(y:V)(H:Hp)(Q:VK):Prop
 | mk:∀ (a:Addr) (k:Int) (z:V),(x = .ref a)→(y = .int k)→(H a=some (.tup [z]))→(1≤k)→(k < 1000)→(∀ (p:Addr) (H':Hp),aF H H'→H' p=some (.tup (List.replicate k.toNat z))→Q (.ref p) H')→yo x y H Q
theorem lG {z:V}{u:Value}(r:bH z u):∀ n,bo (List.replicate n z) (List.replicate n u)
 | 0=>.nil
 | n+1=>.cons r (lG r n)
theorem oP:OpR X (binaryOp .Mult) yo:=by
 intro G6 s σ H x y v u Q I rx ry h
 obtain ⟨a,k,z,rfl,rfl,hH,h1,h9,q⟩:=h
 cases rx
 obtain ⟨t,rfl⟩:=ry
 obtain ⟨its,r,pl,hz⟩:=I.tuple (SqT.of hH)
 obtain ⟨u0,rfl,r0⟩:=dC r
 obtain ⟨o,e,c,n,d⟩:=pl
 obtain ⟨oc,od,odt,Hw⟩:=o
 have c:oc = .type "tuple":=c
 have d:odt = .seq #[u0] n:=d
 subst c d
 refine Fj (T:="tuple") (U:="int") (by decide) ⟨_,e,rfl⟩ (fun s'=>Ga s' k t) eP F.fills_int_mul EV jq F.slot_int_index.lookup
  (Ey EV (Ga s k t) F.entry_int_rmul (F.args_int_rmul_2 _ _) (gh k t a #[u0] n od Hw) ⟨e,rfl,⟨_,e,rfl⟩,?_⟩)
 by_cases k1:k=1
 ·subst k1
  refine Ey F.slot_tuple_mul ⟨_,e,rfl⟩ F.entry_tuple_mul (F.args_tuple_mul_2 _ _) (j6 t a u0 n od Hw) ⟨e,?_⟩
  exact ⟨.ref a,H,I,rfl,q a H (aF.refl _) hH⟩
 ·refine Ey F.slot_tuple_mul ⟨_,e,rfl⟩ F.entry_tuple_mul (F.args_tuple_mul_2 _ _) (iq k t a u0 n od Hw (by omega) h9) ⟨e,?_⟩
  rw [lF]
  have Hr:sizeLine=16777216:=Di
  have I2:Inv X G6 σ (upd H s.heap.objs.size (.tup (List.replicate k.toNat z))) { s with heap:=s.heap.push { cls:=.type "tuple",data:=.seq (List.replicate k.toNat u0).toArray },toks:=s.toks } :=
   I.laid (fun b o e=>BD _ e) (BG _) ⟨by rw [C5];omega,List.replicate k.toNat u0,lG r0 _,⟨_,B5 _ rfl,rfl,_,rfl⟩,NoD.new _ _ rfl⟩
  exact ⟨.ref s.heap.objs.size,_,I2,rfl,q _ _ (aF.new (I.hok.fresh (BG _))) af⟩
end
end L2
namespace Kx
open PySem PySem.Spec PyProof.Rows L2 Wd
def XQ (C:Addr)(H:Hp)(a:Addr)(z:Str)(k:Nat):Prop:=∃ dx c,H a=some (Exo a C (some dx) false c)∧H dx=some (Xdt dx [("word",.str z),("at",.int (k:Nat))])
theorem tF {C:Addr}{H:Hp}{a dx:Addr}{z:Str}{k:Nat}{c c':Bool}(ha:H a=none)(hd:H dx=none)(ne:dx≠a) :
  XQ C (upd (upd (upd H a (Exo a C (some dx) true c)) dx (Xdt dx (rD [] ((["word","at"]:List Str).zip [.str z,.int (k:Nat)])))) a (Exo a C (some dx) false c')) a z k:=by
 refine ⟨dx,c',af,?_⟩
 rw [ay ne,af]
 rfl
theorem jr {H:Hp}{a dx:Addr}{o o' o2:HO}(ha:H a=none)(hd:H dx=none):aF H (upd (upd (upd H a o) dx o') a o2):=fun b u e=>by
 have ne:∀ {x:Addr},H x=none→b≠x:=fun h z=>by rw [z,h] at e;cases e
 rw [ay (ne ha),ay (ne hd),ay (ne ha)];exact e
theorem nkT {Q:Bool→Hp→Prop}{H:Hp}(h:Q false H):mv Q true H:=h
inductive oQ (vs:List V)(H:Hp)(Q:VK)(Hc:XK):Prop
 | mk:∀ (a:Addr) (xs:List V) (ss:List Stp),(vs=[.ref a])→(H a=some (.tup xs))→(bP H xs ss)→(ss.length≤2000)→(∀ H',aF H H'→Q (.bl true) H')→oQ vs H Q Hc
inductive oR (CP:Addr)(vs:List V)(H:Hp)(Q:VK)(E:XK):Prop
 | mk:∀ (a p:Addr) (R:List (List L)) (w:List L) (xs:List V) (ss:List Stp),(vs=[.ref a,tx w,.ref p])→(H a=some (.tup (R.map tx)))→(Rg R)→(w.length≤2000)→(H p=some (.tup xs))→(bP H xs ss)→(ss.length≤2000) →
  (∀ u,bz R w ss 0 = .inl u→∀ H',aF H H'→Q (tx u) H')→(∀ i,bz R w ss 0 = .inr i→∀ b H',XQ CP H' b "step" i→aF H H'→E (.ref b) none H')→oR CP vs H Q E
inductive j7 (CP:Addr)(vs:List V)(H:Hp)(Q:VK)(E:XK):Prop
 | mk:∀ (a p:Addr) (R:List (List L)) (w:List L) (xs:List V) (ss:List Stp),(vs=[.ref a,tx w,.ref p])→(H a=some (.tup (R.map tx)))→(Rg R)→(w.length≤2000)→(H p=some (.tup xs))→(bP H xs ss)→(ss.length≤2000) →
  (bz R w ss 0 = .inl []→∀ H',aF H H'→Q (.bl true) H')→(∀ u,bz R w ss 0 = .inl u→u≠[]→∀ b H',XQ CP H' b "end" 0→aF H H'→E (.ref b) none H')→(∀ i,bz R w ss 0 = .inr i→∀ b H',XQ CP H' b "step" i→aF H H'→E (.ref b) none H')→j7 CP vs H Q E
def wm:List L ⊕ Nat→PyData
 | .inl []=>.bool true
 | .inl (_::_)=>.tuple [.str "end",.int (0:Nat)]
 | .inr i=>.tuple [.str "step",.int (i:Nat)]
theorem yp:∀ k:Nat,k < 2001→(PyData.int (k:Nat)).leavesShort 40=true∧(PyData.int (k:Nat)).weight≤400:=by decide +kernel
theorem yq {k:Nat}(hk:k < 2001):Sm (.int (k:Nat)):=by
 have lg:=yi (n:=k) (BX hk (by decide))
 obtain ⟨h1,h2⟩:=yp k hk
 exact ⟨BM lg,rfl,CC _,h1,h2,fun i e=>by cases e;exact lg⟩
theorem oS {z:Str}{k:Nat}(hz:Sm (.str z))(hk:k < 2001):Sh (.tuple [.str z,.int (k:Nat)]):=by
 refine vb (fun d hd=>?_) (by simp)
 rcases B2.mp hd with rfl | hd
 ·exact hz
 ·rw [BE] at hd
  subst hd
  exact yq hk
theorem yr:Sm (.str "end"):=⟨rfl,rfl,by decide,by decide +kernel,by decide +kernel,fun i e=>by cases e⟩
theorem vy:Sm (.str "step"):=⟨rfl,rfl,by decide,by decide +kernel,by decide +kernel,fun i e=>by cases e⟩
theorem tG {R:List (List L)}{w:List L}{ss:List Stp}(hw:w.length≤2000)(hn:ss.length≤2000):Sh (wm (bz R w ss 0))∧∀ i,wm (bz R w ss 0) = .int i→i.natAbs.log2 < 1920:=by
 obtain ⟨_,h2⟩:=gF (R:=R) (w:=w) (ss:=ss) (i:=0) hw
 cases e:bz R w ss 0 with
 | inl u =>
  cases u with
  | nil=>exact ⟨zO (va true),fun i e=>by cases e⟩
  | cons x u=>exact ⟨oS yr (by decide),fun i e=>by cases e⟩
 | inr i =>
  have:=h2 i e
  exact ⟨oS vy (by omega),fun i e=>by cases e⟩
def GdS (R:List (List L)):Stp→Prop
 | .out n=>n≤2000
 | .inn n _=>n≤2000
 | .rng n u m=>n≤2000∧u∈trn R∧m≤400
theorem yt {R:List (List L)}{w u:List L}{s:Stp}(h:f_ R w s=some u):stB R w s=true∧u=chg w s:=by
 unfold f_ at h
 split at h
 ·rename_i q
  rw [Cw] at q
  cases h
  exact ⟨q.1,rfl⟩
 ·cases h
theorem An {R:List (List L)}{w:List L}{s:Stp}(hR:∀ u∈trn R,u.length≤400)(hw:w.length≤2000)(h:stB R w s=true):GdS R s:=by
 cases s with
 | out n =>
  have h:(decide (n+1 < w.length) && decide (w[n+1]? = (w[n]?).map inv))=true:=h
  rw [Cw,C6] at h
  show n≤2000
  omega
 | inn n x =>
  have h:decide (n≤w.length)=true:=h
  rw [C6] at h
  show n≤2000
  omega
 | rng n u m =>
  have h:((decide (m≤u.length) && decide (n+m≤w.length) && decide ((w.drop n).take m=u.take m)) && decide (u∈trn R))=true:=h
  simp only [Cw,C6] at h
  have:=hR u h.2
  exact ⟨by omega,h.2,by omega⟩
theorem bP.drop {H:Hp}:∀ {xs:List V} {ss:List Stp} (n:Nat),bP H xs ss→bP H (xs.drop n) (ss.drop n)
 | _,_,0,h=>h
 | _,_,n+1,.nil=>.nil
 | _,_,n+1,.cons h hs r=>r.drop n
theorem bP.take {H:Hp}:∀ {xs:List V} {ss:List Stp} (n:Nat),bP H xs ss→bP H (xs.take n) (ss.take n)
 | _,_,0,h=>.nil
 | _,_,n+1,.nil=>.nil
 | _,_,n+1,.cons h hs r=>.cons h hs (r.take n)
theorem bP.cut {H:Hp}{xs:List V}{ss:List Stp}(h:bP H xs ss)(lo hi:Option Int):∃ ts,bP H (eG xs lo hi) ts∧ts.length≤ss.length∧∀ s∈ts,s∈ss:=by
 unfold eG
 exact ⟨_,(h.drop _).take _,by rw [BJ,B0];omega,fun s hs=>Dp (Dg hs)⟩
theorem bP.rev {H:Hp}{xs:List V}{ss:List Stp}(h:bP H xs ss):bP H xs.reverse ss.reverse:=by
 induction h with
 | nil=>exact .nil
 | cons h hs _ ih=>rw [D0,D0];exact ih.snoc h hs
theorem vz {d q:Addr}{H H':Hp}(F:Fd H' d)(s:ba d H H')(h:H' q=none):H q=none:=by
 cases e:H q with
 | none=>rfl
 | some o=>rw [s _ _ (F.ne h) e] at h;cases h
def Shr (R:List (List L))(w:List L)(s:Stp):Prop:=∃ u,f_ R w s=some u∧u.length < w.length
theorem vA {R:List (List L)}{w:List L}{n:Nat}(hw:w.length≤2000)(h:jP w n=true):Shr R w (.out n):=by
 have h':=h
 unfold jP at h'
 rw [Cw,C6] at h'
 have hl:(chg w (.out n)).length=w.length - 2:=by unfold chg;rw [BB,BJ,B0];omega
 exact ⟨_,cL (s:=.out n) h (by omega),by omega⟩
theorem vB {R:List (List L)}{w u:List L}{n:Nat}(hw:w.length≤2000)(hn:n≤w.length)(hu:u∈trn R)(h:u.length < 2*(lcp u (w.drop n)).length):Shr R w (.rng n u (lcp u (w.drop n)).length):=by
 obtain ⟨p1,p2⟩:=dE u (w.drop n)
 have l1:=p1.length_le
 have l2:=p2.length_le
 rw [B0] at l2
 have hb:stB R w (.rng n u (lcp u (w.drop n)).length)=true:=by
  show ((decide ((lcp u (w.drop n)).length≤u.length) && decide (n+(lcp u (w.drop n)).length≤w.length) && decide ((w.drop n).take (lcp u (w.drop n)).length=u.take (lcp u (w.drop n)).length)) && decide (u∈trn R))=true
  rw [BM l1,BM (show n+(lcp u (w.drop n)).length≤w.length by omega),BM hu,← FK.mp p1,← FK.mp p2]
  simp
 have hl:(chg w (.rng n u (lcp u (w.drop n)).length)).length < w.length:=by
  unfold chg
  simp only [BB,BJ,B0,bJ]
  omega
 exact ⟨_,cL hb (by omega),hl⟩
inductive eD (vs:List V)(H:Hp)(Q:VK)(Hc:XK):Prop
 | mk:∀ (l p:Addr) (R Vs:List (List L)) (w:List L) (xs:List V) (ss:List Stp),(vs=[.ref l,tx w,.ref p])→(H l=some (.lst (Vs.map tx)))→((∀ x,x∈Vs ↔ x∈trn R))→(w.length≤2000)→(H p=some (.tup xs))→(bP H xs ss)→(ss.length≤4000)→(∀ H',aF H H'→Q (Bu (bz R w ss 0)) H')→eD vs H Q Hc
inductive ir (vs:List V)(H:Hp)(Q:VK)(Hc:XK):Prop
 | mk:∀ (a p:Addr) (R:List (List L)) (w:List L) (xs:List V) (ss:List Stp),(vs=[.ref a,tx w,.ref p])→(H a=some (.tup (R.map tx)))→(Rg R)→(w.length≤2000)→(H p=some (.tup xs))→(bP H xs ss)→(ss.length≤2000)→(∀ x H',Dt H' x (wm (bz R w ss 0))→aF H H'→Q x H')→ir vs H Q Hc
inductive lH (vs:List V)(H:Hp)(Q:VK)(Hc:XK):Prop
 | mk:∀ (l p:Addr) (R Vs:List (List L)) (w:List L) (xs:List V) (ss:List Stp),(vs=[.ref l,tx w,.ref p])→(H l=some (.lst (Vs.map tx)))→((∀ x,x∈Vs ↔ x∈trn R))→(w.length≤2000)→(H p=some (.tup xs))→(bP H xs ss)→(ss.length≤2000)→(∀ x H',Dt H' x (wm (bz R w ss 0))→aF H H'→Q x H')→lH vs H Q Hc
def ShL (R:List (List L))(w:List L)(H:Hp)(q:Addr):Prop:=H q=some (.lst []) ∨ ∃ p s,H q=some (.lst [.ref p])∧H p=some (.tup s.vs)∧Sk s∧Shr R w s
inductive fU (vs:List V)(H:Hp)(Q:VK)(Hc:XK):Prop
 | mk:∀ (d l:Addr) (R Vs:List (List L)) (w:List L),(vs=[.ref d,.ref l,tx w])→(Fd H d)→(H l=some (.lst (Vs.map tx)))→(Tn R Vs)→(Rgs R)→(w.length≤200)→(∀ q H',H q=none→ShL R w H' q→Fd H' d→ba d H H'→Q (.ref q) H')→fU vs H Q Hc
inductive iu (vs:List V)(H:Hp)(Q:VK)(Hc:XK):Prop
 | mk:∀ (d l:Addr) (R Vs:List (List L)) (w:List L),(vs=[.ref d,.ref l,tx w])→(Fd H d)→(H l=some (.lst (Vs.map tx)))→(Tn R Vs)→(Rgs R)→(w.length≤200)→(∀ q p xs ss v H',H' q=some (.tup [.ref p,tx v])→H' p=some (.tup xs)→bP H' xs ss→(∀ s∈ss,GdS R s)→ss.length≤203→Fd H' d→ba d H H'→Q (.ref q) H')→iu vs H Q Hc
inductive iw (vs:List V)(H:Hp)(Q:VK)(Hc:XK):Prop
 | mk:∀ (d l p:Addr) (R Vs:List (List L)) (s:Stp),(vs=[.ref d,.ref l,.ref p])→(Fd H d)→(H l=some (.lst (Vs.map tx)))→(Tn R Vs)→(Rgs R)→(H p=some (.tup s.vs))→(GdS R s)→(∀ q t H',H' q=some (.tup t.vs)→Sk t→Fd H' d→ba d H H'→Q (.ref q) H')→iw vs H Q Hc
inductive j8 (vs:List V)(H:Hp)(Q:VK)(Hc:XK):Prop
 | mk:∀ (d l p:Addr) (R Vs:List (List L)) (xs:List V) (ss:List Stp),(vs=[.ref d,.ref l,.ref p])→(Fd H d)→(H l=some (.lst (Vs.map tx)))→(Tn R Vs)→(Rgs R)→(H p=some (.tup xs))→(bP H xs ss)→(∀ s∈ss,GdS R s)→(ss.length≤203)→(∀ q ys ts H',H' q=some (.tup ys)→bP H' ys ts→ts.length≤2000→Fd H' d→ba d H H'→Q (.ref q) H')→j8 vs H Q Hc
inductive ix (vs:List V)(H:Hp)(Q:VK)(Hc:XK):Prop
 | mk:(vs=[])→(∀ H',aF H H'→Q (.bl true) H')→ix vs H Q Hc
def plS:Stp→Nat
 | .out n=>n
 | .inn n _=>n
 | .rng n _ _=>n
def rsS:Stp→List V
 | .out _=>[]
 | .inn _ x=>[tx [x]]
 | .rng _ u m=>[tx u,.int (m:Int)]
def atS:Stp→Nat→Stp
 | .out _,n=>.out n
 | .inn _ x,n=>.inn n x
 | .rng _ u m,n=>.rng n u m
theorem yu (s:Stp):s.vs = .str s.hd :: .int (plS s:Int)::rsS s:=by cases s <;> rfl
theorem Ao (s:Stp)(n:Nat):(atS s n).vs = .str s.hd :: .int (n:Int)::rsS s:=by cases s <;> rfl
theorem iy (xs:List V)(n:Nat):eG xs none (some (n:Int))=xs.take n:=by
 unfold eG
 rw [HT.cF]
 show (xs.drop 0).take (min n xs.length - 0)=xs.take n
 rw [ED,FV]
 rcases FW n xs.length with h | h
 ·rw [Dv h]
 ·rw [Dh h,BV (BG _),BV h]
theorem js (xs:List V)(n:Nat):eG xs (some (n:Int)) none=xs.drop n:=by
 unfold eG
 rw [HT.cF]
 show (xs.drop (min n xs.length)).take (xs.length - min n xs.length)=xs.drop n
 rw [BV (by rw [B0];omega)]
 rcases FW n xs.length with h | h
 ·rw [Dv h]
 ·rw [Dh h,Dw (BG _),Dw h]
theorem orJ {u:TT}{t e:TS}{D:eQ}{σ:L2.St}{b:Bool}{H:Hp}(ok:Hp→Prop)(body:∀ H',ok H'→t D σ H')(h1:b=true→ok H)(h2:b=false→(∀ H',ok H'→t D σ H')→u σ H (dY t e D σ)):ko u σ (dY t e D σ) b H:=by
 cases b with
 | true=>exact Ak (vq (body _ (h1 rfl)))
 | false=>exact AS (h2 rfl body)
theorem oU {n:Nat}{a:Int}(ha:a≤1):∃ m:Nat,(if (n:Int)+a > 0 then (n:Int)+a else 0)=(m:Int)∧m≤n+1:=by
 split
 ·exact ⟨((n:Int)+a).toNat,by omega,by omega⟩
 ·exact ⟨0,rfl,by omega⟩
theorem bP.rep {H:Hp}{b:Addr}{s:Stp}(h:H b=some (.tup s.vs))(hs:Sk s):∀ n,bP H (List.replicate n (.ref b)) (List.replicate n s)
 | 0=>.nil
 | n+1=>.cons h hs (bP.rep h hs n)
def Pp (H:Hp)(x:V):Prop:=∃ p ys ts,x = .ref p∧H p=some (.tup ys)∧bP H ys ts∧ts.length≤2000
theorem Pp.same {H H':Hp}{x:V}(s:aF H H')(h:Pp H x):Pp H' x:=by
 obtain ⟨p,ys,ts,e,f,r,l⟩:=h
 exact ⟨p,ys,ts,e,s _ _ f,r.same s,l⟩
theorem Pp.sb {H H':Hp}{d:Addr}{x:V}(F:Fd H d)(s:ba d H H')(h:Pp H x):Pp H' x:=by
 obtain ⟨p,ys,ts,e,f,r,l⟩:=h
 exact ⟨p,ys,ts,e,s _ _ (F.neT f) f,r.sb F s,l⟩
inductive iz (vs:List V)(H:Hp)(Q:VK)(Hc:XK):Prop
 | mk:∀ (d a:Addr) (R:List (List L)) (n:Nat),(vs=[.ref d,.ref a,.int (n:Int)])→(Fd H d)→(H a=some (.tup (R.map tx)))→(Rgs R)→(∀ r∈R,r.length≤40)→(1≤n)→(n≤10)→(∀ (u:List L) (H':Hp),u.length≤48*n+6→Fd H' d→ba d H H'→Q (tx u) H')→iz vs H Q Hc
theorem jt:bootBuiltins "ValueError" = some (.type "ValueError"):=by first | rfl | decide +kernel | kernel_rfl
def top (i:Nat):Stmt:=PySem.Challenge.pw_ringwords_k13_nothing_papers.main.body.getD i (.Pass ⟨0,0,0,0⟩)
theorem Bw {α:Type}{us:List α}(h:us.length=0):us=[]:=by
 cases us with
 | nil=>exact rfl
 | cons b us=>cases h
theorem lI {α:Type}{us:List α}(h:us.length=1):∃ a0,us=[a0]:=by
 cases us with
 | nil=>cases h
 | cons a0 us =>
  cases us with
  | nil=>exact ⟨a0,rfl⟩
  | cons b us=>cases h
theorem vC {α:Type}{us:List α}(h:us.length=2):∃ a0 a1,us=[a0,a1]:=by
 cases us with
 | nil=>cases h
 | cons a0 us =>
  cases us with
  | nil=>cases h
  | cons a1 us =>
   cases us with
   | nil=>exact ⟨a0,a1,rfl⟩
   | cons b us=>cases h
theorem jy {α:Type}{us:List α}(h:us.length=3):∃ a0 a1 a2,us=[a0,a1,a2]:=by
 cases us with
 | nil=>cases h
 | cons a0 us =>
  cases us with
  | nil=>cases h
  | cons a1 us =>
   cases us with
   | nil=>cases h
   | cons a2 us =>
    cases us with
    | nil=>exact ⟨a0,a1,a2,rfl⟩
    | cons b us=>cases h
theorem Bx {α:Type}{us:List α}(h:us.length=4):∃ a0 a1 a2 a3,us=[a0,a1,a2,a3]:=by
 cases us with
 | nil=>cases h
 | cons a0 us =>
  cases us with
  | nil=>cases h
  | cons a1 us =>
   cases us with
   | nil=>cases h
   | cons a2 us =>
    cases us with
    | nil=>cases h
    | cons a3 us =>
     cases us with
     | nil=>exact ⟨a0,a1,a2,a3,rfl⟩
     | cons b us=>cases h
section
variable {P:Program} {w:World} {K:PySem.W.Frag} {mg:Str→Option Value} {base:Heap} {aB:Addr}
abbrev oW:Stmt:=top 40
theorem vD:aN ["_law_feed_here","_law_many","_law_cell","_law_mixed","_law_found"] ["_law_feed_here","_law_many"] (ao oW):=⟨rfl,rfl,rfl,by decide +kernel,rfl,by decide +kernel,by decide +kernel⟩
def _root_.Gq {a b c d e}:=@ag a b c d e
def _root_.Gr {a b c d e f g h}:=@ax a b c d e f g h
def _root_.Gu {a b c d e f}:=@cy a b c d e f
def _root_.Gv {a b c d e f g h}:=@bf a b c d e f g h
def _root_.Gw {a b c d e f g h}:=@aq a b c d e f g h
def _root_.Gx {a b} (c) {d e f g}:=@aC a b c d e f g
def _root_.Gy {a b c d e f g}:=@aV a b c d e f g
def _root_.Gz {a b c d e f g h i}:=@ak a b c d e f g h i
def _root_.GA {a b c d e}:=@aa a b c d e
def _root_.GB {a b c}:=@aj a b c
def _root_.GC {a b c d}:=@aK a b c d
theorem yw (D:Df K mg "_law_draw" oW)(T:Bt K w mg aB):Fnc P w K mg base "_law_draw" ["_law_feed_here","_law_many"] 1 cC:=by
 have sc:=vD
 refine D.ok sc (fun _ _ _ _ _ _ us hl=>by obtain ⟨_,_,rfl⟩:=vC hl;rfl) (fun vs H Q E h=>?_) (fun f Hb A outer s H vs Q E hr h=>?_)
 ·obtain ⟨d,m,rfl,_⟩:=h
  rfl
 ·obtain ⟨d,m,rfl,F,m0,m1,k⟩:=h
  have hu:=uo hr
  refine ⟨_,(Gq (@gP _ _ _ _ _ _ _ _ _ hu (pv 0) aI (Gr aU (Gu hu (pv 0) aI (fun _ _=>rfl)) ai) rfl) (Gq (Gv (Gw bj (Gu hu (pv 0) aI (fun _ _=>rfl)) ai (aD _)) (Gq (Gx (2) sc.nd rfl (Or.inl rfl) (Gy bI (Gu hu (pv 0) aI (fun _ _=>rfl)) (Gr gs (Gu hu (pv 0) aI (fun _ _=>rfl)) (Gz aW (by rfl) T.len BP (GA (Gu hu (pv 0) aI (fun _ _=>rfl)) ae))) (fun _ _=>rfl))) (Gq (@gP _ _ _ _ _ _ _ _ _ hu (pv 0) aI (Gr aU (Gu hu (pv 0) aI (fun _ _=>rfl)) ai) rfl) (Gq (Gv (Gw e9 (pv 2) (Gr wJ ai ai) (aD _)) (Gq (Gx (3) sc.nd rfl (Or.inl rfl) (Gr gs (Gr e8 (Gr aU (Gr gs (pv 2) ai) (Gr e8 ai (Gu hu (pv 0) aI (fun _ _=>rfl)))) ai) ai)) (Gq (Gx (3) sc.nd rfl (Or.inl rfl) (Gr gs (Gr e8 (Gr aU (Gr dA (pv 3) ai) (Gr e8 ai (Gu hu (pv 0) aI (fun _ _=>rfl)))) ai) ai)) (GB (GC (Gr gs (Gr dA (pv 3) ai) (pv 1)))))) aO) (GB (@gP _ _ _ _ _ _ _ _ _ hu (pv 0) aI (pv 2) rfl))))) aO) (Gq (Gx (4) sc.nd rfl (Or.inl rfl) (Gr gs (Gu hu (pv 0) aI (fun _ _=>rfl)) (pv 1))) (Gq (@gP _ _ _ _ _ _ _ _ _ hu (pv 0) aI (Gr dA (Gu hu (pv 0) aI (fun _ _=>rfl)) (pv 1)) rfl) (GB (GC (pv 4))))))),?_⟩
  obtain ⟨c,i,l,t,ns,hd,hc,Hj,h64⟩:=F.ex
  have dc:c≠d:=gG hc hd (by intro z;cases z)
  have fin:∀ (r i' l' t':Int),0≤r→r < m→Q (.int r) (upd H d (.dK (fkv c i' l' t'))):=fun r i' l' t' h0 h1 =>
   k r _ h0 h1 ⟨c,i',l',t',ns,af,by rw [ay dc];exact hc,Hj,h64⟩ ba.upd
  have c1:∀ o,(upd H d o) c=some (.lst (ns.map V.int)):=fun o=>by rw [ay dc];exact hc
  have hl0:(0:Int) < ((ns.map V.int).length:Int):=by
   rw [BK]
   have:=CW.mpr Hj
   omega
  refine ⟨_,rfl,d,_,rfl,dg hd (nv c i l t),_,_,rfl,rfl,_,rfl,d,_,rfl,dp hd (fJ c i l t) (xm c i l t _),?_⟩
  refine ⟨_,rfl,d,_,rfl,dg af (i4 c i l _),rfl,_,rfl,?_⟩
  refine eI (fun _=>?_) (fun _=>?_)
  rotate_left
  ·refine ⟨_,rfl,d,_,rfl,dg af (i4 c _ _ _),_,rfl,_,_,rfl,rfl,m0,?_⟩
   refine ⟨_,rfl,d,_,rfl,dg af (i4 c _ _ _),_,rfl,_,_,rfl,rfl,⟨m0,by omega⟩,_,rfl,d,_,rfl,dp af (fJ c _ _ _) (ny c _ _ _ _),?_⟩
   refine ⟨_,rfl,?_⟩
   rw [b_]
   exact fin _ _ _ _ (E2 _ (by omega)) (En _ m0)
  obtain ⟨n,hn⟩:=uC Hj i
  refine ⟨_,rfl,d,_,rfl,dg af (nu c i l _),_,rfl,d,_,rfl,dg af (AL c i l _),_,rfl,d,_,rfl,dg af (nu c i l _),c,_,rfl,.inl (SqL.of (c1 _)),_,_,rfl,rfl,hl0,c,_,_,_,rfl,rfl,SqL.of (c1 _),hn,?_⟩
  refine ⟨_,rfl,d,_,rfl,dg af (AL c i l _),_,_,rfl,rfl,_,rfl,d,_,rfl,dp af (fJ c i l _) (Bj c i l _ _),?_⟩
  rw [b_]
  refine ⟨_,rfl,_,_,rfl,rfl,⟨by decide,by decide,by decide⟩,_,_,rfl,rfl,_,rfl,?_⟩
  refine eI (fun _=>?_) (fun _=>?_)
  ·refine ⟨_,rfl,_,_,rfl,rfl,(by show (0:Int) < 2147483629;decide),_,rfl,d,_,rfl,dg af (nv c _ l _),_,_,rfl,rfl,.inl ⟨by decide,by decide⟩,_,_,rfl,rfl,_,_,rfl,rfl,.inr ⟨by decide,by decide⟩,_,_,rfl,rfl,(by show (0:Int) < 2147483647;decide),?_⟩
   refine ⟨_,rfl,_,_,rfl,rfl,⟨by decide,by decide⟩,_,rfl,d,_,rfl,dg af (nv c _ l _),_,_,rfl,rfl,.inl ⟨by decide,by decide⟩,_,_,rfl,rfl,_,_,rfl,rfl,.inr ⟨by decide,by decide⟩,_,_,rfl,rfl,(by show (0:Int) < 2147483587;decide),?_⟩
   refine ⟨_,rfl,_,_,rfl,rfl,⟨by decide,by decide⟩,_,rfl,_,_,rfl,rfl,m0,?_⟩
   exact fin _ _ _ _ (E2 _ (by omega)) (En _ m0)
  ·refine ⟨_,rfl,_,rfl,d,_,rfl,dp af (fJ c _ l _) (ny c _ l _ _),?_⟩
   rw [b_]
   refine ⟨_,rfl,d,_,rfl,dg af (i4 c _ _ _),_,rfl,_,_,rfl,rfl,m0,?_⟩
   refine ⟨_,rfl,d,_,rfl,dg af (i4 c _ _ _),_,rfl,_,_,rfl,rfl,⟨m0,by omega⟩,_,rfl,d,_,rfl,dp af (fJ c _ _ _) (ny c _ _ _ _),?_⟩
   refine ⟨_,rfl,?_⟩
   rw [b_]
   exact fin _ _ _ _ (E2 _ (by omega)) (En _ m0)
abbrev oX:Stmt:=top 39
theorem vE:aN ["_law_script"] ["_law_script"] (ao oX):=⟨rfl,rfl,rfl,by decide +kernel,rfl,by decide +kernel,by decide +kernel⟩
def _root_.GD {a b c d e f g h i j}:=@au a b c d e f g h i j
def _root_.GE {a b c}:=@aA a b c
def _root_.GF {a b c d}:=@br a b c d
def _root_.GG {a b c d e f g h}:=@bD a b c d e f g h
theorem yz (D:Df K mg "_law_feed" oX)(T:Bt K w mg aB):Fnc P w K mg base "_law_feed" ["_law_script"] 1 (nz K):=by
 have sc:=vE
 refine D.ok sc (fun _ _ _ _ _ _ us hl=>by obtain ⟨_,rfl⟩:=lI hl;rfl) (fun vs H Q E h=>?_) (fun f Hb A outer s H vs Q E hr h=>?_)
 ·obtain ⟨a,ns,rfl,_⟩:=h
  rfl
 ·obtain ⟨a,ns,rfl,hS,hlen,k⟩:=h
  have hu:=uo hr
  refine ⟨_,(GB (GC (@um _ _ _ _ _ (@eS _ _ _ _ _ _ _ _ _ aI (Gr mM (@cg _ _ _ _ _ _ _ _ _ iU (by rfl) T.list xo (GA (GD ub (pv 0) aJ (GE ai)) ae) (by decide) (by decide) (by rfl) (by rfl)) (Gr w5 (GF (GA ai ae)) (@cg _ _ _ _ _ _ _ _ _ iL (by rfl) T.int qv (GA (GG bj (Gz aW (by rfl) T.len BP (GA (pv 0) ae)) ai (aD _)) ae) (by decide) (by decide) (by rfl) (by rfl)))) (@eS _ _ _ _ _ _ _ _ _ aI ai (@eS _ _ _ _ _ _ _ _ _ aI ai (@eS _ _ _ _ _ _ _ _ _ aI ai uk)))) rfl rfl (by simp) (by decide)))),?_⟩
  intro p hp
  have s1:aF H (upd H p (.dK [])):=aF.new hp
  have p1:(upd H p (.dK [])) p=some (.dK []):=af
  generalize upd H p (.dK [])=H1 at s1 p1
  refine ⟨_,rfl,_,rfl,a,_,rfl,s1.seq hS,fun q1 hq1=>?_⟩
  rw [zH hlen]
  have s2:aF H1 (upd H1 q1 (.lst (ns.map V.int))):=aF.new hq1
  have l2:(upd H1 q1 (.lst (ns.map V.int))) q1=some (.lst (ns.map V.int)):=af
  generalize upd H1 q1 (.lst (ns.map V.int))=H2 at s2 l2 ⊢
  refine ⟨q1,_,rfl,.inl (SqL.of l2),fun q2 hq2=>?_⟩
  have s3:aF H2 (upd H2 q2 (.lst (ns.map V.int))):=aF.new hq2
  have l3:(upd H2 q2 (.lst (ns.map V.int))) q2=some (.lst (ns.map V.int)):=af
  generalize upd H2 q2 (.lst (ns.map V.int))=H3 at s3 l3 ⊢
  refine ⟨(by show 1≤sizeLine;decide),fun q4 hq4=>?_⟩
  have s4:aF H3 (upd H3 q4 (.lst [V.int 0])):=aF.new hq4
  have l4:(upd H3 q4 (.lst [V.int 0])) q4=some (.lst [V.int 0]):=af
  generalize upd H3 q4 (.lst [V.int 0])=H4 at s4 l4 ⊢
  have s14:aF H H4:=((s1.trans s2).trans s3).trans s4
  refine ⟨_,rfl,a,_,rfl,.inl (s14.seq hS),rfl,.inr ⟨_,rfl,q4,_,_,rfl,rfl,l4,?_,?_,?_,fun q5 hq5=>?_⟩⟩
  ·split <;> decide
  ·split <;> decide
  ·split <;> decide
  have s5:aF H4 (upd H4 q5 (.lst (List.replicate ((if decide (V.int ((ns.map V.int).length:Int)=V.int 0)=true then 1 else 0:Int)).toNat [V.int 0]).flatten)):=aF.new hq5
  have l5:(upd H4 q5 (.lst (List.replicate ((if decide (V.int ((ns.map V.int).length:Int)=V.int 0)=true then 1 else 0:Int)).toNat [V.int 0]).flatten)) q5=_:=af
  generalize upd H4 q5 (.lst (List.replicate ((if decide (V.int ((ns.map V.int).length:Int)=V.int 0)=true then 1 else 0:Int)).toNat [V.int 0]).flatten)=H5 at s5 l5 ⊢
  refine ⟨q2,q5,_,_,rfl,rfl,s5 _ _ (s4 _ _ l3),l5,?_,fun q6 hq6=>?_⟩
  ·have e:(List.replicate ((if decide (V.int ((ns.map V.int).length:Int)=V.int 0)=true then 1 else 0:Int)).toNat [V.int 0]).flatten.length≤1:=by split <;> decide
   have e2:sizeLine=16777216:=Di
   have e3:(ns.map V.int).length=ns.length:=BK ..
   omega
  have el:ns.map V.int++(List.replicate ((if decide (V.int ((ns.map V.int).length:Int)=V.int 0)=true then 1 else 0:Int)).toNat [V.int 0]).flatten=(if ns=[] then [0] else ns).map V.int:=by
   cases ns with
   | nil=>rfl
   | cons n r =>
    have en:¬ (decide (V.int (((n::r).map V.int).length:Int)=V.int 0)=true):=by
     rw [BK,B6]
     simp only [V.int.injEq,C6]
     omega
    rw [if_neg en,if_neg (by simp)]
    simp
  rw [el]
  have s6:aF H5 (upd H5 q6 (.lst ((if ns=[] then [0] else ns).map V.int))):=aF.new hq6
  have l6:(upd H5 q6 (.lst ((if ns=[] then [0] else ns).map V.int))) q6=_:=af
  generalize upd H5 q6 (.lst ((if ns=[] then [0] else ns).map V.int))=H6 at s6 l6 ⊢
  have p6:H6 p=some (.dK []):=s6 _ _ (s5 _ _ (s4 _ _ (s3 _ _ (s2 _ _ p1))))
  have pq:q6≠p:=gG l6 p6 (by intro z;cases z)
  refine ⟨p6,fkv q6 0 0 0,rfl,(by show 4≤15;decide),?_⟩
  rw [zD]
  refine k p _ hp ⟨q6,0,0,0,(if ns=[] then [0] else ns),af,by rw [ay pq];exact l6,?_,?_⟩ fun b o e=>?_
  ·split
   ·simp
   ·assumption
  ·split
   ·decide
   ·omega
  ·rw [ay (aE e hp)]
   exact s6 _ _ (s5 _ _ (s14 _ _ e))
abbrev oY:Stmt:=top 18
theorem vF:aN ["word"] ["word"] (ao oY):=⟨rfl,rfl,rfl,by decide +kernel,rfl,by decide +kernel,by decide +kernel⟩
def _root_.GH {a b c d e f g h i j k l}:=@gM a b c d e f g h i j k l
def _root_.GI {a b c d e f g} (h i j) {k l m n}:=@d3 a b c d e f g h i j k l m n
def _root_.GJ {a b c d e f}:=@cP a b c d e f
def _root_.GK {a b} (c) {d}:=@aX a b c d
theorem yA (D:Df K mg "back" oY)(T:Bt K w mg aB):Fnc P w K mg base "back" ["word"] 1 i8:=by
 have sc:=vF
 refine D.ok sc (fun _ _ _ _ _ _ us hl=>by obtain ⟨_,rfl⟩:=lI hl;rfl) (fun vs H Q E h=>?_) (fun f Hb A outer s H vs Q E hr h=>?_)
 ·obtain ⟨u,rfl,_⟩:=h
  rfl
 ·obtain ⟨u,rfl,hu,k⟩:=h
  have Hr:=a9
  refine ⟨_,(GB (GC (GH C2 PySem.F.slot_str_join PySem.F.type_str_join mZ aI (GA (GI (["letter"]) (["letter"]) ([]) (GJ rfl (by kernel_rfl)) rfl (@ur _ _ _ _ _ _ rfl T.reversed lS (GA (pv 0) ae) (by rfl)) (fun _ _ _ _=>GK (0) (show (["letter"]:List Str).Nodup from by decide +kernel) rfl (Or.inl rfl)) (fun _ _ _ _=>cu) (fun _ _ _ _=>by (exact (@uu _ _ _ _ _ _ _ _ _ T.dB rfl rfl rfl T.mgB (pv 0) (fun _ _=>rfl) (by decide))))) ae)))),?_⟩
  refine ⟨rfl,_,rfl,_,rfl,(by rw [ah];omega),?_⟩
  refine cj (own:=["letter"]) (cap:=[]) (J:=zu (toS u)) u.length (fun i ys σ H'=>H'=H∧ys=qx ((bk u).take i)∧∃ v,σ = [v]) ⟨rfl,rfl,none,rfl⟩ (fun i ys σ H' hi ⟨_,e,_⟩=>?_) (by omega) (fun i ys σ H' hi _=>?_) (fun ys σ H' _=>?_) ?_ ?_
  ·rw [e,fK,BJ];omega
  ·show i < (toS u).cps.size;rw [eV];exact hi
  ·show _=(toS u).cps.size;rw [eV]
  ·rintro i ys σ H1 x H2 N hi ⟨rfl,rfl,v,rfl⟩ ⟨rfl,c,hc,rfl⟩ hN
   rw [eV] at hc
   obtain ⟨y,hy,e⟩:=nj hc
   obtain ⟨t,ht⟩:=T.gB y
   refine ⟨_,rfl,toS [y],toS [inv y],t,by rw [e],ht,hN _ _ _ ⟨rfl,?_,_,rfl⟩⟩
   rw [i_ (xt u hi hy),← i5]
   rfl
  ·rintro ys σ H1 l ⟨rfl,rfl,v,rfl⟩ hl
   rw [BV (by rw [bJ];exact BG _)]
   refine ⟨_,l,(bk u).map fun x=>toS [x],rfl,rfl,SqL.of (by rw [af,kH]),i7 _ (by rw [bJ];omega),?_⟩
   rw [i6]
   exact k _ (aF.new hl)
abbrev iA:Stmt:=top 15
theorem oZ:aN ["thing"] ["thing"] (ao iA):=⟨rfl,rfl,rfl,by decide +kernel,rfl,by decide +kernel,by decide +kernel⟩
def _root_.GL {a b c d e f g}:=@cq a b c d e f g
def _root_.GM {a b} (c) {d e}:=@cR a b c d e
def _root_.GN {a b c d e}:=@cT a b c d e
theorem rK (D:Df K mg "is_letter" iA)(T:Bt K w mg aB)(B:Bk K aB):Fnc P w K mg base "is_letter" ["thing"] 1 (eX K):=by
 have sc:=oZ
 refine D.ok sc (fun _ _ _ _ _ _ us hl=>by obtain ⟨_,rfl⟩:=lI hl;rfl) (fun vs H Q E h=>?_) (fun f Hb A outer s H vs Q E hr h=>?_)
 ·obtain ⟨x,rfl,_⟩:=h
  rfl
 ·obtain ⟨x,rfl,hx,k⟩:=h
  refine ⟨_,(GB (GC (GL (Gz (@cJ _ (K) rfl) (by rfl) T.isinstance bc (GA (pv 0) (GA (GM (.ty "str") rfl T.str xr rfl) ae))) (GN (@xu _ _ _ _ _ _ _ _ _ T.dB rfl rfl B.lo rfl T.mgB (pv 0) (by decide)))))),?_⟩
  cases hx with
  | str z hz =>
   obtain ⟨r,hr1,hr2⟩:=B.all z
   refine ⟨_,rfl,_,_,_,_,rfl,.str z,nD,true,rfl,?_⟩
   refine bY rfl ⟨_,rfl,z,r,rfl,hr1,?_⟩
   rw [hr2]
   exact k
  | oth ty e ns =>
   refine ⟨_,rfl,_,_,_,_,rfl,ty,e,false,rfl,?_⟩
   rw [qC ns] at k
   exact bO rfl k
abbrev vG:Stmt:=top 17
theorem yB:aN ["letter"] ["letter"] (ao vG):=⟨rfl,rfl,rfl,by decide +kernel,rfl,by decide +kernel,by decide +kernel⟩
def _root_.GO {a b} (c) {d e}:=@bT a b c d e
theorem Ap (D:Df K mg "number_of" vG)(T:Bt K w mg aB)(S:∃ t,mg "SMALL" = some (.str "abcdef" t)):Fnc P w K mg base "number_of" ["letter"] 1 uK:=by
 have sc:=yB
 refine D.ok sc (fun _ _ _ _ _ _ us hl=>by obtain ⟨_,rfl⟩:=lI hl;rfl) (fun vs H Q E h=>?_) (fun f Hb A outer s H vs Q E hr h=>?_)
 ·obtain ⟨x,rfl,_⟩:=h
  rfl
 ·obtain ⟨x,rfl,k⟩:=h
  obtain ⟨tS,mgS⟩:=S
  refine ⟨_,(GB (GC (GH C2 PySem.F.slot_str_index PySem.F.type_str_index qA (GO (.str "abcdef") rfl mgS ⟨_,rfl⟩) (GA (@ku _ _ _ _ _ _ _ _ _ C2 FO FP kD (pv 0) (by rfl) (by rfl)) ae)))),?_⟩
  exact ⟨rfl,_,rfl,rfl,_,rfl,rfl,(by rw [ah];show 1≤5592405;decide),_,_,_,_,rfl,rfl,xy x,k⟩
abbrev o3:Stmt:=top 16
theorem vH:aN ["many","thing"] ["many","thing"] (ao o3):=⟨rfl,rfl,rfl,by decide +kernel,rfl,by decide +kernel,by decide +kernel⟩
def _root_.GP {a b c d}:=@eE a b c d
def _root_.GQ {a b c}:=@bV a b c
def _root_.GR {a b c d e f g h i j k}:=@aG a b c d e f g h i j k
theorem yC (D:Df K mg "is_word" o3)(T:Bt K w mg aB)(Hl:Fnc P w K mg base "is_letter" ["thing"] 1 (eX K))(F_num:Fnc P w K mg base "number_of" ["letter"] 1 uK):Fnc P w K mg base "is_word" ["many","thing"] 2 (uL K):=by
 have sc:=vH
 refine D.ok sc (fun _ _ _ _ _ _ us hl=>by obtain ⟨_,_,rfl⟩:=vC hl;rfl) (fun vs H Q E h=>?_) (fun f Hb A outer s H vs Q E hr h=>?_)
 ·obtain ⟨m,x,rfl,_⟩:=h
  rfl
 ·obtain ⟨m,x,rfl,m1,m2,hx,k⟩:=h
  have Hr:=a9
  refine ⟨_,(Gq (Gv (GP (GQ (Gz (@cJ _ (K) rfl) (by rfl) T.isinstance bc (GA (pv 1) (GA (GM (.ty "str") rfl T.str xr rfl) ae))) (fun _=>rfl))) (GB (GC dX)) aO) (GB (GC (Gz (@du _ rfl) (by rfl) T.all xq (GA (GI (["sign","many"]) (["sign"]) ([0]) (GJ rfl (by kernel_rfl)) rfl (@mY _ _ _ _ (pv 1)) (fun _ _ _ _=>GK (0) (show (["sign","many"]:List Str).Nodup from by decide +kernel) rfl (Or.inl rfl)) (fun _ _ _ _=>cu) (fun _ _ _ _=>by (exact GL (by (exact (GR Hl hr (by decide) rfl (GA (pv 0) ae)))) (by (exact GN (by (exact GG e9 (by (exact (GR F_num hr (by decide) rfl (GA (pv 0) ae)))) (by (exact (pv 1))) (aD _)))))))) ae))))),?_⟩
  cases hx with
  | oth ty e ns =>
   refine ⟨_,rfl,_,_,_,_,rfl,ty,e,_,rfl,?_⟩
   rw [uG ns] at k
   exact k _ (aF.refl _)
  | str z hz =>
   refine ⟨_,rfl,_,_,_,_,rfl,.str z,nD,_,rfl,?_⟩
   refine ⟨_,rfl,_,rfl,?_⟩
   refine cj (own:=["sign"]) (cap:=[0]) (J:=Its z) z.cps.size (fun i ys σ H'=>∃ v:Option V,σ = [v,some (.int m)]∧ys=(((z.cps.toList).take i).map (okC m)).map V.bl∧H'=H) ⟨none,rfl,rfl,rfl⟩ (fun i ys σ H' hi ⟨v,_,e,_⟩=>?_) (by have:z.cps.size≤500:=hz;omega) (fun i ys σ H' hi _=>hi) (fun ys σ H' _=>rfl) ?_ ?_
   ·rw [e,BK,BK,BJ];omega
   ·rintro i ys σ H1 y H2 N hi ⟨v,rfl,rfl,rfl⟩ ⟨rfl,c,hc,rfl⟩ hN
    have hc':z.cps.toList[i]? = some c:=by simpa using hc
    have fin:∀ b,b=okC m c→N ((((z.cps.toList).take i).map (okC m)).map V.bl++[.bl b]) [some (.str ⟨#[c]⟩),some (.int m)] H2:=fun b eb=>hN _ _ _ ⟨_,rfl,by rw [Cu,hc',Cy,Cy,eb];rfl,rfl⟩
    refine ⟨_,rfl,_,rfl,.str _ (by show 1≤500;decide),_,rfl,?_⟩
    cases hl:(ltr c).isSome with
    | false =>
     refine bO hl (fin _ (xB hl).symm)
    | true =>
     obtain ⟨x,e1,e2⟩:=nF hl
     refine bY hl ⟨_,rfl,x,by rw [e1];rfl,_,rfl,?_⟩
     refine ⟨_,_,rfl,rfl,fin _ ?_⟩
     rw [e2,xA]
   ·rintro ys σ H1 l ⟨v,rfl,rfl,rfl⟩ hl
    refine ⟨l,_,rfl,SqL.of af,?_⟩
    rw [BV (by simp),List.all_map]
    exact k _ (aF.new hl)
abbrev j9:Stmt:=top 22
theorem rL:aN ["thing"] ["thing"] (ao j9):=⟨rfl,rfl,rfl,by decide +kernel,rfl,by decide +kernel,by decide +kernel⟩
theorem vI (D:Df K mg "is_whole" j9)(T:Bt K w mg aB)(Tbool:mg "bool" = none):Fnc P w K mg base "is_whole" ["thing"] 1 (jT K):=by
 have sc:=rL
 refine D.ok sc (fun _ _ _ _ _ _ us hl=>by obtain ⟨_,rfl⟩:=lI hl;rfl) (fun vs H Q E h=>?_) (fun f Hb A outer s H vs Q E hr h=>?_)
 ·obtain ⟨x,rfl,_⟩:=h
  rfl
 ·obtain ⟨x,rfl,⟨ty,e1,e2,hx⟩,k⟩:=h
  rw [hx] at k
  refine ⟨_,(GB (GC (GL (Gz (@cJ _ (K) rfl) (by rfl) T.isinstance bc (GA (pv 0) (GA (GM (.ty "int") rfl T.int qv rfl) ae))) (GN (@wB _ _ _ _ (Gz (@cJ _ (K) rfl) (by rfl) T.isinstance bc (GA (pv 0) (GA (GM (.ty "bool") rfl Tbool xQ rfl) ae)))))))),?_⟩
  refine ⟨_,rfl,_,_,_,_,rfl,ty,e1,_,rfl,?_⟩
  rename_i b1 b2
  cases b1 with
  | false=>exact iG k
  | true=>exact mW ⟨_,rfl,_,_,_,_,rfl,ty,e2,_,rfl,k⟩
abbrev j_:Stmt:=top 26
theorem rM:aN ["thing"] ["thing"] (ao j_):=⟨rfl,rfl,rfl,by decide +kernel,rfl,by decide +kernel,by decide +kernel⟩
theorem vJ (D:Df K mg "is_count" j_)(IB:Fnc P w K mg base "is_whole" ["thing"] 1 (jT K)):Fnc P w K mg base "is_count" ["thing"] 2 (oG K):=by
 have sc:=rM
 refine D.ok sc (fun _ _ _ _ _ _ us hl=>by obtain ⟨_,rfl⟩:=lI hl;rfl) (fun vs H Q E h=>?_) (fun f Hb A outer s H vs Q E hr h=>?_)
 ·obtain ⟨x,rfl,_⟩:=h
  rfl
 ·obtain ⟨x,rfl,hx,k⟩:=h
  refine ⟨_,(GB (GC (GL (GR IB hr (by decide) rfl (GA (pv 0) ae)) (GN (GG wK (pv 0) ai (aD _)))))),?_⟩
  refine ⟨_,rfl,x,rfl,hx,_,rfl,?_⟩
  cases x with
  | int i=>exact mW ⟨_,rfl,_,_,rfl,rfl,k⟩
  | _=>exact iG k
abbrev o5:Stmt:=top 25
theorem vK:aN ["thing"] ["thing"] (ao o5):=⟨rfl,rfl,rfl,by decide +kernel,rfl,by decide +kernel,by decide +kernel⟩
def _root_.GS {a b c}:=@PW.pt a b c
def _root_.GT {a b c d e f g}:=@iI a b c d e f g
theorem yD (D:Df K mg "is_step" o5)(T:Bt K w mg aB)(MM:∃ t,mg "MOST_MANY" = some (.int 6 t))(Hl:Fnc P w K mg base "is_letter" ["thing"] 1 (eX K))(F_word:Fnc P w K mg base "is_word" ["many","thing"] 2 (uL K))(HU:Fnc P w K mg base "is_count" ["thing"] 2 (oG K)):Fnc P w K mg base "is_step" ["thing"] 3 (e6 K):=by
 have sc:=vK
 refine D.ok sc (fun _ _ _ _ _ _ us hl=>by obtain ⟨_,rfl⟩:=lI hl;rfl) (fun vs H Q E h=>?_) (fun f Hb A outer s H vs Q E hr h=>?_)
 ·obtain ⟨x,b,rfl,_⟩:=h
  rfl
 ·obtain ⟨x,b,rfl,hx,k⟩:=h
  have Hr:=a9
  obtain ⟨tM,mgM⟩:=MM
  refine ⟨_,(Gq (Gv (GS (GT (GP (GQ (Gz (@cJ _ (K) rfl) (by rfl) T.isinstance bc (GA (pv 0) (GA (GM (.ty "tuple") rfl T.tuple d8 rfl) ae))) (fun _=>rfl))) (GT (Gw e9 (Gz aW (by rfl) T.len BP (GA (pv 0) ae)) ai (aD _)) (@gk _ _ _ _ (GP (GQ (GR HU hr (by decide) rfl (GA (Gy aZ (pv 0) ai (fun _ _=>rfl)) ae)) (fun _=>rfl))))))) (GB (GC dX)) aO) (Gq (Gv (Gw bj (Gz aW (by rfl) T.len BP (GA (pv 0) ae)) ai (aD _)) (GB (GC (GG (@fP _ (by exact hr.units)) (Gy aZ (pv 0) ai (fun _ _=>rfl)) aI (aD _)))) aO) (Gq (Gv (Gw bj (Gz aW (by rfl) T.len BP (GA (pv 0) ae)) ai (aD _)) (GB (GC (GL (GG (@fP _ (by exact hr.units)) (Gy aZ (pv 0) ai (fun _ _=>rfl)) aI (aD _)) (GN (GR Hl hr (by decide) rfl (GA (Gy aZ (pv 0) ai (fun _ _=>rfl)) ae)))))) aO) (GB (GC (GL (GG bj (Gz aW (by rfl) T.len BP (GA (pv 0) ae)) ai (aD _)) (GL (GG (@fP _ (by exact hr.units)) (Gy aZ (pv 0) ai (fun _ _=>rfl)) aI (aD _)) (GL (GR F_word hr (by decide) rfl (GA (GO (.int 6) rfl mgM ⟨_,rfl⟩) (GA (Gy aZ (pv 0) ai (fun _ _=>rfl)) ae))) (GN (GR HU hr (by decide) rfl (GA (Gy aZ (pv 0) ai (fun _ _=>rfl)) ae))))))))))),?_⟩
  cases hx with
  | flat ty e=>exact ⟨_,rfl,_,_,_,_,rfl,ty _,e,_,rfl,Ak (k _ (aF.refl _))⟩
  | lst h=>exact ⟨_,rfl,_,_,_,_,rfl,.lst h,nG,_,rfl,Ak (k _ (aF.refl _))⟩
  | @tup a xs h p hl =>
   have k0:=k
   have k:=k H (aF.refl _)
   refine ⟨_,rfl,_,_,_,_,rfl,.tup h,kL,_,rfl,AS ⟨_,rfl,a,xs,rfl,.inr (SqT.of h),_,_,rfl,rfl,_,rfl,?_⟩⟩
   match xs,h,p,hl,k,k0 with
   | [],h,p,hl,k,k0=>exact bY rfl k
   | [x0],h,p,hl,k,k0=>exact bY rfl k
   | x0::x1::r,h,p,hl,k,k0 =>
    refine bO (BI (by rw [B6,B6];omega)) ?_
    have p0:=p x0 (by simp)
    have p1:=p x1 (by simp)
    obtain ⟨d0,hd0,l0,dp0,q0⟩:=p0.dt
    refine ⟨_,rfl,a,_,_,_,rfl,rfl,SqT.of h,at1 _ _ _,x1,rfl,p1.wh,_,rfl,?_⟩
    cases c1:ik x1 with
    | false =>
     rw [oJ c1] at k
     exact vq k
    | true =>
     refine tD ?_
     match r,h,p,hl,k,k0 with
     | [],h,p,hl,k,k0 =>
      refine ⟨_,rfl,a,_,rfl,.inr (SqT.of h),rfl,_,rfl,bY rfl ?_⟩
      refine ⟨_,rfl,a,_,_,_,rfl,rfl,SqT.of h,rfl,d0,_,hd0,.str _,l0,oF,dp0,?_⟩
      rw [q0]
      have k:Q (.bl (ik x1 && decide (x0 = .str "out"))) H:=k
      rw [c1,Dc] at k
      exact k
     | [x2],h,p,hl,k,k0 =>
      have p2:=p x2 (by simp)
      refine ⟨_,rfl,a,_,rfl,.inr (SqT.of h),rfl,_,rfl,bO rfl ?_⟩
      refine ⟨_,rfl,a,_,rfl,.inr (SqT.of h),rfl,_,rfl,bY rfl ?_⟩
      refine ⟨_,rfl,a,_,_,_,rfl,rfl,SqT.of h,rfl,d0,_,hd0,.str _,l0,tu,dp0,_,rfl,?_⟩
      rw [q0]
      have k:Q (.bl (ik x1 && (decide (x0 = .str "in") && wg x2))) H:=k
      rw [c1,Dc] at k
      by_cases e0:x0 = .str "in"
      ·rw [BM e0,Dc] at k
       exact bY (BM e0) ⟨_,rfl,a,_,_,_,rfl,rfl,SqT.of h,at2 _ _ _ _,x2,rfl,p2.th,k⟩
      ·rw [BI e0,C8] at k
       exact bO (BI e0) k
     | [x2,x3],h,p,hl,k,k0 =>
      have p2:=p x2 (by simp)
      have p3:=p x3 (by simp)
      refine ⟨_,rfl,a,_,rfl,.inr (SqT.of h),rfl,_,rfl,bO rfl ?_⟩
      refine ⟨_,rfl,a,_,rfl,.inr (SqT.of h),rfl,_,rfl,bO rfl ?_⟩
      refine ⟨_,rfl,a,_,rfl,.inr (SqT.of h),rfl,_,rfl,bY rfl ?_⟩
      refine ⟨_,rfl,a,_,_,_,rfl,rfl,SqT.of h,rfl,d0,_,hd0,.str _,l0,lC,dp0,_,rfl,?_⟩
      rw [q0]
      have k:∀ H',aF H H'→Q (.bl (ik x1 && (decide (x0 = .str "ring") && (wdV 6 x2 && ik x3)))) H':=k0
      rw [c1,Dc] at k
      by_cases e0:x0 = .str "ring"
      ·rw [BM e0,Dc] at k
       refine bY (BM e0) ⟨_,rfl,a,_,_,_,rfl,rfl,SqT.of h,at2 _ _ _ _,6,x2,rfl,by decide,by decide,p2.th,fun H1 s1=>⟨_,rfl,?_⟩⟩
       cases c2:wdV 6 x2 with
       | false =>
        rw [c2] at k
        exact iG (k _ s1)
       | true =>
        rw [c2] at k
        exact mW ⟨_,rfl,a,_,_,_,rfl,rfl,SqT.of (s1 _ _ h),at3 _ _ _ _ _,x3,rfl,(p3.same s1).wh,k _ s1⟩
      ·rw [BI e0,C8] at k
       exact bO (BI e0) (k _ (aF.refl _))
     | x2::x3::x4::r,h,p,hl,k,k0 =>
      have e:∀ n:Nat,n < 5→decide (V.int ((x0::x1::x2::x3::x4::r).length:Int)=V.int (n:Int))=false:=fun n hn=>BI fun e=>by
       have:=V.int.inj e
       simp only [B6] at this
       omega
      refine ⟨_,rfl,a,_,rfl,.inr (SqT.of h),rfl,_,rfl,bO (e 2 (by decide)) ?_⟩
      refine ⟨_,rfl,a,_,rfl,.inr (SqT.of h),rfl,_,rfl,bO (e 3 (by decide)) ?_⟩
      refine ⟨_,rfl,a,_,rfl,.inr (SqT.of h),rfl,_,rfl,bO (e 4 (by decide)) ?_⟩
      exact k
abbrev iB:Stmt:=top 20
theorem o6:aN ["rings","word","ring"] ["rings","word"] (ao iB):=⟨rfl,rfl,rfl,by decide +kernel,rfl,by decide +kernel,by decide +kernel⟩
def _root_.GU {a b c d e f g h}:=@bN a b c d e f g h
def _root_.GV {a b c d e f g}:=@cS a b c d e f g
def _root_.GW {a b c d}:=@cw a b c d
theorem rN (D:Df K mg "is_turn_of" iB)(T:Bt K w mg aB)(Hk:Fnc P w K mg base "back" ["word"] 1 i8):Fnc P w K mg base "is_turn_of" ["rings","word"] 2 jY:=by
 have sc:=o6
 refine D.ok sc (fun _ _ _ _ _ _ us hl=>by obtain ⟨_,_,rfl⟩:=vC hl;rfl) (fun vs H Q E h=>?_) (fun f Hb A outer s H vs Q E hr h=>?_)
 ·obtain ⟨a,R,u,rfl,_⟩:=h
  rfl
 ·obtain ⟨a,R,u,rfl,ha,hR,hu,k⟩:=h
  have Hr:=a9
  have lu:=ah u
  refine ⟨_,(Gq (GU Ce rfl (@gq _ _ _ _ (pv 0)) (GK (2) sc.nd rfl (Or.inl rfl)) (GB (Gv (GS (GV (Gw bj (Gz av (by rfl) T.len BP (GA (pv 2) ae)) (Gz av (by rfl) T.len BP (GA (pv 1) ae)) (aD _)) (GW (GS (GT (Gw fc (pv 1) (Gr aH (pv 2) (pv 2)) rfl) (@gk _ _ _ _ (Gw fc (GR Hk hr (by decide) rfl (GA (pv 1) ae)) (Gr aH (pv 2) (pv 2)) rfl))))))) (GB (GC dX)) aO))) (GB (GC dX))),?_⟩
  refine ⟨_,rfl,a,rfl,⟨_,SqT.of ha⟩,?_⟩
  refine dz (xs:=R.map tx) (fun i σ H'=>∃ b2:Option V,σ = [some (.ref a),some (tx u),b2]∧aF H H'∧u∉trn (R.take i)) ⟨none,rfl,aF.refl _,by rw [List.take_zero];exact Cd⟩ (fun i σ H' _ ⟨_,_,q,_⟩=>SqT.of (q _ _ ha)) ?_ ?_
  ·rintro i x σ H1 hx ⟨b2,rfl,s1,hn⟩
   rw [B7] at hx
   cases hr:R[i]? with
   | none=>rw [hr] at hx;cases hx
   | some r =>
    rw [hr] at hx
    cases hx
    have hm:=B8 hr
    have hw:=hR.word r hm
    have lr:=ah r
    have et:R.take (i+1)=R.take i++[r]:=by rw [Cu,hr];rfl
    have yes:u∈cQ r++cQ (bk r)→decide (u∈trn R)=true:=fun h=>BM (by unfold trn;exact List.mem_flatMap.mpr ⟨r,hm,h⟩)
    have no:u∉cQ r++cQ (bk r)→u∉trn (R.take (i+1)):=fun h=>by
     rw [et,hX,BR]
     exact fun z=>z.elim hn h
    refine ⟨_,rfl,_,rfl,by omega,_,rfl,_,rfl,by omega,rfl,_,rfl,?_⟩
    by_cases hl:r.length=u.length
    ·refine bY (BM (by rw [lr,lu,hl])) ?_
     have e1:=jn (r++r) u
     have e2:=jn (r++r) (bk u)
     rw [kO hl.symm] at e1
     rw [kO (by rw [bS,hl]),uS] at e2
     rw [← cA] at e1 e2
     refine ⟨_,rfl,_,rfl,_,rfl,_,_,rfl,rfl,by omega,_,_,rfl,rfl,_,rfl,?_⟩
     by_cases h1:u∈cQ r
     ·refine bY (e1.mpr h1) ?_
      have k:=k _ s1
      rw [yes (Cb _ h1)] at k
      exact k
     ·refine bO (Fz.mpr fun z=>h1 (e1.mp z)) ?_
      refine ⟨_,rfl,u,rfl,by omega,fun H2 s2=>⟨_,rfl,_,rfl,_,_,rfl,rfl,by omega,_,_,rfl,rfl,_,rfl,?_⟩⟩
      by_cases h2:u∈cQ (bk r)
      ·refine bY (e2.mpr h2) ?_
       have k:=k _ (s1.trans s2)
       rw [yes (BN _ h2)] at k
       exact k
      ·refine bO (Fz.mpr fun z=>h2 (e2.mp z)) ?_
       refine ⟨_,rfl,s1.trans s2,no fun h=>?_⟩
       rcases BR.mp h with h | h
       ·exact h1 h
       ·exact h2 h
    ·refine bO (BI fun e=>hl (by have:=V.int.inj e;omega)) ?_
     refine ⟨_,rfl,s1,no fun h=>hl ?_⟩
     rcases BR.mp h with h | h
     ·exact (dU h).symm
     ·rw [dU h,bS]
  ·rintro σ H1 ⟨b2,rfl,s1,hn⟩
   rw [BV (by simp)] at hn
   have k:=k _ s1
   rw [BI hn] at k
   exact k
abbrev kc:Stmt:=top 29
theorem rO:aN ["word","place"] ["word","place"] (ao kc):=⟨rfl,rfl,rfl,by decide +kernel,rfl,by decide +kernel,by decide +kernel⟩
theorem vL (D:Df K mg "is_out" kc)(T:Bt K w mg aB)(Hk:Fnc P w K mg base "back" ["word"] 1 i8):Fnc P w K mg base "is_out" ["word","place"] 2 vn:=by
 have sc:=rO
 refine D.ok sc (fun _ _ _ _ _ _ us hl=>by obtain ⟨_,_,rfl⟩:=vC hl;rfl) (fun vs H Q E h=>?_) (fun f Hb A outer s H vs Q E hr h=>?_)
 ·obtain ⟨w,n,rfl,_⟩:=h
  rfl
 ·obtain ⟨u,n,rfl,hl,k⟩:=h
  have Hr:=a9
  have lu:=ah u
  refine ⟨_,(GB (GC (GL (GG e9 (Gr aU (pv 1) ai) (Gz av (by rfl) T.len BP (GA (pv 0) ae)) (aD _)) (GN (GG bj (Gy bR (pv 0) (Gr aU (pv 1) ai) (fun _ _=>rfl)) (GR Hk hr (by decide) rfl (GA (Gy bR (pv 0) (pv 1) (fun _ _=>rfl)) ae)) (aD _)))))),?_⟩
  refine ⟨_,rfl,_,_,rfl,rfl,_,rfl,_,rfl,by omega,_,_,rfl,rfl,_,rfl,?_⟩
  by_cases hn:n+1 < u.length
  ·refine bY (BM (by omega)) ?_
   have e1:=BC hn
   have e0:=BC (show n < u.length by omega)
   refine ⟨_,rfl,_,rfl,_,_,rfl,rfl,_,_,_,rfl,rfl,by omega,bB (k:=n+1) (by omega) e1,_,rfl,_,rfl,_,_,_,rfl,rfl,by omega,bB (k:=n) rfl e0,[u[n]],rfl,(by show 1≤5000;decide),fun H1 s1=>⟨rfl,?_⟩⟩
   have k:=k _ s1
   unfold jP at k
   rw [BM hn,Dc,e1,e0] at k
   rw [show V.str (⟨#[cp u[n+1]]⟩:Str)=tx [u[n+1]] from rfl,fF]
   have e:decide (tx [u[n+1]]=tx [inv u[n]])=decide (some u[n+1]=(some u[n]).map inv):=Ec.mpr (nE.trans ⟨fun e=>by rw [e];rfl,fun e=>BW e⟩)
   rw [e]
   exact k
  ·refine bO (BI (by omega)) ?_
   have k:=k H (aF.refl _)
   unfold jP at k
   rw [BI hn,C8] at k
   exact k
abbrev ke:Stmt:=top 30
theorem rP:aN ["word","place","turn","many"] ["word","place","turn","many"] (ao ke):=⟨rfl,rfl,rfl,by decide +kernel,rfl,by decide +kernel,by decide +kernel⟩
theorem vM (D:Df K mg "is_there" ke)(T:Bt K w mg aB):Fnc P w K mg base "is_there" ["word","place","turn","many"] 1 jZ:=by
 have sc:=rP
 refine D.ok sc (fun _ _ _ _ _ _ us hl=>by obtain ⟨_,_,_,_,rfl⟩:=Bx hl;rfl) (fun vs H Q E h=>?_) (fun f Hb A outer s H vs Q E hr h=>?_)
 ·obtain ⟨w,n,u,m,rfl,_⟩:=h
  rfl
 ·obtain ⟨v,n,u,m,rfl,hv,hu,k⟩:=h
  have Hr:=a9
  have lu:=ah u
  have lv:=ah v
  have k:=k H (aF.refl _)
  unfold fL at k
  refine ⟨_,(Gq (Gv (GS (GT (Gw gc (pv 3) (Gz av (by rfl) T.len BP (GA (pv 2) ae)) (aD _)) (@gk _ _ _ _ (Gw gc (Gr aU (pv 1) (pv 3)) (Gz av (by rfl) T.len BP (GA (pv 0) ae)) (aD _))))) (GB (GC dX)) aO) (GB (GC (GG bj (GD aY (pv 0) (GE (pv 1)) (GE (Gr aU (pv 1) (pv 3)))) (GD aY (pv 2) aJ (GE (pv 3))) (aD _))))),?_⟩
  refine ⟨_,rfl,_,rfl,_,rfl,by omega,_,_,rfl,rfl,_,rfl,?_⟩
  by_cases h1:m≤u.length
  ·refine bO (BI (by omega)) ?_
   rw [BM h1,Dc] at k
   refine ⟨_,rfl,_,rfl,_,_,rfl,rfl,_,rfl,_,rfl,by omega,_,_,rfl,rfl,_,rfl,?_⟩
   by_cases h2:n+m≤v.length
   ·refine bO (BI (by omega)) ?_
    rw [BM h2,Dc] at k
    refine ⟨_,rfl,_,rfl,_,rfl,_,rfl,_,rfl,_,_,rfl,rfl,_,rfl,_,rfl,by omega,_,rfl,_,rfl,_,rfl,_,rfl,by omega,rfl,?_⟩
    rw [az,az,oI,bF u (by omega),BQ]
    have e:decide (V.str (toS ((v.drop n).take m))=V.str (toS (u.take m)))=decide ((v.drop n).take m=u.take m):=Ec.mpr ⟨fun e=>cH (V.str.inj e),fun e=>by rw [e]⟩
    rw [e]
    exact k
   ·refine bY (BM (by omega)) ?_
    rw [BI h2,C8] at k
    exact k
  ·refine bY (BM (by omega)) ?_
   rw [BI h1,C8,C8] at k
   exact k
abbrev vN:Stmt:=top 31
theorem yE:aN ["word","step","place"] ["word","step"] (ao vN):=⟨rfl,rfl,rfl,by decide +kernel,rfl,by decide +kernel,by decide +kernel⟩
theorem Aq (D:Df K mg "changed" vN)(T:Bt K w mg aB)(Hk:Fnc P w K mg base "back" ["word"] 1 i8):Fnc P w K mg base "changed" ["word","step"] 2 vo:=by
 have sc:=yE
 refine D.ok sc (fun _ _ _ _ _ _ us hl=>by obtain ⟨_,_,rfl⟩:=vC hl;rfl) (fun vs H Q E h=>?_) (fun f Hb A outer s H vs Q E hr h=>?_)
 ·obtain ⟨p,v,s,rfl,_⟩:=h
  rfl
 ·obtain ⟨p,v,st,rfl,hv,hp,hs,k⟩:=h
  have Hr:=a9
  have lv:=ah v
  refine ⟨_,(Gq (Gx (2) sc.nd rfl (Or.inl rfl) (Gy aZ (pv 1) ai (fun _ _=>rfl))) (Gq (Gv (Gw bj (Gy aZ (pv 1) ai (fun _ _=>rfl)) aI (aD _)) (GB (GC (Gr aH (GD aY (pv 0) aJ (GE (pv 2))) (GD aY (pv 0) (GE (Gr aU (pv 2) ai)) aJ)))) aO) (Gq (Gv (Gw bj (Gy aZ (pv 1) ai (fun _ _=>rfl)) aI (aD _)) (GB (GC (Gr aH (Gr aH (Gr aH (GD aY (pv 0) aJ (GE (pv 2))) (Gy aZ (pv 1) ai (fun _ _=>rfl))) (GR Hk hr (by decide) rfl (GA (Gy aZ (pv 1) ai (fun _ _=>rfl)) ae))) (GD aY (pv 0) (GE (pv 2)) aJ)))) aO) (GB (GC (Gr aH (Gr aH (GD aY (pv 0) aJ (GE (pv 2))) (GR Hk hr (by decide) rfl (GA (GD aY (Gy aZ (pv 1) ai (fun _ _=>rfl)) (GE (Gy aZ (pv 1) ai (fun _ _=>rfl))) aJ) ae))) (GD aY (pv 0) (GE (Gr aU (pv 2) (Gy aZ (pv 1) ai (fun _ _=>rfl)))) aJ))))))),?_⟩
  cases st with
  | out n =>
   have hp:H p=some (.tup [.str "out",.int (n:Int)]):=hp
   refine ⟨_,rfl,p,_,_,_,rfl,rfl,SqT.of hp,at1 _ _ _,?_⟩
   refine ⟨_,rfl,p,_,_,_,rfl,rfl,SqT.of hp,at0 _ _,rfl,_,rfl,bY (BM rfl) ?_⟩
   refine ⟨_,rfl,_,rfl,_,rfl,_,rfl,by omega,_,rfl,_,rfl,_,_,rfl,rfl,_,rfl,_,rfl,by omega,_,_,rfl,rfl,?_,?_⟩
   ·have h1:=Cf (toS v) none (some (n:Int))
    have h2:=Cf (toS v) (some ((n:Int)+2)) none
    omega
   rw [az,az,bF v (by omega),bh v (by omega),bg,BQ,show ((n:Int)+2).toNat=n+2 by omega]
   exact k _ (aF.refl _)
  | inn n x =>
   have hp:H p=some (.tup [.str "in",.int (n:Int),tx [x]]):=hp
   have lx:=ah [x]
   refine ⟨_,rfl,p,_,_,_,rfl,rfl,SqT.of hp,at1 _ _ _,?_⟩
   refine ⟨_,rfl,p,_,_,_,rfl,rfl,SqT.of hp,at0 _ _,rfl,_,rfl,bO (by decide +kernel) ?_⟩
   refine ⟨_,rfl,p,_,_,_,rfl,rfl,SqT.of hp,at0 _ _,rfl,_,rfl,bY (BM rfl) ?_⟩
   have h1:=Cf (toS v) none (some (n:Int))
   have h2:=Cf (toS v) (some (n:Int)) none
   refine ⟨_,rfl,_,rfl,_,rfl,_,rfl,by omega,_,rfl,p,_,_,_,rfl,rfl,SqT.of hp,at2 _ _ _ _,_,_,rfl,rfl,(by rw [lx];simp only [B6,CK];omega),?_⟩
   rw [az,bF v (by omega),bg,BQ]
   refine ⟨_,rfl,p,_,_,_,rfl,rfl,SqT.of hp,at2 _ _ _ _,[x],rfl,(by show 1≤5000;decide),fun H1 s1=>?_⟩
   have l1:=ah (v.take n++[x])
   have l2:=ah (bk [x])
   have l3:=ah (v.take n++[x]++bk [x])
   simp only [BB,BJ,B6,CK,bS] at l1 l2 l3
   refine ⟨_,_,rfl,rfl,by omega,?_⟩
   rw [bg]
   refine ⟨_,rfl,_,rfl,_,rfl,_,rfl,by omega,_,_,rfl,rfl,by omega,?_⟩
   rw [az,bh v (by omega),bg,BQ,fF]
   exact k _ s1
  | rng n u m =>
   have hp:H p=some (.tup [.str "ring",.int (n:Int),tx u,.int (m:Int)]):=hp
   have lx:=ah u
   have hu:=hs.2.1
   refine ⟨_,rfl,p,_,_,_,rfl,rfl,SqT.of hp,at1 _ _ _,?_⟩
   refine ⟨_,rfl,p,_,_,_,rfl,rfl,SqT.of hp,at0 _ _,rfl,_,rfl,bO (by decide +kernel) ?_⟩
   refine ⟨_,rfl,p,_,_,_,rfl,rfl,SqT.of hp,at0 _ _,rfl,_,rfl,bO (by decide +kernel) ?_⟩
   have h1:=Cf (toS v) none (some (n:Int))
   have h2:=Cf (toS v) (some ((n:Int)+(m:Int))) none
   refine ⟨_,rfl,_,rfl,_,rfl,_,rfl,by omega,_,rfl,p,_,_,_,rfl,rfl,SqT.of hp,at2 _ _ _ _,_,rfl,p,_,_,_,rfl,rfl,SqT.of hp,at3 _ _ _ _ _,_,rfl,_,rfl,by omega,?_⟩
   rw [az,az,bF v (by omega),bh u (by omega),BQ,BQ]
   refine ⟨u.drop m,rfl,(by rw [B0];omega),fun H1 s1=>?_⟩
   have l1:=ah (v.take n)
   have l2:=ah (bk (u.drop m))
   have l3:=ah (v.take n++bk (u.drop m))
   simp only [BB,BJ,B0,bS] at l1 l2 l3
   refine ⟨_,_,rfl,rfl,by omega,?_⟩
   rw [bg]
   refine ⟨_,rfl,_,rfl,_,rfl,p,_,_,_,rfl,rfl,SqT.of (s1 _ _ hp),at3 _ _ _ _ _,_,_,rfl,rfl,_,rfl,_,rfl,by omega,_,_,rfl,rfl,by omega,?_⟩
   rw [az,bh v (by omega),bg,show ((n:Int)+(m:Int)).toNat=n+m by omega]
   exact k _ s1
abbrev o7:Stmt:=top 28
theorem vO:aN ["rings","word","step"] ["rings","word","step"] (ao o7):=⟨rfl,rfl,rfl,by decide +kernel,rfl,by decide +kernel,by decide +kernel⟩
theorem yF (D:Df K mg "fits" o7)(T:Bt K w mg aB)(HJ:Fnc P w K mg base "is_step" ["thing"] 3 (e6 K))(Ic:Fnc P w K mg base "is_turn_of" ["rings","word"] 2 jY)(IG:Fnc P w K mg base "is_out" ["word","place"] 2 vn)(IC:Fnc P w K mg base "is_there" ["word","place","turn","many"] 1 jZ):Fnc P w K mg base "fits" ["rings","word","step"] 4 oH:=by
 have sc:=vO
 refine D.ok sc (fun _ _ _ _ _ _ us hl=>by obtain ⟨_,_,_,rfl⟩:=jy hl;rfl) (fun vs H Q E h=>?_) (fun f Hb A outer s H vs Q E hr h=>?_)
 ·obtain ⟨a,p,R,v,s,rfl,_⟩:=h
  rfl
 ·obtain ⟨a,p,R,v,st,rfl,ha,hR,hv,hp,hs,k⟩:=h
  have Hr:=a9
  have lv:=ah v
  refine ⟨_,(Gq (Gv (GP (GQ (GR HJ hr (by decide) rfl (GA (pv 2) ae)) (fun _=>rfl))) (GB (GC dX)) aO) (Gq (Gv (Gw bj (Gy aZ (pv 2) ai (fun _ _=>rfl)) aI (aD _)) (GB (GC (GR IG hr (by decide) rfl (GA (pv 1) (GA (Gy aZ (pv 2) ai (fun _ _=>rfl)) ae))))) aO) (Gq (Gv (Gw bj (Gy aZ (pv 2) ai (fun _ _=>rfl)) aI (aD _)) (GB (GC (GG mB (Gy aZ (pv 2) ai (fun _ _=>rfl)) (Gz av (by rfl) T.len BP (GA (pv 1) ae)) (aD _)))) aO) (GB (GC (GL (GR IC hr (by decide) rfl (GA (pv 1) (GA (Gy aZ (pv 2) ai (fun _ _=>rfl)) (GA (Gy aZ (pv 2) ai (fun _ _=>rfl)) (GA (Gy aZ (pv 2) ai (fun _ _=>rfl)) ae))))) (GN (GR Ic hr (by decide) rfl (GA (pv 0) (GA (Gy aZ (pv 2) ai (fun _ _=>rfl)) ae)))))))))),?_⟩
  refine ⟨_,rfl,_,_,rfl,tB hs hp,fun H1 s1=>⟨_,rfl,tD ?_⟩⟩
  have p1:=s1 _ _ hp
  have a1:=s1 _ _ ha
  cases st with
  | out n =>
   have p1:H1 p=some (.tup [.str "out",.int (n:Int)]):=p1
   refine ⟨_,rfl,p,_,_,_,rfl,rfl,SqT.of p1,at0 _ _,rfl,_,rfl,bY (BM rfl) ?_⟩
   exact ⟨_,rfl,_,rfl,p,_,_,_,rfl,rfl,SqT.of p1,at1 _ _ _,v,n,rfl,hv,fun H2 s2=>k _ (s1.trans s2)⟩
  | inn n x =>
   have p1:H1 p=some (.tup [.str "in",.int (n:Int),tx [x]]):=p1
   refine ⟨_,rfl,p,_,_,_,rfl,rfl,SqT.of p1,at0 _ _,rfl,_,rfl,bO (by decide +kernel) ?_⟩
   refine ⟨_,rfl,p,_,_,_,rfl,rfl,SqT.of p1,at0 _ _,rfl,_,rfl,bY (BM rfl) ?_⟩
   refine ⟨_,rfl,p,_,_,_,rfl,rfl,SqT.of p1,at1 _ _ _,_,rfl,_,rfl,by omega,_,_,rfl,rfl,?_⟩
   have k:Q (.bl (decide (n≤v.length))) H1:=k _ s1
   have e:decide ((n:Int)≤((toS v).length:Int))=decide (n≤v.length):=by rw [lv];exact Ec.mpr Int.ofNat_le
   have k2:Q (.bl (decide ((n:Int)≤((toS v).length:Int)))) H1:=by rw [e];exact k
   exact k2
  | rng n u m =>
   have p1:H1 p=some (.tup [.str "ring",.int (n:Int),tx u,.int (m:Int)]):=p1
   refine ⟨_,rfl,p,_,_,_,rfl,rfl,SqT.of p1,at0 _ _,rfl,_,rfl,bO (by decide +kernel) ?_⟩
   refine ⟨_,rfl,p,_,_,_,rfl,rfl,SqT.of p1,at0 _ _,rfl,_,rfl,bO (by decide +kernel) ?_⟩
   refine ⟨_,rfl,_,rfl,p,_,_,_,rfl,rfl,SqT.of p1,at1 _ _ _,_,rfl,p,_,_,_,rfl,rfl,SqT.of p1,at2 _ _ _ _,_,rfl,p,_,_,_,rfl,rfl,SqT.of p1,at3 _ _ _ _ _,v,n,u,m,rfl,hv,hs.2.1,fun H2 s2=>⟨_,rfl,?_⟩⟩
   have k:∀ H',aF H H'→Q (.bl (fL v n u m && decide (u∈trn R))) H':=k
   have p2:=s2 _ _ p1
   cases ht:fL v n u m with
   | false =>
    rw [ht] at k
    exact iG (k _ (s1.trans s2))
   | true =>
    rw [ht] at k
    exact mW ⟨_,rfl,_,rfl,p,_,_,_,rfl,rfl,SqT.of p2,at2 _ _ _ _,a,R,u,rfl,s2 _ _ a1,hR,hs.2.1,fun H3 s3=>k _ ((s1.trans s2).trans s3)⟩
abbrev iC:Stmt:=top 27
theorem o8:aN ["rings","word","steps","number","step"] ["rings","word","steps"] (ao iC):=⟨rfl,rfl,rfl,by decide +kernel,rfl,by decide +kernel,by decide +kernel⟩
def _root_.GX {a b c d e f g h i j k}:=@rE a b c d e f g h i j k
theorem rQ {CT:Addr}(D:Df K mg "walked" iC)(T:Bt K w mg aB)(Te:mg "enumerate" = none)(ML:∃ t,mg "MOST_LETTERS" = some (.int 2000 t))(F_fits:Fnc P w K mg base "fits" ["rings","word","step"] 4 oH)(F_chg:Fnc P w K mg base "changed" ["word","step"] 2 vo)(HH:XMk P w K mg base "NoStep" CT ["place"] 1):rB P w K mg base "walked" ["rings","word","steps"] 5 (ip CT):=by
 have sc:=o8
 refine D.okX sc (fun _ _ _ _ _ _ us hl=>by obtain ⟨_,_,_,rfl⟩:=jy hl;rfl) (fun vs H Q E h=>?_) (fun f Hb A outer s H vs Q E hr h=>?_)
 ·obtain ⟨a,p,R,v,xs,ss,rfl,_⟩:=h
  rfl
 ·obtain ⟨a,p,R,w0,xs,ss,rfl,ha,hR,hw,hp,Io,hn,k1,k2⟩:=h
  have Hr:=a9
  obtain ⟨tL,mgL⟩:=ML
  refine ⟨_,(Gq (GU PassesOwn.leaving rfl (@x_ _ _ rfl _ _ _ _ _ _ _ rfl Te xS (GA (pv 2) ae) (by rfl)) (@wD _ _ _ _ _ _ rfl (@kq _ _ _ _ _ (GK (3) sc.nd rfl (Or.inl rfl)) (@kq _ _ _ _ _ (GK (4) sc.nd rfl (Or.inl rfl)) tN (by rfl)) (by rfl)) (by rfl) (by rfl)) (Gq (Gv (GP (GQ (GR F_fits hr (by decide) rfl (GA (pv 0) (GA (pv 1) (GA (pv 4) ae)))) (fun _=>rfl))) (GB (@dW _ _ _ _ _ c_ rfl (GX HH hr (by decide) rfl (GA (pv 3) ae)))) aO) (Gq (Gx (1) sc.nd rfl (Or.inl rfl) (GR F_chg hr (by decide) rfl (GA (pv 1) (GA (pv 4) ae)))) (GB (Gv (Gw gc (Gz av (by rfl) T.len BP (GA (pv 1) ae)) (GO (.int 2000) rfl mgL ⟨_,rfl⟩) (aD _)) (GB (@dW _ _ _ _ _ c_ rfl (GX HH hr (by decide) rfl (GA (pv 3) ae)))) aO))))) (GB (GC (pv 1)))),?_⟩
  refine ⟨_,rfl,p,rfl,?_⟩
  rcases hp with hp | hp
  ·refine .inr ⟨⟨_,SqT.of hp⟩,?_⟩
   refine uP (xs:=xs) (fun i σ H'=>∃ (b3 b4:Option V) (v:List L),σ = [some (.ref a),some (tx v),some (.ref p),b3,b4]∧aF H H'∧v.length≤2000∧bz R w0 ss 0=bz R v (ss.drop i) i) ⟨_,_,w0,rfl,aF.refl _,hw,rfl⟩ (fun i σ H' _ ⟨_,_,_,_,q,_⟩=>SqT.of (q _ _ hp)) ?_ ?_
   ·rintro i x σ H1 t hx ⟨b3,b4,v,rfl,s1,hv,he⟩ ht
    obtain ⟨b,st,rfl,Hs,hb,hsk⟩:=Io.get hx
    have hd:ss.drop i=st::ss.drop (i+1):=by
     obtain ⟨l1,e1⟩:=BF.mp Hs
     rw [Ct l1,e1]
    have s2:aF H (upd H1 t (.tup [.int i,.ref b])):=s1.then ht
    refine ⟨t,_,rfl,SqT.of af,rfl,_,_,rfl,_,_,rfl,rfl,?_⟩
    generalize upd H1 t (.tup [.int i,.ref b])=H2 at s2 ⊢
    have stop:f_ R v st=none→yh CT i H E:=fun z=>k2 i (by rw [he,hd];unfold bz;rw [z])
    have fly:∀ H3,aF H H3→yh CT i H E→∀ (e dx:Addr),H3 e=none→H3 dx=none→dx≠e→E (.ref e) none (upd (upd (upd H3 e (Exo e CT (some dx) true true)) dx (Xdt dx [("place",.int (i:Int))])) e (Exo e CT (some dx) false true)):=fun H3 s3 z e dx he Hv Hj=>by
     refine z e dx _ af ?_ fun b o q=>?_
     ·rw [ay Hj,af]
     ·have q3:=s3 _ _ q
      rw [ay (aE q3 he),ay (aE q3 Hv),ay (aE q3 he)]
      exact q3
    refine ⟨_,rfl,_,rfl,_,rfl,a,b,R,v,st,rfl,s2 _ _ ha,hR,by omega,s2 _ _ hb,hsk,fun H3 s3=>⟨_,rfl,?_⟩⟩
    cases hf:stB R v st with
    | false =>
     refine vq ?_
     refine ⟨_,rfl,rfl,by decide,fun e dx he Hv Hj=>?_⟩
     exact ⟨e,CT,some dx,true,rfl,by rw [ay Hj.symm,af],HH.ca.1,fly _ (s2.trans s3) (stop (cK hf)) e dx he Hv Hj⟩
    | true =>
     refine tD ?_
     have cl:=jQ hsk hf
     have lc:=ah (chg v st)
     refine ⟨_,rfl,_,rfl,b,v,st,rfl,by omega,s3 _ _ (s2 _ _ hb),hsk,fun H4 s4=>?_⟩
     refine ⟨_,rfl,_,rfl,by omega,_,_,rfl,rfl,_,rfl,?_⟩
     by_cases hl:(chg v st).length≤2000
     ·refine bO (BI (by omega)) ?_
      refine ⟨_,_,chg v st,rfl,(s2.trans s3).trans s4,hl,?_⟩
      rw [he,hd]
      conv=>lhs;unfold bz
      rw [cL hf hl]
     ·refine bY (BM (by omega)) ?_
      refine ⟨_,rfl,rfl,by decide,fun e dx he Hv Hj=>?_⟩
      exact ⟨e,CT,some dx,true,rfl,by rw [ay Hj.symm,af],HH.ca.1,fly _ ((s2.trans s3).trans s4) (stop (dQ (by omega))) e dx he Hv Hj⟩
   ·rintro σ H1 ⟨b3,b4,v,rfl,s1,hv,he⟩
    rw [Io.length,DP] at he
    exact ⟨_,rfl,k1 v he _ s1⟩
  ·refine .inl ⟨⟨_,SqL.of hp⟩,?_⟩
   refine uO (xs:=xs) (fun i σ H'=>∃ (b3 b4:Option V) (v:List L),σ = [some (.ref a),some (tx v),some (.ref p),b3,b4]∧aF H H'∧v.length≤2000∧bz R w0 ss 0=bz R v (ss.drop i) i) ⟨_,_,w0,rfl,aF.refl _,hw,rfl⟩ (fun i σ H' _ ⟨_,_,_,_,q,_⟩=>SqL.of (q _ _ hp)) ?_ ?_
   ·rintro i x σ H1 t hx ⟨b3,b4,v,rfl,s1,hv,he⟩ ht
    obtain ⟨b,st,rfl,Hs,hb,hsk⟩:=Io.get hx
    have hd:ss.drop i=st::ss.drop (i+1):=by
     obtain ⟨l1,e1⟩:=BF.mp Hs
     rw [Ct l1,e1]
    have s2:aF H (upd H1 t (.tup [.int i,.ref b])):=s1.then ht
    refine ⟨t,_,rfl,SqT.of af,rfl,_,_,rfl,_,_,rfl,rfl,?_⟩
    generalize upd H1 t (.tup [.int i,.ref b])=H2 at s2 ⊢
    have stop:f_ R v st=none→yh CT i H E:=fun z=>k2 i (by rw [he,hd];unfold bz;rw [z])
    have fly:∀ H3,aF H H3→yh CT i H E→∀ (e dx:Addr),H3 e=none→H3 dx=none→dx≠e→E (.ref e) none (upd (upd (upd H3 e (Exo e CT (some dx) true true)) dx (Xdt dx [("place",.int (i:Int))])) e (Exo e CT (some dx) false true)):=fun H3 s3 z e dx he Hv Hj=>by
     refine z e dx _ af ?_ fun b o q=>?_
     ·rw [ay Hj,af]
     ·have q3:=s3 _ _ q
      rw [ay (aE q3 he),ay (aE q3 Hv),ay (aE q3 he)]
      exact q3
    refine ⟨_,rfl,_,rfl,_,rfl,a,b,R,v,st,rfl,s2 _ _ ha,hR,by omega,s2 _ _ hb,hsk,fun H3 s3=>⟨_,rfl,?_⟩⟩
    cases hf:stB R v st with
    | false =>
     refine vq ?_
     refine ⟨_,rfl,rfl,by decide,fun e dx he Hv Hj=>?_⟩
     exact ⟨e,CT,some dx,true,rfl,by rw [ay Hj.symm,af],HH.ca.1,fly _ (s2.trans s3) (stop (cK hf)) e dx he Hv Hj⟩
    | true =>
     refine tD ?_
     have cl:=jQ hsk hf
     have lc:=ah (chg v st)
     refine ⟨_,rfl,_,rfl,b,v,st,rfl,by omega,s3 _ _ (s2 _ _ hb),hsk,fun H4 s4=>?_⟩
     refine ⟨_,rfl,_,rfl,by omega,_,_,rfl,rfl,_,rfl,?_⟩
     by_cases hl:(chg v st).length≤2000
     ·refine bO (BI (by omega)) ?_
      refine ⟨_,_,chg v st,rfl,(s2.trans s3).trans s4,hl,?_⟩
      rw [he,hd]
      conv=>lhs;unfold bz
      rw [cL hf hl]
     ·refine bY (BM (by omega)) ?_
      refine ⟨_,rfl,rfl,by decide,fun e dx he Hv Hj=>?_⟩
      exact ⟨e,CT,some dx,true,rfl,by rw [ay Hj.symm,af],HH.ca.1,fly _ ((s2.trans s3).trans s4) (stop (dQ (by omega))) e dx he Hv Hj⟩
   ·rintro σ H1 ⟨b3,b4,v,rfl,s1,hv,he⟩
    rw [Io.length,DP] at he
    exact ⟨_,rfl,k1 v he _ s1⟩
def AU (st:Stmt)(j:Nat):Stmt:=match st with | .ClassDef (body:=b) ..=>b.getD j (.Pass ⟨0,0,0,0⟩) | _=>.Pass ⟨0,0,0,0⟩
abbrev ju:Stmt:=AU (top 2) 0
theorem rR:aN ["self","place"] ["self","place"] (ao ju):=⟨rfl,rfl,rfl,by decide +kernel,rfl,by decide +kernel,by decide +kernel⟩
theorem vP {R C f:Addr}{fd:FuncData}(D:Fun K "__init__" "NoStep.__init__" ju f fd)(B:rj K R)(hR:mg "RingError" = some (.ref R))(x:XAt K C)(n0:PySem.W.findIn K (.ref C) "place" = some none) :
  dH K fd ["self","place"] []∧fZ P w K mg base CX0 1 f fd ["self","place"] (jk ["place"] C):=by
 have sc:=rR
 refine ⟨D.binds fun _ _ _ _ _ _ us hl=>match us,hl with | [_,_],_=>rfl,D.ok sc (fun vs H Q E h=>?_) (fun Hb A outer s H vs Q E hr h=>?_)⟩
 ·obtain ⟨a,ys,b,c,rfl,hl,_⟩:=h
  rw [B6,hl];rfl
 ·obtain ⟨a,ys,b,c,rfl,hl,ea,k⟩:=h
  match ys,hl with
  | [y],_ =>
  refine ⟨_,(Gq (@cU _ _ _ _ (@lh _ _ _ _ _ _ _ _ _ _ B rfl hR (GA (pv 0) (GA aI ae)) (by decide) (by rfl) (by rfl) (by rfl)) (by rfl))
   (GB (@tj _ _ _ _ _ _ _ _ (pv 0) (pv 1) (by rfl)))),?_⟩
  refine ⟨_,rfl,a,C,none,b,c,[_],rfl,by simp,ea,x,?_⟩
  refine ⟨_,rfl,_,rfl,a,C,b,c,rfl,ea,x,n0,fun dx Hv ne=>?_⟩
  exact k dx Hv ne
abbrev fV:Stmt:=AU (top 4) 0
theorem o9:aN ["self","word","at"] ["self","word","at"] (ao fV):=⟨rfl,rfl,rfl,by decide +kernel,rfl,by decide +kernel,by decide +kernel⟩
theorem o_ {R C f:Addr}{fd:FuncData}(D:Fun K "__init__" "NoPaper.__init__" fV f fd)(B:rj K R)(hR:mg "RingError" = some (.ref R))(x:XAt K C)(n0:PySem.W.findIn K (.ref C) "word" = some none)(n1:PySem.W.findIn K (.ref C) "at" = some none) :
  dH K fd ["self","word","at"] []∧j2 P w K mg base 1 f fd ["self","word","at"] (jk ["word","at"] C):=by
 have sc:=o9
 refine ⟨D.binds fun _ _ _ _ _ _ us hl=>match us,hl with | [_,_,_],_=>rfl,D.okH sc (fun vs H Q E h=>?_) (fun Hb A outer s H vs Q hr h=>?_)⟩
 ·obtain ⟨a,ys,b,c,rfl,hl,_⟩:=h
  rw [B6,hl];rfl
 ·obtain ⟨a,ys,b,c,rfl,hl,ea,k⟩:=h
  match ys,hl with
  | [y,z],_ =>
  refine ⟨_,(Gq (@cU _ _ _ _ (@lh _ _ _ _ _ _ _ _ _ _ B rfl hR (GA (pv 0) (GA aI ae)) (by decide) (by rfl) (by rfl) (by rfl)) (by rfl))
   (Gq (@tj _ _ _ _ _ _ _ _ (pv 0) (pv 1) (by rfl)) (GB (@xX _ _ _ _ _ _ _ _ (pv 0) (pv 2) (by rfl))))),?_⟩
  refine ⟨_,rfl,a,C,none,b,c,[_],rfl,by simp,ea,x,?_⟩
  refine ⟨_,rfl,_,rfl,a,C,b,c,rfl,ea,x,n0,fun dx Hv ne=>?_⟩
  refine ⟨_,rfl,_,rfl,a,C,b,c,dx,_,rfl,?_,af ..,(by show (1:Nat)≤900;decide),x,n1,ne,?_⟩
  ·rw [ay (Ne.symm ne),af]
  ·have q:=k dx Hv ne
   rw [show ∀ o o',upd (upd (upd H a (Exo a C (some dx) b c)) dx o) dx o'=upd (upd H a (Exo a C (some dx) b c)) dx o' from fun _ _=>b_]
   exact q
abbrev kf:Stmt:=top 34
theorem rS:aN ["thing"] ["thing"] (ao kf):=⟨rfl,rfl,rfl,by decide +kernel,rfl,by decide +kernel,by decide +kernel⟩
theorem vQ (D:Df K mg "are_steps" kf)(T:Bt K w mg aB)(MP:∃ t,mg "MOST_STEPS" = some (.int 2000 t))(HJ:Fnc P w K mg base "is_step" ["thing"] 3 (e6 K)):Fnc P w K mg base "are_steps" ["thing"] 4 oQ:=by
 have sc:=rS
 refine D.ok sc (fun _ _ _ _ _ _ us hl=>by obtain ⟨_,rfl⟩:=lI hl;rfl) (fun vs H Q E h=>?_) (fun f Hb A outer s H vs Q E hr h=>?_)
 ·obtain ⟨a,xs,ss,rfl,_⟩:=h
  rfl
 ·obtain ⟨a,xs,ss,rfl,ha,sr,hn,k⟩:=h
  have Hr:=a9
  have hl:=sr.length
  obtain ⟨tP,mgP⟩:=MP
  refine ⟨_,(GB (GC (GL (Gz (@cJ _ (K) rfl) (by rfl) T.isinstance bc (GA (pv 0) (GA (GM (.ty "tuple") rfl T.tuple d8 rfl) ae))) (GL (GG mB (Gz aW (by rfl) T.len BP (GA (pv 0) ae)) (GO (.int 2000) rfl mgP ⟨_,rfl⟩) (aD _)) (GN (Gz (@du _ rfl) (by rfl) T.all xq (GA (GI (["part"]) (["part"]) ([]) (GJ rfl (by kernel_rfl)) rfl (@gq _ _ _ _ (pv 0)) (fun _ _ _ _=>GK (0) (show (["part"]:List Str).Nodup from by decide +kernel) rfl (Or.inl rfl)) (fun _ _ _ _=>cu) (fun _ _ _ _=>by (exact (GR HJ hr (by decide) rfl (GA (pv 0) ae))))) ae))))))),?_⟩
  refine ⟨_,rfl,_,_,_,_,rfl,.tup ha,kL,_,rfl,mW ?_⟩
  refine ⟨_,rfl,a,_,rfl,.inr (SqT.of ha),_,_,rfl,rfl,_,rfl,bY (BM (by omega)) ?_⟩
  refine ⟨_,rfl,a,rfl,⟨xs,SqT.of ha⟩,?_⟩
  refine qH (xs:=xs) (own:=["part"]) (cap:=[]) (fun i ys σ H'=>∃ v:Option V,σ = [v]∧ys=List.replicate i (V.bl true)∧aF H H') ⟨none,rfl,rfl,aF.refl _⟩ (fun i ys σ H' hi ⟨v,_,e,_⟩=>by rw [e,C5];omega) (by omega) (fun i ys σ H' ⟨_,_,_,s1⟩=>SqT.of (s1 _ _ ha)) ?_ ?_
  ·rintro i ys σ H1 y N hyi ⟨v,rfl,rfl,s1⟩ hN
   obtain ⟨b,st,rfl,_,hb,hs⟩:=sr.get hyi
   refine ⟨_,rfl,_,true,rfl,tB hs (s1 _ _ hb),fun H2 s2=>hN _ _ _ ⟨_,rfl,?_,s1.trans s2⟩⟩
   rw [List.replicate_succ']
  ·rintro ys σ H1 l ⟨v,rfl,rfl,s1⟩ hl'
   refine ⟨l,List.replicate xs.length true,rfl,SqL.of (by rw [af,List.map_replicate]),?_⟩
   rw [show (List.replicate xs.length true).all id=true by rw [D_];intro b hb;exact List.eq_of_mem_replicate hb]
   exact k _ (s1.then hl')
abbrev vR:Stmt:=top 35
theorem yG:aN ["rings","word","steps","refusal"] ["rings","word","steps"] (ao vR):=⟨rfl,rfl,rfl,by decide +kernel,rfl,by decide +kernel,by decide +kernel⟩
theorem Ar {CT CP:Addr}{bmT:List Value}(D:Df K mg "end_of" vR)(T:Bt K w mg aB)(Iz:mg "NoStep" = some (.ref CT))(xT:XCl K CT bmT)(aT:XAt K CT)(nP:PySem.W.findIn K (.ref CT) "place" = some none)(Ib:rB P w K mg base "walked" ["rings","word","steps"] 5 (ip CT))(M_paperH:Al P w K mg base "NoPaper" CP ["word","at"] 1):rB P w K mg base "end_of" ["rings","word","steps"] 6 (oR CP):=by
 have sc:=yG
 refine D.okX sc (fun _ _ _ _ _ _ us hl=>by obtain ⟨_,_,_,rfl⟩:=jy hl;rfl) (fun vs H Q E h=>?_) (fun f Hb A outer s H vs Q E hr h=>?_)
 ·obtain ⟨a,p,R,v,xs,ss,rfl,_⟩:=h
  rfl
 ·obtain ⟨a,p,R,v,xs,ss,rfl,ha,hR,hv,hp,Io,hn,k0,k1⟩:=h
  have Hr:=a9
  refine ⟨_,(GB (vx (i:=3) rfl rfl sc.nd rfl rfl rfl Iz xT j5 (fun _=>(@vk _ _ _ _ _ (@tq _ _ _ _ _ _ _ _ _ _ _ _ Ib hr (by decide) rfl (GA (pv 0) (GA (pv 1) (GA (pv 2) ae))) (by decide) (by rfl) (by rfl)))) (fun _=>(ym M_paperH hr.h.mark (by decide) rfl (GA aI (GA (@oE _ (K) _ _ _ _ rfl (pv 3) rfl) ae)))))),?_⟩
  refine ⟨_,rfl,_,rfl,_,rfl,a,p,R,v,xs,ss,rfl,ha,hR,hv,.inl hp,Io,by omega,fun z hz H1 s1=>k0 z hz _ s1,fun i hi e dx H1 he Hv s1=>?_⟩
  refine ⟨e,CT,some dx,true,_,rfl,he,xT,by simp,?_⟩
  refine ⟨_,rfl,e,CT,false,true,dx,_,_,rfl,he,Hv,aT,nP,rfl,?_⟩
  refine ⟨rfl,by decide,fun b dy hb hd ne=>?_⟩
  have nb:e≠b:=fun z=>by rw [z,hb] at he;cases he
  have nd:e≠dy:=fun z=>by rw [z,hd] at he;cases he
  exact ⟨b,CP,some dy,true,CT,some dx,false,rfl,Ne.symm nb,by rw [ay ne.symm,af],M_paperH.ca.1,by rw [ay nd,ay nb];exact he,k1 i hi b _ (tF (k:=i) hb hd ne) (s1.trans (jr hb hd))⟩
abbrev fW:Stmt:=top 37
theorem l_:aN ["rings","word","thing"] ["rings","word","thing"] (ao fW):=⟨rfl,rfl,rfl,by decide +kernel,rfl,by decide +kernel,by decide +kernel⟩
theorem pe {CP:Addr}(D:Df K mg "lets_nothing" fW)(T:Bt K w mg aB)(ID:Fnc P w K mg base "are_steps" ["thing"] 4 oQ)(F_end:rB P w K mg base "end_of" ["rings","word","steps"] 6 (oR CP))(IA:XMk P w K mg base "NoPaper" CP ["word","at"] 1):rB P w K mg base "lets_nothing" ["rings","word","thing"] 7 (j7 CP):=by
 have sc:=l_
 refine D.okX sc (fun _ _ _ _ _ _ us hl=>by obtain ⟨_,_,_,rfl⟩:=jy hl;rfl) (fun vs H Q E h=>?_) (fun f Hb A outer s H vs Q E hr h=>?_)
 ·obtain ⟨a,p,R,v,xs,ss,rfl,_⟩:=h
  rfl
 ·obtain ⟨a,p,R,v,xs,ss,rfl,ha,hR,hv,hp,Io,hn,k0,k1,k2⟩:=h
  have Hr:=a9
  refine ⟨_,(Gq (Gv (GP (GQ (GR ID hr (by decide) rfl (GA (pv 2) ae)) (fun _=>rfl))) (GB (@dW _ _ _ _ _ c_ rfl (GX IA hr (by decide) rfl (GA aI (GA ai ae))))) aO) (Gq (Gv (Gw jC (@x5 _ _ _ _ _ _ _ _ _ _ _ _ F_end hr (by decide) lY rfl (GA (pv 0) (GA (pv 1) (GA (pv 2) ae))) (by decide) (by rfl) (by rfl)) aI (aD _)) (GB (@dW _ _ _ _ _ c_ rfl (GX IA hr (by decide) rfl (GA aI (GA ai ae))))) aO) (GB (GC dX)))),?_⟩
  refine ⟨_,rfl,p,xs,ss,rfl,hp,Io,hn,fun H1 s1=>⟨_,rfl,nkT (tD ?_)⟩⟩
  refine ⟨_,rfl,_,rfl,_,rfl,a,p,R,v,xs,ss,rfl,s1 _ _ ha,hR,hv,s1 _ _ hp,Io.same s1,hn,fun u hu H2 s2=>⟨rfl,_,rfl,?_⟩,fun i hi b H2 x s2=>k2 i hi b H2 x (s1.trans s2)⟩
  have e0:V.str (Str.ofString "")=tx []:=rfl
  have ed:(!decide (tx u=V.str (Str.ofString "")))=!decide (u=[]):=by rw [e0,nh]
  refine (Ci (fun b=>dY _ _ _ _ b _) ed).mpr ?_
  by_cases e:u=[]
  ·rw [BM e]
   exact tD (k0 (by rw [hu,e]) _ (s1.trans s2))
  ·rw [BI e]
   refine vq ?_
   exact ⟨rfl,by decide,fun b dx hb hd ne=>⟨b,CP,some dx,true,rfl,by rw [ay ne.symm,af],IA.ca.1,k1 u hu e b _ (tF (k:=0) hb hd ne) ((s1.trans s2).trans (jr hb hd))⟩⟩
abbrev kg:Stmt:=top 41
theorem rT:aN ["_law_word","_law_found","_law_sign"] ["_law_word"] (ao kg):=⟨rfl,rfl,rfl,by decide +kernel,rfl,by decide +kernel,by decide +kernel⟩
def _root_.GY {a b c d e f g h}:=@bp a b c d e f g h
theorem vS (D:Df K mg "_law_back" kg):Fnc P w K mg base "_law_back" ["_law_word"] 1 i8:=by
 have sc:=rT
 refine D.ok sc (fun _ _ _ _ _ _ us hl=>by obtain ⟨_,rfl⟩:=lI hl;rfl) (fun vs H Q E h=>?_) (fun f Hb A outer s H vs Q E hr h=>?_)
 ·obtain ⟨u,rfl,_⟩:=h
  rfl
 ·obtain ⟨u,rfl,hu,k⟩:=h
  have Hr:=a9
  refine ⟨_,(Gq (Gx (1) sc.nd rfl (Or.inl rfl) aI) (Gq (GU Ce rfl (@mY _ _ _ _ (pv 0)) (GK (2) sc.nd rfl (Or.inl rfl)) (GB (Gx (1) sc.nd rfl (Or.inl rfl) (Gr aH (GY (Gw fc (pv 2) aI rfl) (@ku _ _ _ _ _ _ _ _ _ C2 FQ FR kC (pv 2) (by rfl) (by rfl)) (@ku _ _ _ _ _ _ _ _ _ C2 FO FP kD (pv 2) (by rfl) (by rfl))) (pv 1))))) (GB (GC (pv 1))))),?_⟩
  refine ⟨_,rfl,_,rfl,uq (z:=toS u) (fun i σ H'=>∃ v,σ = [some (tx u),some (tx (bk (u.take i))),v]∧H'=H) ⟨none,(by rw [List.take_zero];show _=[some (tx u),some (tx []),none];rw [dN];rfl),rfl⟩ ?_ ?_⟩
  ·rintro i c σ H1 hc ⟨v,rfl,rfl⟩
   obtain ⟨x,hx,e⟩:=nj hc
   rw [e]
   have hi:i < u.length:=(BF.mp hx).1
   have fin:∀ z,z=toS [inv x]→∃ v',[some (tx u),some (V.str (z++toS (bk (u.take i)))),some (V.str (toS [x]))]=[some (tx u),some (tx (bk (u.take (i+1)))),v']∧H1=H1:=fun z ez=>by
    refine ⟨some (V.str (toS [x])),?_,rfl⟩
    rw [ez,bg,i_ hx,fD]
    rfl
   have room:∀ z,z=toS [inv x]→z.length+(toS (bk (u.take i))).length≤sizeLine:=fun z ez=>by
    rw [ez,ah,ah,bJ,BJ]
    simp only [CS]
    omega
   refine ⟨_,rfl,_,_,rfl,rfl,_,rfl,?_⟩
   rw [qr]
   refine eI (fun h=>?_) (fun h=>?_)
   ·have h:x.val < 6:=by simpa using h
    exact ⟨_,rfl,rfl,_,rfl,rfl,(by rw [ah];show 1≤5592405;decide),_,rfl,_,_,rfl,rfl,room _ (fG h),fin _ (fG h)⟩
   ·have h:¬ x.val < 6:=by simpa using h
    exact ⟨_,rfl,rfl,_,rfl,rfl,(by rw [ah];show 1≤5592405;decide),_,rfl,_,_,rfl,rfl,room _ (i3 h),fin _ (i3 h)⟩
  ·rintro σ H1 ⟨v,rfl,rfl⟩
   rw [eV,Eb]
   exact ⟨_,rfl,k _ (aF.refl _)⟩
abbrev pf:Stmt:=top 42
theorem vT:aN ["_law_word","_law_at"] ["_law_word"] (ao pf):=⟨rfl,rfl,rfl,by decide +kernel,rfl,by decide +kernel,by decide +kernel⟩
theorem yH (D:Df K mg "_law_reduced" pf)(T:Bt K w mg aB)(G9:Fnc P w K mg base "_law_back" ["_law_word"] 1 i8):Fnc P w K mg base "_law_reduced" ["_law_word"] 2 uE:=by
 have sc:=vT
 refine D.ok sc (fun _ _ _ _ _ _ us hl=>by obtain ⟨_,rfl⟩:=lI hl;rfl) (fun vs H Q E h=>?_) (fun f Hb A outer s H vs Q E hr h=>?_)
 ·obtain ⟨u,rfl,_⟩:=h
  rfl
 ·obtain ⟨u0,rfl,hu,k⟩:=h
  have Hr:=a9
  refine ⟨_,(Gq (Gx (1) sc.nd rfl (Or.inl rfl) ai) (Gq (@eR _ _ _ _ _ _ Ce (Gw e9 (Gr aU (pv 1) ai) (Gz av (by rfl) T.len BP (GA (pv 0) ae)) (aD _)) (GB (Gv (Gw bj (Gy bR (pv 0) (Gr aU (pv 1) ai) (fun _ _=>rfl)) (GR G9 hr (by decide) rfl (GA (Gy bR (pv 0) (pv 1) (fun _ _=>rfl)) ae)) (aD _)) (Gq (Gx (0) sc.nd rfl (Or.inl rfl) (Gr aH (GD aY (pv 0) aJ (GE (pv 1))) (GD aY (pv 0) (GE (Gr aU (pv 1) ai)) aJ))) (GB (Gx (1) sc.nd rfl (Or.inl rfl) (Gz (@fg _ rfl) (by rfl) T.max uD (GA ai (GA (Gr iK (pv 1) ai) ae)))))) (GB (Gx (1) sc.nd rfl (Or.inl rfl) (Gr aU (pv 1) ai)))))) (GB (GC (pv 0))))),?_⟩
  refine ⟨fun m σ H'=>∃ (u:List L) (j:Nat),σ = [some (tx u),some (.int j)]∧aF H H'∧red u=red u0∧sP (j+1) u∧u.length≤5000∧m=2*u.length - j,⟨_,u0,0,rfl,aF.refl _,rfl,(fun i x y hi=>by omega),hu,rfl⟩,?_⟩
  rintro m σ H1 ⟨u,j,rfl,s1,Io,hrd,hlu,rfl⟩
  refine ⟨_,rfl,_,_,rfl,rfl,_,rfl,_,rfl,(by rw [ah];omega),_,_,rfl,rfl,_,rfl,?_⟩
  rw [ah]
  refine eI (fun h=>?_) (fun h=>?_)
  ·have h:j+1 < u.length:=by
    have h:(j:Int)+1 < (u.length:Int):=by simpa using h
    omega
   have hx:u[j]? = some u[j]:=BC (by omega)
   have hy:u[j+1]? = some u[j+1]:=BC h
   generalize u[j]=x at hx
   generalize u[j+1]=y at hy
   refine ⟨_,fun σ' H' q=>q,?_⟩
   refine ⟨_,rfl,_,rfl,_,_,rfl,rfl,_,_,cp y,rfl,rfl,(by rw [ah];omega),bB (k:=j+1) (by omega) hy,?_⟩
   refine ⟨_,rfl,_,rfl,_,_,cp x,rfl,rfl,(by rw [ah];omega),bB (k:=j) rfl hx,[x],rfl,(by show 1≤5000;decide),fun H2 s2=>?_⟩
   refine ⟨rfl,_,rfl,?_⟩
   show if decide (tx [y]=tx (bk [x]))=true then _ else _
   rw [nh,fF]
   refine eI (fun h2=>?_) (fun h2=>?_)
   ·have h2:y=inv x:=by simpa using h2
    subst h2
    refine ⟨_,rfl,_,rfl,_,rfl,_,rfl,(by rw [ah];omega),_,rfl,_,rfl,_,_,rfl,rfl,_,rfl,_,rfl,(by rw [ah];omega),_,_,rfl,rfl,?_,?_⟩
    ·rw [az,az,ah,ah]
     have h1:=c7 u none (some (j:Int))
     have h2:=c7 u (some ((j:Int)+2)) none
     omega
    ·refine ⟨_,rfl,_,_,rfl,rfl,_,_,rfl,?_⟩
     have el:(u.take j++u.drop (j+2)).length=u.length - 2:=by rw [BB,BJ,B0];omega
     refine ⟨2*(u.take j++u.drop (j+2)).length - (j - 1),by omega,u.take j++u.drop (j+2),j - 1,?_,s1.trans s2,by rw [uw hx hy];exact Io,qp hrd,by omega,rfl⟩
     rw [az,az,bF u (by omega),bh u (by omega),bg]
     have e1:((j:Int)).toNat=j:=by omega
     have e2:((j:Int)+2).toNat=j+2:=by omega
     have e3:(if ((j:Int) - 1) > 0 then ((j:Int) - 1) else 0)=((j - 1:Nat):Int):=by split <;> omega
     rw [e1,e2,e3]
     rfl
   ·have h2:¬ y=inv x:=by simpa using h2
    refine ⟨_,rfl,_,_,rfl,rfl,?_⟩
    exact ⟨2*u.length - j - 1,by omega,u,j+1,rfl,s1.trans s2,Io,ng hrd (fun a b ha hb=>by rw [hx] at ha;rw [hy] at hb;cases ha;cases hb;exact h2),hlu,by omega⟩
  ·have h:¬ j+1 < u.length:=by
    have h:¬ (j:Int)+1 < (u.length:Int):=by simpa using h
    omega
   refine ⟨_,rfl,?_⟩
   have e:red u0=u:=by rw [← Io,jJ (by omega) hrd]
   rw [← e]
   exact k _ s1
abbrev ph:Stmt:=top 43
theorem vU:aN ["_law_feed_here","_law_many","_law_most","_law_signs"] ["_law_feed_here","_law_many","_law_most"] (ao ph):=⟨rfl,rfl,rfl,by decide +kernel,rfl,by decide +kernel,by decide +kernel⟩
def _root_.GZ {a b c d e f}:=@bq a b c d e f
theorem yI (D:Df K mg "_law_some" ph)(T:Bt K w mg aB)(G7:Fnc P w K mg base "_law_draw" ["_law_feed_here","_law_many"] 1 cC):Fnc P w K mg base "_law_some" ["_law_feed_here","_law_many","_law_most"] 2 dF:=by
 have sc:=vU
 refine D.ok sc (fun _ _ _ _ _ _ us hl=>by obtain ⟨_,_,_,rfl⟩:=jy hl;rfl) (fun vs H Q E h=>?_) (fun f Hb A outer s H vs Q E hr h=>?_)
 ·obtain ⟨d,m,n,rfl,_⟩:=h
  rfl
 ·obtain ⟨d,m,n,rfl,F,m1,m2,n1,n2,k⟩:=h
  have Hr:=a9
  refine ⟨_,(Gq (Gx (3) sc.nd rfl (Or.inr rfl) (Gr aH (GD aY aI aJ (GE (pv 1))) (GD aY aI aJ (GE (pv 1))))) (GB (GC (GH C2 PySem.F.slot_str_join PySem.F.type_str_join mZ aI (GA (GI (["_law_k","_law_signs","_law_feed_here","_law_many"]) (["_law_k"]) ([3,0,1]) (GJ rfl (by kernel_rfl)) rfl (GZ rfl T.range (GA (GR G7 hr (by decide) rfl (GA (pv 0) (GA (Gr aU (pv 2) ai) ae))) ae)) (fun _ _ _ _=>GK (0) (show (["_law_k","_law_signs","_law_feed_here","_law_many"]:List Str).Nodup from by decide +kernel) rfl (Or.inl rfl)) (fun _ _ _ _=>cu) (fun _ _ _ _=>by (exact (Gy bR (pv 1) (GR G7 hr (by decide) rfl (GA (pv 2) (GA (Gr e8 ai (pv 3)) ae))) (fun _ _=>rfl))))) ae))))),?_⟩
  refine ⟨_,rfl,_,rfl,_,rfl,(by rw [nB];omega),_,rfl,_,rfl,_,rfl,(by rw [sQ];omega),_,_,rfl,rfl,?_,?_⟩
  ·have h1:=Cf ("abcdef":Str) none (some m)
   have h2:=Cf ("ABCDEF":Str) none (some m)
   rw [nB] at h1
   rw [sQ] at h2
   omega
  rw [qy m1]
  refine ⟨rfl,_,rfl,_,rfl,_,_,rfl,rfl,d,_,rfl,F,by omega,by omega,fun r H1 r0 r1 F1 Ik=>?_⟩
  refine ⟨_,rfl,by omega,by omega,?_⟩
  refine cj (own:=["_law_k"]) (cap:=[3,0,1]) (J:=Itr 0 r.toNat) r.toNat (fun i ys σ H'=>∃ (v:Option V) (W:List L),σ = [v,some (tx (sg m)),some (.ref d),some (.int m)]∧ys=qx W∧W.length=i∧InM m.toNat W∧Fd H' d∧ba d H H')
   ⟨none,[],rfl,rfl,rfl,InM.nil,F1,Ik⟩ (fun i ys σ H' hi ⟨v,W,_,e,e2,_⟩=>by rw [e,fK,e2];exact BG _) (by omega) (fun i ys σ H' hi _=>hi) (fun ys σ H' _=>BG _) ?_ ?_
  ·rintro i ys σ H2 x H3 N hi ⟨v,W,rfl,rfl,hW,hI,F2,Hf⟩ ⟨rfl,rfl⟩ hN
   refine ⟨_,rfl,_,rfl,_,rfl,_,_,rfl,rfl,.inl ⟨by decide,by decide⟩,d,_,rfl,F2,by omega,by omega,fun q H4 q0 q1 F4 Hh=>?_⟩
   have hq:q.toNat < (sg m).length:=by rw [i9 m1 m2];omega
   refine ⟨_,_,cp (sg m)[q.toNat],rfl,rfl,(by rw [ah,i9 m1 m2];omega),bB (k:=q.toNat) (by omega) (BC hq),hN _ _ _ ⟨_,W++[(sg m)[q.toNat]],rfl,(i5 _ _),by rw [BB,hW];rfl,InM.snoc hI (zN m1 m2 _ (CA hq)),F4,Hf.trans Hh⟩⟩
  ·rintro ys σ H2 l ⟨v,W,rfl,rfl,hW,hI,F2,Hf⟩ hl
   refine ⟨_,l,W.map fun x=>toS [x],rfl,rfl,SqL.of (by rw [af,kH]),i7 _ (by omega),?_⟩
   rw [i6]
   exact k _ _ (by omega) hI (F2.new hl) (Hf.trans (aF.new hl).b)
end
inductive vV:List L→List L→List L × List L→Prop where
 | stop (f m:List L):(∀ x mid,m≠x::(mid++[inv x]))→vV f m (f,m)
 | step (f:List L) (x:L) (mid:List L) (r:List L × List L):vV (f++[x]) mid r→vV f (x::(mid++[inv x])) r
theorem dh {x:L}{mid:List L}:(x::(mid++[inv x]):List L).length=mid.length+2:=by simp
theorem pj (x z:L)(mid:List L):jK (x::(mid++[z])) (some 1) (some (((x::(mid++[z]):List L).length:Int) - 1))=mid:=by
 unfold jK
 have e1:HT.sIx (x::(mid++[z])).length 0 (some 1)=1:=by
  have q:=HT.cF (x::(mid++[z])).length 0 1
  rw [show ((1:Nat):Int)=1 from rfl] at q
  rw [q]
  simp
 have e2:HT.sIx (x::(mid++[z])).length (x::(mid++[z])).length (some (((x::(mid++[z]):List L).length:Int) - 1))=mid.length+1:=by
  have:(((x::(mid++[z]):List L).length:Int) - 1)=((mid.length+1:Nat):Int):=by
   have:(x::(mid++[z]):List L).length=mid.length+2:=by simp
   omega
  rw [this,HT.cF]
  simp
 rw [e1,e2]
 simp
inductive rV (vs:List V)(H:Hp)(Q:VK)(Hc:XK):Prop
 | mk:∀ w,(vs=[tx w])→(w.length≤2000)→(∀ (f md:List L) (H':Hp),vV [] (red w) (f,md)→md.length≤w.length→(∀ x∈md,x∈w)→aF H H'→Q (tx md) H')→rV vs H Q Hc
theorem rW:∀ {f m:List L} {r:List L × List L},vV f m r→(∀ x∈r.2,x∈m)∧r.1.length+r.2.length≤f.length+m.length∧r.2.length≤m.length:=by
 intro f m r h
 induction h with
 | stop f m hn=>exact ⟨fun x hx=>hx,BG _,BG _⟩
 | step f x mid r h ih =>
  obtain ⟨h1,h2,h3⟩:=ih
  rw [BB,CS] at h2
  rw [dh]
  exact ⟨fun y hy=>BZ _ (Cb _ (h1 y hy)),by omega,by omega⟩
section
variable {P:Program} {w:World} {K:PySem.W.Frag} {mg:Str→Option Value} {base:Heap} {aB:Addr}
abbrev vW:Stmt:=top 45
theorem yJ:aN ["_law_word","_law_short"] ["_law_word"] (ao vW):=⟨rfl,rfl,rfl,by decide +kernel,rfl,by decide +kernel,by decide +kernel⟩
theorem As (D:Df K mg "_law_middle" vW)(T:Bt K w mg aB)(G9:Fnc P w K mg base "_law_back" ["_law_word"] 1 i8)(F_lred:Fnc P w K mg base "_law_reduced" ["_law_word"] 2 uE):Fnc P w K mg base "_law_middle" ["_law_word"] 3 rV:=by
 have sc:=yJ
 refine D.ok sc (fun _ _ _ _ _ _ us hl=>by obtain ⟨_,rfl⟩:=lI hl;rfl) (fun vs H Q E h=>?_) (fun f Hb A outer s H vs Q E hr h=>?_)
 ·obtain ⟨u,rfl,_⟩:=h
  rfl
 ·obtain ⟨u,rfl,hu,k⟩:=h
  have Hr:=a9
  have hru:=lQ u
  refine ⟨_,(Gq (Gx (1) sc.nd rfl (Or.inl rfl) (GR F_lred hr (by decide) rfl (GA (pv 0) ae))) (Gq (@eR _ _ _ _ _ _ Ce (GS (GV (Gw gc (Gz av (by rfl) T.len BP (GA (pv 1) ae)) ai (aD _)) (GW (Gw bj (Gy bR (pv 1) ai (fun _ _=>rfl)) (GR G9 hr (by decide) rfl (GA (Gy bR (pv 1) (Gr iK (Gz av (by rfl) T.len BP (GA (pv 1) ae)) ai) (fun _ _=>rfl)) ae)) (aD _))))) (GB (Gx (1) sc.nd rfl (Or.inl rfl) (GD aY (pv 1) (GE ai) (GE (Gr iK (Gz av (by rfl) T.len BP (GA (pv 1) ae)) ai)))))) (GB (GC (pv 1))))),?_⟩
  refine ⟨_,rfl,u,rfl,by omega,fun H1 s1=>?_⟩
  refine ⟨fun n σ H'=>∃ (fr md:List L),σ = [some (tx u),some (tx md)]∧aF H H'∧(∀ r,vV fr md r→vV [] (red u) r)∧fr.length+md.length≤u.length∧n=md.length,⟨_,[],red u,rfl,s1,fun _ q=>q,(by simp only [CK];omega),rfl⟩,?_⟩
  rintro n σ H2 ⟨fr,md,rfl,s2,hC,hl,rfl⟩
  have fin:(∀ x mid,md≠x::(mid++[inv x]))→∀ H3,aF H H3→Q (tx md) H3:=fun hn H3 s3=>by
   have c:=hC _ (.stop fr md hn)
   exact k fr md _ c (by omega) (fun x hx=>u9 ((rW c).1 x hx)) s3
  have hmd:(toS md).length≤sizeLine:=by rw [ah];omega
  by_cases h1:1 < md.length
  ·refine ⟨_,rfl,_,rfl,hmd,_,_,rfl,rfl,_,rfl,bY (by rw [ah];exact BM (by omega)) ?_⟩
   obtain ⟨x,mid,z,rfl⟩:=qJ h1
   refine ⟨_,rfl,_,_,cp x,rfl,rfl,hmd,bB (k:=0) rfl rfl,_,rfl,_,rfl,_,rfl,hmd,_,_,rfl,rfl,_,_,cp z,rfl,rfl,hmd,bB (k:=mid.length+1) ?_ ?_,[z],rfl,(by show 1≤5000;decide),fun H3 s3=>⟨rfl,_,rfl,?_⟩⟩
   ·rw [ah];simp
   ·simp
   show if decide (tx [x]=tx (bk [z]))=true then _ else _
   rw [nh,fF]
   refine eI (fun h=>?_) (fun h=>?_)
   ·have h:x=inv z:=by simpa using h
    have h:z=inv x:=by rw [h,d5]
    subst h
    refine ⟨_,fun σ' H' q=>q,?_⟩
    refine ⟨_,rfl,_,rfl,_,rfl,_,rfl,hmd,_,_,rfl,rfl,_,rfl,_,rfl,hmd,?_⟩
    rw [az,ah,pj]
    rw [dh] at hl
    refine ⟨mid.length,by rw [dh];omega,fr++[x],mid,rfl,s2.trans s3,fun q hq=>hC q (.step fr x mid q hq),?_,rfl⟩
    rw [BB,CS]
    omega
   ·have h:¬ x=inv z:=by simpa using h
    exact ⟨_,rfl,fin (fun y m2 e=>by
     obtain ⟨e1,e2⟩:=FJ e
     subst e1
     have e3:=List.append_inj_right' e2 rfl
     exact h (by rw [(FJ e3).1,d5])) _ (s2.trans s3)⟩
  ·refine ⟨_,rfl,_,rfl,hmd,_,_,rfl,rfl,_,rfl,bO (by rw [ah];exact BI (by omega)) (iG ?_)⟩
   exact ⟨_,rfl,fin (fun x mid e=>by rw [e,dh] at h1;omega) _ s2⟩
abbrev kh:Stmt:=top 44
theorem rX:aN ["_law_feed_here","_law_many","_law_most","_law_way","_law_one","_law_k","_law_at","_law_sign","_law_other_here"] ["_law_feed_here","_law_many","_law_most"] (ao kh):=⟨rfl,rfl,rfl,by decide +kernel,rfl,by decide +kernel,by decide +kernel⟩
theorem vX (D:Df K mg "_law_drawn" kh)(T:Bt K w mg aB)(G7:Fnc P w K mg base "_law_draw" ["_law_feed_here","_law_many"] 1 cC)(G9:Fnc P w K mg base "_law_back" ["_law_word"] 1 i8)
  (He:Fnc P w K mg base "_law_some" ["_law_feed_here","_law_many","_law_most"] 2 nA):Fnc P w K mg base "_law_drawn" ["_law_feed_here","_law_many","_law_most"] 3 jL:=by
 have sc:=rX
 refine D.ok sc (fun _ _ _ _ _ _ us hl=>by obtain ⟨_,_,_,rfl⟩:=jy hl;rfl) (fun vs H Q E h=>?_) (fun f Hb A outer s H vs Q E hr h=>?_)
 ·obtain ⟨d,m,n,rfl,_⟩:=h
  rfl
 ·obtain ⟨d,m,n,rfl,F,m1,m2,n1,n2,k⟩:=h
  have Hr:=a9
  refine ⟨_,(Gq (Gx (3) sc.nd rfl (Or.inl rfl) (GR G7 hr (by decide) rfl (GA (pv 0) (GA ai ae)))) (Gq (Gx (4) sc.nd rfl (Or.inl rfl) (GR He hr (by decide) rfl (GA (pv 0) (GA (pv 1) (GA (GY (Gw bj (pv 3) ai (aD _)) (pv 2) (Gr dA (pv 2) ai)) ae))))) (Gq (Gv (Gw bj (pv 3) ai (aD _)) (GB (GU Ce rfl (GZ rfl T.range (GA (Gr aU ai (GR G7 hr (by decide) rfl (GA (pv 0) (GA (Gr dA (pv 2) ai) ae)))) ae)) (GK (5) sc.nd rfl (Or.inl rfl)) (Gq (Gx (6) sc.nd rfl (Or.inl rfl) (GR G7 hr (by decide) rfl (GA (pv 0) (GA (Gr aU (Gz av (by rfl) T.len BP (GA (pv 4) ae)) ai) ae)))) (Gq (Gx (7) sc.nd rfl (Or.inl rfl) (Gy bR aI (GR G7 hr (by decide) rfl (GA (pv 0) (GA (pv 1) ae))) (fun _ _=>rfl))) (Gq (Gx (7) sc.nd rfl (Or.inl rfl) (Gy bI (GF (GA (pv 7) (GA (@ku _ _ _ _ _ _ _ _ _ C2 FQ FR kC (pv 7) (by rfl) (by rfl)) ae))) (GR G7 hr (by decide) rfl (GA (pv 0) (GA ai ae))) (fun _ _=>rfl))) (GB (Gx (4) sc.nd rfl (Or.inl rfl) (Gr aH (Gr aH (Gr aH (GD aY (pv 4) aJ (GE (pv 6))) (pv 7)) (GR G9 hr (by decide) rfl (GA (pv 7) ae))) (GD aY (pv 4) (GE (pv 6)) aJ))))))))) aO) (Gq (Gx (8) sc.nd rfl (Or.inl rfl) (GR He hr (by decide) rfl (GA (pv 0) (GA (pv 1) (GA (Gr dA (pv 2) ai) ae))))) (Gq (Gv (Gw bj (pv 3) ai (aD _)) (GB (GC (Gr aH (Gr aH (pv 8) (pv 4)) (GR G9 hr (by decide) rfl (GA (pv 8) ae))))) aO) (GB (GC (GY (Gw e9 (pv 3) ai (aD _)) (pv 4) (Gr aH (Gr bt (pv 4) (Gr aU ai (GR G7 hr (by decide) rfl (GA (pv 0) (GA ai ae))))) (pv 8)))))))))),?_⟩
  have q4:n / 4≤10:=by omega
  have q1:1≤n / 4:=by omega
  -- the way
  refine ⟨_,rfl,d,_,rfl,F,by decide,by decide,fun way H1 w0 w1 F1 Ik=>?_⟩
  have hw:way=0 ∨ way=1 ∨ way=2 ∨ way=3:=by omega
  rcases hw with rfl | rfl | rfl | rfl
  ·refine ⟨_,rfl,_,rfl,_,rfl,rfl,_,rfl,bY (by decide) ⟨_,rfl,d,m,n,rfl,F1,m1,m2,by omega,by omega,fun u H2 hu F2 Hf=>?_⟩⟩
   refine ⟨_,rfl,rfl,_,rfl,bO (by decide) ?_⟩
   refine ⟨_,rfl,_,rfl,_,rfl,_,_,rfl,rfl,⟨by decide,by decide⟩,d,m,n / 4,rfl,F2,m1,m2,by omega,by omega,fun v H8 hv F8 Ii=>?_⟩
   refine ⟨_,rfl,rfl,_,rfl,bO (by decide) ?_⟩
   refine ⟨_,rfl,_,_,rfl,rfl,_,rfl,bY (by decide) ⟨_,rfl,?_⟩⟩
   exact k u _ (by omega) F8 ((Ik.trans Hf).trans Ii)
  ·refine ⟨_,rfl,_,rfl,_,rfl,rfl,_,rfl,bO (by decide) ⟨_,rfl,_,_,rfl,rfl,⟨by decide,by decide⟩,d,m,n / 4,rfl,F1,m1,m2,by omega,by omega,fun u H2 hu F2 Hf=>?_⟩⟩
   refine ⟨_,rfl,rfl,_,rfl,bY (by decide) ?_⟩
   refine ⟨_,rfl,_,rfl,_,_,rfl,rfl,⟨by decide,by decide⟩,d,_,rfl,F2,by omega,by omega,fun r H3 r0 r1 F3 Ho=>⟨_,_,rfl,rfl,_,rfl,by omega,by omega,?_⟩⟩
   refine bQ (lo:=0) (n:=(1+r).toNat) (fun i σ H'=>∃ (a b c:Option V) (u:List L),σ = [some (.ref d),some (.int m),some (.int n),some (.int 1),some (tx u),a,b,c,none]∧u.length≤10+2*i∧Fd H' d∧ba d H H')
    ⟨none,none,none,u,rfl,by omega,F3,(Ik.trans Hf).trans Ho⟩ ?_ ?_
   ·rintro i σ H4 hi ⟨a,b,c,u,rfl,hu,F4,Hh⟩
    refine ⟨_,rfl,_,rfl,_,rfl,(by rw [ah];omega),_,_,rfl,rfl,d,_,rfl,F4,by omega,by rw [ah];omega,fun at' H5 a0 a1 F5 Hu=>?_⟩
    refine ⟨_,rfl,_,rfl,d,_,rfl,F5,by omega,by omega,fun q H6 q0 q1 F6 Ij=>?_⟩
    obtain ⟨x,hx6,hx⟩:=qz q0 (by omega)
    refine ⟨_,_,cp x,rfl,rfl,(by rw [nB];omega),hx,?_⟩
    refine ⟨_,rfl,_,rfl,rfl,_,rfl,rfl,(by show 1≤5592405;decide),(by show 2≤sizeLine;decide),fun l hl=>?_⟩
    have el:V.str (Txt.upper ⟨#[cp x]⟩)=tx [inv x]:=Ci V.str (fG hx6)
    rw [el]
    refine ⟨_,rfl,d,_,rfl,F6.new hl,by decide,by decide,fun q2 H7 p0 p1 F7 HS=>?_⟩
    obtain ⟨y,hy⟩:=two_at x p0 p1
    have hl7:H7 l=some (.lst [tx [x],tx [inv x]]):=HS _ _ (F6.ne hl) af
    refine ⟨l,_,_,_,rfl,rfl,SqL.of hl7,hy,?_⟩
    refine ⟨_,rfl,_,rfl,_,rfl,_,rfl,(by rw [ah];omega),_,rfl,_,_,rfl,rfl,?_,_,rfl,[y],rfl,(by show 1≤5000;decide),fun H8 s8=>?_⟩
    ·rw [az,ah,ah]
     have h1:=c7 u none (some at')
     show _+1≤_
     omega
    rw [az,bF u a0,bg]
    refine ⟨_,_,rfl,rfl,?_,_,rfl,_,rfl,_,rfl,_,rfl,(by rw [ah];omega),_,_,rfl,rfl,?_,?_⟩
    ·rw [ah,ah,BB,BJ,bJ]
     simp only [CS]
     omega
    ·rw [az,cA,ah,ah,BB,BB,BJ,bJ]
     have h1:=c7 u (some at') none
     simp only [CS]
     omega
    ·rw [az,bh u a0,cA,bg]
     refine ⟨_,_,_,_,rfl,?_,F7.same s8,((((Hh.trans Hu).trans Ij).trans (aF.new hl).b).trans HS).trans s8.b⟩
     rw [BB,BB,BB,BJ,B0,bJ]
     simp only [CS]
     omega
   ·rintro σ H2 ⟨a,b,c,u,rfl,hu,F2,Hf⟩
    refine ⟨_,rfl,_,rfl,_,rfl,_,_,rfl,rfl,⟨by decide,by decide⟩,d,m,n / 4,rfl,F2,m1,m2,by omega,by omega,fun v H8 hv F8 Ii=>?_⟩
    refine ⟨_,rfl,rfl,_,rfl,bO (by decide) ?_⟩
    refine ⟨_,rfl,_,_,rfl,rfl,_,rfl,bY (by decide) ⟨_,rfl,?_⟩⟩
    exact k u _ (by omega) F8 (Hf.trans Ii)
  ·refine ⟨_,rfl,_,rfl,_,rfl,rfl,_,rfl,bO (by decide) ⟨_,rfl,_,_,rfl,rfl,⟨by decide,by decide⟩,d,m,n / 4,rfl,F1,m1,m2,by omega,by omega,fun u H2 hu F2 Hf=>?_⟩⟩
   refine ⟨_,rfl,rfl,_,rfl,bO (by decide) ?_⟩
   refine ⟨_,rfl,_,rfl,_,rfl,_,_,rfl,rfl,⟨by decide,by decide⟩,d,m,n / 4,rfl,F2,m1,m2,by omega,by omega,fun v H8 hv F8 Ii=>?_⟩
   refine ⟨_,rfl,rfl,_,rfl,bY (by decide) ?_⟩
   refine ⟨_,rfl,_,rfl,_,_,rfl,rfl,(by rw [ah,ah];omega),?_⟩
   rw [bg]
   refine ⟨_,rfl,v,rfl,by omega,fun H9 s9=>⟨_,_,rfl,rfl,(by rw [ah,ah,BB,bJ];omega),?_⟩⟩
   rw [bg]
   exact k _ _ (by rw [BB,BB,bJ];omega) (F8.same s9) (((Ik.trans Hf).trans Ii).trans s9.b)
  ·refine ⟨_,rfl,_,rfl,_,rfl,rfl,_,rfl,bO (by decide) ⟨_,rfl,_,_,rfl,rfl,⟨by decide,by decide⟩,d,m,n / 4,rfl,F1,m1,m2,by omega,by omega,fun u H2 hu F2 Hf=>?_⟩⟩
   refine ⟨_,rfl,rfl,_,rfl,bO (by decide) ?_⟩
   refine ⟨_,rfl,_,rfl,_,rfl,_,_,rfl,rfl,⟨by decide,by decide⟩,d,m,n / 4,rfl,F2,m1,m2,by omega,by omega,fun v H8 hv F8 Ii=>?_⟩
   refine ⟨_,rfl,rfl,_,rfl,bO (by decide) ?_⟩
   refine ⟨_,rfl,_,_,rfl,rfl,_,rfl,bO (by decide) ?_⟩
   refine ⟨_,rfl,_,rfl,d,_,rfl,F8,by decide,by decide,fun r H9 r0 r1 F9 sb9=>?_⟩
   have er:(rep (1+r).toNat u).length≤30:=by
    rw [cZ]
    have:(1+r).toNat*u.length≤3*10:=Nat.mul_le_mul (by omega) (by omega)
    omega
   refine ⟨_,_,rfl,rfl,_,_,rfl,rfl,fH u (by omega) (by omega) (by omega),_,rfl,_,_,rfl,rfl,?_,?_⟩
   ·rw [gY,ah,ah];omega
   rw [gY,bg]
   exact k _ _ (by rw [BB];omega) F9 (((Ik.trans Hf).trans Ii).trans sb9)
abbrev pk:Stmt:=top 46
theorem vY:aN ["_law_rings_here","_law_found","_law_ring","_law_word","_law_k","_law_turn"] ["_law_rings_here"] (ao pk):=⟨rfl,rfl,rfl,by decide +kernel,rfl,by decide +kernel,by decide +kernel⟩
def _root_.G4 {a b c d e}:=@a8 a b c d e
theorem yK (D:Df K mg "_law_turns_of" pk)(T:Bt K w mg aB)(G9:Fnc P w K mg base "_law_back" ["_law_word"] 1 i8):Fnc P w K mg base "_law_turns_of" ["_law_rings_here"] 2 de:=by
 have sc:=vY
 refine D.ok sc (fun _ _ _ _ _ _ us hl=>by obtain ⟨_,rfl⟩:=lI hl;rfl) (fun vs H Q E h=>?_) (fun f Hb A outer s H vs Q E hr h=>?_)
 ·obtain ⟨a,R,rfl,_⟩:=h
  rfl
 ·obtain ⟨a,R,rfl,ha,hR,k⟩:=h
  have Hr:=a9
  refine ⟨_,(Gq (Gx (1) sc.nd rfl (Or.inl rfl) (GF ae)) (Gq (GU Ce rfl (@zK _ _ _ _ (pv 0)) (GK (2) sc.nd rfl (Or.inl rfl)) (GB (GU Ce rfl (@gq _ _ _ _ (G4 (GA (pv 2) (GA (GR G9 hr (by decide) rfl (GA (pv 2) ae)) ae)))) (GK (3) sc.nd rfl (Or.inl rfl)) (GB (GU Ce rfl (GZ rfl T.range (GA (Gz av (by rfl) T.len BP (GA (pv 3) ae)) ae)) (GK (4) sc.nd rfl (Or.inl rfl)) (Gq (Gx (5) sc.nd rfl (Or.inl rfl) (Gr aH (GD aY (pv 3) (GE (pv 4)) aJ) (GD aY (pv 3) aJ (GE (pv 4))))) (GB (Gv (Gw (@d9 _ (K) rfl) (pv 5) (pv 1) rfl) (GB (@cU _ _ _ _ (GH Dd Cz C7 cz (pv 1) (GA (pv 5) ae)) (by rfl))) aO)))))))) (GB (GC (Gz eA (by rfl) T.sorted qw (GA (pv 1) ae)))))),?_⟩
  have hR7:=hR.many
  refine ⟨(aw (n:=0) (by decide)),fun l hl=>?_⟩
  have s0:aF H (upd H l (.lst [])):=aF.new hl
  have f0:(upd H l (.lst [])) l=some (.lst (([]:List (List L)).map tx)):=af
  generalize upd H l (.lst [])=H0 at s0 f0 ⊢
  rcases ha with ha | ha
  ·refine ⟨_,rfl,a,_,rfl,.inr ⟨SqT.of (s0 _ _ ha),?_⟩⟩
   refine dz (xs:=R.map tx) (fun i σ H'=>∃ (b2 b3 b4 b5:Option V) (F:List (List L)),σ = [some (.ref a),some (.ref l),b2,b3,b4,b5]∧H' l=some (.lst (F.map tx))∧iH (trn (R.take i)) F∧aF H H') ⟨_,_,_,_,[],rfl,f0,iH.nil,s0⟩ (fun i σ H' _ ⟨_,_,_,_,_,_,_,_,q⟩=>SqT.of (q _ _ ha)) ?_ ?_
   ·rintro i x σ H1 hx ⟨b2,b3,b4,b5,F,rfl,f1,on,s1⟩
    rw [B7] at hx
    cases hr:R[i]? with
    | none=>rw [hr] at hx;cases hx
    | some r =>
     rw [hr] at hx
     cases hx
     have hm:=hR.word r (B8 hr)
     have hi:=(BF.mp hr).1
     have hr1:=CW.mpr hm.1
     have lt:=lD (R:=R.take i) fun q hq=>hR.word q (Dg hq)
     rw [BJ] at lt
     have hl1:(trn (R.take i)).length≤1680:=by omega
     have lb:=bS r
     refine ⟨_,rfl,_,rfl,r,rfl,by omega,fun H2 s2=>⟨(aw (n:=2) (by decide)),fun p hp=>?_⟩⟩
     have s3:aF H1 (upd H2 p (.tup [tx r,tx (bk r)])):=s2.then hp
     have f3:(upd H2 p (.tup [tx r,tx (bk r)])) p=some (.tup ([r,bk r].map tx)):=af
     have g3:=s3 _ _ f1
     have nlp:l≠p:=aE (s2 _ _ f1) hp
     have nolp:∀ b o,H b=some o→b≠l:=fun b o e=>aE e hl
     show _
     generalize upd H2 p (.tup [tx r,tx (bk r)])=H3 at s3 f3 g3 ⊢
     refine ⟨p,rfl,⟨_,SqT.of f3⟩,?_⟩
     refine dz (xs:=[r,bk r].map tx) (fun j σ H'=>∃ (b3 b4 b5:Option V) (F:List (List L)),σ = [some (.ref a),some (.ref l),some (tx r),b3,b4,b5]∧H' l=some (.lst (F.map tx))∧H' p=some (.tup ([r,bk r].map tx))∧iH (trn (R.take i)++([r,bk r].take j).flatMap cQ) F∧aF H H') ⟨_,_,_,F,rfl,g3,f3,on.to fun x=>by simp,s1.trans s3⟩ (fun j σ H' _ ⟨_,_,_,_,_,_,q,_⟩=>SqT.of q) ?_ ?_
     ·rintro j x σ H4 hx ⟨b3,b4,b5,F,rfl,f4,p4,on,s4⟩
      rw [B7] at hx
      cases hv:[r,bk r][j]? with
      | none=>rw [hv] at hx;cases hx
      | some v =>
       rw [hv] at hx
       cases hx
       have hj:j < 2:=(BF.mp hv).1
       have hvl:v.length=r.length:=by
        have:=B8 hv
        simp only [B2,Cd,Do] at this
        rcases this with rfl | rfl
        ·rfl
        ·exact lb
       have lv:=ah v
       refine ⟨_,rfl,_,rfl,by omega,_,rfl,by omega,by omega,?_⟩
       rw [lv,BQ]
       have lm:((([r,bk r].take j).flatMap cQ)).length≤240:=by
        match j,hj with
        | 0,_=>simp
        | 1,_=>simp [bW];omega
       refine bQ (lo:=0) (n:=v.length) (fun m σ H'=>∃ (b4 b5:Option V) (F:List (List L)),σ = [some (.ref a),some (.ref l),some (tx r),some (tx v),b4,b5]∧H' l=some (.lst (F.map tx))∧H' p=some (.tup ([r,bk r].map tx))∧iH ((trn (R.take i)++([r,bk r].take j).flatMap cQ)++(cQ v).take m) F∧aF H H') ⟨_,_,F,rfl,f4,p4,on.to fun x=>by simp,s4⟩ ?_ ?_
       ·rintro m σ H5 hm2 ⟨b4,b5,F,rfl,f5,p5,on,s5⟩
        rw [EH]
        refine ⟨_,rfl,_,rfl,_,rfl,_,rfl,by omega,_,rfl,_,rfl,_,rfl,_,rfl,by omega,_,_,rfl,rfl,?_,?_⟩
        ·have h1:=Cf (toS v) (some (m:Int)) none
         have h2:=Cf (toS v) none (some (m:Int))
         omega
        rw [az,az,bh v (by omega),bF v (by omega),bg,BQ]
        have er:(cQ v).take (m+1)=(cQ v).take m++[v.drop m++v.take m]:=by
         rw [Cu]
         unfold cQ
         rw [B7,E6 (by omega)]
         rfl
        have ol:=on.len
        rw [BB,BB,BJ,bW] at ol
        have pt:=on.put (v.drop m++v.take m)
        rw [BO,← er] at pt
        refine ⟨_,rfl,_,rfl,l,_,rfl,.inl (SqL.of f5),rfl,h_ _,_,rfl,?_⟩
        rw [qZ]
        by_cases q:v.drop m++v.take m∈F
        ·rw [if_pos q] at pt
         refine bO (by simp [q]) ?_
         exact ⟨_,_,F,rfl,f5,p5,pt,s5⟩
        ·rw [if_neg q] at pt
         refine bY (by simp [q]) ?_
         refine ⟨_,rfl,.inl ⟨rfl,_,SqL.of f5⟩,_,rfl,l,_,_,rfl,rfl,f5,by rw [BK];omega,?_⟩
         refine ⟨_,_,F++[v.drop m++v.take m],rfl,by rw [af,Cy];rfl,by rw [ay nlp.symm];exact p5,pt,fun b o e=>?_⟩
         rw [ay (nolp b o e)]
         exact s5 _ _ e
       ·rintro σ H5 ⟨b4,b5,F,rfl,f5,p5,on,s5⟩
        refine ⟨_,_,_,F,rfl,f5,p5,on.to fun x=>?_,s5⟩
        rw [show (cQ v).take v.length=cQ v from BV (by rw [bW];omega),Cu (i:=j),hv,E7,← BO]
        simp
     ·rintro σ H4 ⟨b3,b4,b5,F,rfl,f4,p4,on,s4⟩
      refine ⟨_,_,_,_,F,rfl,f4,on.to fun x=>?_,s4⟩
      have et:R.take (i+1)=R.take i++[r]:=by rw [Cu,hr];rfl
      rw [et,hX]
      simp
   ·rintro σ H1 ⟨b2,b3,b4,b5,F,rfl,f1,on,s1⟩
    rw [BV (by simp)] at on
    have ee:F.map tx=(F.map toS).map V.str:=by rw [EG];rfl
    rw [ee] at f1
    refine ⟨_,rfl,l,F.map toS,rfl,SqL.of f1,fun l2 zs hl2 pm so=>?_⟩
    have ndF:(F.map toS).Nodup:=List.Pairwise.map toS (fun a b h e=>h (cH e)) on.nd
    obtain ⟨V,rfl,oV,mV⟩:=sX (W:=F) (pm.nodup_iff.mpr ndF) so fun z=>pm.mem_iff
    refine k l2 V _ (s1.free hl2) oV (fun x=>(mV x).trans (on.mem x)) ?_ (s1.then hl2)
    rw [af,EG]
    rfl
  ·refine ⟨_,rfl,a,_,rfl,.inl ⟨SqL.of (s0 _ _ ha),?_⟩⟩
   refine dG (xs:=R.map tx) (fun i σ H'=>∃ (b2 b3 b4 b5:Option V) (F:List (List L)),σ = [some (.ref a),some (.ref l),b2,b3,b4,b5]∧H' l=some (.lst (F.map tx))∧iH (trn (R.take i)) F∧aF H H') ⟨_,_,_,_,[],rfl,f0,iH.nil,s0⟩ (fun i σ H' _ ⟨_,_,_,_,_,_,_,_,q⟩=>SqL.of (q _ _ ha)) ?_ ?_
   ·rintro i x σ H1 hx ⟨b2,b3,b4,b5,F,rfl,f1,on,s1⟩
    rw [B7] at hx
    cases hr:R[i]? with
    | none=>rw [hr] at hx;cases hx
    | some r =>
     rw [hr] at hx
     cases hx
     have hm:=hR.word r (B8 hr)
     have hi:=(BF.mp hr).1
     have hr1:=CW.mpr hm.1
     have lt:=lD (R:=R.take i) fun q hq=>hR.word q (Dg hq)
     rw [BJ] at lt
     have hl1:(trn (R.take i)).length≤1680:=by omega
     have lb:=bS r
     refine ⟨_,rfl,_,rfl,r,rfl,by omega,fun H2 s2=>⟨(aw (n:=2) (by decide)),fun p hp=>?_⟩⟩
     have s3:aF H1 (upd H2 p (.tup [tx r,tx (bk r)])):=s2.then hp
     have f3:(upd H2 p (.tup [tx r,tx (bk r)])) p=some (.tup ([r,bk r].map tx)):=af
     have g3:=s3 _ _ f1
     have nlp:l≠p:=aE (s2 _ _ f1) hp
     have nolp:∀ b o,H b=some o→b≠l:=fun b o e=>aE e hl
     show _
     generalize upd H2 p (.tup [tx r,tx (bk r)])=H3 at s3 f3 g3 ⊢
     refine ⟨p,rfl,⟨_,SqT.of f3⟩,?_⟩
     refine dz (xs:=[r,bk r].map tx) (fun j σ H'=>∃ (b3 b4 b5:Option V) (F:List (List L)),σ = [some (.ref a),some (.ref l),some (tx r),b3,b4,b5]∧H' l=some (.lst (F.map tx))∧H' p=some (.tup ([r,bk r].map tx))∧iH (trn (R.take i)++([r,bk r].take j).flatMap cQ) F∧aF H H') ⟨_,_,_,F,rfl,g3,f3,on.to fun x=>by simp,s1.trans s3⟩ (fun j σ H' _ ⟨_,_,_,_,_,_,q,_⟩=>SqT.of q) ?_ ?_
     ·rintro j x σ H4 hx ⟨b3,b4,b5,F,rfl,f4,p4,on,s4⟩
      rw [B7] at hx
      cases hv:[r,bk r][j]? with
      | none=>rw [hv] at hx;cases hx
      | some v =>
       rw [hv] at hx
       cases hx
       have hj:j < 2:=(BF.mp hv).1
       have hvl:v.length=r.length:=by
        have:=B8 hv
        simp only [B2,Cd,Do] at this
        rcases this with rfl | rfl
        ·rfl
        ·exact lb
       have lv:=ah v
       refine ⟨_,rfl,_,rfl,by omega,_,rfl,by omega,by omega,?_⟩
       rw [lv,BQ]
       have lm:((([r,bk r].take j).flatMap cQ)).length≤240:=by
        match j,hj with
        | 0,_=>simp
        | 1,_=>simp [bW];omega
       refine bQ (lo:=0) (n:=v.length) (fun m σ H'=>∃ (b4 b5:Option V) (F:List (List L)),σ = [some (.ref a),some (.ref l),some (tx r),some (tx v),b4,b5]∧H' l=some (.lst (F.map tx))∧H' p=some (.tup ([r,bk r].map tx))∧iH ((trn (R.take i)++([r,bk r].take j).flatMap cQ)++(cQ v).take m) F∧aF H H') ⟨_,_,F,rfl,f4,p4,on.to fun x=>by simp,s4⟩ ?_ ?_
       ·rintro m σ H5 hm2 ⟨b4,b5,F,rfl,f5,p5,on,s5⟩
        rw [EH]
        refine ⟨_,rfl,_,rfl,_,rfl,_,rfl,by omega,_,rfl,_,rfl,_,rfl,_,rfl,by omega,_,_,rfl,rfl,?_,?_⟩
        ·have h1:=Cf (toS v) (some (m:Int)) none
         have h2:=Cf (toS v) none (some (m:Int))
         omega
        rw [az,az,bh v (by omega),bF v (by omega),bg,BQ]
        have er:(cQ v).take (m+1)=(cQ v).take m++[v.drop m++v.take m]:=by
         rw [Cu]
         unfold cQ
         rw [B7,E6 (by omega)]
         rfl
        have ol:=on.len
        rw [BB,BB,BJ,bW] at ol
        have pt:=on.put (v.drop m++v.take m)
        rw [BO,← er] at pt
        refine ⟨_,rfl,_,rfl,l,_,rfl,.inl (SqL.of f5),rfl,h_ _,_,rfl,?_⟩
        rw [qZ]
        by_cases q:v.drop m++v.take m∈F
        ·rw [if_pos q] at pt
         refine bO (by simp [q]) ?_
         exact ⟨_,_,F,rfl,f5,p5,pt,s5⟩
        ·rw [if_neg q] at pt
         refine bY (by simp [q]) ?_
         refine ⟨_,rfl,.inl ⟨rfl,_,SqL.of f5⟩,_,rfl,l,_,_,rfl,rfl,f5,by rw [BK];omega,?_⟩
         refine ⟨_,_,F++[v.drop m++v.take m],rfl,by rw [af,Cy];rfl,by rw [ay nlp.symm];exact p5,pt,fun b o e=>?_⟩
         rw [ay (nolp b o e)]
         exact s5 _ _ e
       ·rintro σ H5 ⟨b4,b5,F,rfl,f5,p5,on,s5⟩
        refine ⟨_,_,_,F,rfl,f5,p5,on.to fun x=>?_,s5⟩
        rw [show (cQ v).take v.length=cQ v from BV (by rw [bW];omega),Cu (i:=j),hv,E7,← BO]
        simp
     ·rintro σ H4 ⟨b3,b4,b5,F,rfl,f4,p4,on,s4⟩
      refine ⟨_,_,_,_,F,rfl,f4,on.to fun x=>?_,s4⟩
      have et:R.take (i+1)=R.take i++[r]:=by rw [Cu,hr];rfl
      rw [et,hX]
      simp
   ·rintro σ H1 ⟨b2,b3,b4,b5,F,rfl,f1,on,s1⟩
    rw [BV (by simp)] at on
    have ee:F.map tx=(F.map toS).map V.str:=by rw [EG];rfl
    rw [ee] at f1
    refine ⟨_,rfl,l,F.map toS,rfl,SqL.of f1,fun l2 zs hl2 pm so=>?_⟩
    have ndF:(F.map toS).Nodup:=List.Pairwise.map toS (fun a b h e=>h (cH e)) on.nd
    obtain ⟨V,rfl,oV,mV⟩:=sX (W:=F) (pm.nodup_iff.mpr ndF) so fun z=>pm.mem_iff
    refine k l2 V _ (s1.free hl2) oV (fun x=>(mV x).trans (on.mem x)) ?_ (s1.then hl2)
    rw [af,EG]
    rfl
abbrev vZ:Stmt:=top 47
theorem yL:aN ["_law_one","_law_other_here","_law_many"] ["_law_one","_law_other_here"] (ao vZ):=⟨rfl,rfl,rfl,by decide +kernel,rfl,by decide +kernel,by decide +kernel⟩
theorem Au (D:Df K mg "_law_share" vZ)(T:Bt K w mg aB):Fnc P w K mg base "_law_share" ["_law_one","_law_other_here"] 1 fQ:=by
 have sc:=yL
 refine D.ok sc (fun _ _ _ _ _ _ us hl=>by obtain ⟨_,_,rfl⟩:=vC hl;rfl) (fun vs H Q E h=>?_) (fun f Hb A outer s H vs Q E hr h=>?_)
 ·obtain ⟨u,v,rfl,_⟩:=h
  rfl
 ·obtain ⟨u,v,rfl,hu,hv,k⟩:=h
  have Hr:=a9
  refine ⟨_,(Gq (Gx (2) sc.nd rfl (Or.inl rfl) ai) (Gq (@eR _ _ _ _ _ _ Ce (GS (GV (Gw e9 (pv 2) (Gz (@mE _ rfl) (by rfl) T.min zG (GA (Gz av (by rfl) T.len BP (GA (pv 0) ae)) (GA (Gz av (by rfl) T.len BP (GA (pv 1) ae)) ae))) (aD _)) (GW (Gw bj (GD aY (pv 0) aJ (GE (Gr aU (pv 2) ai))) (GD aY (pv 1) aJ (GE (Gr aU (pv 2) ai))) (aD _))))) (GB (Gx (2) sc.nd rfl (Or.inl rfl) (Gr aU (pv 2) ai)))) (GB (GC (GD aY (pv 0) aJ (GE (pv 2))))))),?_⟩
  have lu:=ah u
  have lv:=ah v
  refine ⟨fun n σ H'=>∃ m:Nat,σ = [some (tx u),some (tx v),some (.int (m:Int))]∧H'=H∧m≤min u.length v.length∧u.take m=v.take m∧n=min u.length v.length - m,⟨_,0,rfl,rfl,CC _,rfl,rfl⟩,?_⟩
  rintro n σ H2 ⟨m,rfl,rfl,hm,e,rfl⟩
  refine ⟨_,rfl,_,rfl,_,rfl,by omega,_,rfl,_,rfl,by omega,_,_,rfl,_,_,rfl,rfl,_,rfl,?_⟩
  by_cases Hg:m < min u.length v.length
  ·refine bY (BM (by rw [lu,lv];split <;> omega)) ?_
   refine ⟨_,rfl,_,rfl,_,_,rfl,rfl,_,rfl,_,rfl,by omega,_,rfl,_,rfl,_,_,rfl,rfl,_,rfl,_,rfl,by omega,rfl,_,rfl,?_⟩
   show if decide (V.str (Txt.slice (toS u) none (some ((m:Int)+1)))=V.str (Txt.slice (toS v) none (some ((m:Int)+1))))=true then _ else _
   rw [az,az,bF u (by omega),bF v (by omega),show ((m:Int)+1).toNat=m+1 by omega]
   have hx:=BC (l:=u) (i:=m) (by omega)
   have hy:=BC (l:=v) (i:=m) (by omega)
   by_cases q:u.take (m+1)=v.take (m+1)
   ·rw [if_pos (by rw [q];exact BM rfl)]
    refine ⟨_,fun σ' H' q=>q,?_⟩
    refine ⟨_,rfl,_,_,rfl,rfl,min u.length v.length - (m+1),by omega,m+1,?_,rfl,Hg,q,rfl⟩
    show [some (tx u),some (tx v),some (V.int ((m:Int)+1))]=_
    rw [show (m:Int)+1=((m+1:Nat):Int) by omega]
   ·rw [if_neg (by rw [decide_eq_true_iff];exact fun z=>q (cH (V.str.inj z)))]
    refine ⟨_,rfl,_,rfl,_,rfl,_,rfl,by omega,?_⟩
    rw [az,bF u (by omega),BQ]
    have ne:u[m]'(by omega)≠v[m]'(by omega):=fun z=>q (by rw [Cu,Cu,e,hx,hy,z])
    rw [← qN e hx hy ne]
    exact k _ (aF.refl _)
  ·refine bO (BI (by rw [lu,lv];split <;> omega)) (iG ?_)
   refine ⟨_,rfl,_,rfl,_,rfl,_,rfl,by omega,?_⟩
   have em:m=min u.length v.length:=by omega
   rw [az,bF u (by omega),BQ]
   rw [em] at e
   have e2:u.take m=u.take v.length:=by
    rw [em]
    rcases FW u.length v.length with q | q
    ·rw [Dv q,BV q,BV (BG _)]
    ·rw [Dh q]
   rw [e2,← uQ e]
   exact k _ (aF.refl _)
abbrev iD:Stmt:=top 48
theorem px:aN ["_law_known","_law_turn","_law_other_here","_law_piece"] ["_law_known"] (ao iD):=⟨rfl,rfl,rfl,by decide +kernel,rfl,by decide +kernel,by decide +kernel⟩
theorem rY (D:Df K mg "_law_thick" iD)(T:Bt K w mg aB)(Hy:Fnc P w K mg base "_law_share" ["_law_one","_law_other_here"] 1 fQ):Fnc P w K mg base "_law_thick" ["_law_known"] 2 hZ:=by
 have sc:=px
 refine D.ok sc (fun _ _ _ _ _ _ us hl=>by obtain ⟨_,rfl⟩:=lI hl;rfl) (fun vs H Q E h=>?_) (fun f Hb A outer s H vs Q E hr h=>?_)
 ·obtain ⟨l,V,rfl,_⟩:=h
  rfl
 ·obtain ⟨l,V,rfl,hl,hz,hw,kN,kS⟩:=h
  have Hr:=a9
  refine ⟨_,(Gq (GU Ce rfl (@dw _ _ _ _ (pv 0)) (GK (1) sc.nd rfl (Or.inl rfl)) (GB (GU Ce rfl (@dw _ _ _ _ (pv 0)) (GK (2) sc.nd rfl (Or.inl rfl)) (Gq (Gx (3) sc.nd rfl (Or.inl rfl) (GR Hy hr (by decide) rfl (GA (pv 1) (GA (pv 2) ae)))) (GB (Gv (GS (GV (Gw jC (pv 2) (pv 1) (aD _)) (GW (Gw wK (Gr e8 (Gz av (by rfl) T.len BP (GA (pv 3) ae)) ai) (Gz av (by rfl) T.len BP (GA (pv 1) ae)) (aD _))))) (GB (GC (G4 (GA (pv 1) (GA (pv 2) (GA (pv 3) ae)))))) aO)))))) (GB (GC mn))),?_⟩
  refine ⟨_,rfl,l,rfl,⟨_,SqL.of hl⟩,?_⟩
  refine dG (xs:=V.map tx) (fun i σ H'=>∃ b1 b2 b3:Option L2.V,σ = [some (.ref l),b1,b2,b3]∧aF H H'∧∀ t∈V.take i,fnd V t=none) ⟨none,none,none,rfl,aF.refl _,fun t ht=>by cases ht⟩ (fun i σ H' _ ⟨_,_,_,_,q,_⟩=>SqL.of (q _ _ hl)) ?_ ?_
  ·rintro i x σ H1 hx ⟨b1,b2,b3,rfl,s1,no⟩
   rw [B7] at hx
   cases ht:V[i]? with
   | none=>rw [ht] at hx;cases hx
   | some t =>
    rw [ht] at hx
    cases hx
    have wt:=hw t (B8 ht)
    refine ⟨_,rfl,l,rfl,⟨_,SqL.of (s1 _ _ hl)⟩,?_⟩
    refine dG (xs:=V.map tx) (fun j σ H'=>∃ b2 b3:Option L2.V,σ = [some (.ref l),some (tx t),b2,b3]∧aF H H'∧∀ o∈V.take j,jf t o=false) ⟨_,_,rfl,s1,fun o ho=>by cases ho⟩ (fun i σ H' _ ⟨_,_,_,q,_⟩=>SqL.of (q _ _ hl)) ?_ ?_
    ·rintro j y σ H2 hy ⟨b2,b3,rfl,s2,no2⟩
     rw [B7] at hy
     cases ho:V[j]? with
     | none=>rw [ho] at hy;cases hy
     | some o =>
      rw [ho] at hy
      cases hy
      have wo:=hw o (B8 ho)
      refine ⟨_,rfl,_,rfl,t,o,rfl,wt,wo,fun H3 s3=>?_⟩
      have ll:=(dE t o).1.length_le
      have lc:=ah (lcp t o)
      have lt:=ah t
      have nxt:jf t o=false→∀ q∈V.take (j+1),jf t q=false:=fun z q hq=>by
       rw [Cu,ho] at hq
       rcases BR.mp hq with h | h
       ·exact no2 q h
       ·rw [Option.toList_some,BE] at h
        subst h
        exact z
      refine ⟨_,rfl,_,rfl,rfl,_,rfl,?_⟩
      by_cases eo:o=t
      ·refine bO (by subst eo;simp) (iG ?_)
       exact ⟨_,_,rfl,s2.trans s3,nxt (by unfold jf;rw [BI (fun z=>z eo)];rfl)⟩
      ·refine bY (by simp;exact fun z=>eo (kF z)) ?_
       refine ⟨_,rfl,_,rfl,by omega,_,_,rfl,rfl,.inr ⟨by decide,by decide⟩,_,rfl,_,rfl,by omega,_,_,rfl,rfl,_,rfl,?_⟩
       rw [lc,lt]
       by_cases hs:t.length≤6*(lcp t o).length
       ·refine bY (BM (by omega)) ?_
        have mt:jf t o=true:=by unfold jf;rw [BM eo,BM hs];rfl
        have hf:fnd V t=some o:=by
         unfold fnd
         obtain ⟨l1,e1⟩:=BF.mp ho
         refine List.find?_eq_some_iff_getElem.mpr ⟨mt,j,l1,e1,fun q hq=>?_⟩
         rw [no2 _ (List.mem_take_iff_getElem.mpr ⟨q,by omega,rfl⟩)]
         rfl
        refine ⟨_,rfl,_,rfl,_,rfl,(aw (n:=3) (by decide)),fun p hp=>?_⟩
        exact kS _ p t o _ ((s2.trans s3).then hp) (lX no ht hf) af
       ·refine bO (BI (by omega)) ?_
        exact ⟨_,_,rfl,s2.trans s3,nxt (by unfold jf;rw [BI hs,EE])⟩
    ·rintro σ H2 ⟨b2,b3,rfl,s2,no2⟩
     rw [BV (by simp)] at no2
     refine ⟨_,_,_,rfl,s2,fun q hq=>?_⟩
     rw [Cu,ht] at hq
     rcases BR.mp hq with h | h
     ·exact no q h
     ·rw [Option.toList_some,BE] at h
      subst h
      unfold fnd
      rw [List.find?_eq_none]
      intro o ho z
      rw [no2 o ho] at z
      cases z
  ·rintro σ H1 ⟨b1,b2,b3,rfl,s1,no⟩
   rw [BV (by simp)] at no
   exact kN _ s1 (lW no)
abbrev iE:Stmt:=top 50
theorem pz:aN ["_law_feed_here","_law_most","_law_many","_law_rows","_law_some_here"] ["_law_feed_here","_law_most"] (ao iE):=⟨rfl,rfl,rfl,by decide +kernel,rfl,by decide +kernel,by decide +kernel⟩
theorem rZ (D:Df K mg "_law_rings" iE)(T:Bt K w mg aB)(G7:Fnc P w K mg base "_law_draw" ["_law_feed_here","_law_many"] 1 cC)(He:Fnc P w K mg base "_law_some" ["_law_feed_here","_law_many","_law_most"] 2 dF)(Iu:Fnc P w K mg base "_law_middle" ["_law_word"] 3 rV):Fnc P w K mg base "_law_rings" ["_law_feed_here","_law_most"] 4 ia:=by
 have sc:=pz
 refine D.ok sc (fun _ _ _ _ _ _ us hl=>by obtain ⟨_,_,rfl⟩:=vC hl;rfl) (fun vs H Q E h=>?_) (fun f Hb A outer s H vs Q E hr h=>?_)
 ·obtain ⟨d,n,rfl,_⟩:=h
  rfl
 ·obtain ⟨d,n,rfl,F0,hn,k⟩:=h
  have Hr:=a9
  refine ⟨_,(Gq (Gx (2) sc.nd rfl (Or.inr rfl) (Gr aU ai (GR G7 hr (by decide) rfl (GA (pv 0) (GA ai ae))))) (Gq (Gx (3) sc.nd rfl (Or.inr rfl) (GR G7 hr (by decide) rfl (GA (pv 0) (GA ai ae)))) (Gq (@d_ _ (4) _ _ _ _ _ _ _ _ _ (["_law_k","_law_feed_here","_law_many","_law_most","_law_rows"]) (["_law_k"]) ([0,2,1,3]) _ _ _ _ sc.nd rfl (Or.inl rfl) (GJ rfl (by kernel_rfl)) rfl (GZ rfl T.range (GA (pv 3) ae)) (fun _ _ _ _=>GK (0) (show (["_law_k","_law_feed_here","_law_many","_law_most","_law_rows"]:List Str).Nodup from by decide +kernel) rfl (Or.inl rfl)) (fun _ _ _ _=>cu) (fun _ _ _ _=>by (exact (GR Iu hr (by decide) rfl (GA (GR He hr (by decide) rfl (GA (pv 1) (GA (pv 2) (GA (GY (Gw e9 (pv 4) ai (aD _)) (pv 3) ai) ae)))) ae)))) (by intro _ ;rfl) (by rfl) (by first | exact .inl rfl | exact .inr rfl | assumption)) (GB (GC (@cg _ _ _ _ _ _ _ _ _ bX (by rfl) T.tuple d8 (GA (GI (["_law_one"]) (["_law_one"]) ([]) (GJ rfl (by kernel_rfl)) rfl (@dw _ _ _ _ (pv 4)) (fun _ _ _ _=>GK (0) (show (["_law_one"]:List Str).Nodup from by decide +kernel) rfl (Or.inl rfl)) (fun _ _ _ _=>(@eU _ _ _ (by exact (Gw jC (pv 0) aI (aD _))))) (fun _ _ _ _=>by (exact (pv 0)))) ae) (by decide) (by decide) (by rfl) (by rfl))))))),?_⟩
  refine ⟨_,rfl,d,_,rfl,F0,by decide,by decide,fun r H1 r0 r1 F1 Ik=>⟨_,_,rfl,rfl,?_⟩⟩
  obtain ⟨m0,rfl⟩:=B9 r0
  refine ⟨_,rfl,d,_,rfl,F1,by decide,by decide,fun r2 H2 r20 r21 F2 Hf=>?_⟩
  obtain ⟨n2,rfl⟩:=B9 r20
  refine ⟨_,rfl,_,rfl,by omega,by omega,?_⟩
  rw [BQ]
  refine cj (own:=["_law_k"]) (cap:=[0,2,1,3]) (J:=Itr 0 n2) n2 (fun j ys σ H'=>∃ (v:Option V) (W:List (List L)),σ = [v,some (.ref d),some (.int (1+(m0:Int))),some (.int (n:Int)),some (.int (n2:Int))]∧ys=W.map tx∧Wl j 10 W∧Fd H' d∧ba d H H') ⟨none,[],rfl,rfl,⟨BG _,fun v hv=>by cases hv⟩,F2,Ik.trans Hf⟩ (fun j ys σ H' hj ⟨_,W,_,e,wl,_⟩=>by rw [e,BK];exact wl.1) (by omega) (fun j ys σ H' hj _=>hj) (fun ys σ H' _=>BG _) ?_ ?_
  ·rintro j ys σ HX x HY N hj ⟨v,W,rfl,rfl,wl,F3,Ho⟩ ⟨rfl,rfl⟩ hN
   refine ⟨_,rfl,_,rfl,_,rfl,_,_,rfl,rfl,_,rfl,eI (fun _=>?_) (fun _=>?_)⟩
   ·refine ⟨_,rfl,d,1+(m0:Int),(n:Int),rfl,F3,by omega,by omega,by omega,by omega,fun u H7 hu hI F7 HS=>?_⟩
    have hu:u.length≤10:=Cn hu (by omega)
    refine ⟨u,rfl,by omega,fun fr md H8 _ hl hmem s8=>hN _ _ _ ⟨_,W++[md],rfl,by rw [Cy];rfl,wl.snoc (by omega),F7.same s8,Ho.trans (HS.trans s8.b)⟩⟩
   ·refine ⟨d,1+(m0:Int),3,rfl,F3,by omega,by omega,by decide,by decide,fun u H7 hu hI F7 HS=>?_⟩
    have hu:u.length≤10:=Cn hu (by omega)
    refine ⟨u,rfl,by omega,fun fr md H8 _ hl hmem s8=>hN _ _ _ ⟨_,W++[md],rfl,by rw [Cy];rfl,wl.snoc (by omega),F7.same s8,Ho.trans (HS.trans s8.b)⟩⟩
  rintro ys σ H3 l ⟨v,W,rfl,rfl,wl,F3,Ho⟩ hl
  have s4:aF H3 (upd H3 l (.lst (W.map tx))):=aF.new hl
  have f4:(upd H3 l (.lst (W.map tx))) l=some (.lst (W.map tx)):=af
  generalize upd H3 l (.lst (W.map tx))=H4 at s4 f4 ⊢
  have F4:=F3.same s4
  refine ⟨_,rfl,l,rfl,⟨_,SqL.of f4⟩,?_⟩
  have w7:=wl.1
  refine cj (own:=["_law_one"]) (cap:=[]) (J:=Itl K l) (W.map tx).length (fun j ys σ H'=>∃ (v:Option V) (V':List (List L)),σ = [v]∧ys=V'.map tx∧V'.length≤j∧(∀ x∈V',x≠[]∧x.length≤40)∧H'=H4) ⟨none,[],rfl,rfl,BG _,(fun v hv=>by cases hv),rfl⟩ (fun j ys σ H' hj ⟨_,V',_,e,e2,_⟩=>by rw [e,BK];exact e2) (by rw [BK];omega) (fun j ys σ H' hj ⟨_,_,_,_,_,_,e⟩=>?_) (fun ys σ H' ⟨_,_,_,_,_,_,e⟩=>?_) ?_ ?_
  ·rw [e];exact ⟨W.map tx,_,SqL.of f4,BC hj⟩
  ·rw [e];exact ⟨W.map tx,SqL.of f4,BG _⟩
  ·rintro j ys σ HX x HY N hj ⟨v,V',rfl,rfl,hV,vm,rfl⟩ ⟨rfl,hx⟩ hN
   have hx:=hx _ (SqL.of f4)
   obtain ⟨u,hu,rfl⟩:∃ u,W[j]? = some u∧x=tx u:=by
    rw [B7] at hx
    cases e:W[j]? with
    | none=>rw [e] at hx;cases hx
    | some u=>rw [e] at hx;exact ⟨u,rfl,(BW hx).symm⟩
   have ul:=wl.2 u (B8 hu)
   refine ⟨_,rfl,rfl,_,rfl,eI (fun h=>?_) (fun _=>hN _ _ _ ⟨_,V',rfl,rfl,by omega,vm,rfl⟩)⟩
   have ne:u≠[]:=fun z=>by subst z;rw [dN] at h;simp at h
   refine ⟨_,rfl,hN _ _ _ ⟨_,V'++[u],rfl,by rw [Cy];rfl,by rw [BB];simp;omega,fun x hx=>?_,rfl⟩⟩
   rcases BR.mp hx with q | q
   ·exact vm x q
   ·rw [BE] at q
    subst q
    exact ⟨ne,by omega⟩
  rintro ys σ H5 l2 ⟨v,V',rfl,rfl,hV,vm,rfl⟩ hl2
  rw [BK] at hV
  refine ⟨l2,_,rfl,.inl ⟨SqL.of af,fun rg hrg=>?_⟩⟩
  have s9:aF H3 (upd (upd H5 l2 (.lst (V'.map tx))) rg (.tup (V'.map tx))):=s4.trans ((aF.new hl2).then hrg)
  exact k rg V' _ ⟨by omega,fun r hr=>⟨(vm r hr).1,by have:=(vm r hr).2;omega⟩⟩ (fun r hr=>(vm r hr).2) (by omega) af (F3.same s9) (Ho.trans s9.b)
theorem pD {c:Prop}[Decidable c]{A:Prop}{D:eQ}{σ:L2.St}{H0:Hp}(ok:L2.St→Hp→Prop)(oB:ok σ H0)(main:∀ σ H,ok σ H→D.nx σ H)(hA:(∀ σ H,ok σ H→D.nx σ H)→A):if c then A else tK D σ H0:=by
 by_cases h:c
 ·rw [if_pos h];exact hA main
 ·rw [if_neg h];exact main σ H0 oB
abbrev ki:Stmt:=top 49
theorem r_:aN ["_law_feed_here","_law_way","_law_rings_here","_law_powers","_law_turned","_law_ring","_law_at","_law_fits"] ["_law_feed_here"] (ao ki):=⟨rfl,rfl,rfl,by decide +kernel,rfl,by decide +kernel,by decide +kernel⟩
theorem v3 (D:Df K mg "_law_thin" ki)(T:Bt K w mg aB)(G7:Fnc P w K mg base "_law_draw" ["_law_feed_here","_law_many"] 1 cC)(G9:Fnc P w K mg base "_law_back" ["_law_word"] 1 i8)(He:Fnc P w K mg base "_law_some" ["_law_feed_here","_law_many","_law_most"] 2 dF)(Iu:Fnc P w K mg base "_law_middle" ["_law_word"] 3 rV)(Hm:Fnc P w K mg base "_law_turns_of" ["_law_rings_here"] 2 c8)(Ie:Fnc P w K mg base "_law_thick" ["_law_known"] 2 hZ):Fnc P w K mg base "_law_thin" ["_law_feed_here"] 4 jU:=by
 have sc:=r_
 refine D.ok sc (fun _ _ _ _ _ _ us hl=>by obtain ⟨_,rfl⟩:=lI hl;rfl) (fun vs H Q E h=>?_) (fun f Hb A outer s H vs Q E hr h=>?_)
 ·obtain ⟨d,rfl,_⟩:=h
  rfl
 ·obtain ⟨d,rfl,F0,k⟩:=h
  have Hr:=a9
  refine ⟨_,(@ag _ _ _ _ _ (@aC _ _ (1) _ _ _ _ sc.nd rfl (Or.inl rfl) (@aG _ _ _ _ _ _ _ _ _ _ _ G7 hr (by decide) rfl (@aa _ _ _ _ _ (pv 0) (@aa _ _ _ _ _ ai ae (by rfl)) (by rfl)) (by decide) (by rfl) (by rfl)) (by rfl) (by first | exact .inl rfl | exact .inr rfl | assumption)) (@ag _ _ _ _ _ (@aC _ _ (2) _ _ _ _ sc.nd rfl (Or.inl rfl) (@a8 _ _ _ _ _ ae) (by rfl) (by first | exact .inl rfl | exact .inr rfl | assumption)) (@ag _ _ _ _ _ (@bf _ _ _ _ _ _ _ _ (@aq _ _ _ _ _ _ _ _ bj (pv 1) ai (aD _)) (@ag _ _ _ _ _ (@d_ _ (3) _ _ _ _ _ _ _ _ _ (["_law_sign","_law_feed_here"]) (["_law_sign"]) ([0]) _ _ _ _ sc.nd rfl (Or.inl rfl) (@cP _ _ _ _ _ _ rfl (by kernel_rfl)) rfl (@mY _ _ _ _ aI) (fun _ _ _ _=>@aX _ _ (0) _ (show (["_law_sign","_law_feed_here"]:List Str).Nodup from by decide +kernel) rfl (Or.inl rfl) (by first | exact .inl rfl | exact .inr rfl | assumption)) (fun _ _ _ _=>cu) (fun _ _ _ _=>by (exact @ax _ _ _ _ _ _ _ _ bt (by (exact (pv 0))) (by (exact @ax _ _ _ _ _ _ _ _ aU (by (exact ai)) (by (exact (@aG _ _ _ _ _ _ _ _ _ _ _ G7 hr (by decide) rfl (@aa _ _ _ _ _ (pv 1) (@aa _ _ _ _ _ ai ae (by rfl)) (by rfl)) (by decide) (by rfl) (by rfl)))))))) (by intro _ ;rfl) (by rfl) (by first | exact .inl rfl | exact .inr rfl | assumption)) (@aj _ _ _ (@aC _ _ (2) _ _ _ _ sc.nd rfl (Or.inl rfl) (@au _ _ _ _ _ _ _ _ _ _ bw (@cg _ _ _ _ _ _ _ _ _ bX (by rfl) T.tuple d8 (@aa _ _ _ _ _ (@ax _ _ _ _ _ _ _ _ mM (pv 3) (@br _ _ _ _ (@aa _ _ _ _ _ (@ax _ _ _ _ _ _ _ _ bt aI (@ax _ _ _ _ _ _ _ _ aU ai (@aG _ _ _ _ _ _ _ _ _ _ _ G7 hr (by decide) rfl (@aa _ _ _ _ _ (pv 0) (@aa _ _ _ _ _ ai ae (by rfl)) (by rfl)) (by decide) (by rfl) (by rfl)))) ae (by rfl)))) ae (by rfl)) (by decide) (by decide) (by rfl) (by rfl)) (@aA _ _ _ (@aG _ _ _ _ _ _ _ _ _ _ _ G7 hr (by decide) rfl (@aa _ _ _ _ _ (pv 0) (@aa _ _ _ _ _ ai ae (by rfl)) (by rfl)) (by decide) (by rfl) (by rfl))) aJ) (by rfl) (by first | exact .inl rfl | exact .inr rfl | assumption)))) aO) (@ag _ _ _ _ _ (@bf _ _ _ _ _ _ _ _ (@aq _ _ _ _ _ _ _ _ bj (pv 1) ai (aD _)) (@aj _ _ _ (@aC _ _ (2) _ _ _ _ sc.nd rfl (Or.inl rfl) (@au _ _ _ _ _ _ _ _ _ _ bw (@a8 _ _ _ _ _ (@aa _ _ _ _ _ (@ax _ _ _ _ _ _ _ _ bt aI (@ax _ _ _ _ _ _ _ _ aU ai (@aG _ _ _ _ _ _ _ _ _ _ _ G7 hr (by decide) rfl (@aa _ _ _ _ _ (pv 0) (@aa _ _ _ _ _ ai ae (by rfl)) (by rfl)) (by decide) (by rfl) (by rfl)))) (@aa _ _ _ _ _ (@ax _ _ _ _ _ _ _ _ bt aI (@ax _ _ _ _ _ _ _ _ aU ai (@aG _ _ _ _ _ _ _ _ _ _ _ G7 hr (by decide) rfl (@aa _ _ _ _ _ (pv 0) (@aa _ _ _ _ _ ai ae (by rfl)) (by rfl)) (by decide) (by rfl) (by rfl)))) ae (by rfl)) (by rfl))) (@aA _ _ _ (@aG _ _ _ _ _ _ _ _ _ _ _ G7 hr (by decide) rfl (@aa _ _ _ _ _ (pv 0) (@aa _ _ _ _ _ ai ae (by rfl)) (by rfl)) (by decide) (by rfl) (by rfl))) aJ) (by rfl) (by first | exact .inl rfl | exact .inr rfl | assumption))) aO) (@ag _ _ _ _ _ (@bf _ _ _ _ _ _ _ _ (@aq _ _ _ _ _ _ _ _ bj (pv 1) ai (aD _)) (@aj _ _ _ (@aC _ _ (2) _ _ _ _ sc.nd rfl (Or.inl rfl) (@a8 _ _ _ _ _ (@aa _ _ _ _ _ (@ax _ _ _ _ _ _ _ _ bt (@aG _ _ _ _ _ _ _ _ _ _ _ Iu hr (by decide) rfl (@aa _ _ _ _ _ (@aG _ _ _ _ _ _ _ _ _ _ _ He hr (by decide) rfl (@aa _ _ _ _ _ (pv 0) (@aa _ _ _ _ _ ai (@aa _ _ _ _ _ ai ae (by rfl)) (by rfl)) (by rfl)) (by decide) (by rfl) (by rfl)) ae (by rfl)) (by decide) (by rfl) (by rfl)) (@ax _ _ _ _ _ _ _ _ aU ai (@aG _ _ _ _ _ _ _ _ _ _ _ G7 hr (by decide) rfl (@aa _ _ _ _ _ (pv 0) (@aa _ _ _ _ _ ai ae (by rfl)) (by rfl)) (by decide) (by rfl) (by rfl)))) ae (by rfl))) (by rfl) (by first | exact .inl rfl | exact .inr rfl | assumption))) aO) (@ag _ _ _ _ _ (@bf _ _ _ _ _ _ _ _ (@aq _ _ _ _ _ _ _ _ bj (pv 1) ai (aD _)) (@aj _ _ _ (@aC _ _ (2) _ _ _ _ sc.nd rfl (Or.inl rfl) (@a8 _ _ _ _ _ (@aa _ _ _ _ _ (@ax _ _ _ _ _ _ _ _ bt aI (@ax _ _ _ _ _ _ _ _ aU ai (@aG _ _ _ _ _ _ _ _ _ _ _ G7 hr (by decide) rfl (@aa _ _ _ _ _ (pv 0) (@aa _ _ _ _ _ ai ae (by rfl)) (by rfl)) (by decide) (by rfl) (by rfl)))) (@aa _ _ _ _ _ (@ax _ _ _ _ _ _ _ _ bt aI (@ax _ _ _ _ _ _ _ _ aU ai (@aG _ _ _ _ _ _ _ _ _ _ _ G7 hr (by decide) rfl (@aa _ _ _ _ _ (pv 0) (@aa _ _ _ _ _ ai ae (by rfl)) (by rfl)) (by decide) (by rfl) (by rfl)))) (@aa _ _ _ _ _ (@ax _ _ _ _ _ _ _ _ bt aI (@ax _ _ _ _ _ _ _ _ aU ai (@aG _ _ _ _ _ _ _ _ _ _ _ G7 hr (by decide) rfl (@aa _ _ _ _ _ (pv 0) (@aa _ _ _ _ _ ai ae (by rfl)) (by rfl)) (by decide) (by rfl) (by rfl)))) ae (by rfl)) (by rfl)) (by rfl))) (by rfl) (by first | exact .inl rfl | exact .inr rfl | assumption))) aO) (@ag _ _ _ _ _ (@bf _ _ _ _ _ _ _ _ (@aq _ _ _ _ _ _ _ _ gc (pv 1) ai (aD _)) (@ag _ _ _ _ _ (@aC _ _ (2) _ _ _ _ sc.nd rfl (Or.inl rfl) (@a8 _ _ _ _ _ (@aa _ _ _ _ _ (@aV _ _ _ _ _ _ _ bI (@br _ _ _ _ (@aa _ _ _ _ _ aI (@aa _ _ _ _ _ aI (@aa _ _ _ _ _ aI (@aa _ _ _ _ _ aI ae (by rfl)) (by rfl)) (by rfl)) (by rfl))) (@aG _ _ _ _ _ _ _ _ _ _ _ G7 hr (by decide) rfl (@aa _ _ _ _ _ (pv 0) (@aa _ _ _ _ _ ai ae (by rfl)) (by rfl)) (by decide) (by rfl) (by rfl)) (fun _ _=>rfl)) (@aa _ _ _ _ _ (@ax _ _ _ _ _ _ _ _ bt aI (@ax _ _ _ _ _ _ _ _ aU ai (@aG _ _ _ _ _ _ _ _ _ _ _ G7 hr (by decide) rfl (@aa _ _ _ _ _ (pv 0) (@aa _ _ _ _ _ ai ae (by rfl)) (by rfl)) (by decide) (by rfl) (by rfl)))) ae (by rfl)) (by rfl))) (by rfl) (by first | exact .inl rfl | exact .inr rfl | assumption)) (@aj _ _ _ (@aC _ _ (2) _ _ _ _ sc.nd rfl (Or.inl rfl) (@au _ _ _ _ _ _ _ _ _ _ bw (pv 2) aJ (@aA _ _ _ (@ax _ _ _ _ _ _ _ _ aU ai (@aG _ _ _ _ _ _ _ _ _ _ _ G7 hr (by decide) rfl (@aa _ _ _ _ _ (pv 0) (@aa _ _ _ _ _ ai ae (by rfl)) (by rfl)) (by decide) (by rfl) (by rfl))))) (by rfl) (by first | exact .inl rfl | exact .inr rfl | assumption)))) aO) (@ag _ _ _ _ _ (@aC _ _ (4) _ _ _ _ sc.nd rfl (Or.inl rfl) (@br _ _ _ _ ae) (by rfl) (by first | exact .inl rfl | exact .inr rfl | assumption)) (@ag _ _ _ _ _ (@bN _ _ _ _ _ _ _ _ Ce rfl (@gq _ _ _ _ (pv 2)) (@aX _ _ (5) _ sc.nd rfl (Or.inl rfl) (by first | exact .inl rfl | exact .inr rfl | assumption)) (@ag _ _ _ _ _ (@aC _ _ (6) _ _ _ _ sc.nd rfl (Or.inl rfl) (@aG _ _ _ _ _ _ _ _ _ _ _ G7 hr (by decide) rfl (@aa _ _ _ _ _ (pv 0) (@aa _ _ _ _ _ (@ax _ _ _ _ _ _ _ _ aU (@ak _ _ _ _ _ _ _ _ _ av (by rfl) T.len BP (@aa _ _ _ _ _ (pv 5) ae (by rfl)) (by decide) (by decide) (by rfl) (by rfl)) ai) ae (by rfl)) (by rfl)) (by decide) (by rfl) (by rfl)) (by rfl) (by first | exact .inl rfl | exact .inr rfl | assumption)) (@aj _ _ _ (@cU _ _ _ _ (@gM _ _ _ _ _ _ _ _ _ _ _ _ Dd Cz C7 cz (pv 4) (@aa _ _ _ _ _ (@aV _ _ _ _ _ _ _ bI (@br _ _ _ _ (@aa _ _ _ _ _ (@ax _ _ _ _ _ _ _ _ aH (@au _ _ _ _ _ _ _ _ _ _ aY (pv 5) (@aA _ _ _ (pv 6)) aJ) (@au _ _ _ _ _ _ _ _ _ _ aY (pv 5) aJ (@aA _ _ _ (pv 6)))) (@aa _ _ _ _ _ (@aG _ _ _ _ _ _ _ _ _ _ _ G9 hr (by decide) rfl (@aa _ _ _ _ _ (@ax _ _ _ _ _ _ _ _ aH (@au _ _ _ _ _ _ _ _ _ _ aY (pv 5) (@aA _ _ _ (pv 6)) aJ) (@au _ _ _ _ _ _ _ _ _ _ aY (pv 5) aJ (@aA _ _ _ (pv 6)))) ae (by rfl)) (by decide) (by rfl) (by rfl)) ae (by rfl)) (by rfl))) (@aG _ _ _ _ _ _ _ _ _ _ _ G7 hr (by decide) rfl (@aa _ _ _ _ _ (pv 0) (@aa _ _ _ _ _ ai ae (by rfl)) (by rfl)) (by decide) (by rfl) (by rfl)) (fun _ _=>rfl)) ae (by rfl)) (by rfl) (by rfl) (by rfl) (by rfl) (by rfl)) (by rfl)))) (by intro _ ;rfl)) (@ag _ _ _ _ _ (@aC _ _ (7) _ _ _ _ sc.nd rfl (Or.inl rfl) (@cq _ _ _ _ _ _ _ (@bD _ _ _ _ _ _ _ _ (@d9 _ (K) rfl) aI (pv 4) rfl) (@cT _ _ _ _ _ (@bD _ _ _ _ _ _ _ _ wL (@aG _ _ _ _ _ _ _ _ _ _ _ Ie hr (by decide) rfl (@aa _ _ _ _ _ (@aG _ _ _ _ _ _ _ _ _ _ _ Hm hr (by decide) rfl (@aa _ _ _ _ _ (pv 4) ae (by rfl)) (by decide) (by rfl) (by rfl)) ae (by rfl)) (by decide) (by rfl) (by rfl)) mn (aD _)))) (by rfl) (by first | exact .inl rfl | exact .inr rfl | assumption)) (@aj _ _ _ (@aK _ _ _ _ (@bp _ _ _ _ _ _ _ _ (@bV _ _ _ (pv 7) (fun _=>rfl)) (@cg _ _ _ _ _ _ _ _ _ bX (by rfl) T.tuple d8 (@aa _ _ _ _ _ (pv 4) ae (by rfl)) (by decide) (by decide) (by rfl) (by rfl)) (@a8 _ _ _ _ _ ae)))))))))))))),?_⟩
  refine ⟨_,rfl,d,_,rfl,F0,by decide,by decide,fun r H1 r0 r1 F1 Ik=>?_⟩
  refine ⟨(aw (n:=0) (by decide)),fun q0 hq0=>?_⟩
  have ok0:∃ (q:Addr) (W:List (List L)) (b3:Option V),[some (.ref d),some (.int r),some (.ref q0),none,none,none,none,none]=[some (V.ref d),some (.int r),some (.ref q),b3,none,none,none,none]∧(upd H1 q0 (.tup [])) q=some (.tup (W.map tx))∧Wl 6 40 W∧Fd (upd H1 q0 (.tup [])) d∧ba d H (upd H1 q0 (.tup [])) :=
   ⟨q0,[],none,rfl,af,⟨by simp,fun v hv=>by cases hv⟩,F1.new hq0,Ik.trans (aF.new hq0).b⟩
  refine ⟨_,rfl,rfl,_,rfl,pD (fun σ H'=>∃ (q:Addr) (W:List (List L)) (b3:Option V),σ = [some (.ref d),some (.int r),some (.ref q),b3,none,none,none,none]∧H' q=some (.tup (W.map tx))∧Wl 6 40 W∧Fd H' d∧ba d H H') ok0 ?_ (fun main=>?_)⟩
  rotate_left
  ·-- powers
   have F2:=F1.new (a:=q0) (o:=.tup []) hq0
   have Hf:=Ik.trans (aF.new (o:=.tup []) hq0).b
   generalize upd H1 q0 (.tup [])=H2 at F2 Hf ⊢
   refine ⟨_,rfl,?_⟩
   refine cj (own:=["_law_sign"]) (cap:=[0]) (J:=Its (Str.ofString "abcde")) 5 (fun j ys σ H'=>∃ (v:Option V) (W:List (List L)),σ = [v,some (.ref d)]∧ys=W.map tx∧Wl j 40 W∧Fd H' d∧ba d H H') ⟨none,[],rfl,rfl,⟨BG _,fun v hv=>by cases hv⟩,F2,Hf⟩ (fun j ys σ H' hj ⟨_,W,_,e,wl,_⟩=>by rw [e,BK];exact wl.1) (by omega) (fun j ys σ H' hj _=>hj) (fun ys σ H' _=>rfl) ?_ ?_
   ·rintro j ys σ HX x HY N hj ⟨v,W,rfl,rfl,wl,F3,Ho⟩ ⟨rfl,c,hc,rfl⟩ hN
    obtain ⟨x,ex⟩:∃ x:L,c=cp x:=by
     match j,hj with
     | 0,_=>exact ⟨0,BW (hc.symm.trans (by decide +kernel:(Str.ofString "abcde").cps[0]? = some (cp 0)))⟩
     | 1,_=>exact ⟨1,BW (hc.symm.trans (by decide +kernel:(Str.ofString "abcde").cps[1]? = some (cp 1)))⟩
     | 2,_=>exact ⟨2,BW (hc.symm.trans (by decide +kernel:(Str.ofString "abcde").cps[2]? = some (cp 2)))⟩
     | 3,_=>exact ⟨3,BW (hc.symm.trans (by decide +kernel:(Str.ofString "abcde").cps[3]? = some (cp 3)))⟩
     | 4,_=>exact ⟨4,BW (hc.symm.trans (by decide +kernel:(Str.ofString "abcde").cps[4]? = some (cp 4)))⟩
    subst ex
    refine ⟨_,rfl,_,rfl,d,_,rfl,F3,by decide,by decide,fun p H4 p0 p1 F4 Hh=>⟨_,_,rfl,rfl,?_⟩⟩
    obtain ⟨mo,u,eu,hu⟩:=cN (z:=⟨#[cp x]⟩) (w:=[x]) rfl (n:=7+p) (by omega) (by omega) (by simp) (by simp;omega)
    refine ⟨_,_,rfl,rfl,mo,?_⟩
    rw [eu]
    exact hN _ _ _ ⟨_,W++[u],rfl,by rw [Cy];rfl,wl.snoc hu,F4,Ho.trans Hh⟩
   rintro ys σ H3 l ⟨v,W,rfl,rfl,wl,F3,Ho⟩ hl
   have s4:aF H3 (upd H3 l (.lst (W.map tx))):=aF.new hl
   have f4:(upd H3 l (.lst (W.map tx))) l=some (.lst (W.map tx)):=af
   generalize upd H3 l (.lst (W.map tx))=H4 at s4 f4 ⊢
   have F4:=F3.same s4
   have Hh:=Ho.trans s4.b
   refine ⟨_,rfl,_,rfl,d,_,rfl,F4,by decide,by decide,fun p H5 p0 p1 F5 Hu=>⟨_,_,rfl,rfl,?_⟩⟩
   obtain ⟨mo,u,eu,hu⟩:=cN q_ (n:=2+p) (by omega) (by omega) (by decide) (by simp;omega)
   refine ⟨_,_,rfl,rfl,mo,?_⟩
   rw [eu]
   have f5:=Hu _ _ (F4.nl f4) f4
   refine ⟨(aw (n:=1) (by decide)),fun l2 hl2=>?_⟩
   refine ⟨l,l2,_,_,rfl,rfl,(aF.new hl2) _ _ f5,af,(by rw [BK];have:=wl.1;show _+1≤_;omega),fun l3 hl3=>?_⟩
   have ew:W.map tx++[tx u]=(W++[u]).map tx:=by rw [Cy];rfl
   rw [ew]
   refine ⟨l3,_,rfl,.inl ⟨SqL.of af,fun rg hrg=>?_⟩⟩
   have s6:aF H5 (upd (upd (upd H5 l2 (.lst [tx u])) l3 (.lst ((W++[u]).map tx))) rg (.tup ((W++[u]).map tx))):=((aF.new hl2).then hl3).then hrg
   have f6:(upd (upd (upd H5 l2 (.lst [tx u])) l3 (.lst ((W++[u]).map tx))) rg (.tup ((W++[u]).map tx))) rg=some (.tup ((W++[u]).map tx)):=af
   generalize upd (upd (upd H5 l2 (.lst [tx u])) l3 (.lst ((W++[u]).map tx))) rg (.tup ((W++[u]).map tx))=H6 at s6 f6 ⊢
   have F6:=F5.same s6
   refine ⟨_,rfl,d,_,rfl,F6,by decide,by decide,fun p2 H7 p20 p21 F7 HS=>?_⟩
   refine ⟨_,rfl,rg,_,rfl,HS _ _ (F6.neT f6) f6,fun p3 H8 s8 f8=>?_⟩
   obtain ⟨W',e',l',m'⟩:=ib (W++[u]) (some p2) none
   rw [e'] at f8
   exact main _ _ ⟨p3,W',_,rfl,f8,(wl.snoc hu).cut l' m',F7.same s8,Hh.trans (Hu.trans (s6.b.trans (HS.trans s8.b)))⟩
  rintro σ H2 ⟨q,W,b3,rfl,hq,wl,F2,Hf⟩
  refine ⟨_,rfl,rfl,_,rfl,pD (fun σ H'=>∃ (q:Addr) (W:List (List L)) (b3:Option V),σ = [some (.ref d),some (.int r),some (.ref q),b3,none,none,none,none]∧H' q=some (.tup (W.map tx))∧Wl 6 40 W∧Fd H' d∧ba d H H') ⟨q,W,b3,rfl,hq,wl,F2,Hf⟩ ?_ (fun main=>?_)⟩
  rotate_left
  ·skip
   refine ⟨_,rfl,d,_,rfl,F2,by decide,by decide,fun p3 H3 p30 p31 F3 Ho=>⟨_,_,rfl,rfl,?_⟩⟩
   obtain ⟨mo3,u3,eu3,hu3⟩:=cN ve (n:=1+p3) (by omega) (by omega) (by decide) (by simp;omega)
   refine ⟨_,_,rfl,rfl,mo3,?_⟩
   rw [eu3]
   refine ⟨_,rfl,d,_,rfl,F3,by decide,by decide,fun p4 H4 p40 p41 F4 Hh=>⟨_,_,rfl,rfl,?_⟩⟩
   obtain ⟨mo4,u4,eu4,hu4⟩:=cN z8 (n:=1+p4) (by omega) (by omega) (by decide) (by simp;omega)
   refine ⟨_,_,rfl,rfl,mo4,?_⟩
   rw [eu4]
   refine ⟨(aw (n:=2) (by decide)),fun q5 hq5=>?_⟩
   have s5:aF H4 (upd H4 q5 (.tup [tx u3,tx u4])):=aF.new hq5
   have f5:(upd H4 q5 (.tup [tx u3,tx u4])) q5=some (.tup ([u3,u4].map tx)):=af
   generalize upd H4 q5 (.tup [tx u3,tx u4])=H5 at s5 f5 ⊢
   have F5:=F4.same s5
   refine ⟨_,rfl,d,_,rfl,F5,by decide,by decide,fun p6 H6 p60 p61 F6 Ij=>?_⟩
   refine ⟨_,rfl,q5,_,rfl,Ij _ _ (F5.neT f5) f5,fun q7 H7 s7 f7=>?_⟩
   obtain ⟨W',e',l',m'⟩:=ib [u3,u4] (some p6) none
   rw [e'] at f7
   have w0:Wl 6 40 [u3,u4]:=⟨by simp,fun v hv=>by simp only [B2,Cd,Do] at hv;rcases hv with rfl | rfl <;> assumption⟩
   exact main _ _ ⟨q7,W',_,rfl,f7,w0.cut l' m',F6.same s7,Hf.trans (Ho.trans (Hh.trans (s5.b.trans (Ij.trans s7.b))))⟩
  rintro σ H2 ⟨q,W,b3,rfl,hq,wl,F2,Hf⟩
  refine ⟨_,rfl,rfl,_,rfl,pD (fun σ H'=>∃ (q:Addr) (W:List (List L)) (b3:Option V),σ = [some (.ref d),some (.int r),some (.ref q),b3,none,none,none,none]∧H' q=some (.tup (W.map tx))∧Wl 6 40 W∧Fd H' d∧ba d H H') ⟨q,W,b3,rfl,hq,wl,F2,Hf⟩ ?_ (fun main=>?_)⟩
  rotate_left
  ·skip
   refine ⟨_,rfl,d,3,3,rfl,F2,by decide,by decide,by decide,by decide,fun u H3 hu hI F3 Ho=>?_⟩
   have hu:u.length≤3:=hu
   refine ⟨u,rfl,by omega,fun fr md H4 _ hl hmem s4=>?_⟩
   have F4:=F3.same s4
   refine ⟨_,rfl,d,_,rfl,F4,by decide,by decide,fun p5 H5 p50 p51 F5 Hu=>⟨_,_,rfl,rfl,?_⟩⟩
   obtain ⟨mo5,u5,eu5,hu5⟩:=cN (z:=toS md) (w:=md) rfl (n:=7+p5) (by omega) (by omega) (by omega) (by
    have h4:md.length=0 ∨ md.length=1 ∨ md.length=2 ∨ md.length=3:=by omega
    rcases h4 with h | h | h | h <;> rw [h] <;> omega)
   refine ⟨_,_,rfl,rfl,mo5,?_⟩
   rw [eu5]
   refine ⟨(aw (n:=1) (by decide)),fun q6 hq6=>?_⟩
   exact main _ _ ⟨q6,[u5],_,rfl,af,⟨by simp,fun v hv=>by rw [BE] at hv;subst hv;exact hu5⟩,F5.new hq6,Hf.trans (Ho.trans (s4.b.trans (Hu.trans (aF.new hq6).b)))⟩
  rintro σ H2 ⟨q,W,b3,rfl,hq,wl,F2,Hf⟩
  refine ⟨_,rfl,rfl,_,rfl,pD (fun σ H'=>∃ (q:Addr) (W:List (List L)) (b3:Option V),σ = [some (.ref d),some (.int r),some (.ref q),b3,none,none,none,none]∧H' q=some (.tup (W.map tx))∧Wl 6 40 W∧Fd H' d∧ba d H H') ⟨q,W,b3,rfl,hq,wl,F2,Hf⟩ ?_ (fun main=>?_)⟩
  rotate_left
  ·skip
   refine ⟨_,rfl,d,_,rfl,F2,by decide,by decide,fun p3 H3 p30 p31 F3 Ho=>⟨_,_,rfl,rfl,?_⟩⟩
   obtain ⟨mo3,u3,eu3,hu3⟩:=cN ve (n:=7+p3) (by omega) (by omega) (by decide) (by simp;omega)
   refine ⟨_,_,rfl,rfl,mo3,?_⟩
   rw [eu3]
   refine ⟨_,rfl,d,_,rfl,F3,by decide,by decide,fun p4 H4 p40 p41 F4 Hh=>⟨_,_,rfl,rfl,?_⟩⟩
   obtain ⟨mo4,u4,eu4,hu4⟩:=cN z7 (n:=7+p4) (by omega) (by omega) (by decide) (by simp;omega)
   refine ⟨_,_,rfl,rfl,mo4,?_⟩
   rw [eu4]
   refine ⟨_,rfl,d,_,rfl,F4,by decide,by decide,fun p5 H5 p50 p51 F5 Hu=>⟨_,_,rfl,rfl,?_⟩⟩
   obtain ⟨mo5,u5,eu5,hu5⟩:=cN oj (n:=4+p5) (by omega) (by omega) (by decide) (by simp;omega)
   refine ⟨_,_,rfl,rfl,mo5,?_⟩
   rw [eu5]
   refine ⟨(aw (n:=3) (by decide)),fun q6 hq6=>?_⟩
   exact main _ _ ⟨q6,[u3,u4,u5],_,rfl,af,⟨by simp,fun v hv=>by simp only [B2,Cd,Do] at hv;rcases hv with rfl | rfl | rfl <;> assumption⟩,F5.new hq6,Hf.trans (Ho.trans (Hh.trans (Hu.trans (aF.new hq6).b)))⟩
  rintro σ H2 ⟨q,W,b3,rfl,hq,wl,F2,Hf⟩
  refine ⟨_,rfl,_,_,rfl,rfl,_,rfl,pD (fun σ H'=>∃ (q:Addr) (W:List (List L)) (b3:Option V),σ = [some (.ref d),some (.int r),some (.ref q),b3,none,none,none,none]∧H' q=some (.tup (W.map tx))∧Wl 6 40 W∧Fd H' d∧ba d H H') ⟨q,W,b3,rfl,hq,wl,F2,Hf⟩ ?_ (fun main=>?_)⟩
  rotate_left
  ·refine ⟨(aw (n:=4) (by decide)),fun l3 hl3=>?_⟩
   have s3:aF H2 (upd H2 l3 (.lst [V.str (Str.ofString "abABcdCD"),.str (Str.ofString "abcdABCD"),.str (Str.ofString "aabbccdd"),.str (Str.ofString "abcABdCD")])):=aF.new hl3
   have f3:(upd H2 l3 (.lst [V.str (Str.ofString "abABcdCD"),.str (Str.ofString "abcdABCD"),.str (Str.ofString "aabbccdd"),.str (Str.ofString "abcABdCD")])) l3=some (.lst [V.str (Str.ofString "abABcdCD"),.str (Str.ofString "abcdABCD"),.str (Str.ofString "aabbccdd"),.str (Str.ofString "abcABdCD")]):=af
   generalize upd H2 l3 (.lst [V.str (Str.ofString "abABcdCD"),.str (Str.ofString "abcdABCD"),.str (Str.ofString "aabbccdd"),.str (Str.ofString "abcABdCD")])=H3 at s3 f3 ⊢
   have F3:=F2.same s3
   refine ⟨_,rfl,d,_,rfl,F3,by decide,by decide,fun p4 H4 p40 p41 F4 Hh=>?_⟩
   have hat:∃ w0:List L,atI [V.str (Str.ofString "abABcdCD"),.str (Str.ofString "abcdABCD"),.str (Str.ofString "aabbccdd"),.str (Str.ofString "abcABdCD")] p4=some (tx w0)∧w0.length≤40:=by
    obtain ⟨k4,rfl⟩:=B9 p40
    match k4,(show k4 < 4 by omega) with
    | 0,_=>exact ⟨_,(bL (j:=0) rfl).trans (Ci (fun z=>some (V.str z)) z_),by decide⟩
    | 1,_=>exact ⟨_,(bL (j:=1) rfl).trans (Ci (fun z=>some (V.str z)) Ab),by decide⟩
    | 2,_=>exact ⟨_,(bL (j:=2) rfl).trans (Ci (fun z=>some (V.str z)) Ac),by decide⟩
    | 3,_=>exact ⟨_,(bL (j:=3) rfl).trans (Ci (fun z=>some (V.str z)) Ad),by decide⟩
   obtain ⟨w0,hat,hw0⟩:=hat
   refine ⟨l3,_,_,_,rfl,rfl,SqL.of (Hh _ _ (F3.nl f3) f3),hat,?_⟩
   refine ⟨_,rfl,d,_,rfl,F4,by decide,by decide,fun p5 H5 p50 p51 F5 Hu=>⟨_,_,rfl,rfl,?_⟩⟩
   obtain ⟨mo5,u5,eu5,hu5⟩:=cN z9 (n:=1+p5) (by omega) (by omega) (by decide) (by simp;omega)
   refine ⟨_,_,rfl,rfl,mo5,?_⟩
   rw [eu5]
   refine ⟨(aw (n:=2) (by decide)),fun q6 hq6=>?_⟩
   have s6:aF H5 (upd H5 q6 (.tup [tx w0,tx u5])):=aF.new hq6
   have f6:(upd H5 q6 (.tup [tx w0,tx u5])) q6=some (.tup ([w0,u5].map tx)):=af
   generalize upd H5 q6 (.tup [tx w0,tx u5])=H6 at s6 f6 ⊢
   have F6:=F5.same s6
   refine ⟨_,rfl,_,rfl,d,_,rfl,F6,by decide,by decide,fun p7 H7 p70 p71 F7 HS=>⟨_,_,rfl,rfl,?_⟩⟩
   refine ⟨_,rfl,q6,_,rfl,HS _ _ (F6.neT f6) f6,fun q8 H8 s8 f8=>?_⟩
   obtain ⟨W',e',l',m'⟩:=ib [w0,u5] none (some (1+p7))
   rw [e'] at f8
   have w0':Wl 6 40 [w0,u5]:=⟨by simp,fun v hv=>by simp only [B2,Cd,Do] at hv;rcases hv with rfl | rfl <;> assumption⟩
   exact main _ _ ⟨q8,W',_,rfl,f8,w0'.cut l' m',F7.same s8,Hf.trans (s3.b.trans (Hh.trans (Hu.trans (s6.b.trans (HS.trans s8.b)))))⟩
  rintro σ H2 ⟨q,W,b3,rfl,hq,wl,F2,Hf⟩
  refine ⟨(aw (n:=0) (by decide)),fun l hl=>?_⟩
  have s3:aF H2 (upd H2 l (.lst [])):=aF.new hl
  have f3:(upd H2 l (.lst [])) l=some (.lst (([]:List (List L)).map tx)):=af
  generalize upd H2 l (.lst [])=H3 at s3 f3 ⊢
  have F3:=F2.same s3
  refine ⟨_,rfl,q,rfl,⟨_,SqT.of (s3 _ _ hq)⟩,?_⟩
  refine dz (xs:=W.map tx) (fun j σ H'=>∃ (b5 b6:Option V) (V':List (List L)),σ = [some (.ref d),some (.int r),some (.ref q),b3,some (.ref l),b5,b6,none]∧H' q=some (.tup (W.map tx))∧H' l=some (.lst (V'.map tx))∧Wl j 40 V'∧Fd H' d∧ba d H H'∧l≠d∧q≠l) ⟨none,none,[],rfl,s3 _ _ hq,f3,⟨BG _,fun v hv=>by cases hv⟩,F3,Hf.trans s3.b,F3.nl f3,aE hq hl⟩ (fun j σ H' _ ⟨_,_,_,_,e,_⟩=>SqT.of e) ?_ ?_
  ·rintro j x σ H4 hx ⟨b5,b6,V',rfl,q4,f4,vl,F4,Hh,nld,nql⟩
   rw [B7] at hx
   cases hv:W[j]? with
   | none=>rw [hv] at hx;cases hx
   | some v =>
    rw [hv] at hx
    cases hx
    have lv:=wl.2 v (B8 hv)
    have lz:=ah v
    have hj:=(BF.mp hv).1
    have w6:=wl.1
    refine ⟨_,rfl,_,rfl,_,rfl,by omega,_,_,rfl,rfl,d,_,rfl,F4,by omega,by omega,fun p5 H5 p50 p51 F5 Hu=>?_⟩
    have f5:=Hu _ _ nld f4
    have q5:=Hu _ _ (F4.neT q4) q4
    refine ⟨_,rfl,.inl ⟨rfl,_,SqL.of f5⟩,?_⟩
    refine ⟨_,rfl,_,rfl,_,rfl,_,rfl,by omega,_,rfl,_,rfl,_,rfl,_,rfl,by omega,_,_,rfl,rfl,?_,?_⟩
    ·have h1:=Cf (toS v) (some p5) none
     have h2:=Cf (toS v) none (some p5)
     omega
    rw [az,az,bh v p50,bF v p50,bg]
    have lw:(v.drop p5.toNat++v.take p5.toNat).length=v.length:=by rw [BB,B0,BJ];omega
    refine ⟨_,rfl,_,rfl,_,rfl,_,rfl,by omega,_,rfl,_,rfl,_,rfl,_,rfl,by omega,_,_,rfl,rfl,?_,?_⟩
    ·have h1:=Cf (toS v) (some p5) none
     have h2:=Cf (toS v) none (some p5)
     omega
    rw [az,az,bh v p50,bF v p50,bg]
    generalize v.drop p5.toNat++v.take p5.toNat=y at lw ⊢
    refine ⟨y,rfl,by omega,fun H6 s6=>⟨(aw (n:=2) (by decide)),fun l7 hl7=>?_⟩⟩
    have s7:aF H5 (upd H6 l7 (.lst [tx y,tx (bk y)])):=s6.then hl7
    have f7:(upd H6 l7 (.lst [tx y,tx (bk y)])) l7=some (.lst [tx y,tx (bk y)]):=af
    generalize upd H6 l7 (.lst [tx y,tx (bk y)])=H7 at s7 f7 ⊢
    have F7:=F5.same s7
    refine ⟨_,rfl,d,_,rfl,F7,by decide,by decide,fun p8 H8 p80 p81 F8 Ii=>?_⟩
    have hat:∃ y':List L,atI [tx y,tx (bk y)] p8=some (tx y')∧y'.length≤40:=by
     obtain ⟨k8,rfl⟩:=B9 p80
     match k8,(show k8 < 2 by omega) with
     | 0,_=>exact ⟨y,bL (j:=0) rfl,by omega⟩
     | 1,_=>exact ⟨bk y,bL (j:=1) rfl,by rw [bS];omega⟩
    obtain ⟨y',hat,hy'⟩:=hat
    refine ⟨l7,_,_,_,rfl,rfl,SqL.of (Ii _ _ (F7.nl f7) f7),hat,?_⟩
    have f8:=Ii _ _ nld (s7 _ _ f5)
    have q8:=Ii _ _ (F7.neT (s7 _ _ q5)) (s7 _ _ q5)
    refine ⟨l,_,_,rfl,rfl,f8,by rw [BK];have:=vl.1;omega,?_⟩
    refine ⟨_,_,V'++[y'],rfl,by rw [ay nql];exact q8,by rw [af,Cy];rfl,vl.snoc hy',?_,?_,nld,nql⟩
    ·exact vf F8 f8 nld
    ·intro b o nb e
     have e2:=Hf _ _ nb e
     rw [ay (aE e2 hl)]
     exact Ii _ _ nb (s7 _ _ (Hu _ _ nb (Hh _ _ nb e)))
  ·rintro σ H4 ⟨b5,b6,V',rfl,q4,f4,vl,F4,Hh,nld,nql⟩
   have no:∀ H5,Fd H5 d→ba d H H5→∀ q5,H5 q5=none→Q (.ref q5) (upd H5 q5 (.tup [])):=fun H5 F5 Hu q5 hq5=>k q5 [] _ ⟨by simp,fun r hr=>by cases hr⟩ (fun r hr=>by cases hr) (by simp) af (F5.new hq5) (Hu.trans (aF.new hq5).b)
   have w6:=wl.1
   have v6:=vl.1
   rw [BK] at v6
   refine ⟨_,rfl,l,_,rfl,.inl (SqL.of f4),rfl,h_ _,?_⟩
   have e0:inV (V.str (Str.ofString "")) (V'.map tx)=decide (([]:List L)∈V'):=by
    rw [show V.str (Str.ofString "")=tx [] from dN.symm]
    exact qZ [] V'
   refine ⟨_,rfl,?_⟩
   rw [e0]
   by_cases he:([]:List L)∈V'
   ·rw [BM he]
    refine bO rfl ?_
    exact ⟨_,rfl,_,rfl,bO rfl ⟨(aw (n:=0) (by decide)),fun q5 hq5=>no _ F4 Hh q5 hq5⟩⟩
   ·rw [BI he]
    refine bY rfl ?_
    have hR:Rgs V':=⟨by omega,fun x hx=>⟨fun z=>he (z ▸ hx),Cn (vl.2 x hx) (by decide)⟩⟩
    refine ⟨_,rfl,l,V',rfl,.inr f4,hR,fun l5 V5 H5 hl5 oV mV f5 s5=>?_⟩
    have tn:Tn V' V5:=⟨oV,mV⟩
    have l5z:=tn.len hR
    refine ⟨l5,V5,rfl,f5,by omega,fun v hv=>by have:=(tn.word hR hv).2;omega,fun H6 s6 _=>?_,fun H6 p t o c s6 _ hp=>?_⟩
    ·have s7:=s5.trans s6
     refine ⟨rfl,_,rfl,_,rfl,bY rfl ?_⟩
     refine ⟨_,rfl,l,_,rfl,.inl ⟨SqL.of (s7 _ _ f4),fun rg hrg=>?_⟩⟩
     exact k rg V' _ hR (fun r hr=>vl.2 r hr) (by omega) af ((F4.same s7).new hrg) (Hh.trans (s7.b.trans (aF.new hrg).b))
    ·have s7:=s5.trans s6
     exact ⟨rfl,_,rfl,_,rfl,bO rfl ⟨(aw (n:=0) (by decide)),fun q5 hq5=>no _ (F4.same s7) (Hh.trans s7.b) q5 hq5⟩⟩
theorem yM {q:Int}(h0:0≤q)(h1:q < 10):∃ x:L,atI ("abcdeABCDE":Str).cps.toList q=some (cp x):=by
 have hk:q.toNat < 10:=by omega
 have e:("abcdeABCDE":Str)=toS [0,1,2,3,4,6,7,8,9,10]:=by decide +kernel
 rw [e]
 have d:∀ j:Fin 10,∃ x,([0,1,2,3,4,6,7,8,9,10]:List L)[j.val]? = some x:=by decide
 obtain ⟨x,hx⟩:=d ⟨q.toNat,hk⟩
 exact ⟨x,bB (k:=q.toNat) (by omega) hx⟩
theorem pF {W:List (List L)}{q:Int}(h0:0≤q)(h1:q < (W.length:Int)):∃ u,u∈W∧atI (W.map tx) q=some (tx u):=by
 obtain ⟨n,rfl⟩:=B9 h0
 have hn:n < W.length:=by omega
 exact ⟨W[n],CA hn,bL (by rw [B7,BC hn];rfl)⟩
abbrev pG:Stmt:=top 51
theorem v5:aN ["_law_feed_here","_law_rings_here","_law_most","_law_word","_law_k","_law_by","_law_ring","_law_at","_law_sign"] ["_law_feed_here","_law_rings_here","_law_most"] (ao pG):=⟨rfl,rfl,rfl,by decide +kernel,rfl,by decide +kernel,by decide +kernel⟩
theorem yN (D:Df K mg "_law_made" pG)(T:Bt K w mg aB)(G7:Fnc P w K mg base "_law_draw" ["_law_feed_here","_law_many"] 1 cC)(G9:Fnc P w K mg base "_law_back" ["_law_word"] 1 i8)(He:Fnc P w K mg base "_law_some" ["_law_feed_here","_law_many","_law_most"] 2 dF):Fnc P w K mg base "_law_made" ["_law_feed_here","_law_rings_here","_law_most"] 3 iz:=by
 have sc:=v5
 refine D.ok sc (fun _ _ _ _ _ _ us hl=>by obtain ⟨_,_,_,rfl⟩:=jy hl;rfl) (fun vs H Q E h=>?_) (fun f Hb A outer s H vs Q E hr h=>?_)
 ·obtain ⟨d,a,R,n,rfl,_⟩:=h
  rfl
 ·obtain ⟨d,a,R,n,rfl,F0,ha,hR,h40,n1,n10,k⟩:=h
  have Hr:=a9
  have na:a≠d:=F0.neT ha
  refine ⟨_,(Gq (Gx (3) sc.nd rfl (Or.inl rfl) aI) (Gq (GU Ce rfl (GZ rfl T.range (GA (Gr aU ai (GR G7 hr (by decide) rfl (GA (pv 0) (GA (pv 2) ae)))) ae)) (GK (4) sc.nd rfl (Or.inl rfl)) (Gq (Gx (5) sc.nd rfl (Or.inl rfl) (GR He hr (by decide) rfl (GA (pv 0) (GA ai (GA ai ae))))) (Gq (Gx (6) sc.nd rfl (Or.inl rfl) (GY (Gw (@lV _ (by exact hr.units)) (pv 1) (G4 ae) (aD _)) (Gy aZ (pv 1) (GR G7 hr (by decide) rfl (GA (pv 0) (GA (Gz aW (by rfl) T.len BP (GA (pv 1) ae)) ae))) (fun _ _=>rfl)) aI)) (Gq (Gx (7) sc.nd rfl (Or.inl rfl) (GR G7 hr (by decide) rfl (GA (pv 0) (GA (Gr aU (Gz av (by rfl) T.len BP (GA (pv 6) ae)) ai) ae)))) (Gq (Gx (6) sc.nd rfl (Or.inl rfl) (Gr aH (GD aY (pv 6) (GE (pv 7)) aJ) (GD aY (pv 6) aJ (GE (pv 7))))) (GB (Gx (3) sc.nd rfl (Or.inl rfl) (Gr aH (Gr aH (Gr aH (pv 3) (pv 5)) (Gy bI (GF (GA (pv 6) (GA (GR G9 hr (by decide) rfl (GA (pv 6) ae)) ae))) (GR G7 hr (by decide) rfl (GA (pv 0) (GA ai ae))) (fun _ _=>rfl))) (GR G9 hr (by decide) rfl (GA (pv 5) ae)))))))))) (Gq (GU Ce rfl (GZ rfl T.range (GA (GR G7 hr (by decide) rfl (GA (pv 0) (GA ai ae))) ae)) (GK (4) sc.nd rfl (Or.inl rfl)) (Gq (Gx (7) sc.nd rfl (Or.inl rfl) (GR G7 hr (by decide) rfl (GA (pv 0) (GA (Gr aU (Gz av (by rfl) T.len BP (GA (pv 3) ae)) ai) ae)))) (Gq (Gx (8) sc.nd rfl (Or.inl rfl) (Gy bR aI (GR G7 hr (by decide) rfl (GA (pv 0) (GA ai ae))) (fun _ _=>rfl))) (GB (Gx (3) sc.nd rfl (Or.inl rfl) (Gr aH (Gr aH (Gr aH (GD aY (pv 3) aJ (GE (pv 7))) (pv 8)) (GR G9 hr (by decide) rfl (GA (pv 8) ae))) (GD aY (pv 3) (GE (pv 7)) aJ))))))) (GB (GC (pv 3)))))),?_⟩
  refine ⟨_,rfl,_,rfl,d,_,rfl,F0,by omega,by omega,fun q H1 q0 q1 F1 Ik=>⟨_,_,rfl,rfl,_,rfl,by omega,by omega,?_⟩⟩
  refine bQ (lo:=0) (n:=(1+q).toNat) (fun i σ H'=>∃ (b4 b5 b6 b7 b8:Option V) (u:List L),σ = [some (.ref d),some (.ref a),some (.int (n:Int)),some (tx u),b4,b5,b6,b7,b8]∧u.length≤48*i∧Fd H' d∧ba d H H') ⟨_,_,_,_,_,[],by rw [dN];rfl,by decide,F1,Ik⟩ ?_ ?_
  ·rintro i σ H2 hi ⟨b4,b5,b6,b7,b8,u,rfl,hu,F2,Hf⟩
   have hi:i≤n:=by omega
   refine ⟨_,rfl,d,5,4,rfl,F2,by decide,by decide,by decide,by decide,fun by_ H3 hb _ F3 Ho=>?_⟩
   have hb:by_.length≤4:=hb
   have a3:=Ho _ _ na (Hf _ _ na ha)
   refine ⟨_,rfl,(aw (n:=0) (by decide)),fun t ht=>?_⟩
   have st:aF H3 (upd H3 t (.tup [])):=aF.new ht
   refine ⟨a,t,_,rfl,rfl,SqT.of (st _ _ a3),af,?_⟩
   generalize upd H3 t (.tup [])=H4 at st ⊢
   have F4:=F3.same st
   have a4:=st _ _ a3
   have Hh:=(Hf.trans Ho).trans st.b
   refine ⟨_,rfl,?_⟩
   refine AR (fun x H'=>∃ r:List L,x=tx r∧r.length≤40∧Fd H' d∧ba d H H') ?_ (fun main hRe=>?_) (fun main _=>?_)
   rotate_left
   ·have hpos:0 < R.length:=by
     cases R with
     | nil=>cases hRe
     | cons _ _=>simp
    have h7:=hR.many
    refine ⟨_,rfl,_,rfl,_,rfl,a,_,rfl,.inr (SqT.of a4),d,_,rfl,F4,(by rw [BK];omega),(by rw [BK];omega),fun q4 HA q40 q41 FA sbA=>?_⟩
    rw [BK] at q41
    obtain ⟨r,hr1,e1⟩:=pF q40 q41
    exact ⟨a,_,_,_,rfl,rfl,SqT.of (sbA _ _ na a4),e1,main _ _ ⟨r,rfl,h40 r hr1,FA,Hh.trans sbA⟩⟩
   ·exact main _ _ ⟨[],dN.symm,by decide,F4,Hh⟩
   clear F4 Hh a4 st
   rintro x H4 ⟨r,rfl,hr,F4,Hh⟩
   have lr:=ah r
   refine ⟨_,rfl,_,rfl,_,rfl,by omega,_,_,rfl,rfl,d,_,rfl,F4,by omega,by omega,fun q2 H5 q20 q21 F5 Hu=>?_⟩
   obtain ⟨at_,rfl⟩:=B9 q20
   refine ⟨_,rfl,_,rfl,_,rfl,_,rfl,by omega,_,rfl,_,rfl,_,rfl,_,rfl,by omega,_,_,rfl,rfl,?_,?_⟩
   ·have h1:=Cf (toS r) (some (at_:Int)) none
    have h2:=Cf (toS r) none (some (at_:Int))
    omega
   rw [az,az,bh r (by omega),bF r (by omega),bg,BQ]
   have hr2:(r.drop at_++r.take at_).length≤40:=by rw [BB,B0,BJ];omega
   generalize r.drop at_++r.take at_=r2 at hr2
   have lr2:=ah r2
   have lu:=ah u
   have lb:=ah by_
   have l3:=ah (u++by_)
   rw [BB] at l3
   refine ⟨_,rfl,_,rfl,_,_,rfl,rfl,by omega,?_⟩
   rw [bg]
   refine ⟨_,rfl,_,rfl,r2,rfl,by omega,fun H6 s6=>⟨(aw (n:=2) (by decide)),fun l hl=>?_⟩⟩
   have s7:aF H6 (upd H6 l (.lst [tx r2,tx (bk r2)])):=aF.new hl
   have f7:(upd H6 l (.lst [tx r2,tx (bk r2)])) l=some (.lst ([r2,bk r2].map tx)):=af
   generalize upd H6 l (.lst [tx r2,tx (bk r2)])=H7 at s7 f7 ⊢
   have F7:=(F5.same s6).same s7
   refine ⟨_,rfl,d,_,rfl,F7,by decide,by decide,fun q3 H8 q30 q31 F8 Ii=>?_⟩
   obtain ⟨r3,hr3,e3⟩:=pF (W:=[r2,bk r2]) q30 q31
   have hr3:r3.length≤40:=by
    simp only [B2,Cd,Do] at hr3
    rcases hr3 with rfl | rfl
    ·exact hr2
    ·rw [bS];exact hr2
   have lr3:=ah r3
   have l4:=ah (u++by_++r3)
   rw [BB,BB] at l4
   refine ⟨l,_,_,_,rfl,rfl,SqL.of (Ii _ _ (F7.nl f7) f7),e3,_,_,rfl,rfl,by omega,?_⟩
   rw [bg]
   refine ⟨_,rfl,by_,rfl,by omega,fun H9 s9=>?_⟩
   have lbb:=ah (bk by_)
   rw [bS] at lbb
   refine ⟨_,_,rfl,rfl,by omega,?_⟩
   rw [bg]
   refine ⟨_,_,_,_,_,u++by_++r3++bk by_,rfl,?_,F8.same s9,((((Hh.trans Hu).trans s6.b).trans s7.b).trans Ii).trans s9.b⟩
   rw [BB,BB,BB,bS]
   omega
  ·rintro σ H2 ⟨b4,b5,b6,b7,b8,u,rfl,hu,F2,Hf⟩
   have hu:u.length≤48*n:=by
    have:48*(1+q).toNat≤48*n:=Nat.mul_le_mul_left _ (by omega)
    omega
   refine ⟨_,rfl,d,_,rfl,F2,by decide,by decide,fun q5 H3 q50 q51 F3 Ho=>⟨_,rfl,by omega,by omega,?_⟩⟩
   refine bQ (lo:=0) (n:=q5.toNat) (fun i σ H'=>∃ (b4 b5 b6 b7 b8:Option V) (u:List L),σ = [some (.ref d),some (.ref a),some (.int (n:Int)),some (tx u),b4,b5,b6,b7,b8]∧u.length≤48*n+2*i∧Fd H' d∧ba d H H') ⟨_,_,_,_,_,u,rfl,by omega,F3,Hf.trans Ho⟩ ?_ ?_
   ·rintro i σ H4 hi ⟨b4,b5,b6,b7,b8,u,rfl,hu,F4,Hh⟩
    have lu:=ah u
    refine ⟨_,rfl,_,rfl,_,rfl,by omega,_,_,rfl,rfl,d,_,rfl,F4,by omega,by omega,fun q6 H5 q60 q61 F5 Hu=>?_⟩
    obtain ⟨at_,rfl⟩:=B9 q60
    refine ⟨_,rfl,d,_,rfl,F5,by decide,by decide,fun q7 H6 q70 q71 F6 Ij=>?_⟩
    obtain ⟨x,hx⟩:=yM q70 q71
    refine ⟨_,_,_,rfl,rfl,(aw (n:=10) (by decide)),hx,?_⟩
    have lx:=ah [x]
    have h1:=Cf (toS u) none (some (at_:Int))
    have h2:=Cf (toS u) (some (at_:Int)) none
    refine ⟨_,rfl,_,rfl,_,rfl,_,rfl,by omega,_,rfl,_,_,rfl,rfl,(by show _+1≤sizeLine;omega),?_⟩
    rw [show (⟨#[cp x]⟩:Str)=toS [x] from rfl,az,bF u (by omega),bg,BQ]
    refine ⟨_,rfl,[x],rfl,(by show 1≤5000;decide),fun H7 s7=>?_⟩
    have l1:=ah (u.take at_++[x])
    have l2:=ah (bk [x])
    have l3:=ah (u.take at_++[x]++bk [x])
    simp only [BB,BJ,B6,CK,bS] at l1 l2 l3
    refine ⟨_,_,rfl,rfl,by omega,?_⟩
    rw [bg]
    refine ⟨_,rfl,_,rfl,_,rfl,_,rfl,by omega,_,_,rfl,rfl,by omega,?_⟩
    rw [az,bh u (by omega),bg,BQ]
    refine ⟨_,_,_,_,_,u.take at_++[x]++bk [x]++u.drop at_,rfl,?_,F6.same s7,((Hh.trans Hu).trans Ij).trans s7.b⟩
    simp only [BB,BJ,B0,B6,CK,bS]
    omega
   ·rintro σ H4 ⟨b4,b5,b6,b7,b8,u,rfl,hu,F4,Hh⟩
    exact ⟨_,rfl,k u _ (by omega) F4 Hh⟩
abbrev kj:Stmt:=top 52
theorem se:aN ["_law_known","_law_word","_law_step","_law_place","_law_fits","_law_found","_law_turn","_law_many"] ["_law_known","_law_word","_law_step"] (ao kj):=⟨rfl,rfl,rfl,by decide +kernel,rfl,by decide +kernel,by decide +kernel⟩
theorem v7 (D:Df K mg "_law_done" kj)(T:Bt K w mg aB)(G9:Fnc P w K mg base "_law_back" ["_law_word"] 1 i8):Fnc P w K mg base "_law_done" ["_law_known","_law_word","_law_step"] 2 e7:=by
 have sc:=se
 refine D.ok sc (fun _ _ _ _ _ _ us hl=>by obtain ⟨_,_,_,rfl⟩:=jy hl;rfl) (fun vs H Q E h=>?_) (fun f Hb A outer s H vs Q E hr h=>?_)
 ·obtain ⟨l,p,R,W,v,st,rfl,_⟩:=h
  rfl
 ·obtain ⟨l,p,R,W,v,st,rfl,hl,hm,hv,hp,hs,k⟩:=h
  have Hr:=a9
  have lv:=ah v
  have no:∀ H',aF H H'→f_ R v st=none→∀ q,H' q=none→Q (.ref q) (upd H' q (.lst [])):=fun H' s' e q hq=>k q _ (s'.free hq) (by rw [e];exact af) (s'.then hq)
  have yes:∀ H' u,aF H H'→f_ R v st=some u→∀ q,H' q=none→Q (.ref q) (upd H' q (.lst [tx u])):=fun H' u s' e q hq=>k q _ (s'.free hq) (by rw [e];exact af) (s'.then hq)
  refine ⟨_,(Gq (Gx (3) sc.nd rfl (Or.inl rfl) (Gy aZ (pv 2) ai (fun _ _=>rfl))) (Gq (Gv (Gw bj (Gy aZ (pv 2) ai (fun _ _=>rfl)) aI (aD _)) (Gq (Gx (4) sc.nd rfl (Or.inl rfl) (GL (GG e9 (Gr aU (pv 3) ai) (Gz av (by rfl) T.len BP (GA (pv 1) ae)) (aD _)) (GN (GG bj (Gy bR (pv 1) (Gr aU (pv 3) ai) (fun _ _=>rfl)) (GR G9 hr (by decide) rfl (GA (Gy bR (pv 1) (pv 3) (fun _ _=>rfl)) ae)) (aD _))))) (GB (GC (GY (GQ (pv 4) (fun _=>rfl)) (GF (GA (Gr aH (GD aY (pv 1) aJ (GE (pv 3))) (GD aY (pv 1) (GE (Gr aU (pv 3) ai)) aJ)) ae)) (GF ae))))) aO) (Gq (Gv (Gw bj (Gy aZ (pv 2) ai (fun _ _=>rfl)) aI (aD _)) (Gq (Gx (5) sc.nd rfl (Or.inl rfl) (Gr aH (Gr aH (Gr aH (GD aY (pv 1) aJ (GE (pv 3))) (Gy aZ (pv 2) ai (fun _ _=>rfl))) (GR G9 hr (by decide) rfl (GA (Gy aZ (pv 2) ai (fun _ _=>rfl)) ae))) (GD aY (pv 1) (GE (pv 3)) aJ))) (GB (GC (GY (GS (GV (Gw mB (pv 3) (Gz av (by rfl) T.len BP (GA (pv 1) ae)) (aD _)) (GW (Gw mB (Gz av (by rfl) T.len BP (GA (pv 5) ae)) ai (aD _))))) (GF (GA (pv 5) ae)) (GF ae))))) aO) (Gq (Gx (6) sc.nd rfl (Or.inl rfl) (Gy aZ (pv 2) ai (fun _ _=>rfl))) (Gq (Gx (7) sc.nd rfl (Or.inl rfl) (Gy aZ (pv 2) ai (fun _ _=>rfl))) (Gq (Gv (GS (GT (Gw (@d9 _ (K) rfl) (pv 6) (pv 0) rfl) (GT (Gw gc (pv 7) (Gz av (by rfl) T.len BP (GA (pv 6) ae)) (aD _)) (@gk _ _ _ _ (Gw gc (Gr aU (pv 3) (pv 7)) (Gz av (by rfl) T.len BP (GA (pv 1) ae)) (aD _)))))) (GB (GC (GF ae))) aO) (Gq (Gv (Gw jC (GD aY (pv 1) (GE (pv 3)) (GE (Gr aU (pv 3) (pv 7)))) (GD aY (pv 6) aJ (GE (pv 7))) (aD _)) (GB (GC (GF ae))) aO) (Gq (Gx (5) sc.nd rfl (Or.inl rfl) (Gr aH (Gr aH (GD aY (pv 1) aJ (GE (pv 3))) (GR G9 hr (by decide) rfl (GA (GD aY (pv 6) (GE (pv 7)) aJ) ae))) (GD aY (pv 1) (GE (Gr aU (pv 3) (pv 7))) aJ))) (GB (GC (GY (Gw mB (Gz av (by rfl) T.len BP (GA (pv 5) ae)) ai (aD _)) (GF (GA (pv 5) ae)) (GF ae)))))))))))),?_⟩
  cases st with
  | out n =>
   have hp:H p=some (.tup [.str "out",.int (n:Int)]):=hp
   refine ⟨_,rfl,p,_,_,_,rfl,rfl,SqT.of hp,at1 _ _ _,?_⟩
   refine ⟨_,rfl,p,_,_,_,rfl,rfl,SqT.of hp,at0 _ _,rfl,_,rfl,bY (BM rfl) ?_⟩
   refine ⟨_,rfl,_,_,rfl,rfl,_,rfl,_,rfl,by omega,_,_,rfl,rfl,_,rfl,?_⟩
   by_cases hn:n+1 < v.length
   ·refine bY (BM (by omega)) ?_
    have e1:=BC hn
    have e0:=BC (show n < v.length by omega)
    refine ⟨_,rfl,_,rfl,_,_,rfl,rfl,_,_,_,rfl,rfl,by omega,bB (k:=n+1) (by omega) e1,_,rfl,_,rfl,_,_,_,rfl,rfl,by omega,bB (k:=n) rfl e0,[v[n]],rfl,(by show 1≤5000;decide),fun H1 s1=>⟨rfl,?_⟩⟩
    rw [show V.str (⟨#[cp v[n+1]]⟩:Str)=tx [v[n+1]] from rfl,fF]
    have e:decide (tx [v[n+1]]=tx [inv v[n]])=jP v n:=by
     unfold jP
     rw [BM hn,Dc,e1,e0]
     exact Ec.mpr (nE.trans ⟨fun e=>by rw [e];rfl,fun e=>BW e⟩)
    rw [e]
    refine ⟨_,rfl,_,rfl,?_⟩
    have hc:(chg v (.out n)).length≤2000:=by unfold chg;rw [BB,BJ,B0];omega
    cases ho:jP v n with
    | true =>
     refine mW ?_
     refine ⟨_,rfl,_,rfl,_,rfl,_,rfl,by omega,_,rfl,_,rfl,_,_,rfl,rfl,_,rfl,_,rfl,by omega,_,_,rfl,rfl,?_,?_⟩
     ·have h1:=Cf (toS v) none (some (n:Int))
      have h2:=Cf (toS v) (some ((n:Int)+2)) none
      omega
     rw [az,az,bF v (by omega),bh v (by omega),bg,BQ,show ((n:Int)+2).toNat=n+2 by omega]
     exact ⟨(aw (n:=1) (by decide)),yes _ _ s1 (cL (s:=.out n) ho hc)⟩
    | false=>exact iG ⟨(aw (n:=0) (by decide)),no _ s1 (cK (s:=.out n) ho)⟩
   ·refine bO (BI (by omega)) ?_
    have ho:jP v n=false:=by unfold jP;rw [BI hn];rfl
    exact ⟨_,rfl,_,rfl,iG ⟨(aw (n:=0) (by decide)),no _ (aF.refl _) (cK (s:=.out n) ho)⟩⟩
  | inn n x =>
   have hp:H p=some (.tup [.str "in",.int (n:Int),tx [x]]):=hp
   have lx:=ah [x]
   refine ⟨_,rfl,p,_,_,_,rfl,rfl,SqT.of hp,at1 _ _ _,?_⟩
   refine ⟨_,rfl,p,_,_,_,rfl,rfl,SqT.of hp,at0 _ _,rfl,_,rfl,bO (by decide +kernel) ?_⟩
   refine ⟨_,rfl,p,_,_,_,rfl,rfl,SqT.of hp,at0 _ _,rfl,_,rfl,bY (BM rfl) ?_⟩
   have h1:=Cf (toS v) none (some (n:Int))
   have h2:=Cf (toS v) (some (n:Int)) none
   refine ⟨_,rfl,_,rfl,_,rfl,_,rfl,by omega,_,rfl,p,_,_,_,rfl,rfl,SqT.of hp,at2 _ _ _ _,_,_,rfl,rfl,(by rw [lx];simp only [B6,CK];omega),?_⟩
   rw [az,bF v (by omega),bg,BQ]
   refine ⟨_,rfl,p,_,_,_,rfl,rfl,SqT.of hp,at2 _ _ _ _,[x],rfl,(by show 1≤5000;decide),fun H1 s1=>?_⟩
   have l1:=ah (v.take n++[x])
   have l2:=ah (bk [x])
   have l3:=ah (v.take n++[x]++bk [x])
   simp only [BB,BJ,B6,CK,bS] at l1 l2 l3
   refine ⟨_,_,rfl,rfl,by omega,?_⟩
   rw [bg]
   refine ⟨_,rfl,_,rfl,_,rfl,_,rfl,by omega,_,_,rfl,rfl,by omega,?_⟩
   rw [az,bh v (by omega),bg,BQ,fF]
   have ec:v.take n++[x]++[inv x]++v.drop n=chg v (.inn n x):=rfl
   rw [ec]
   have lc:=ah (chg v (.inn n x))
   have cb:(chg v (.inn n x)).length≤3000:=by
    unfold chg
    simp only [BB,BJ,B0,B6,CK]
    omega
   refine ⟨_,rfl,_,rfl,_,rfl,by omega,_,_,rfl,rfl,_,rfl,?_⟩
   by_cases hn:n≤v.length
   ·refine bY (BM (by omega)) ?_
    refine ⟨_,rfl,_,rfl,by omega,_,_,rfl,rfl,_,rfl,?_⟩
    have hf:stB R v (.inn n x)=true:=BM hn
    by_cases hc:(chg v (.inn n x)).length≤2000
    ·refine bY (BM (by omega)) ?_
     exact ⟨_,rfl,(aw (n:=1) (by decide)),yes _ _ s1 (cL hf hc)⟩
    ·refine bO (BI (by omega)) ?_
     exact ⟨(aw (n:=0) (by decide)),no _ s1 (dQ (by omega))⟩
   ·refine bO (BI (by omega)) ?_
    exact ⟨(aw (n:=0) (by decide)),no _ s1 (cK (BI hn))⟩
  | rng n u m =>
   have hp:H p=some (.tup [.str "ring",.int (n:Int),tx u,.int (m:Int)]):=hp
   have lx:=ah u
   have hu:=hs.2.1
   refine ⟨_,rfl,p,_,_,_,rfl,rfl,SqT.of hp,at1 _ _ _,?_⟩
   refine ⟨_,rfl,p,_,_,_,rfl,rfl,SqT.of hp,at0 _ _,rfl,_,rfl,bO (by decide +kernel) ?_⟩
   refine ⟨_,rfl,p,_,_,_,rfl,rfl,SqT.of hp,at0 _ _,rfl,_,rfl,bO (by decide +kernel) ?_⟩
   refine ⟨_,rfl,p,_,_,_,rfl,rfl,SqT.of hp,at2 _ _ _ _,?_⟩
   refine ⟨_,rfl,p,_,_,_,rfl,rfl,SqT.of hp,at3 _ _ _ _ _,?_⟩
   have no:=fun e=>no H (aF.refl _) e
   have fb:stB R v (.rng n u m)=(fL v n u m && decide (u∈trn R)):=rfl
   refine ⟨_,rfl,_,rfl,l,_,rfl,.inl (SqL.of hl),rfl,h_ _,_,rfl,?_⟩
   rw [qZ]
   by_cases hu1:u∈W
   ·refine bO (by simp [hu1]) ?_
    have hu2:decide (u∈trn R)=true:=BM ((hm u).mp hu1)
    rw [hu2,Bool.and_true] at fb
    unfold fL at fb
    refine ⟨_,rfl,_,rfl,_,rfl,by omega,_,_,rfl,rfl,_,rfl,?_⟩
    by_cases c1:m≤u.length
    ·refine bO (BI (by omega)) ?_
     rw [BM c1,Dc] at fb
     refine ⟨_,rfl,_,rfl,_,_,rfl,rfl,_,rfl,_,rfl,by omega,_,_,rfl,rfl,_,rfl,?_⟩
     by_cases c2:n+m≤v.length
     ·refine bO (BI (by omega)) ?_
      rw [BM c2,Dc] at fb
      refine ⟨_,rfl,_,rfl,_,rfl,_,rfl,_,rfl,_,_,rfl,rfl,_,rfl,_,rfl,by omega,_,rfl,_,rfl,_,rfl,_,rfl,by omega,rfl,_,rfl,?_⟩
      rw [az,az,oI,bF u (by omega),BQ]
      by_cases c3:(v.drop n).take m=u.take m
      ·rw [BM c3] at fb
       refine bO (by rw [c3];simp) ?_
       have h1:=Cf (toS v) none (some (n:Int))
       have h2:=Cf (toS v) (some ((n:Int)+(m:Int))) none
       refine ⟨_,rfl,_,rfl,_,rfl,_,rfl,by omega,_,rfl,_,rfl,_,rfl,_,rfl,by omega,?_⟩
       rw [az,az,bF v (by omega),bh u (by omega),BQ,BQ]
       refine ⟨u.drop m,rfl,(by rw [B0];omega),fun H1 s1=>?_⟩
       have l1:=ah (v.take n)
       have l2:=ah (bk (u.drop m))
       have l3:=ah (v.take n++bk (u.drop m))
       simp only [BB,BJ,B0,bS] at l1 l2 l3
       refine ⟨_,_,rfl,rfl,by omega,?_⟩
       rw [bg]
       refine ⟨_,rfl,_,rfl,_,rfl,_,_,rfl,rfl,_,rfl,_,rfl,by omega,_,_,rfl,rfl,by omega,?_⟩
       rw [az,bh v (by omega),bg,show ((n:Int)+(m:Int)).toNat=n+m by omega]
       have ec:v.take n++bk (u.drop m)++v.drop (n+m)=chg v (.rng n u m):=rfl
       rw [ec]
       have lc:=ah (chg v (.rng n u m))
       have cb:=jQ hs fb
       refine ⟨_,rfl,_,rfl,by omega,_,_,rfl,rfl,_,rfl,?_⟩
       by_cases hc:(chg v (.rng n u m)).length≤2000
       ·refine bY (BM (by omega)) ?_
        exact ⟨_,rfl,(aw (n:=1) (by decide)),yes _ _ s1 (cL fb hc)⟩
       ·refine bO (BI (by omega)) ?_
        exact ⟨(aw (n:=0) (by decide)),fun q hq=>k q _ (s1.free hq) (by rw [dQ (by omega)];exact af) (s1.then hq)⟩
      ·rw [BI c3] at fb
       refine bY ?_ ⟨(aw (n:=0) (by decide)),no (cK fb)⟩
       rw [BI fun e=>c3 (cH (V.str.inj e))]
       rfl
     ·rw [BI c2,C8] at fb
      exact bY (BM (by omega)) ⟨(aw (n:=0) (by decide)),no (cK fb)⟩
    ·rw [BI c1,C8,C8] at fb
     exact bY (BM (by omega)) ⟨(aw (n:=0) (by decide)),no (cK fb)⟩
   ·refine bY (by simp [hu1]) ?_
    rw [BI fun z=>hu1 ((hm u).mpr z),EE] at fb
    exact ⟨(aw (n:=0) (by decide)),no (cK fb)⟩
abbrev pH:Stmt:=top 53
theorem v8:aN ["_law_feed_here","_law_known","_law_word","_law_place","_law_way","_law_outs","_law_fits","_law_some_here","_law_turn","_law_many"] ["_law_feed_here","_law_known","_law_word"] (ao pH):=⟨rfl,rfl,rfl,by decide +kernel,rfl,by decide +kernel,by decide +kernel⟩
theorem tH {q:Int}(h0:0≤q)(h1:q < 12):∃ x:L,atI ("abcdefABCDEF":Str).cps.toList q=some (cp x):=by
 have hk:q.toNat < 12:=by omega
 have e:("abcdefABCDEF":Str)=toS (sg 6):=by decide +kernel
 rw [e]
 have d:∀ j:Fin 12,(sg 6)[j.val]? = some j:=by decide
 exact ⟨_,bB (k:=q.toNat) (by omega) (d ⟨q.toNat,hk⟩)⟩
theorem tI {W:List (List L)}{q:Int}(h0:0≤q)(h1:q < ((W.map tx).length:Int)):∃ u,u∈W∧atI (W.map tx) q=some (tx u):=by
 obtain ⟨n,rfl⟩:=B9 h0
 have hn:n < W.length:=by rw [BK] at h1;omega
 exact ⟨W[n],CA hn,bL (by rw [B7,BC hn];rfl)⟩
theorem yO {ks:List Nat}{q:Int}(h0:0≤q)(h1:q < ((ks.map fun (n:Nat)=>V.int (n:Int)).length:Int)):∃ n,n∈ks∧atI (ks.map fun (n:Nat)=>V.int (n:Int)) q=some (.int (n:Int)):=by
 obtain ⟨n,rfl⟩:=B9 h0
 have hn:n < ks.length:=by rw [BK] at h1;omega
 exact ⟨ks[n],CA hn,bL (by rw [B7,BC hn];rfl)⟩
theorem yP (D:Df K mg "_law_next" pH)(T:Bt K w mg aB)(G7:Fnc P w K mg base "_law_draw" ["_law_feed_here","_law_many"] 1 cC)(G9:Fnc P w K mg base "_law_back" ["_law_word"] 1 i8)(Hy:Fnc P w K mg base "_law_share" ["_law_one","_law_other_here"] 1 fQ):Fnc P w K mg base "_law_next" ["_law_feed_here","_law_known","_law_word"] 2 j0:=by
 have sc:=v8
 refine D.ok sc (fun _ _ _ _ _ _ us hl=>by obtain ⟨_,_,_,rfl⟩:=jy hl;rfl) (fun vs H Q E h=>?_) (fun f Hb A outer s H vs Q E hr h=>?_)
 ·obtain ⟨d,l,W,v,rfl,_⟩:=h
  rfl
 ·obtain ⟨d,l,W,v,rfl,F0,hl,hW,hWl,hv,k⟩:=h
  have Hr:=a9
  have lv:=ah v
  refine ⟨_,(@ag _ _ _ _ _ (@aC _ _ (3) _ _ _ _ sc.nd rfl (Or.inr rfl) (@aG _ _ _ _ _ _ _ _ _ _ _ G7 hr (by decide) rfl (@aa _ _ _ _ _ (pv 0) (@aa _ _ _ _ _ (@ax _ _ _ _ _ _ _ _ aU (@ak _ _ _ _ _ _ _ _ _ av (by rfl) T.len BP (@aa _ _ _ _ _ (pv 2) ae (by rfl)) (by decide) (by decide) (by rfl) (by rfl)) ai) ae (by rfl)) (by rfl)) (by decide) (by rfl) (by rfl)) (by rfl) (by first | exact .inl rfl | exact .inr rfl | assumption)) (@ag _ _ _ _ _ (@aC _ _ (4) _ _ _ _ sc.nd rfl (Or.inl rfl) (@aG _ _ _ _ _ _ _ _ _ _ _ G7 hr (by decide) rfl (@aa _ _ _ _ _ (pv 0) (@aa _ _ _ _ _ ai ae (by rfl)) (by rfl)) (by decide) (by rfl) (by rfl)) (by rfl) (by first | exact .inl rfl | exact .inr rfl | assumption)) (@ag _ _ _ _ _ (@bf _ _ _ _ _ _ _ _ (@aq _ _ _ _ _ _ _ _ bj (pv 4) ai (aD _)) (@ag _ _ _ _ _ (@d_ _ (5) _ _ _ _ _ _ _ _ _ (["_law_k","_law_word"]) (["_law_k"]) ([2]) _ _ _ _ sc.nd rfl (Or.inl rfl) (@cP _ _ _ _ _ _ rfl (by kernel_rfl)) rfl (@bq _ _ _ _ _ _ rfl T.range (@aa _ _ _ _ _ (@ax _ _ _ _ _ _ _ _ iK (@ak _ _ _ _ _ _ _ _ _ av (by rfl) T.len BP (@aa _ _ _ _ _ (pv 2) ae (by rfl)) (by decide) (by decide) (by rfl) (by rfl)) ai) ae (by rfl)) (by rfl)) (fun _ _ _ _=>@aX _ _ (0) _ (show (["_law_k","_law_word"]:List Str).Nodup from by decide +kernel) rfl (Or.inl rfl) (by first | exact .inl rfl | exact .inr rfl | assumption)) (fun _ _ _ _=>(@eU _ _ _ (by exact (@aq _ _ _ _ _ _ _ _ bj (@aV _ _ _ _ _ _ _ bR (pv 1) (@ax _ _ _ _ _ _ _ _ aU (pv 0) ai) (fun _ _=>rfl)) (@aG _ _ _ _ _ _ _ _ _ _ _ G9 hr (by decide) rfl (@aa _ _ _ _ _ (@aV _ _ _ _ _ _ _ bR (pv 1) (pv 0) (fun _ _=>rfl)) ae (by rfl)) (by decide) (by rfl) (by rfl)) (aD _))))) (fun _ _ _ _=>by (exact (pv 0))) (by intro _ ;rfl) (by rfl) (by first | exact .inl rfl | exact .inr rfl | assumption)) (@ag _ _ _ _ _ (@cU _ _ _ _ (@gM _ _ _ _ _ _ _ _ _ _ _ _ Dd Cz C7 cz (pv 5) (@aa _ _ _ _ _ (pv 3) ae (by rfl)) (by rfl) (by rfl) (by rfl) (by rfl) (by rfl)) (by rfl)) (@aj _ _ _ (@aK _ _ _ _ (@a8 _ _ _ _ _ (@aa _ _ _ _ _ aI (@aa _ _ _ _ _ (@aV _ _ _ _ _ _ _ bI (pv 5) (@aG _ _ _ _ _ _ _ _ _ _ _ G7 hr (by decide) rfl (@aa _ _ _ _ _ (pv 0) (@aa _ _ _ _ _ (@ak _ _ _ _ _ _ _ _ _ aW (by rfl) T.len BP (@aa _ _ _ _ _ (pv 5) ae (by rfl)) (by decide) (by decide) (by rfl) (by rfl)) ae (by rfl)) (by rfl)) (by decide) (by rfl) (by rfl)) (fun _ _=>rfl)) ae (by rfl)) (by rfl))))))) aO) (@ag _ _ _ _ _ (@bf _ _ _ _ _ _ _ _ (@PW.pt _ _ _ (@iI _ _ _ _ _ _ _ (@aq _ _ _ _ _ _ _ _ bj (pv 4) ai (aD _)) (@gk _ _ _ _ (@aq _ _ _ _ _ _ _ _ (@ja _ (by exact hr.units)) (pv 1) (@br _ _ _ _ ae) (aD _))))) (@aj _ _ _ (@aK _ _ _ _ (@a8 _ _ _ _ _ (@aa _ _ _ _ _ aI (@aa _ _ _ _ _ (@ax _ _ _ _ _ _ _ _ aU (pv 3) (@ax _ _ _ _ _ _ _ _ dA (@aG _ _ _ _ _ _ _ _ _ _ _ G7 hr (by decide) rfl (@aa _ _ _ _ _ (pv 0) (@aa _ _ _ _ _ ai ae (by rfl)) (by rfl)) (by decide) (by rfl) (by rfl)) ai)) (@aa _ _ _ _ _ (@aV _ _ _ _ _ _ _ bR aI (@aG _ _ _ _ _ _ _ _ _ _ _ G7 hr (by decide) rfl (@aa _ _ _ _ _ (pv 0) (@aa _ _ _ _ _ ai ae (by rfl)) (by rfl)) (by decide) (by rfl) (by rfl)) (fun _ _=>rfl)) ae (by rfl)) (by rfl)) (by rfl))))) aO) (@ag _ _ _ _ _ (@d_ _ (6) _ _ _ _ _ _ _ _ _ (["_law_turn","_law_word","_law_place"]) (["_law_turn"]) ([2,3]) _ _ _ _ sc.nd rfl (Or.inl rfl) (@cP _ _ _ _ _ _ rfl (by kernel_rfl)) rfl (@dw _ _ _ _ (pv 1)) (fun _ _ _ _=>@aX _ _ (0) _ (show (["_law_turn","_law_word","_law_place"]:List Str).Nodup from by decide +kernel) rfl (Or.inl rfl) (by first | exact .inl rfl | exact .inr rfl | assumption)) (fun _ _ _ _=>(@eU _ _ _ (by exact (@aq _ _ _ _ _ _ _ _ bj (@au _ _ _ _ _ _ _ _ _ _ aY (pv 0) aJ (@aA _ _ _ ai)) (@au _ _ _ _ _ _ _ _ _ _ aY (pv 1) (@aA _ _ _ (pv 2)) (@aA _ _ _ (@ax _ _ _ _ _ _ _ _ aU (pv 2) ai))) (aD _))))) (fun _ _ _ _=>by (exact (pv 0))) (by intro _ ;rfl) (by rfl) (by first | exact .inl rfl | exact .inr rfl | assumption)) (@ag _ _ _ _ _ (@aC _ _ (7) _ _ _ _ sc.nd rfl (Or.inl rfl) (@bp _ _ _ _ _ _ _ _ (@PW.pt _ _ _ (@cS _ _ _ _ _ _ _ (@aq _ _ _ _ _ _ _ _ (@dP _ (by exact hr.units)) (pv 6) (@br _ _ _ _ ae) (aD _)) (@cw _ _ _ _ (@aq _ _ _ _ _ _ _ _ e9 (pv 4) ai (aD _))))) (pv 6) (pv 1)) (by rfl) (by first | exact .inl rfl | exact .inr rfl | assumption)) (@ag _ _ _ _ _ (@aC _ _ (8) _ _ _ _ sc.nd rfl (Or.inl rfl) (@aV _ _ _ _ _ _ _ bI (pv 7) (@aG _ _ _ _ _ _ _ _ _ _ _ G7 hr (by decide) rfl (@aa _ _ _ _ _ (pv 0) (@aa _ _ _ _ _ (@ak _ _ _ _ _ _ _ _ _ aW (by rfl) T.len BP (@aa _ _ _ _ _ (pv 7) ae (by rfl)) (by decide) (by decide) (by rfl) (by rfl)) ae (by rfl)) (by rfl)) (by decide) (by rfl) (by rfl)) (fun _ _=>rfl)) (by rfl) (by first | exact .inl rfl | exact .inr rfl | assumption)) (@ag _ _ _ _ _ (@aC _ _ (9) _ _ _ _ sc.nd rfl (Or.inl rfl) (@ak _ _ _ _ _ _ _ _ _ av (by rfl) T.len BP (@aa _ _ _ _ _ (@aG _ _ _ _ _ _ _ _ _ _ _ Hy hr (by decide) rfl (@aa _ _ _ _ _ (pv 8) (@aa _ _ _ _ _ (@au _ _ _ _ _ _ _ _ _ _ aY (pv 2) (@aA _ _ _ (pv 3)) aJ) ae (by rfl)) (by rfl)) (by decide) (by rfl) (by rfl)) ae (by rfl)) (by decide) (by decide) (by rfl) (by rfl)) (by rfl) (by first | exact .inl rfl | exact .inr rfl | assumption)) (@ag _ _ _ _ _ (@bf _ _ _ _ _ _ _ _ (@aq _ _ _ _ _ _ _ _ bj (pv 4) ai (aD _)) (@aj _ _ _ (@aC _ _ (9) _ _ _ _ sc.nd rfl (Or.inl rfl) (@aG _ _ _ _ _ _ _ _ _ _ _ G7 hr (by decide) rfl (@aa _ _ _ _ _ (pv 0) (@aa _ _ _ _ _ (@ax _ _ _ _ _ _ _ _ aU (pv 9) ai) ae (by rfl)) (by rfl)) (by decide) (by rfl) (by rfl)) (by rfl) (by first | exact .inl rfl | exact .inr rfl | assumption))) aO) (@aj _ _ _ (@aK _ _ _ _ (@a8 _ _ _ _ _ (@aa _ _ _ _ _ aI (@aa _ _ _ _ _ (pv 3) (@aa _ _ _ _ _ (pv 8) (@aa _ _ _ _ _ (@ax _ _ _ _ _ _ _ _ aU (pv 9) (@cg _ _ _ _ _ _ _ _ _ iL (by rfl) T.int qv (@aa _ _ _ _ _ (@bD _ _ _ _ _ _ _ _ bj (@aG _ _ _ _ _ _ _ _ _ _ _ G7 hr (by decide) rfl (@aa _ _ _ _ _ (pv 0) (@aa _ _ _ _ _ ai ae (by rfl)) (by rfl)) (by decide) (by rfl) (by rfl)) ai (aD _)) ae (by rfl)) (by decide) (by decide) (by rfl) (by rfl))) ae (by rfl)) (by rfl)) (by rfl)) (by rfl)))))))))))))),?_⟩
  refine ⟨_,rfl,_,rfl,_,rfl,by omega,_,_,rfl,rfl,d,_,rfl,F0,by omega,by omega,fun pl H1 p0 p1 F1 Ik=>?_⟩
  obtain ⟨n,rfl⟩:=B9 p0
  have hn:n≤v.length:=by omega
  refine ⟨_,rfl,d,_,rfl,F1,by decide,by decide,fun way H2 w0 w1 F2 Hf=>?_⟩
  have nl:l≠d:=F0.nl hl
  have l2:=Hf _ _ nl (Ik _ _ nl hl)
  have sb:=Ik.trans Hf
  refine ⟨_,rfl,rfl,_,rfl,eI (fun e0=>?_) (fun _=>?_)⟩
  ·refine ⟨_,rfl,_,rfl,by omega,_,_,rfl,rfl,_,rfl,by omega,by omega,?_⟩
   rw [show (((toS v).length:Int) - 1).toNat=v.length - 1 by omega]
   refine cj (own:=["_law_k"]) (cap:=[2]) (J:=Itr 0 (v.length - 1)) (v.length - 1) (fun j ys σ H'=>∃ (b:Option V) (ks:List Nat),σ = [b,some (tx v)]∧ys=ks.map (fun (n:Nat)=>V.int (n:Int))∧ks.length≤j∧(∀ x∈ks,x≤v.length)∧aF H2 H') ⟨none,[],rfl,rfl,BG _,(fun x hx=>by cases hx),aF.refl _⟩ (fun j ys σ H' hj ⟨_,ks,_,e,e2,_⟩=>by rw [e,BK];exact e2) (by omega) (fun j ys σ H' hj _=>hj) (fun ys σ H' _=>BG _) ?_ ?_
   ·rintro j ys σ HX x HY N hj ⟨b,ks,rfl,rfl,hk,hkl,s3⟩ ⟨rfl,rfl⟩ hN
    have e1:=BC (show j+1 < v.length by omega)
    have e0:=BC (show j < v.length by omega)
    refine ⟨_,rfl,_,rfl,_,_,rfl,rfl,_,_,_,rfl,rfl,by omega,bB (k:=j+1) (by omega) e1,_,rfl,_,rfl,_,_,_,rfl,rfl,by omega,bB (k:=j) (by omega) e0,[v[j]],rfl,(by show 1≤5000;decide),fun H4 s4=>⟨rfl,_,rfl,eI (fun _=>?_) (fun _=>hN _ _ _ ⟨_,ks,rfl,rfl,by omega,hkl,s3.trans s4⟩)⟩⟩
    refine ⟨_,rfl,hN _ _ _ ⟨_,ks++[j],rfl,?_,by rw [BB];simp;omega,fun x hx=>?_,s3.trans s4⟩⟩
    ·rw [Cy,Cq,Eh,EH]
    ·rcases BR.mp hx with q | q
     ·exact hkl x q
     ·rw [BE] at q;omega
   ·rintro ys σ H3 m ⟨b,ks,rfl,rfl,hk,hkl,s3⟩ hm
    refine ⟨_,rfl,.inl ⟨rfl,_,SqL.of af⟩,_,rfl,m,_,_,rfl,rfl,af,(by rw [BK];omega),?_⟩
    rw [b_]
    have ek:ks.map (fun (n:Nat)=>V.int (n:Int))++[V.int (n:Int)]=(ks++[n]).map (fun (n:Nat)=>V.int (n:Int)):=by rw [Cy];rfl
    rw [ek]
    have hk':∀ x∈ks++[n],x≤v.length:=fun x hx=>by
     rcases BR.mp hx with q | q
     ·exact hkl x q
     ·rw [BE] at q;omega
    have hkl':(ks++[n]).length≤v.length+1:=by rw [BB];simp;omega
    have hkp:0 < (ks++[n]).length:=by rw [BB];simp
    generalize ks++[n]=ks' at hk' hkl' hkp
    have s5:aF H2 (upd H3 m (.lst (ks'.map fun (n:Nat)=>V.int (n:Int)))):=s3.then hm
    have f5:(upd H3 m (.lst (ks'.map fun (n:Nat)=>V.int (n:Int)))) m=some (.lst (ks'.map fun (n:Nat)=>V.int (n:Int))):=af
    generalize upd H3 m (.lst (ks'.map fun (n:Nat)=>V.int (n:Int)))=H5 at s5 f5 ⊢
    have F5:=F2.same s5
    have lk:(ks'.map fun (n:Nat)=>V.int (n:Int)).length=ks'.length:=BK ..
    refine ⟨_,rfl,_,rfl,_,rfl,m,_,rfl,.inl (SqL.of f5),d,_,rfl,F5,by omega,by omega,fun q H6 q0 q1 F6 Ij=>?_⟩
    have nm:m≠d:=F5.nl f5
    obtain ⟨i,hi,ei⟩:=yO q0 q1
    have:=hk' i hi
    refine ⟨m,_,_,_,rfl,rfl,SqL.of (Ij _ _ nm f5),ei,(aw (n:=2) (by decide)),fun t ht=>?_⟩
    exact k (.out i) t _ (show i≤5000 by omega) af (F6.new ht) (((sb.trans s5.b).trans Ij).trans (aF.new ht).b)
  refine ⟨_,rfl,rfl,_,rfl,eI (fun e1=>?_) (fun _=>?_)⟩
  ·refine ⟨_,rfl,_,rfl,d,_,rfl,F2,by decide,by decide,fun q H7 q0 q1 F7 HS=>?_⟩
   refine ⟨_,_,rfl,rfl,⟨by decide,by decide⟩,_,_,rfl,rfl,?_⟩
   refine ⟨_,rfl,d,_,rfl,F7,by decide,by decide,fun q2 H8 q20 q21 F8 Ii=>?_⟩
   obtain ⟨x,hx⟩:=tH q20 q21
   refine ⟨_,_,_,rfl,rfl,(aw (n:=12) (by decide)),hx,(aw (n:=3) (by decide)),fun t ht=>?_⟩
   have eq:q / 11=((q / 11).toNat:Int):=by omega
   refine k (.inn (n+(q / 11).toNat) x) t _ (show _≤5000 by omega) ?_ (F8.new ht) (((sb.trans HS).trans Ii).trans (aF.new ht).b)
   rw [af]
   show some (HO.tup [V.str "in",.int ((n:Int)+q / 11),.str ⟨#[cp x]⟩])=some (HO.tup [V.str "in",.int ((n+(q / 11).toNat:Nat):Int),tx [x]])
   rw [show ((n+(q / 11).toNat:Nat):Int)=(n:Int)+q / 11 by omega]
   rfl
  refine ⟨_,rfl,(aw (n:=0) (by decide)),fun z hz=>?_⟩
  have s3:aF H2 (upd H2 z (.lst [])):=aF.new hz
  refine ⟨l,z,_,rfl,rfl,s3 _ _ l2,af,?_⟩
  generalize upd H2 z (.lst [])=H3 at s3 ⊢
  have F3:=F2.same s3
  have l3:=s3 _ _ l2
  have Ho:=sb.trans s3.b
  refine ⟨_,rfl,eI (fun e1=>?_) (fun Hj=>?_)⟩
  ·refine ⟨_,rfl,_,rfl,d,_,rfl,F3,by decide,by decide,fun q H7 q0 q1 F7 HS=>?_⟩
   refine ⟨_,_,rfl,rfl,⟨by decide,by decide⟩,_,_,rfl,rfl,?_⟩
   refine ⟨_,rfl,d,_,rfl,F7,by decide,by decide,fun q2 H8 q20 q21 F8 Ii=>?_⟩
   obtain ⟨x,hx⟩:=tH q20 q21
   refine ⟨_,_,_,rfl,rfl,(aw (n:=12) (by decide)),hx,(aw (n:=3) (by decide)),fun t ht=>?_⟩
   have eq:q / 11=((q / 11).toNat:Int):=by omega
   refine k (.inn (n+(q / 11).toNat) x) t _ (show _≤5000 by omega) ?_ (F8.new ht) (((Ho.trans HS).trans Ii).trans (aF.new ht).b)
   rw [af]
   show some (HO.tup [V.str "in",.int ((n:Int)+q / 11),.str ⟨#[cp x]⟩])=some (HO.tup [V.str "in",.int ((n+(q / 11).toNat:Nat):Int),tx [x]])
   rw [show ((n+(q / 11).toNat:Nat):Int)=(n:Int)+q / 11 by omega]
   rfl
  have Hj:W≠[]:=fun e=>Hj (by rw [e];rfl)
  refine ⟨_,rfl,l,rfl,⟨_,SqL.of l3⟩,?_⟩
  refine jb (xs:=W.map tx) (own:=["_law_turn"]) (cap:=[2,3]) (fun j ys σ H'=>∃ (b:Option V) (U:List (List L)),σ = [b,some (tx v),some (.int (n:Int))]∧ys=U.map tx∧U.length≤j∧(∀ u∈U,u∈W)∧H'=H3) ⟨none,[],rfl,rfl,BG _,(fun u hu=>by cases hu),rfl⟩ (fun j ys σ H' hj ⟨_,U,_,e,e2,_⟩=>by rw [e,BK];exact e2) (by rw [BK];omega) (fun j ys σ H' ⟨_,_,_,_,_,_,e⟩=>by rw [e];exact SqL.of l3) ?_ ?_
  ·rintro j ys σ HX x N hx ⟨b,U,rfl,rfl,hU,hUW,rfl⟩ hN
   obtain ⟨u,hu,rfl⟩:∃ u,W[j]? = some u∧x=tx u:=by
    rw [B7] at hx
    cases e:W[j]? with
    | none=>rw [e] at hx;cases hx
    | some u=>rw [e] at hx;exact ⟨u,rfl,(BW hx).symm⟩
   have hm:=B8 hu
   have ul:=hWl u hm
   have lu:=ah u
   refine ⟨_,rfl,_,rfl,_,rfl,by omega,_,rfl,_,rfl,_,rfl,_,rfl,_,_,rfl,rfl,_,rfl,_,rfl,by omega,rfl,_,rfl,eI (fun _=>?_) (fun _=>hN _ _ _ ⟨_,U,rfl,rfl,by omega,hUW,rfl⟩)⟩
   refine ⟨_,rfl,hN _ _ _ ⟨_,U++[u],rfl,by rw [Cy];rfl,by rw [BB];simp;omega,fun x hx=>?_,rfl⟩⟩
   rcases BR.mp hx with q | q
   ·exact hUW x q
   ·rw [BE] at q;subst q;exact hm
  ·rintro ys σ H4 m ⟨b,U,rfl,rfl,hU,hUW,rfl⟩ hm
   rw [BK] at hU
   have s5:aF H4 (upd H4 m (.lst (U.map tx))):=aF.new hm
   have f5:(upd H4 m (.lst (U.map tx))) m=some (.lst (U.map tx)):=af
   generalize upd H4 m (.lst (U.map tx))=H5 at s5 f5 ⊢
   have F5:=F3.same s5
   have l5:=s5 _ _ l3
   have Hu:=Ho.trans s5.b
   refine ⟨_,rfl,(aw (n:=0) (by decide)),fun z2 hz2=>?_⟩
   have s6:aF H5 (upd H5 z2 (.lst [])):=aF.new hz2
   refine ⟨m,z2,_,rfl,rfl,s6 _ _ f5,af,?_⟩
   generalize upd H5 z2 (.lst [])=H6 at s6 ⊢
   have F6:=F5.same s6
   have l6:=s6 _ _ l5
   have f6:=s6 _ _ f5
   have Ij:=Hu.trans s6.b
   refine Aj (fun x H'=>∃ (y:Addr) (U':List (List L)),x = .ref y∧U'≠[]∧U'.length≤4000∧(∀ u∈U',u∈W)∧H'=H6∧H6 y=some (.lst (U'.map tx))) ?_ (fun main hue=>?_) (fun main=>⟨_,rfl,main _ _ ⟨l,W,rfl,Hj,hW,fun u h=>h,rfl,l6⟩⟩)
   rotate_left
   ·have hue:U≠[]:=fun e=>by rw [e] at hue;exact absurd hue (by decide)
    exact ⟨_,rfl,_,_,rfl,rfl,_,rfl,eI (fun _=>⟨_,rfl,main _ _ ⟨m,U,rfl,hue,Cn hU hW,hUW,rfl,f6⟩⟩) (fun _=>⟨_,rfl,main _ _ ⟨l,W,rfl,Hj,hW,fun u h=>h,rfl,l6⟩⟩)⟩
   rintro x H' ⟨y,U',rfl,hU',hUl,hUW',rfl,fy⟩
   refine ⟨_,rfl,_,rfl,_,rfl,y,_,rfl,.inl (SqL.of fy),d,_,rfl,F6,(by rw [BK];have:=CW.mpr hU';omega),(by rw [BK];have:=hUl;omega),fun qt HB qt0 qt1 FB sbB=>?_⟩
   obtain ⟨u,hu,eu⟩:=tI qt0 qt1
   refine ⟨y,_,_,_,rfl,rfl,SqL.of (sbB _ _ (F6.nl fy) fy),eu,?_⟩
   have ul:=hWl u (hUW' u hu)
   refine ⟨_,rfl,_,rfl,_,rfl,_,rfl,_,rfl,by omega,?_⟩
   rw [az,bh v (by omega),BQ]
   refine ⟨u,v.drop n,rfl,by omega,by rw [B0];omega,fun HC sC=>?_⟩
   have hc:(lcp u (v.drop n)).length≤u.length:=(dE _ _).1.length_le
   have lc:=ah (lcp u (v.drop n))
   have FC:=FB.same sC
   have sbC:=(Ij.trans sbB).trans sC.b
   refine ⟨_,rfl,by omega,?_⟩
   generalize toS (lcp u (v.drop n))=zz at lc
   refine ⟨_,rfl,rfl,_,rfl,eI (fun _=>?_) (fun _=>?_)⟩
   ·refine ⟨_,rfl,_,rfl,_,_,rfl,rfl,d,_,rfl,FC,by omega,by omega,fun qm HD qm0 qm1 FD sbD=>?_⟩
    obtain ⟨m0,rfl⟩:=B9 qm0
    refine ⟨_,rfl,_,rfl,_,rfl,_,rfl,d,_,rfl,FD,by decide,by decide,fun qq HE qq0 qq1 FE sbE=>?_⟩
    refine ⟨rfl,.inr ⟨_,rfl,_,_,rfl,rfl,(aw (n:=4) (by decide)),fun t ht=>?_⟩⟩
    have hone:∃ o:Nat,o≤1∧(if decide (V.int qq=V.int 0)=true then (1:Int) else 0)=(o:Int):=by
     by_cases z:qq=0
     ·exact ⟨1,BG _,if_pos (by rw [z];simp)⟩
     ·exact ⟨0,by decide,if_neg (by simp [z])⟩
    obtain ⟨o,ho,eo⟩:=hone
    rw [eo]
    refine k (.rng n u (m0+o)) t _ ⟨by omega,ul,by omega⟩ ?_ (FE.new ht) (((sbC.trans sbD).trans sbE).trans (aF.new ht).b)
    rw [af]
    show some (HO.tup [V.str "ring",.int (n:Int),tx u,.int (((m0:Nat):Int)+(o:Int))])=some (HO.tup [V.str "ring",.int (n:Int),tx u,.int ((m0+o:Nat):Int)])
    rw [show ((m0+o:Nat):Int)=((m0:Nat):Int)+(o:Int) by omega]
   ·refine ⟨_,rfl,_,rfl,_,rfl,_,rfl,d,_,rfl,FC,by decide,by decide,fun qq HE qq0 qq1 FE sbE=>?_⟩
    refine ⟨rfl,.inr ⟨_,rfl,_,_,rfl,rfl,(aw (n:=4) (by decide)),fun t ht=>?_⟩⟩
    have hone:∃ o:Nat,o≤1∧(if decide (V.int qq=V.int 0)=true then (1:Int) else 0)=(o:Int):=by
     by_cases z:qq=0
     ·exact ⟨1,BG _,if_pos (by rw [z];simp)⟩
     ·exact ⟨0,by decide,if_neg (by simp [z])⟩
    obtain ⟨o,ho,eo⟩:=hone
    rw [eo]
    refine k (.rng n u (zz.length+o)) t _ ⟨by omega,ul,by omega⟩ ?_ (FE.new ht) ((sbC.trans sbE).trans (aF.new ht).b)
    rw [af]
    show some (HO.tup [V.str "ring",.int (n:Int),tx u,.int (((zz.length:Nat):Int)+(o:Int))])=some (HO.tup [V.str "ring",.int (n:Int),tx u,.int ((zz.length+o:Nat):Int)])
    rw [show ((zz.length+o:Nat):Int)=((zz.length:Nat):Int)+(o:Int) by omega]
abbrev fX:Stmt:=top 54
theorem ma:aN ["_law_known","_law_word","_law_steps_here","_law_place","_law_found"] ["_law_known","_law_word","_law_steps_here"] (ao fX):=⟨rfl,rfl,rfl,by decide +kernel,rfl,by decide +kernel,by decide +kernel⟩
theorem pI (D:Df K mg "_law_walked" fX)(T:Bt K w mg aB)(Hn:Fnc P w K mg base "_law_done" ["_law_known","_law_word","_law_step"] 2 e7):Fnc P w K mg base "_law_walked" ["_law_known","_law_word","_law_steps_here"] 3 eD:=by
 have sc:=ma
 refine D.ok sc (fun _ _ _ _ _ _ us hl=>by obtain ⟨_,_,_,rfl⟩:=jy hl;rfl) (fun vs H Q E h=>?_) (fun f Hb A outer s H vs Q E hr h=>?_)
 ·obtain ⟨l,p,R,Vs,v,xs,ss,rfl,_⟩:=h
  rfl
 ·obtain ⟨l,p,R,Vs,w0,xs,ss,rfl,hl,hm,hw,hp,Io,hn,k⟩:=h
  have Hr:=a9
  have hlen:=Io.length
  refine ⟨_,(Gq (GU Ce rfl (GZ rfl T.range (GA (Gz aW (by rfl) T.len BP (GA (pv 2) ae)) ae)) (GK (3) sc.nd rfl (Or.inl rfl)) (Gq (Gx (4) sc.nd rfl (Or.inl rfl) (GR Hn hr (by decide) rfl (GA (pv 0) (GA (pv 1) (GA (Gy aZ (pv 2) (pv 3) (fun _ _=>rfl)) ae))))) (Gq (Gv (Gw (@ja _ (by exact hr.units)) (pv 4) (GF ae) (aD _)) (GB (GC (pv 3))) aO) (GB (Gx (1) sc.nd rfl (Or.inl rfl) (Gy bI (pv 4) ai (fun _ _=>rfl))))))) (GB (GC (pv 1)))),?_⟩
  refine ⟨_,rfl,p,_,rfl,.inr (SqT.of hp),_,rfl,by omega,by omega,?_⟩
  rw [BQ]
  refine bQ (lo:=0) (n:=xs.length) (fun i σ H'=>∃ (b3 b4:Option V) (v:List L),σ = [some (.ref l),some (tx v),some (.ref p),b3,b4]∧v.length≤2000∧bz R w0 ss 0=bz R v (ss.drop i) i∧aF H H') ⟨_,_,w0,rfl,hw,rfl,aF.refl _⟩ ?_ ?_
  ·rintro i σ H1 hi ⟨b3,b4,v,rfl,hv,he,s1⟩
   rw [EH]
   have hx:=BC hi
   obtain ⟨b,st,hb0,Hs,hb,hsk⟩:=Io.get hx
   have hd:ss.drop i=st::ss.drop (i+1):=by
    obtain ⟨l1,e1⟩:=BF.mp Hs
    rw [Ct l1,e1]
   have wc:bz R v (st::ss.drop (i+1)) i=(match f_ R v st with | some u=>bz R u (ss.drop (i+1)) (i+1) | none=>.inr i):=rfl
   rw [hd,wc] at he
   refine ⟨_,rfl,_,rfl,_,rfl,_,rfl,p,_,_,_,rfl,rfl,SqT.of (s1 _ _ hp),bL hx,l,b,R,Vs,v,st,by rw [hb0];rfl,s1 _ _ hl,hm,hv,s1 _ _ hb,hsk,fun q H2 _ q2 s2=>?_⟩
   refine ⟨_,rfl,(aw (n:=0) (by decide)),fun z hz=>?_⟩
   have s3:aF H2 (upd H2 z (.lst [])):=aF.new hz
   refine ⟨q,z,_,rfl,rfl,s3 _ _ q2,af,?_⟩
   generalize upd H2 z (.lst [])=H3 at s3 ⊢
   have q3:=s3 _ _ q2
   have s4:=(s1.trans s2).trans s3
   cases e:f_ R v st with
   | none =>
    rw [e] at he
    rw [he] at k
    exact ⟨_,rfl,bY rfl ⟨_,rfl,k _ s4⟩⟩
   | some u =>
    rw [e] at he q3
    refine ⟨_,rfl,bO rfl ⟨_,rfl,q,_,_,_,rfl,rfl,SqL.of q3,at0 _ _,_,_,u,rfl,g8 e,he,s4⟩⟩
  ·rintro σ H1 ⟨b3,b4,v,rfl,hv,he,s1⟩
   rw [hlen,DP] at he
   have wn:bz R v [] ss.length = .inl v:=rfl
   rw [he,wn] at k
   exact ⟨_,rfl,k _ s1⟩
abbrev fY:Stmt:=top 55
theorem me:aN ["_law_feed_here","_law_known","_law_word","_law_pairs","_law_found","_law_turn","_law_k","_law_many"] ["_law_feed_here","_law_known","_law_word"] (ao fY):=⟨rfl,rfl,rfl,by decide +kernel,rfl,by decide +kernel,by decide +kernel⟩
theorem Av {H:Hp}{xs:List V}{ss:List Stp}(sr:bP H xs ss){q:Int}(h0:0≤q)(h1:q < (xs.length:Int)):∃ b s,atI xs q=some (.ref b)∧s∈ss∧H b=some (.tup s.vs)∧Sk s:=by
 obtain ⟨n,rfl⟩:=B9 h0
 have hn:n < xs.length:=by omega
 obtain ⟨b,s,e,hs,hb,hk⟩:=sr.get (BC hn)
 exact ⟨b,s,bL (by rw [BC hn,e]),B8 hs,hb,hk⟩
theorem pJ (D:Df K mg "_law_shorter" fY)(T:Bt K w mg aB)(G7:Fnc P w K mg base "_law_draw" ["_law_feed_here","_law_many"] 1 cC)(G9:Fnc P w K mg base "_law_back" ["_law_word"] 1 i8)(Hy:Fnc P w K mg base "_law_share" ["_law_one","_law_other_here"] 1 fQ):Fnc P w K mg base "_law_shorter" ["_law_feed_here","_law_known","_law_word"] 2 fU:=by
 have sc:=me
 refine D.ok sc (fun _ _ _ _ _ _ us hl=>by obtain ⟨_,_,_,rfl⟩:=jy hl;rfl) (fun vs H Q E h=>?_) (fun f Hb A outer s H vs Q E hr h=>?_)
 ·obtain ⟨d,l,R,Vs,v,rfl,_⟩:=h
  rfl
 ·obtain ⟨d,l,R,Vs,v,rfl,F0,hl,tn,hR,hv,k⟩:=h
  have Hr:=a9
  have lv:=ah v
  have tl:=tn.len hR
  refine ⟨_,(Gq (@d_ _ (3) _ _ _ _ _ _ _ _ _ (["_law_k","_law_word"]) (["_law_k"]) ([2]) _ _ _ _ sc.nd rfl (Or.inl rfl) (GJ rfl (by kernel_rfl)) rfl (GZ rfl T.range (GA (Gr iK (Gz av (by rfl) T.len BP (GA (pv 2) ae)) ai) ae)) (fun _ _ _ _=>GK (0) (show (["_law_k","_law_word"]:List Str).Nodup from by decide +kernel) rfl (Or.inl rfl)) (fun _ _ _ _=>(@eU _ _ _ (by exact (Gw bj (Gy bR (pv 1) (Gr aU (pv 0) ai) (fun _ _=>rfl)) (GR G9 hr (by decide) rfl (GA (Gy bR (pv 1) (pv 0) (fun _ _=>rfl)) ae)) (aD _))))) (fun _ _ _ _=>by (exact (pv 0))) (by intro _ ;rfl) (by rfl) (by first | exact .inl rfl | exact .inr rfl | assumption)) (Gq (@d_ _ (4) _ _ _ _ _ _ _ _ _ (["_law_k"]) (["_law_k"]) ([]) _ _ _ _ sc.nd rfl (Or.inl rfl) (GJ rfl (by kernel_rfl)) rfl (@dw _ _ _ _ (pv 3)) (fun _ _ _ _=>GK (0) (show (["_law_k"]:List Str).Nodup from by decide +kernel) rfl (Or.inl rfl)) (fun _ _ _ _=>cu) (fun _ _ _ _=>by (exact (G4 (GA aI (GA (pv 0) ae))))) (by intro _ ;rfl) (by rfl) (by first | exact .inl rfl | exact .inr rfl | assumption)) (Gq (GU Ce rfl (@dw _ _ _ _ (pv 1)) (GK (5) sc.nd rfl (Or.inl rfl)) (GB (GU Ce rfl (GZ rfl T.range (GA (Gz av (by rfl) T.len BP (GA (pv 2) ae)) ae)) (GK (6) sc.nd rfl (Or.inl rfl)) (Gq (Gx (7) sc.nd rfl (Or.inl rfl) (GY (Gw bj (Gy bR (pv 2) (pv 6) (fun _ _=>rfl)) (Gy bR (pv 5) ai (fun _ _=>rfl)) (aD _)) (Gz av (by rfl) T.len BP (GA (GR Hy hr (by decide) rfl (GA (pv 5) (GA (GD aY (pv 2) (GE (pv 6)) aJ) ae))) ae)) ai)) (GB (Gv (Gw gc (Gr e8 ai (pv 7)) (Gz av (by rfl) T.len BP (GA (pv 5) ae)) (aD _)) (GB (@cU _ _ _ _ (GH Dd Cz C7 cz (pv 4) (GA (G4 (GA aI (GA (pv 6) (GA (pv 5) (GA (pv 7) ae))))) ae)) (by rfl))) aO)))))) (GB (GC (GY (Gw (@dP _ (by exact hr.units)) (pv 4) (GF ae) (aD _)) (GF (GA (Gy bI (pv 4) (GR G7 hr (by decide) rfl (GA (pv 0) (GA (Gz aW (by rfl) T.len BP (GA (pv 4) ae)) ae))) (fun _ _=>rfl)) ae)) (GF ae))))))),?_⟩
  refine ⟨_,rfl,_,rfl,by omega,_,_,rfl,rfl,_,rfl,by omega,by omega,?_⟩
  rw [show (((toS v).length:Int) - 1).toNat=v.length - 1 by omega]
  refine cj (own:=["_law_k"]) (cap:=[2]) (J:=Itr 0 (v.length - 1)) (v.length - 1) (fun j ys σ H'=>∃ (b:Option V) (ks:List Nat),σ = [b,some (tx v)]∧ys=ks.map (fun (n:Nat)=>V.int (n:Int))∧ks.length≤j∧(∀ x∈ks,jP v x=true)∧aF H H') ⟨none,[],rfl,rfl,BG _,(fun x hx=>by cases hx),aF.refl _⟩ (fun j ys σ H' hj ⟨_,ks,_,e,e2,_⟩=>by rw [e,BK];exact e2) (by omega) (fun j ys σ H' hj _=>hj) (fun ys σ H' _=>BG _) ?_ ?_
  ·rintro j ys σ HX x HY N hj ⟨b,ks,rfl,rfl,hk,hkl,s3⟩ ⟨rfl,rfl⟩ hN
   have hn:j+1 < v.length:=by omega
   have e1:=BC hn
   have e0:=BC (show j < v.length by omega)
   refine ⟨_,rfl,_,rfl,_,_,rfl,rfl,_,_,_,rfl,rfl,by omega,bB (k:=j+1) (by omega) e1,_,rfl,_,rfl,_,_,_,rfl,rfl,by omega,bB (k:=j) (by omega) e0,[v[j]],rfl,(by show 1≤5000;decide),fun H4 s4=>⟨rfl,?_⟩⟩
   rw [show V.str (⟨#[cp v[j+1]]⟩:Str)=tx [v[j+1]] from rfl,fF]
   have e:decide (tx [v[j+1]]=tx [inv v[j]])=jP v j:=by
    unfold jP
    rw [BM hn,Dc,e1,e0]
    exact Ec.mpr (nE.trans ⟨fun e=>by rw [e];rfl,fun e=>BW e⟩)
   rw [e]
   refine ⟨_,rfl,eI (fun ho=>?_) (fun _=>hN _ _ _ ⟨_,ks,rfl,rfl,by omega,hkl,s3.trans s4⟩)⟩
   refine ⟨_,rfl,hN _ _ _ ⟨_,ks++[j],rfl,?_,by rw [BB];simp;omega,fun x hx=>?_,s3.trans s4⟩⟩
   ·rw [Cy,Cq,Eh,EH]
   ·rcases BR.mp hx with q | q
    ·exact hkl x q
    ·rw [BE] at q;rw [q];exact ho
  rintro ys σ H1 m ⟨b,ks,rfl,rfl,hk,hkl,s1⟩ hm
  have s2:aF H (upd H1 m (.lst (ks.map fun (n:Nat)=>V.int (n:Int)))):=s1.then hm
  have f2:(upd H1 m (.lst (ks.map fun (n:Nat)=>V.int (n:Int)))) m=some (.lst (ks.map fun (n:Nat)=>V.int (n:Int))):=af
  generalize upd H1 m (.lst (ks.map fun (n:Nat)=>V.int (n:Int)))=H2 at s2 f2 ⊢
  refine ⟨_,rfl,m,rfl,⟨_,SqL.of f2⟩,?_⟩
  refine jb (xs:=ks.map fun (n:Nat)=>V.int (n:Int)) (own:=["_law_k"]) (cap:=[]) (fun j ys σ H'=>∃ (b:Option V) (ss:List Stp),σ = [b]∧bP H' ys ss∧ss.length≤j∧(∀ s∈ss,Shr R v s)∧aF H2 H') ⟨none,[],rfl,.nil,BG _,(fun u hu=>by cases hu),aF.refl _⟩ (fun j ys σ H' hj ⟨_,ss,_,e,e2,_⟩=>by rw [e.length];exact e2) (by rw [BK];omega) (fun j ys σ H' ⟨_,_,_,_,_,_,e⟩=>SqL.of (e _ _ f2)) ?_ ?_
  ·rintro j ys σ HX x N hx ⟨b,ss,rfl,sr,hU,hsh,s3⟩ hN
   obtain ⟨u,hu,rfl⟩:∃ u:Nat,u∈ks∧x = .int (u:Int):=by
    rw [B7] at hx
    cases e:ks[j]? with
    | none=>rw [e] at hx;cases hx
    | some u=>rw [e] at hx;exact ⟨u,B8 e,(BW hx).symm⟩
   have ho:=hkl u hu
   have ul:u≤5000:=by
    have ho':=ho
    unfold jP at ho'
    rw [Cw,C6] at ho'
    omega
   refine ⟨_,rfl,(aw (n:=2) (by decide)),fun t ht=>?_⟩
   have st:aF HX (upd HX t (.tup [.str "out",.int (u:Int)])):=aF.new ht
   have ft:(upd HX t (.tup [.str "out",.int (u:Int)])) t=some (.tup (Stp.out u).vs):=af
   generalize upd HX t (.tup [.str "out",.int (u:Int)])=HY at st ft ⊢
   refine hN _ _ _ ⟨_,ss++[.out u],rfl,(sr.same st).snoc (s:=.out u) ft ul,by rw [BB];simp;omega,fun s hs=>?_,s3.trans st⟩
   rcases BR.mp hs with q | q
   ·exact hsh s q
   ·rw [BE] at q;rw [q];exact vA (by omega) ho
  rintro ys σ H3 fo ⟨b,ss,rfl,sr,hU,hsh,s3⟩ hfo
  rw [BK] at hU
  have fo0:H fo=none:=s2.free (s3.free hfo)
  have s4:aF H (upd H3 fo (.lst ys)):=s2.trans (s3.then hfo)
  have f4:(upd H3 fo (.lst ys)) fo=some (.lst ys):=af
  replace sr:=sr.same (aF.new (o:=.lst ys) hfo)
  generalize upd H3 fo (.lst ys)=H4 at s4 f4 sr ⊢
  have nlf:l≠fo:=aE hl fo0
  have nof:∀ b o,H b=some o→b≠fo:=fun b o e=>aE e fo0
  have F4:=F0.same s4
  have ndf:fo≠d:=F0.ne fo0
  refine ⟨_,rfl,l,rfl,⟨_,SqL.of (s4 _ _ hl)⟩,?_⟩
  refine dG (xs:=Vs.map tx) (fun i σ H'=>∃ (b5 b6 b7:Option V) (ys:List V) (ss:List Stp),σ = [some (.ref d),some (.ref l),some (tx v),some (.ref m),some (.ref fo),b5,b6,b7]∧H' fo=some (.lst ys)∧bP H' ys ss∧ss.length≤200+200*i∧(∀ s∈ss,Shr R v s)∧aF H H'∧Fd H' d) ⟨_,_,_,ys,ss,rfl,f4,sr,by omega,hsh,s4,F4⟩ (fun i σ H' _ ⟨_,_,_,_,_,_,_,_,_,_,q,_⟩=>SqL.of (q _ _ hl)) ?_ ?_
  ·rintro i x σ H5 hx ⟨b5,b6,b7,ys,ss,rfl,f5,sr,hU,hsh,s5,F5⟩
   obtain ⟨u,hi,hu,rfl⟩:∃ u,i < Vs.length∧u∈Vs∧x=tx u:=by
    rw [B7] at hx
    cases e:Vs[i]? with
    | none=>rw [e] at hx;cases hx
    | some u=>rw [e] at hx;exact ⟨u,(BF.mp e).1,B8 e,(BW hx).symm⟩
   obtain ⟨u0,ul⟩:=tn.word hR hu
   have lu:=ah u
   have up:=CW.mpr u0
   refine ⟨_,rfl,_,rfl,by omega,_,rfl,by omega,by omega,?_⟩
   rw [lv,BQ]
   refine bQ (lo:=0) (n:=v.length) (fun j σ H'=>∃ (b6 b7:Option V) (ys:List V) (ss:List Stp),σ = [some (.ref d),some (.ref l),some (tx v),some (.ref m),some (.ref fo),some (tx u),b6,b7]∧H' fo=some (.lst ys)∧bP H' ys ss∧ss.length≤200+200*i+j∧(∀ s∈ss,Shr R v s)∧aF H H'∧Fd H' d) ⟨_,_,ys,ss,rfl,f5,sr,by omega,hsh,s5,F5⟩ ?_ ?_
   ·rintro j σ H6 hj ⟨b6,b7,ys,ss,rfl,f6,sr,hU,hsh,s6,F6⟩
    rw [EH]
    have e0:=BC hj
    have eu:=BC up
    have ylen:=sr.length
    refine ⟨_,rfl,_,rfl,_,_,_,rfl,rfl,by omega,bB (k:=j) (by omega) e0,_,rfl,_,_,_,rfl,rfl,by omega,bB (k:=0) rfl eu,rfl,_,rfl,?_⟩
    refine AR (fun x H'=>∃ n:Nat,x = .int (n:Int)∧aF H6 H'∧n≤u.length∧(u.length < 2*n→n=(lcp u (v.drop j)).length)) ?_ (fun main _=>?_) (fun main _=>?_)
    rotate_left
    ·refine ⟨_,rfl,_,rfl,_,rfl,_,rfl,_,rfl,by omega,?_⟩
     rw [az,bh v (by omega),BQ]
     refine ⟨u,v.drop j,rfl,by omega,by rw [B0];omega,fun HC sC=>?_⟩
     have hc:(lcp u (v.drop j)).length≤u.length:=(dE _ _).1.length_le
     have lc:=ah (lcp u (v.drop j))
     refine ⟨_,rfl,by omega,main _ _ ⟨_,rfl,sC,by omega,fun _=>lc⟩⟩
    ·exact main _ _ ⟨0,rfl,aF.refl _,CC _,fun h=>by omega⟩
    rintro x H7 ⟨n,rfl,s7,nl,hn⟩
    replace f6:=s7 _ _ f6
    replace sr:=sr.same s7
    replace s6:=s6.trans s7
    replace F6:=F6.same s7
    refine ⟨_,rfl,_,_,rfl,rfl,.inl ⟨by decide,by decide⟩,_,rfl,_,rfl,by omega,_,_,rfl,rfl,_,rfl,eI (fun hgt=>?_) (fun _=>⟨_,_,ys,ss,rfl,f6,sr,by omega,hsh,s6,F6⟩)⟩
    have hgt:u.length < 2*n:=by
     have:=Ft hgt
     omega
    have hn:=hn hgt
    refine ⟨_,rfl,.inl ⟨rfl,_,SqL.of f6⟩,_,rfl,_,rfl,_,rfl,(aw (n:=4) (by decide)),fun t ht=>?_⟩
    have st:aF H7 (upd H7 t (.tup [.str "ring",.int (j:Int),tx u,.int (n:Int)])):=aF.new ht
    have ft:(upd H7 t (.tup [.str "ring",.int (j:Int),tx u,.int (n:Int)])) t=some (.tup (Stp.rng j u n).vs):=af
    generalize upd H7 t (.tup [.str "ring",.int (j:Int),tx u,.int (n:Int)])=H8 at st ft ⊢
    replace f6:=st _ _ f6
    replace sr:=sr.same st
    replace s6:=s6.trans st
    replace F6:=F6.same st
    refine ⟨fo,_,_,rfl,rfl,f6,by omega,?_⟩
    refine ⟨_,_,ys++[.ref t],ss++[.rng j u n],rfl,af,(sr.snoc ft ⟨by omega,by omega,by omega⟩).mono fun b zs eb=>?_,by rw [BB];simp;omega,fun s hs=>?_,fun b o e=>?_,j1 F6 f6 sr ndf⟩
    ·rw [ay (gG eb f6 (by intro z;cases z))];exact eb
    ·rcases BR.mp hs with q | q
     ·exact hsh s q
     ·rw [BE] at q
      subst q
      rw [hn]
      rw [hn] at hgt
      exact vB (by omega) (by omega) ((tn.mem u).mp hu) hgt
    ·rw [ay (nof b o e)];exact s6 _ _ e
   ·rintro σ H6 ⟨b6,b7,ys,ss,rfl,f6,sr,hU,hsh,s6,F6⟩
    exact ⟨_,_,_,ys,ss,rfl,f6,sr,by omega,hsh,s6,F6⟩
  ·rintro σ H5 ⟨b5,b6,b7,ys,ss,rfl,f5,sr,hU,hsh,s5,F5⟩
   rw [BK] at hU
   have ylen:=sr.length
   refine ⟨_,rfl,(aw (n:=0) (by decide)),fun z hz=>?_⟩
   have sz:aF H5 (upd H5 z (.lst [])):=aF.new hz
   refine ⟨fo,z,_,rfl,rfl,sz _ _ f5,af,?_⟩
   generalize upd H5 z (.lst [])=H6 at sz ⊢
   replace f5:=sz _ _ f5
   replace sr:=sr.same sz
   replace s5:=s5.trans sz
   replace F5:=F5.same sz
   refine ⟨_,rfl,eI (fun Hj=>?_) (fun _=>⟨(aw (n:=0) (by decide)),fun q hq=>k q _ (s5.free hq) (.inl af) (F5.new hq) (s5.then hq).b⟩)⟩
   have hpos:0 < ys.length:=by
    cases ys with
    | nil=>exact absurd Hj (by decide)
    | cons _ _=>exact Nat.succ_pos _
   refine ⟨_,rfl,_,rfl,_,rfl,fo,_,rfl,.inl (SqL.of f5),d,_,rfl,F5,by omega,by omega,fun q H7 q0 q1 F7 HS=>?_⟩
   obtain ⟨b,s,eb,hs,fb,hk⟩:=Av sr q0 q1
   refine ⟨fo,_,_,_,rfl,rfl,SqL.of (HS _ _ (F5.nl f5) f5),eb,(aw (n:=1) (by decide)),fun t ht=>?_⟩
   exact k t _ (s5.free (vz F7 HS ht)) (.inr ⟨b,s,af,aF.new ht _ _ (HS _ _ (F5.neT fb) fb),hk,hsh s hs⟩) (F7.new ht) ((s5.b.trans HS).trans (aF.new ht).b)
abbrev iF:Stmt:=top 56
theorem pK:aN ["_law_feed_here","_law_known","_law_word","_law_steps_here","_law_k","_law_step","_law_found","_law_some_here"] ["_law_feed_here","_law_known","_law_word"] (ao iF):=⟨rfl,rfl,rfl,by decide +kernel,rfl,by decide +kernel,by decide +kernel⟩
theorem sf (D:Df K mg "_law_steps" iF)(T:Bt K w mg aB)(G7:Fnc P w K mg base "_law_draw" ["_law_feed_here","_law_many"] 1 cC)(F_next:Fnc P w K mg base "_law_next" ["_law_feed_here","_law_known","_law_word"] 2 j0)(Hn:Fnc P w K mg base "_law_done" ["_law_known","_law_word","_law_step"] 2 e7)(Ht:Fnc P w K mg base "_law_shorter" ["_law_feed_here","_law_known","_law_word"] 2 fU):Fnc P w K mg base "_law_steps" ["_law_feed_here","_law_known","_law_word"] 3 iu:=by
 have sc:=pK
 refine D.ok sc (fun _ _ _ _ _ _ us hl=>by obtain ⟨_,_,_,rfl⟩:=jy hl;rfl) (fun vs H Q E h=>?_) (fun f Hb A outer s H vs Q E hr h=>?_)
 ·obtain ⟨d,l,R,Vs,v,rfl,_⟩:=h
  rfl
 ·obtain ⟨d,l,R,Vs,v,rfl,F0,hl,tn,hR,hv,k⟩:=h
  have Hr:=a9
  have tl:=tn.len hR
  have tw:∀ u∈trn R,u.length≤400:=fun u hu=>by
   have:=(tn.word hR ((tn.mem u).mpr hu)).2
   omega
  have gdS:∀ {h u:List L} {s:Stp},h.length≤200→f_ R h s=some u→GdS R s:=fun hh e=>An tw (by omega) (yt e).1
  refine ⟨_,(Gq (Gx (3) sc.nd rfl (Or.inl rfl) (GF ae)) (Gq (GU Ce rfl (GZ rfl T.range (GA (GR G7 hr (by decide) rfl (GA (pv 0) (GA ai ae))) ae)) (GK (4) sc.nd rfl (Or.inl rfl)) (Gq (Gx (5) sc.nd rfl (Or.inl rfl) (GR F_next hr (by decide) rfl (GA (pv 0) (GA (pv 1) (GA (pv 2) ae))))) (Gq (Gx (6) sc.nd rfl (Or.inl rfl) (GR Hn hr (by decide) rfl (GA (pv 1) (GA (pv 2) (GA (pv 5) ae))))) (GB (Gv (GS (GV (Gw (@dP _ (by exact hr.units)) (pv 6) (GF ae) (aD _)) (GW (Gw e9 (Gz av (by rfl) T.len BP (GA (Gy bI (pv 6) ai (fun _ _=>rfl)) ae)) ai (aD _))))) (Gq (@cU _ _ _ _ (GH Dd Cz C7 cz (pv 3) (GA (pv 5) ae)) (by rfl)) (GB (Gx (2) sc.nd rfl (Or.inl rfl) (Gy bI (pv 6) ai (fun _ _=>rfl))))) aO))))) (Gq (Gx (7) sc.nd rfl (Or.inl rfl) (GR Ht hr (by decide) rfl (GA (pv 0) (GA (pv 1) (GA (pv 2) ae))))) (Gq (@eR _ _ _ _ _ _ Ce (Gw (@dP _ (by exact hr.units)) (pv 7) (GF ae) (aD _)) (Gq (@cU _ _ _ _ (GH Dd Cz C7 cz (pv 3) (GA (Gy bI (pv 7) ai (fun _ _=>rfl)) ae)) (by rfl)) (Gq (Gx (2) sc.nd rfl (Or.inl rfl) (Gy bI (GR Hn hr (by decide) rfl (GA (pv 1) (GA (pv 2) (GA (Gy bI (pv 7) ai (fun _ _=>rfl)) ae)))) ai (fun _ _=>rfl))) (GB (Gx (7) sc.nd rfl (Or.inl rfl) (GR Ht hr (by decide) rfl (GA (pv 0) (GA (pv 1) (GA (pv 2) ae))))))))) (GB (GC (G4 (GA (@cg _ _ _ _ _ _ _ _ _ bX (by rfl) T.tuple d8 (GA (pv 3) ae) (by decide) (by decide) (by rfl) (by rfl)) (GA (pv 2) ae))))))))),?_⟩
  refine ⟨(aw (n:=0) (by decide)),fun sp Il=>?_⟩
  have s1:aF H (upd H sp (.lst [])):=aF.new Il
  have f1:(upd H sp (.lst [])) sp=some (.lst []):=af
  generalize upd H sp (.lst [])=H1 at s1 f1 ⊢
  have F1:=F0.same s1
  have nds:sp≠d:=F0.ne Il
  have nls:l≠sp:=aE hl Il
  have nof:∀ b o,H b=some o→b≠sp:=fun b o e=>aE e Il
  have nld:l≠d:=F0.nl hl
  refine ⟨_,rfl,d,_,rfl,F1,by decide,by decide,fun m H2 m0 m1 F2 Hf=>⟨_,rfl,by omega,by omega,?_⟩⟩
  refine bQ (lo:=0) (n:=m.toNat) (fun j σ H'=>∃ (b4 b5 b6 b7:Option V) (h:List L) (xs:List V) (ss:List Stp),σ = [some (.ref d),some (.ref l),some (tx h),some (.ref sp),b4,b5,b6,b7]∧h.length≤200∧H' sp=some (.lst xs)∧bP H' xs ss∧(∀ s∈ss,GdS R s)∧ss.length≤j∧Fd H' d∧ba d H H') ⟨_,_,_,_,v,[],[],rfl,hv,Hf _ _ nds f1,.nil,(fun s hs=>by cases hs),BG _,F2,s1.b.trans Hf⟩ ?_ ?_
  ·rintro j σ H9 hj ⟨b4,b5,b6,b7,h,xs,ss,rfl,hh,f9,sr,HW,sl,F9,sb9⟩
   have l9:=sb9 _ _ nld hl
   refine ⟨_,rfl,_,rfl,_,rfl,d,l,Vs,h,rfl,F9,l9,by omega,fun u hu=>(by have:=(tn.word hR hu).2;omega),by omega,fun st p HA hs pA FA sbA=>?_⟩
   have lA:=sbA _ _ nld l9
   have fA:=sbA _ _ nds f9
   replace sr:=sr.sb F9 sbA
   have sbA:=sb9.trans sbA
   refine ⟨_,rfl,_,rfl,_,rfl,l,p,R,Vs,h,st,rfl,lA,tn.mem,by omega,pA,hs,fun fo HB fo0 foB sB=>?_⟩
   replace sr:=sr.same sB
   have fB:=sB _ _ fA
   have pB:=sB _ _ pA
   have FB:=FA.same sB
   have xl:=sr.length
   have sbB:=sbA.trans sB.b
   refine ⟨_,rfl,(aw (n:=0) (by decide)),fun z hz=>?_⟩
   have sz:aF HB (upd HB z (.lst [])):=aF.new hz
   refine ⟨fo,z,_,rfl,rfl,sz _ _ foB,af,?_⟩
   generalize upd HB z (.lst [])=HC at sz ⊢
   replace sr:=sr.same sz
   replace fB:=sz _ _ fB
   replace pB:=sz _ _ pB
   replace foB:=sz _ _ foB
   replace FB:=FB.same sz
   replace sbB:=sbB.trans sz.b
   cases e:f_ R h st with
   | none =>
    rw [← e]
    exact ⟨_,rfl,bO (by rw [e];rfl) (iG ⟨_,_,_,_,h,xs,ss,rfl,hh,fB,sr,HW,by omega,FB,sbB⟩)⟩
   | some u =>
    have foB':=foB
    rw [e] at foB'
    have ul:=g8 e
    have lu:=ah u
    rw [← e]
    refine ⟨_,rfl,bY (by rw [e];rfl) ?_⟩
    refine ⟨_,rfl,fo,_,_,_,rfl,rfl,SqL.of foB',at0 _ _,_,rfl,by omega,_,_,rfl,rfl,_,rfl,eI (fun Hg=>?_) (fun _=>⟨_,_,_,_,h,xs,ss,rfl,hh,fB,sr,HW,by omega,FB,sbB⟩)⟩
    have Hg:u.length < 160:=by
     have:=Ft Hg
     omega
    have nfo:fo≠sp:=fun z=>by rw [z,fA] at fo0;cases fo0
    refine ⟨_,rfl,.inl ⟨rfl,_,SqL.of fB⟩,_,rfl,sp,_,_,rfl,rfl,fB,by omega,?_⟩
    have FE:=j1 (o:=.lst (xs++[.ref p])) FB fB sr nds
    have srE:bP (upd HC sp (.lst (xs++[.ref p]))) (xs++[.ref p]) (ss++[st]):=(sr.snoc pB hs).mono fun b ys eb=>by
     rw [ay (gG eb fB (by intro z;cases z))];exact eb
    refine ⟨_,rfl,fo,_,_,_,rfl,rfl,SqL.of (by rw [ay nfo];exact foB'),at0 _ _,?_⟩
    refine ⟨_,_,_,_,u,_,_,rfl,by omega,af,srE,fun s hs=>?_,by rw [BB];simp;omega,FE,fun b o n q=>?_⟩
    ·rcases BR.mp hs with q | q
     ·exact HW s q
     ·rw [BE] at q;rw [q];exact gdS hh e
    ·rw [ay (nof b o q)];exact sbB b o n q
  ·rintro σ H3 ⟨b4,b5,b6,b7,h,xs,ss,rfl,hh,f3,sr,HW,sl,F3,Ho⟩
   have l3:=Ho _ _ nld hl
   refine ⟨_,rfl,_,rfl,_,rfl,d,l,R,Vs,h,rfl,F3,l3,tn,hR,hh,fun q H4 q0 sh F4 Hh=>?_⟩
   have nqs:q≠sp:=fun z=>by rw [z,f3] at q0;cases q0
   have f4:=Hh _ _ nds f3
   replace sr:=sr.sb F3 Hh
   replace Hh:=Ho.trans Hh
   refine qI (fun n σ H'=>∃ (b4 b5 b6:Option V) (h:List L) (xs:List V) (ss:List Stp) (q:Addr),σ = [some (.ref d),some (.ref l),some (tx h),some (.ref sp),b4,b5,b6,some (.ref q)]∧h.length≤200∧n=h.length∧H' sp=some (.lst xs)∧bP H' xs ss∧(∀ s∈ss,GdS R s)∧ss.length+h.length≤203∧ShL R h H' q∧q≠sp∧Fd H' d∧ba d H H')
    (fun σ H'=>∃ (b4 b5 b6 b7:Option V) (h:List L) (xs:List V) (ss:List Stp),σ = [some (.ref d),some (.ref l),some (tx h),some (.ref sp),b4,b5,b6,b7]∧H' sp=some (.lst xs)∧bP H' xs ss∧(∀ s∈ss,GdS R s)∧ss.length≤203∧Fd H' d∧ba d H H') ⟨_,_,_,_,h,xs,ss,q,rfl,hh,rfl,f4,sr,HW,by omega,sh,nqs,F4,Hh⟩ ?_ ?_
   ·rintro nx hnx n σ H5 ⟨b4,b5,b6,h,xs,ss,q,rfl,hh,rfl,f5,sr,HW,sl,sh,nqs,F5,Hu⟩
    have l5:=Hu _ _ nld hl
    have xl:=sr.length
    refine ⟨_,rfl,(aw (n:=0) (by decide)),fun z hz=>?_⟩
    have sz:aF H5 (upd H5 z (.lst [])):=aF.new hz
    rcases sh with f | ⟨p,st,f,fp,hk,hsh⟩
    ·refine ⟨q,z,_,rfl,rfl,sz _ _ f,af,_,rfl,iG (hnx _ _ ⟨_,_,_,_,h,xs,ss,rfl,sz _ _ f5,sr.same sz,HW,by omega,F5.same sz,Hu.trans sz.b⟩)⟩
    ·refine ⟨q,z,_,rfl,rfl,sz _ _ f,af,_,rfl,mW ⟨_,fun σ' H' q=>q,?_⟩⟩
     generalize upd H5 z (.lst [])=H6 at sz ⊢
     replace f5:=sz _ _ f5
     replace f:=sz _ _ f
     replace fp:=sz _ _ fp
     replace l5:=sz _ _ l5
     replace sr:=sr.same sz
     replace F5:=F5.same sz
     replace Hu:=Hu.trans sz.b
     refine ⟨_,rfl,.inl ⟨rfl,_,SqL.of f5⟩,_,rfl,q,_,_,_,rfl,rfl,SqL.of f,at0 _ _,sp,_,_,rfl,rfl,f5,by omega,?_⟩
     have FE:=j1 (o:=.lst (xs++[.ref p])) F5 f5 sr nds
     have srE:bP (upd H6 sp (.lst (xs++[.ref p]))) (xs++[.ref p]) (ss++[st]):=(sr.snoc fp hk).mono fun b ys eb=>by
      rw [ay (gG eb f5 (by intro z;cases z))];exact eb
     have fE:(upd H6 sp (.lst (xs++[.ref p]))) sp=some (.lst (xs++[.ref p])):=af
     have qE:(upd H6 sp (.lst (xs++[.ref p]))) q=some (.lst [.ref p]):=by rw [ay nqs];exact f
     have pE:(upd H6 sp (.lst (xs++[.ref p]))) p=some (.tup st.vs):=by rw [ay (gG fp f5 (by intro z;cases z))];exact fp
     have lE:(upd H6 sp (.lst (xs++[.ref p]))) l=some (.lst (Vs.map tx)):=by rw [ay nls];exact l5
     have sbE:ba d H (upd H6 sp (.lst (xs++[.ref p]))):=fun b o n q=>by rw [ay (nof b o q)];exact Hu b o n q
     generalize upd H6 sp (.lst (xs++[.ref p]))=H7 at FE srE fE qE pE lE sbE ⊢
     obtain ⟨u,eu,hul⟩:=hsh
     refine ⟨_,rfl,_,rfl,_,rfl,q,_,_,_,rfl,rfl,SqL.of qE,at0 _ _,l,p,R,Vs,h,st,rfl,lE,tn.mem,by omega,pE,hk,fun fo H8 fo0 fo8 s8=>?_⟩
     rw [eu] at fo8
     refine ⟨fo,_,_,_,rfl,rfl,SqL.of fo8,at0 _ _,?_⟩
     have F8:=FE.same s8
     refine ⟨_,rfl,_,rfl,_,rfl,d,l,R,Vs,u,rfl,F8,s8 _ _ lE,tn,hR,by omega,fun q2 H9 q20 sh9 F9 sb9=>?_⟩
     have f8:=s8 _ _ fE
     refine ⟨u.length,hul,_,_,_,u,_,_,q2,rfl,by omega,rfl,sb9 _ _ nds f8,(srE.same s8).sb F8 sb9,fun s hs=>?_,by rw [BB];simp;omega,sh9,(fun z=>by rw [z,f8] at q20;cases q20),F9,(sbE.trans s8.b).trans sb9⟩
     rcases BR.mp hs with q | q
     ·exact HW s q
     ·rw [BE] at q;rw [q];exact gdS hh eu
   ·rintro σ H5 ⟨b4,b5,b6,b7,h,xs,ss,rfl,f5,sr,HW,sl,F5,Hu⟩
    refine ⟨_,rfl,sp,_,rfl,.inl ⟨SqL.of f5,fun p hp=>?_⟩⟩
    have s6:aF H5 (upd H5 p (.tup xs)):=aF.new hp
    have f6:(upd H5 p (.tup xs)) p=some (.tup xs):=af
    generalize upd H5 p (.tup xs)=H6 at s6 f6 ⊢
    refine ⟨_,rfl,(aw (n:=2) (by decide)),fun t ht=>?_⟩
    have st:aF H6 (upd H6 t (.tup [.ref p,tx h])):=aF.new ht
    exact k t p xs ss h _ af (st _ _ f6) ((sr.same s6).same st) HW sl ((F5.same s6).same st) ((Hu.trans s6.b).trans st.b)
abbrev pL:Stmt:=top 57
theorem v9:aN ["_law_rings_here","_law_word","_law_thing","_law_found","e","_law_strange"] ["_law_rings_here","_law_word","_law_thing"] (ao pL):=⟨rfl,rfl,rfl,by decide +kernel,rfl,by decide +kernel,by decide +kernel⟩
structure TC (K:PySem.W.Frag) (mg:Str→Option Value) (CT CR:Addr) (bmT bmR:List Value) (c:Nat→Addr):Prop where
 nT:mg "NoPaper" = some (.ref CT)
 nR:mg "RingError" = some (.ref CR)
 nV:mg "ValueError" = none
 n0:mg "NoBand" = some (.ref (c 0))
 n1:mg "NoRow" = some (.ref (c 1))
 n2:mg "NoSlide" = some (.ref (c 2))
 n3:mg "NoStep" = some (.ref (c 3))
 n4:mg "NoSurface" = some (.ref (c 4))
 n5:mg "NoText" = some (.ref (c 5))
 n6:mg "NoThin" = some (.ref (c 6))
 n7:mg "NoWay" = some (.ref (c 7))
 xT:XCl K CT bmT
 up:(Value.ref CT::bmT).contains (.ref CR)=true
 ka:PySem.W.kitAny K (.ref CT) [.ref (c 0),.ref (c 1),.ref (c 2),.ref (c 3),.ref (c 4),.ref (c 5),.ref (c 6),.ref (c 7)]=some false
 kt:PySem.W.kitOne K (.ref CT) (.ref CT)=some true
 kv:PySem.W.kitOne K (.ref CT) (.type "ValueError")=some true
 ca:XCa K CT
 xw:PySem.W.findIn K (.ref CT) "word" = some none
 xa:PySem.W.findIn K (.ref CT) "at" = some none
theorem cv {a:Addr}{vs:List V}{ts:List Value}(h:∀ us,bo vs us→us=ts):∀ us,bo (.ref a::vs) us→us = .ref a::ts:=by
 intro us r
 cases r with
 | cons r1 r2 =>
  obtain rfl:=h _ r2
  cases r1
  rfl
def _root_.G5 {a b c d e}:=@sT a b c d e
theorem yQ {CT CR:Addr}{bmT bmR:List Value}{c:Nat→Addr}(D:Df K mg "_law_told" pL)(T:Bt K w mg aB)(C:TC K mg CT CR bmT bmR c)(xR:XCl K CR bmR)(HK:rB P w K mg base "lets_nothing" ["rings","word","thing"] 7 (j7 CT)):Fnc P w K mg base "_law_told" ["_law_rings_here","_law_word","_law_thing"] 8 ir:=by
 have sc:=v9
 have cNoPaper:=C.nT
 have cRingError:=C.nR
 have TV:=C.nV
 have cNoBand:=C.n0
 have cNoRow:=C.n1
 have cNoSlide:=C.n2
 have Iz:=C.n3
 have cNoSurface:=C.n4
 have cNoText:=C.n5
 have cNoThin:=C.n6
 have cNoWay:=C.n7
 refine D.ok sc (fun _ _ _ _ _ _ us hl=>by obtain ⟨_,_,_,rfl⟩:=jy hl;rfl) (fun vs H Q E h=>?_) (fun f Hb A outer s H vs Q E hr h=>?_)
 ·obtain ⟨a,p,R,v,xs,ss,rfl,_⟩:=h
  rfl
 ·obtain ⟨a,p,R,v,xs,ss,rfl,ha,hR,hv,hp,Io,hn,k⟩:=h
  have Hr:=a9
  have hu:=uo hr
  refine ⟨_,(Gq (Gx (3) sc.nd rfl (Or.inl rfl) mn) (Gq (@x6 _ _ _ _ (4) _ _ _ _ _ _ _ _ _ rfl rfl sc.nd rfl rfl rfl cRingError xR (fun _=>(@vj _ _ _ _ _ _ _ (3) sc.nd rfl (Or.inl rfl) (@tq _ _ _ _ _ _ _ _ _ _ _ _ HK hr (by decide) rfl (GA (pv 0) (GA (pv 1) (GA (pv 2) ae))) (by decide) (by rfl) (by rfl)) (by rfl) (by first | exact .inl rfl | exact .inr rfl | assumption))) (fun _=>(Gq (Gx (5) sc.nd rfl (Or.inl rfl) (Gz (@oA _ (K) rfl) (by rfl) T.isinstance bc (GA (pv 4) (GA (G4 (G5 (GO (.ref _) rfl cNoBand rfl) (G5 (GO (.ref _) rfl cNoRow rfl) (G5 (GO (.ref _) rfl cNoSlide rfl) (G5 (GO (.ref _) rfl Iz rfl) (G5 (GO (.ref _) rfl cNoSurface rfl) (G5 (GO (.ref _) rfl cNoText rfl) (G5 (GO (.ref _) rfl cNoThin rfl) (G5 (GO (.ref _) rfl cNoWay rfl) ae))))))))) ae)))) (Gq (Gx (3) sc.nd rfl (Or.inl rfl) aI) (GB (Gv (GS (GV (@uN _ _ _ (Gz (@jl _ (K) rfl) (by rfl) T.isinstance bc (GA (pv 4) (GA (GO (.ref _) rfl cNoPaper rfl) ae))) (fun _=>rfl)) (GV (@uN _ _ _ (Gz (@jl _ (K) rfl) (by rfl) T.isinstance bc (GA (pv 4) (GA (GM (.ty "ValueError") rfl TV jt rfl) ae))) (fun _=>rfl)) (GW (GP (@uN _ _ _ (pv 5) (fun _=>rfl))))))) (GB (Gx (3) sc.nd rfl (Or.inl rfl) (G4 (GA (@oE _ (K) _ _ _ _ rfl (pv 4) rfl) (GA (@oE _ (K) _ _ _ _ rfl (pv 4) rfl) ae))))) aO))))) (by decide)) (GB (GC (pv 3))))),?_⟩
  refine ⟨_,rfl,_,rfl,_,rfl,a,p,R,v,xs,ss,rfl,ha,hR,hv,hp,Io,hn,fun e H' s'=>⟨_,rfl,k (.bl true) H' (by rw [e];exact .bl true) s'⟩,fun u e Hj b H' xp s'=>?A,fun i e b H' xp s'=>?B⟩
  case' A =>
   have ed:∃ z j,XQ CT H' b z j∧wm (bz R v ss 0) = .tuple [.str z,.int (j:Nat)]:=⟨_,_,xp,by
    rw [e]
    cases u with
    | nil=>exact absurd rfl Hj
    | cons x u=>rfl⟩
  case' B =>
   have ed:∃ z j,XQ CT H' b z j∧wm (bz R v ss 0) = .tuple [.str z,.int (j:Nat)]:=⟨_,_,xp,by rw [e];rfl⟩
  all_goals
   obtain ⟨z,j,⟨dx,cx,fa,fd⟩,ed⟩:=ed
   refine ⟨b,CT,some dx,cx,bmT,rfl,fa,C.xT,C.up,?_⟩
   refine ⟨_,rfl,(by show 8≤sizeLine;decide),fun q hq=>?_⟩
   have fa:=aF.new (o:=.tup [.ref (c 0),.ref (c 1),.ref (c 2),.ref (c 3),.ref (c 4),.ref (c 5),.ref (c 6),.ref (c 7)]) hq _ _ fa
   have fd:=aF.new (o:=.tup [.ref (c 0),.ref (c 1),.ref (c 2),.ref (c 3),.ref (c 4),.ref (c 5),.ref (c 6),.ref (c 7)]) hq _ _ fd
   have s2:=s'.then (o:=.tup [.ref (c 0),.ref (c 1),.ref (c 2),.ref (c 3),.ref (c 4),.ref (c 5),.ref (c 6),.ref (c 7)]) hq
   refine ⟨b,CT,false,cx,dx,_,q,_,_,false,rfl,fa,fd,C.ca,af,cv (cv (cv (cv (cv (cv (cv (cv fun us h=>by cases h;rfl))))))),C.ka,?_⟩
   generalize upd H' q _=H2 at fa fd s2 ⊢
   refine ⟨_,rfl,b,CT,false,cx,dx,_,_,_,true,rfl,fa,fd,C.ca,(fun u r=>r),C.kt,_,rfl,yj ?_⟩
   refine ⟨_,rfl,b,CT,false,cx,dx,_,_,_,true,rfl,fa,fd,C.ca,(fun u r=>r),C.kv,_,rfl,yj ?_⟩
   refine ⟨_,rfl,_,rfl,vq ?_⟩
   refine ⟨_,rfl,b,CT,false,cx,dx,_,_,rfl,fa,fd,C.ca.1,C.xw,rfl,_,rfl,b,CT,false,cx,dx,_,_,rfl,fa,fd,C.ca.1,C.xa,rfl,(by show 2≤sizeLine;decide),fun p hp=>⟨_,rfl,k (.ref p) _ ?_ (s2.then hp)⟩⟩
   rw [ed]
   exact .tup af (.cons (.str _) (.cons (.int _) .nil))
abbrev v_:Stmt:=top 58
theorem yR:aN ["_law_known","_law_word","_law_steps_here","_law_found"] ["_law_known","_law_word","_law_steps_here"] (ao v_):=⟨rfl,rfl,rfl,by decide +kernel,rfl,by decide +kernel,by decide +kernel⟩
theorem si {K:PySem.W.Frag}:PySem.W.kitOne K (.type "int") (.type "int")=some true:=by unfold PySem.W.kitOne; rw [if_pos (by rfl)]
theorem sj {K:PySem.W.Frag}:PySem.W.kitOne K (.type "str") (.type "int")=some false:=by kernel_rfl
theorem Aw (D:Df K mg "_law_due" v_)(T:Bt K w mg aB)(HL:Fnc P w K mg base "_law_walked" ["_law_known","_law_word","_law_steps_here"] 3 eD):Fnc P w K mg base "_law_due" ["_law_known","_law_word","_law_steps_here"] 4 lH:=by
 have sc:=yR
 refine D.ok sc (fun _ _ _ _ _ _ us hl=>by obtain ⟨_,_,_,rfl⟩:=jy hl;rfl) (fun vs H Q E h=>?_) (fun f Hb A outer s H vs Q E hr h=>?_)
 ·obtain ⟨l,p,R,Vs,v,xs,ss,rfl,_⟩:=h
  rfl
 ·obtain ⟨l,p,R,Vs,v,xs,ss,rfl,hl,hm,hv,hp,Io,hn,k⟩:=h
  have Hr:=a9
  refine ⟨_,(Gq (Gx (3) sc.nd rfl (Or.inl rfl) (GR HL hr (by decide) rfl (GA (pv 0) (GA (pv 1) (GA (pv 2) ae))))) (Gq (Gv (GQ (Gz (@cJ _ (K) rfl) (by rfl) T.isinstance bc (GA (pv 3) (GA (GM (.ty "int") rfl T.int qv rfl) ae))) (fun _=>rfl)) (GB (GC (G4 (GA aI (GA (pv 3) ae))))) aO) (GB (GC (GY (Gw bj (pv 3) aI (aD _)) dX (G4 (GA aI (GA ai ae)))))))),?_⟩
  refine ⟨_,rfl,_,rfl,_,rfl,l,p,R,Vs,v,xs,ss,rfl,hl,hm,hv,hp,Io,by omega,fun H1 s1=>?_⟩
  cases e:bz R v ss 0 with
  | inr i =>
   rw [e] at k
   refine ⟨_,rfl,_,_,_,_,rfl,.int _,si,_,rfl,vq ?_⟩
   refine ⟨_,rfl,(aw (n:=2) (by decide)),fun t ht=>k (.ref t) _ (.tup af (.cons (.str _) (.cons (.int _) .nil))) (s1.then ht)⟩
  | inl u =>
   rw [e] at k
   refine ⟨_,rfl,_,_,_,_,rfl,.str _,sj,_,rfl,tD ?_⟩
   refine ⟨_,rfl,rfl,_,rfl,?_⟩
   cases u with
   | nil=>exact bY (BM dN) (k (.bl true) _ (.bl true) s1)
   | cons x u =>
    refine bO (BI fun z=>?_) ⟨(aw (n:=2) (by decide)),fun t ht=>k (.ref t) _ (.tup af (.cons (.str _) (.cons (.int _) .nil))) (s1.then ht)⟩
    have z:tx (x::u)=V.str ("":Str):=z
    rw [← dN] at z
    cases kF z
abbrev km:Stmt:=top 59
theorem sk:aN ["_law_feed_here","_law_known","_law_step","_law_more"] ["_law_feed_here","_law_known","_law_step"] (ao km):=⟨rfl,rfl,rfl,by decide +kernel,rfl,by decide +kernel,by decide +kernel⟩
theorem wa (D:Df K mg "_law_other" km)(T:Bt K w mg aB)(G7:Fnc P w K mg base "_law_draw" ["_law_feed_here","_law_many"] 1 cC):Fnc P w K mg base "_law_other" ["_law_feed_here","_law_known","_law_step"] 2 iw:=by
 have sc:=sk
 refine D.ok sc (fun _ _ _ _ _ _ us hl=>by obtain ⟨_,_,_,rfl⟩:=jy hl;rfl) (fun vs H Q E h=>?_) (fun f Hb A outer s H vs Q E hr h=>?_)
 ·obtain ⟨d,l,p,R,Vs,st,rfl,_⟩:=h
  rfl
 ·obtain ⟨d,l,p,R,Vs,st,rfl,F0,hl,tn,hR,hp,HW,k⟩:=h
  have Hr:=a9
  have nld:l≠d:=F0.nl hl
  have tl:=tn.len hR
  have tw:∀ u∈trn R,u.length≤90:=fun u hu=>(tn.word hR ((tn.mem u).mpr hu)).2
  refine ⟨_,(Gq (Gx (3) sc.nd rfl (Or.inl rfl) (Gy bI (GF (GA ai (GA (@wI _ _ _ _ _ _ sD ai) ae))) (GR G7 hr (by decide) rfl (GA (pv 0) (GA ai ae))) (fun _ _=>rfl))) (Gq (Gv (GS (GT (Gw jC (Gy aZ (pv 2) ai (fun _ _=>rfl)) aI (aD _)) (@gk _ _ _ _ (Gw bj (GR G7 hr (by decide) rfl (GA (pv 0) (GA ai ae))) ai (aD _))))) (Gq (Gx (2) sc.nd rfl (Or.inl rfl) (Gr bM (Gr bM (GD bw (pv 2) aJ (GE ai)) (G4 (GA (Gz (@fg _ rfl) (by rfl) T.max uD (GA ai (GA (Gr aU (Gy aZ (pv 2) ai (fun _ _=>rfl)) (pv 3)) ae))) ae))) (GD bw (pv 2) (GE ai) aJ))) (GB (GC (GY (GS (GV (Gw bj (Gy aZ (pv 2) ai (fun _ _=>rfl)) aI (aD _)) (GW (Gw bj (pv 3) ai (aD _))))) (Gr bM (GD bw (pv 2) aJ (GE ai)) (G4 (GA (Gy bR aI (GR G7 hr (by decide) rfl (GA (pv 0) (GA ai ae))) (fun _ _=>rfl)) ae))) (pv 2))))) aO) (Gq (Gv (Gw bj (GR G7 hr (by decide) rfl (GA (pv 0) (GA ai ae))) ai (aD _)) (GB (GC (Gr bM (GD bw (pv 2) aJ (GE ai)) (G4 (GA (Gz (@fg _ rfl) (by rfl) T.max uD (GA ai (GA (Gr aU (Gy aZ (pv 2) ai (fun _ _=>rfl)) (pv 3)) ae))) ae))))) aO) (GB (GC (Gr bM (Gr bM (GD bw (pv 2) aJ (GE ai)) (G4 (GA (Gy bI (pv 1) (GR G7 hr (by decide) rfl (GA (pv 0) (GA (Gz aW (by rfl) T.len BP (GA (pv 1) ae)) ae))) (fun _ _=>rfl)) ae))) (GD bw (pv 2) (GE ai) aJ))))))),?_⟩
  refine ⟨_,rfl,(aw (n:=2) (by decide)),fun z hz=>?_⟩
  have s1:aF H (upd H z (.lst [.int 1,.int (-1)])):=aF.new hz
  have f1:(upd H z (.lst [.int 1,.int (-1)])) z=some (.lst [.int 1,.int (-1)]):=af
  generalize upd H z (.lst [.int 1,.int (-1)])=H1 at s1 f1 ⊢
  have F1:=F0.same s1
  refine ⟨_,rfl,d,_,rfl,F1,by decide,by decide,fun q H2 q0 q1 F2 Hf=>?_⟩
  obtain ⟨mo,hmo,emo⟩:∃ mo:Int,mo≤1∧atI [V.int 1,.int (-1)] q=some (.int mo):=by
   rcases (show q=0 ∨ q=1 by omega) with rfl | rfl
   ·exact ⟨1,by decide,rfl⟩
   ·exact ⟨-1,by decide,rfl⟩
  refine ⟨z,_,_,_,rfl,rfl,SqL.of (Hf _ _ (F1.nl f1) f1),emo,?_⟩
  have hp2:=Hf _ _ (F1.neT (s1 _ _ hp)) (s1 _ _ hp)
  have l2:=Hf _ _ nld (s1 _ _ hl)
  have Hf:=s1.b.trans Hf
  clear s1 f1 F1 emo
  have hpv:=hp2
  rw [yu] at hpv
  refine ⟨_,rfl,p,_,_,_,rfl,rfl,SqT.of hpv,at0 _ _,rfl,_,rfl,?_⟩
  refine orJ (fun H'=>Fd H' d∧ba d H H'∧H' p=some (.tup st.vs)) ?_ (fun _=>⟨F2,Hf,hp2⟩) (fun hb body=>?_)
  ·rintro H3 ⟨F3,Ho,p3⟩
   rw [yu] at p3
   refine ⟨_,rfl,_,rfl,p,_,rfl,p3,fun c1 H4 s4 f4=>?_⟩
   have p4:=s4 _ _ p3
   refine ⟨_,rfl,p,_,_,_,rfl,rfl,SqT.of p4,at1 _ _ _,_,rfl,_,_,rfl,rfl,_,_,rfl,(aw (n:=1) (by decide)),fun t ht=>?_⟩
   obtain ⟨n,en,hn⟩:=oU (n:=plS st) hmo
   rw [en]
   have s5:aF H4 (upd H4 t (.tup [.int (n:Int)])):=aF.new ht
   have f5:(upd H4 t (.tup [.int (n:Int)])) t=some (.tup [.int (n:Int)]):=af
   generalize upd H4 t (.tup [.int (n:Int)])=H5 at s5 f5 ⊢
   have f4:H4 c1=some (.tup [.str st.hd]):=by
    rw [f4,show (1:Int)=((1:Nat):Int) from rfl,iy]
    rfl
   refine ⟨c1,t,_,_,rfl,rfl,s5 _ _ f4,f5,(aw (n:=2) (by decide)),fun c2 H6 s6 f6=>?_⟩
   refine ⟨_,rfl,_,rfl,p,_,rfl,s6 _ _ (s5 _ _ p4),fun c3 H7 s7 f7=>?_⟩
   have f7:H7 c3=some (.tup (rsS st)):=by
    rw [f7,show (2:Int)=((2:Nat):Int) from rfl,js]
    rfl
   have rl:(rsS st).length≤2:=by cases st <;> simp [rsS]
   refine ⟨c2,c3,_,_,rfl,rfl,s7 _ _ f6,f7,(by show 2+_≤sizeLine;omega),fun c4 H8 s8 f8=>?_⟩
   have f8:H8 c4=some (.tup (.str st.hd :: .int (n:Int)::rsS st)):=f8
   have s38:=(((s4.trans s5).trans s6).trans s7).trans s8
   have F8:=F3.same s38
   have Ii:=Ho.trans s38.b
   clear s4 s5 s6 s7 s8 s38 f4 f5 f6 f7 p4
   have skn:∀ n',n'≤plS st+1→Sk (atS st n'):=fun n' h'=>by
    have g:plS st≤2000:=by
     cases st with
     | out _=>exact HW
     | inn _ _=>exact HW
     | rng _ _ _=>exact HW.1
    cases st with
    | out _=>show n'≤5000;omega
    | inn _ _=>show n'≤5000;omega
    | rng _ u m =>
     have h2:u∈trn R:=HW.2.1
     have h3:m≤400:=HW.2.2
     have:=tw u h2
     exact ⟨by omega,by omega,by omega⟩
   have fin:Q (.ref c4) H8:=k c4 (atS st n) _ (by rw [f8,Ao]) (skn n hn) F8 Ii
   refine ⟨_,rfl,c4,_,_,_,rfl,rfl,SqT.of f8,at0 _ _,rfl,_,rfl,?_⟩
   cases st with
   | out m=>exact bO (show decide (V.str "out" = V.str "in")=false by decide +kernel) (iG ⟨_,rfl,fin⟩)
   | rng m u mm=>exact bO (show decide (V.str "ring" = V.str "in")=false by decide +kernel) (iG ⟨_,rfl,fin⟩)
   | inn m x =>
    refine bY (show decide (V.str "in" = V.str "in")=true by decide +kernel) ⟨_,rfl,rfl,_,rfl,eI (fun _=>?_) (fun _=>⟨_,rfl,fin⟩)⟩
    refine ⟨_,rfl,_,rfl,c4,_,rfl,f8,fun c5 H9 s9 f9=>?_⟩
    have f9:H9 c5=some (.tup [.str "in",.int (n:Int)]):=by
     rw [f9,show (2:Int)=((2:Nat):Int) from rfl,iy]
     rfl
    have F9:=F8.same s9
    refine ⟨_,rfl,d,_,rfl,F9,by decide,by decide,fun q2 H10 q20 q21 F10 sb10=>?_⟩
    obtain ⟨y,hy⟩:=yM q20 q21
    refine ⟨_,_,_,rfl,rfl,(aw (n:=10) (by decide)),hy,(aw (n:=1) (by decide)),fun t2 ht2=>?_⟩
    have s11:aF H10 (upd H10 t2 (.tup [tx [y]])):=aF.new ht2
    refine ⟨c5,t2,_,_,rfl,rfl,s11 _ _ (sb10 _ _ (F9.neT f9) f9),af,(aw (n:=3) (by decide)),fun c6 H12 s12 f12=>?_⟩
    exact k c6 (.inn n y) _ f12 (skn n hn) ((F10.same s11).same s12) ((((Ii.trans s9.b).trans sb10).trans s11.b).trans s12.b)
  ·cases st with
   | out _=>exact absurd (show (!decide (V.str "out" = V.str "ring"))=false from hb) (by decide +kernel)
   | inn _ _=>exact absurd (show (!decide (V.str "in" = V.str "ring"))=false from hb) (by decide +kernel)
   | rng n u m =>
    obtain ⟨hn,hu,hm⟩:n≤2000∧u∈trn R∧m≤400:=HW
    have ul:=tw u hu
    refine ⟨_,rfl,d,_,rfl,F2,by decide,by decide,fun q3 H3 _ _ F3 Ho=>⟨rfl,_,rfl,?_⟩⟩
    have p3:=Ho _ _ (F2.neT hp2) hp2
    have l3:=Ho _ _ nld l2
    have Ho:=Hf.trans Ho
    refine eI (fun _=>body _ ⟨F3,Ho,p3⟩) (fun _=>?_)
    clear body
    have p3:H3 p=some (.tup [.str "ring",.int (n:Int),tx u,.int (m:Int)]):=p3
    refine ⟨_,rfl,d,_,rfl,F3,by decide,by decide,fun q4 H4 _ _ F4 Hh=>⟨rfl,_,rfl,?_⟩⟩
    have p4:=Hh _ _ (F3.neT p3) p3
    have l4:=Hh _ _ nld l3
    have Hh:=Ho.trans Hh
    refine eI (fun _=>?_) (fun _=>?_)
    ·refine ⟨_,rfl,_,rfl,p,_,rfl,p4,fun c1 H5 s5 f5=>?_⟩
     have f5:H5 c1=some (.tup [.str "ring",.int (n:Int),tx u]):=by
      rw [f5,show (3:Int)=((3:Nat):Int) from rfl,iy]
      rfl
     refine ⟨_,rfl,p,_,_,_,rfl,rfl,SqT.of (s5 _ _ p4),at3 _ _ _ _ _,_,rfl,_,_,rfl,rfl,_,_,rfl,(aw (n:=1) (by decide)),fun t ht=>?_⟩
     obtain ⟨m',em,hm'⟩:=oU (n:=m) hmo
     rw [em]
     have s6:aF H5 (upd H5 t (.tup [.int (m':Int)])):=aF.new ht
     refine ⟨c1,t,_,_,rfl,rfl,s6 _ _ f5,af,(aw (n:=4) (by decide)),fun c2 H7 s7 f7=>?_⟩
     exact k c2 (.rng n u m') _ f7 ⟨by omega,by omega,by omega⟩ (((F4.same s5).same s6).same s7) (((Hh.trans s5.b).trans s6.b).trans s7.b)
    ·refine ⟨_,rfl,_,rfl,p,_,rfl,p4,fun c1 H5 s5 f5=>?_⟩
     have f5:H5 c1=some (.tup [.str "ring",.int (n:Int)]):=by
      rw [f5,show (2:Int)=((2:Nat):Int) from rfl,iy]
      rfl
     have l5:=s5 _ _ l4
     have F5:=F4.same s5
     have vp:=FN ((tn.mem u).mpr hu)
     refine ⟨_,rfl,_,rfl,_,rfl,l,_,rfl,.inl (SqL.of l5),d,_,rfl,F5,(by rw [BK];omega),(by rw [BK];omega),fun q5 H6 q50 q51 F6 Ij=>?_⟩
     obtain ⟨y,hy,ey⟩:=tI q50 q51
     refine ⟨l,_,_,_,rfl,rfl,SqL.of (Ij _ _ nld l5),ey,(aw (n:=1) (by decide)),fun t ht=>?_⟩
     have s7:aF H6 (upd H6 t (.tup [tx y])):=aF.new ht
     have f6:=Ij _ _ (F5.neT f5) f5
     have p6:=Ij _ _ (F5.neT (s5 _ _ p4)) (s5 _ _ p4)
     refine ⟨c1,t,_,_,rfl,rfl,s7 _ _ f6,af,(aw (n:=3) (by decide)),fun c2 H8 s8 f8=>?_⟩
     refine ⟨_,rfl,_,rfl,p,_,rfl,s8 _ _ (s7 _ _ p6),fun c3 H9 s9 f9=>?_⟩
     have f9:H9 c3=some (.tup [.int (m:Int)]):=by
      rw [f9,show (3:Int)=((3:Nat):Int) from rfl,js]
      rfl
     refine ⟨c2,c3,_,_,rfl,rfl,s9 _ _ f8,f9,(aw (n:=4) (by decide)),fun c4 H10 s10 f10=>?_⟩
     have yl:=(tn.word hR hy).2
     have sA:=((s7.trans s8).trans s9).trans s10
     exact k c4 (.rng n y m) _ f10 ⟨by omega,by omega,by omega⟩ (F6.same sA) (((Hh.trans s5.b).trans Ij).trans sA.b)
abbrev pM:Stmt:=top 60
theorem wb:aN ["_law_feed_here","_law_known","_law_steps_here","_law_at","_law_way"] ["_law_feed_here","_law_known","_law_steps_here"] (ao pM):=⟨rfl,rfl,rfl,by decide +kernel,rfl,by decide +kernel,by decide +kernel⟩
theorem yS (D:Df K mg "_law_bent" pM)(T:Bt K w mg aB)(G7:Fnc P w K mg base "_law_draw" ["_law_feed_here","_law_many"] 1 cC)(IE:Fnc P w K mg base "_law_other" ["_law_feed_here","_law_known","_law_step"] 2 iw):Fnc P w K mg base "_law_bent" ["_law_feed_here","_law_known","_law_steps_here"] 3 j8:=by
 have sc:=wb
 refine D.ok sc (fun _ _ _ _ _ _ us hl=>by obtain ⟨_,_,_,rfl⟩:=jy hl;rfl) (fun vs H Q E h=>?_) (fun f Hb A outer s H vs Q E hr h=>?_)
 ·obtain ⟨d,l,p,R,Vs,xs,ss,rfl,_⟩:=h
  rfl
 ·obtain ⟨d,l,p,R,Vs,xs,ss,rfl,F0,hl,tn,hR,hp,sr,HW,hn,k⟩:=h
  have Hr:=a9
  have nld:l≠d:=F0.nl hl
  have xl:=sr.length
  refine ⟨_,(Gq (Gx (3) sc.nd rfl (Or.inl rfl) (GR G7 hr (by decide) rfl (GA (pv 0) (GA (Gr aU (Gz aW (by rfl) T.len BP (GA (pv 2) ae)) ai) ae)))) (Gq (Gx (4) sc.nd rfl (Or.inl rfl) (GR G7 hr (by decide) rfl (GA (pv 0) (GA ai ae)))) (Gq (Gv (Gw bj (pv 4) ai (aD _)) (GB (GC (Gr bM (GD bw (pv 2) aJ (GE (pv 3))) (GD bw (pv 2) (GE (Gr aU (pv 3) ai)) aJ)))) aO) (Gq (Gv (Gw bj (pv 4) ai (aD _)) (GB (GC (Gr bM (Gr bM (GD bw (pv 2) aJ (GE (pv 3))) (GD bw (pv 2) (GE (pv 3)) (GE (Gr aU (pv 3) ai)))) (GD bw (pv 2) (GE (pv 3)) aJ)))) aO) (Gq (Gv (Gw bj (pv 4) ai (aD _)) (GB (GC (Gr bM (Gr bM (GD bw (pv 2) aJ (GE (pv 3))) (@vc _ _ _ _ _ _ _ (GD bw (pv 2) (GE (pv 3)) (GE (Gr aU (pv 3) ai))) (@wI _ _ _ _ _ _ sD ai))) (GD bw (pv 2) (GE (Gr aU (pv 3) ai)) aJ)))) aO) (Gq (Gv (Gw bj (pv 3) (Gz aW (by rfl) T.len BP (GA (pv 2) ae)) (aD _)) (GB (GC (Gr bM (pv 2) (G4 (GA (G4 (GA aI (GA ai (GA aI ae)))) ae))))) aO) (GB (GC (Gr bM (Gr bM (GD bw (pv 2) aJ (GE (pv 3))) (G4 (GA (GR IE hr (by decide) rfl (GA (pv 0) (GA (pv 1) (GA (Gy aZ (pv 2) (pv 3) (fun _ _=>rfl)) ae)))) ae))) (GD bw (pv 2) (GE (Gr aU (pv 3) ai)) aJ)))))))))),?_⟩
  refine ⟨_,rfl,_,rfl,p,_,rfl,.inr (SqT.of hp),_,_,rfl,rfl,d,_,rfl,F0,by omega,by omega,fun a H1 a0 a1 F1 Ik=>?_⟩
  have p1:=Ik _ _ (F0.neT hp) hp
  replace sr:=sr.sb F0 Ik
  refine ⟨_,rfl,d,_,rfl,F1,by decide,by decide,fun wy H2 _ _ F2 Hf=>?_⟩
  have p2:=Hf _ _ (F1.neT p1) p1
  replace sr:=sr.sb F1 Hf
  have Hf:=Ik.trans Hf
  have l2:=Hf _ _ nld hl
  obtain ⟨j,rfl⟩:=B9 a0
  have hj:j≤xs.length:=by omega
  refine ⟨_,rfl,rfl,_,rfl,eI (fun _=>?_) (fun _=>?_)⟩
  ·refine ⟨_,rfl,_,rfl,_,rfl,p,_,rfl,p2,fun c1 H3 s3 f3=>?_⟩
   refine ⟨_,rfl,_,rfl,_,_,rfl,rfl,_,rfl,p,_,rfl,s3 _ _ p2,fun c2 H4 s4 f4=>?_⟩
   have r4:=(sr.same s3).same s4
   obtain ⟨t1,r1,h1,_⟩:=r4.cut none (some ((j:Nat):Int))
   obtain ⟨t2,r2,h2,_⟩:=r4.cut (some ((j:Nat)+1:Int)) none
   have e1:=r1.length
   have e2:=r2.length
   refine ⟨c1,c2,_,_,rfl,rfl,s4 _ _ f3,f4,by omega,fun c3 H5 s5 f5=>?_⟩
   exact k c3 _ _ _ f5 ((r1.app r2).same s5) (by rw [BB];omega) (((F2.same s3).same s4).same s5) (((Hf.trans s3.b).trans s4.b).trans s5.b)
  refine ⟨_,rfl,rfl,_,rfl,eI (fun _=>?_) (fun _=>?_)⟩
  ·refine ⟨_,rfl,_,rfl,_,rfl,p,_,rfl,p2,fun c1 H3 s3 f3=>?_⟩
   refine ⟨_,rfl,_,rfl,_,rfl,_,rfl,_,_,rfl,rfl,_,rfl,p,_,rfl,s3 _ _ p2,fun c2 H4 s4 f4=>?_⟩
   have s34:=s3.trans s4
   have r4:=sr.same s34
   obtain ⟨t1,r1,h1,_⟩:=r4.cut none (some ((j:Nat):Int))
   obtain ⟨t2,r2,h2,_⟩:=r4.cut (some ((j:Nat):Int)) (some ((j:Nat)+1:Int))
   obtain ⟨t3,r3,h3,_⟩:=r4.cut (some ((j:Nat):Int)) none
   have e1:=r1.length
   have e2:=r2.length
   have e3:=r3.length
   refine ⟨c1,c2,_,_,rfl,rfl,s4 _ _ f3,f4,by omega,fun c3 H5 s5 f5=>?_⟩
   refine ⟨_,rfl,_,rfl,_,rfl,p,_,rfl,s5 _ _ (s34 _ _ p2),fun c4 H6 s6 f6=>?_⟩
   refine ⟨c3,c4,_,_,rfl,rfl,s6 _ _ f5,f6,by rw [BB];omega,fun c5 H7 s7 f7=>?_⟩
   have sA:=(s5.trans s6).trans s7
   exact k c5 _ _ _ f7 (((r1.app r2).app r3).same sA) (by rw [BB,BB];omega) ((F2.same s34).same sA) ((Hf.trans s34.b).trans sA.b)
  refine ⟨_,rfl,rfl,_,rfl,eI (fun _=>?_) (fun _=>?_)⟩
  ·refine ⟨_,rfl,_,rfl,_,rfl,p,_,rfl,p2,fun c1 H3 s3 f3=>?_⟩
   refine ⟨_,rfl,_,rfl,_,rfl,_,rfl,_,_,rfl,rfl,_,rfl,p,_,rfl,s3 _ _ p2,fun c2 H4 s4 f4=>?_⟩
   refine ⟨_,rfl,c2,_,rfl,rfl,f4,fun c3 hc3=>?_⟩
   have s34:=(s3.trans s4).then (o:=.tup (eG xs (some ((j:Nat):Int)) (some ((j:Nat)+2:Int))).reverse) hc3
   have g1:=aF.new (o:=.tup (eG xs (some ((j:Nat):Int)) (some ((j:Nat)+2:Int))).reverse) hc3 _ _ (s4 _ _ f3)
   have g3:(upd H4 c3 (.tup (eG xs (some ((j:Nat):Int)) (some ((j:Nat)+2:Int))).reverse)) c3=some (.tup (eG xs (some ((j:Nat):Int)) (some ((j:Nat)+2:Int))).reverse):=af
   generalize upd H4 c3 (.tup (eG xs (some ((j:Nat):Int)) (some ((j:Nat)+2:Int))).reverse)=H5 at s34 g1 g3 ⊢
   have r4:=sr.same s34
   obtain ⟨t1,r1,h1,_⟩:=r4.cut none (some ((j:Nat):Int))
   obtain ⟨t2,r2,h2,_⟩:=r4.cut (some ((j:Nat):Int)) (some ((j:Nat)+2:Int))
   obtain ⟨t3,r3,h3,_⟩:=r4.cut (some ((j:Nat)+2:Int)) none
   replace r2:=r2.rev
   have h2':t2.reverse.length≤ss.length:=by rw [Ed];exact h2
   have e1:=r1.length
   have e2:=r2.length
   have e3:=r3.length
   refine ⟨c1,c3,_,_,rfl,rfl,g1,g3,by omega,fun c4 H6 s6 f6=>?_⟩
   refine ⟨_,rfl,_,rfl,_,_,rfl,rfl,_,rfl,p,_,rfl,s6 _ _ (s34 _ _ p2),fun c5 H7 s7 f7=>?_⟩
   refine ⟨c4,c5,_,_,rfl,rfl,s7 _ _ f6,f7,by rw [BB];omega,fun c6 H8 s8 f8=>?_⟩
   have sA:=(s6.trans s7).trans s8
   exact k c6 _ _ _ f8 (((r1.app r2).app r3).same sA) (by rw [BB,BB];omega) ((F2.same s34).same sA) ((Hf.trans s34.b).trans sA.b)
  refine ⟨_,rfl,_,rfl,p,_,rfl,.inr (SqT.of p2),rfl,_,rfl,eI (fun _=>?_) (fun Hj=>?_)⟩
  ·refine ⟨_,rfl,(aw (n:=3) (by decide)),fun t ht=>?_⟩
   have s3:aF H2 (upd H2 t (.tup [.str "in",.int 0,.str "a"])):=aF.new ht
   have f3:(upd H2 t (.tup [.str "in",.int 0,.str "a"])) t=some (.tup (Stp.inn 0 0).vs):=by
    rw [af,show V.str "a" = tx [0] from Ci V.str ve]
    rfl
   generalize upd H2 t (.tup [.str "in",.int 0,.str "a"])=H3 at s3 f3 ⊢
   refine ⟨(aw (n:=1) (by decide)),fun t2 ht2=>?_⟩
   have s4:aF H3 (upd H3 t2 (.tup [.ref t])):=aF.new ht2
   refine ⟨p,t2,_,_,rfl,rfl,s4 _ _ (s3 _ _ p2),af,(by show _+1≤sizeLine;omega),fun c1 H5 s5 f5=>?_⟩
   have sA:=(s3.trans s4).trans s5
   exact k c1 _ (ss++[.inn 0 0]) _ f5 ((sr.same sA).snoc (s:=.inn 0 0) (s5 _ _ (s4 _ _ f3)) (show 0≤5000 by decide)) (by rw [BB];simp;omega) (F2.same sA) (Hf.trans sA.b)
  ·have hj':j < xs.length:=by
    rcases Nat.lt_or_ge j xs.length with h | h
    ·exact h
    ·exact absurd (BM (by rw [show j=xs.length by omega])) Hj
   obtain ⟨b,st,eb,Hs,fb,hk⟩:=sr.get (BC hj')
   refine ⟨_,rfl,_,rfl,_,rfl,p,_,rfl,p2,fun c1 H3 s3 f3=>?_⟩
   have F3:=F2.same s3
   have p3:=s3 _ _ p2
   refine ⟨_,rfl,_,rfl,_,rfl,_,rfl,p,_,_,_,rfl,rfl,SqT.of p3,bL (by rw [BC hj',eb]),d,l,b,R,Vs,st,rfl,F3,s3 _ _ l2,tn,hR,s3 _ _ fb,HW st (B8 Hs),fun q t H4 f4 hsk F4 Hh=>?_⟩
   refine ⟨(aw (n:=1) (by decide)),fun t2 ht2=>?_⟩
   have s5:aF H4 (upd H4 t2 (.tup [.ref q])):=aF.new ht2
   have f5:(upd H4 t2 (.tup [.ref q])) t2=some (.tup [.ref q]):=af
   generalize upd H4 t2 (.tup [.ref q])=H5 at s5 f5 ⊢
   have r5:=((sr.same s3).sb F3 Hh).same s5
   have g3:=s5 _ _ (Hh _ _ (F3.neT f3) f3)
   have p5:=s5 _ _ (Hh _ _ (F3.neT p3) p3)
   obtain ⟨t1,r1,h1,_⟩:=r5.cut none (some ((j:Nat):Int))
   obtain ⟨t3,r3,h3,_⟩:=r5.cut (some ((j:Nat)+1:Int)) none
   have rq:bP H5 [.ref q] [t]:=.cons (s5 _ _ f4) hsk .nil
   have e1:=r1.length
   have e3:=r3.length
   refine ⟨c1,t2,_,_,rfl,rfl,g3,f5,(by show _+1≤sizeLine;omega),fun c4 H6 s6 f6=>?_⟩
   refine ⟨_,rfl,_,rfl,_,_,rfl,rfl,_,rfl,p,_,rfl,s6 _ _ p5,fun c5 H7 s7 f7=>?_⟩
   refine ⟨c4,c5,_,_,rfl,rfl,s7 _ _ f6,f7,(by rw [BB];show _+1+_≤sizeLine;omega),fun c6 H8 s8 f8=>?_⟩
   have sA:=(s6.trans s7).trans s8
   exact k c6 _ _ _ f8 (((r1.app rq).app r3).same sA) (by rw [BB,BB];show _+1+_≤2000;omega) ((F4.same s5).same sA) (((Hf.trans s3.b).trans Hh).trans (s5.trans sA).b)
abbrev kn:Stmt:=top 61
theorem sq:aN ["_law_ring","_law_known","_law_many","_law_steps_here"] [] (ao kn):=⟨rfl,rfl,rfl,by decide +kernel,rfl,by decide +kernel,by decide +kernel⟩
theorem wd (D:Df K mg "_law_great_right" kn)(T:Bt K w mg aB)(G9:Fnc P w K mg base "_law_back" ["_law_word"] 1 i8)(Hm:Fnc P w K mg base "_law_turns_of" ["_law_rings_here"] 2 de)(HI:Fnc P w K mg base "_law_told" ["_law_rings_here","_law_word","_law_thing"] 8 ir)(Iy:Fnc P w K mg base "_law_due" ["_law_known","_law_word","_law_steps_here"] 4 lH):Fnc P w K mg base "_law_great_right" [] 9 ix:=by
 have sc:=sq
 refine D.ok sc (fun _ _ _ _ _ _ us hl=>by obtain ⟨rfl⟩:=Bw hl;rfl) (fun vs H Q E h=>?_) (fun f Hb A outer s H vs Q E hr h=>?_)
 ·obtain ⟨rfl,_⟩:=h
  rfl
 ·obtain ⟨rfl,k⟩:=h
  have Hr:=a9
  refine ⟨_,(Gq (Gx (0) sc.nd rfl (Or.inl rfl) (Gr bt aI ai)) (Gq (Gx (1) sc.nd rfl (Or.inl rfl) (GR Hm hr (by decide) rfl (GA (G4 (GA (pv 0) ae)) ae))) (Gq (GU Ce rfl (@gq _ _ _ _ (G4 (GA ai (GA ai (GA ai ae))))) (GK (2) sc.nd rfl (Or.inl rfl)) (Gq (Gx (3) sc.nd rfl (Or.inl rfl) (Gr bM (Gr oP (G4 (GA (G4 (GA aI (GA ai (GA (pv 0) (GA ai ae))))) ae)) (pv 2)) (Gr oP (G4 (GA (G4 (GA aI (GA ai (GA (GR G9 hr (by decide) rfl (GA (pv 0) ae)) (GA ai ae))))) ae)) (pv 2)))) (GB (Gv (Gw jC (Gz (@cM _ (by exact hr.gd) (by exact hr.units)) (by rfl) T.repr kG (GA (GR HI hr (by decide) rfl (GA (G4 (GA (pv 0) ae)) (GA aI (GA (pv 3) ae)))) ae)) (Gz (@cM _ (by exact hr.gd) (by exact hr.units)) (by rfl) T.repr kG (GA (GR Iy hr (by decide) rfl (GA (pv 1) (GA aI (GA (pv 3) ae)))) ae)) (aD _)) (GB (GC dX)) aO)))) (GB (GC dX))))),?_⟩
  have e40:V.str (Txt.mul (Str.ofString "ab") 40)=tx (rep 40 [0,1]):=by rw [oj,gY];rfl
  have lr:(rep 40 ([0,1]:List L)).length=80:=by rw [cZ];rfl
  refine ⟨_,_,rfl,rfl,(by rw [oj];exact fH _ (by decide) (by decide) (by decide)),?_⟩
  rw [e40]
  generalize rep 40 ([0,1]:List L)=rg at lr
  have Hj:rg≠[]:=fun e=>by rw [e] at lr;exact absurd lr (by decide)
  have hRg:Rgw [rg]:=⟨by simp,fun r hr=>by
   rw [BE] at hr
   subst hr
   exact ⟨Hj,by omega⟩⟩
  refine ⟨_,rfl,(aw (n:=1) (by decide)),fun g1 hg1=>?_⟩
  have s1:aF H (upd H g1 (.tup [tx rg])):=aF.new hg1
  have f1:(upd H g1 (.tup [tx rg])) g1=some (.tup ([rg].map tx)):=af
  generalize upd H g1 (.tup [tx rg])=H1 at s1 f1 ⊢
  refine ⟨g1,[rg],rfl,.inl f1,hRg,fun kl Vs H2 _ oV mV f2 s2=>?_⟩
  replace s2:=s1.trans s2
  refine ⟨(aw (n:=3) (by decide)),fun pt hpt=>⟨pt,rfl,⟨_,SqT.of af⟩,?_⟩⟩
  have s3:aF H2 (upd H2 pt (.tup [.int 24,.int 25,.int 26])):=aF.new hpt
  refine dz (xs:=[V.int 24,V.int 25,V.int 26]) (fun i σ H'=>∃ b2 b3:Option V,σ = [some (tx rg),some (.ref kl),b2,b3]∧aF H H'∧H' pt=some (.tup [V.int 24,V.int 25,V.int 26])∧H' kl=some (.lst (Vs.map tx))) ⟨none,none,rfl,s2.trans s3,af,s3 _ _ f2⟩ (fun i σ H' _ ⟨_,_,_,_,q,_⟩=>SqT.of q) ?_ ?_
  ·rintro i x σ H4 hx ⟨b2,b3,rfl,s4,f4,k4⟩
   obtain ⟨N,hN1,hN2,rfl⟩:∃ N:Nat,1≤N∧N≤100∧x = .int (N:Int):=by
    match i,hx with
    | 0,hx=>exact ⟨24,by decide,by decide,(BW hx).symm⟩
    | 1,hx=>exact ⟨25,by decide,by decide,(BW hx).symm⟩
    | 2,hx=>exact ⟨26,by decide,by decide,(BW hx).symm⟩
    | i+3,hx=>cases hx
   refine ⟨_,rfl,(aw (n:=4) (by decide)),fun a1 h1=>?_⟩
   have s5:aF H4 (upd H4 a1 (.tup [.str "ring",.int 0,tx rg,.int 0])):=aF.new h1
   have f5:(upd H4 a1 (.tup [.str "ring",.int 0,tx rg,.int 0])) a1=some (.tup (Stp.rng 0 rg 0).vs):=af
   generalize upd H4 a1 (.tup [.str "ring",.int 0,tx rg,.int 0])=H5 at s5 f5 ⊢
   refine ⟨(aw (n:=1) (by decide)),fun a2 h2=>?_⟩
   have s6:aF H5 (upd H5 a2 (.tup [.ref a1])):=aF.new h2
   refine ⟨_,rfl,a2,_,_,rfl,rfl,af,by omega,by omega,fun a3 H6 s7 f7=>?_⟩
   have s46:=(s5.trans s6).trans s7
   have r6:=bP.rep (s7 _ _ (s6 _ _ f5)) (show Sk (.rng 0 rg 0) from ⟨by decide,by omega,by decide⟩) N
   rw [BQ] at f7
   refine ⟨_,rfl,rg,rfl,by omega,fun H7 s8=>?_⟩
   have lb:=bS rg
   refine ⟨(aw (n:=4) (by decide)),fun a4 h4=>?_⟩
   have s9:aF H7 (upd H7 a4 (.tup [.str "ring",.int 0,tx (bk rg),.int 80])):=aF.new h4
   have f9:(upd H7 a4 (.tup [.str "ring",.int 0,tx (bk rg),.int 80])) a4=some (.tup (Stp.rng 0 (bk rg) 80).vs):=af
   generalize upd H7 a4 (.tup [.str "ring",.int 0,tx (bk rg),.int 80])=H8 at s9 f9 ⊢
   refine ⟨(aw (n:=1) (by decide)),fun a5 h5=>?_⟩
   have s10:aF H8 (upd H8 a5 (.tup [.ref a4])):=aF.new h5
   refine ⟨_,rfl,a5,_,_,rfl,rfl,af,by omega,by omega,fun a6 H9 s11 f11=>?_⟩
   rw [BQ] at f11
   have r9:=bP.rep (s11 _ _ (s10 _ _ f9)) (show Sk (.rng 0 (bk rg) 80) from ⟨by decide,by omega,by decide⟩) N
   have s69:=((s8.trans s9).trans s10).trans s11
   have rr:=(r6.same s69).app r9
   have rl:(List.replicate N (Stp.rng 0 rg 0)++List.replicate N (Stp.rng 0 (bk rg) 80)).length≤2000:=by rw [BB,C5,C5];omega
   refine ⟨a3,a6,_,_,rfl,rfl,s69 _ _ f7,f11,(by rw [C5,C5];omega),fun a7 H10 s12 f12=>?_⟩
   generalize List.replicate N (Stp.rng 0 rg 0)++List.replicate N (Stp.rng 0 (bk rg) 80)=sa at rr rl
   generalize List.replicate N (V.ref a1)++List.replicate N (V.ref a4)=ya at rr f12
   have s410:=(s46.trans s69).trans s12
   replace rr:=rr.same s12
   refine ⟨_,rfl,(aw (n:=1) (by decide)),fun g2 hg2=>?_⟩
   have s13:aF H10 (upd H10 g2 (.tup [tx rg])):=aF.new hg2
   have f13:(upd H10 g2 (.tup [tx rg])) g2=some (.tup ([rg].map tx)):=af
   generalize upd H10 g2 (.tup [tx rg])=H11 at s13 f13 ⊢
   obtain ⟨sh,nt⟩:=tG (R:=[rg]) (w:=[]) (ss:=sa) (by decide) rl
   refine ⟨_,rfl,g2,a7,[rg],[],ya,sa,(by rw [dN];rfl),f13,hRg.rg,by decide,s13 _ _ f12,rr.same s13,rl,fun x H12 dx s14=>?_⟩
   refine ⟨x,_,rfl,dx,sh,nt,?_⟩
   have sA:=s13.trans s14
   refine ⟨_,rfl,_,rfl,kl,a7,[rg],Vs,[],ya,sa,(by rw [dN];rfl),sA _ _ (s410 _ _ k4),mV,by decide,sA _ _ f12,rr.same sA,rl,fun y H13 dy s15=>?_⟩
   have sB:=(s410.trans sA).trans s15
   exact ⟨y,_,rfl,dy,sh,nt,rfl,_,rfl,bO (by simp) ⟨_,_,rfl,s4.trans sB,sB _ _ f4,sB _ _ k4⟩⟩
  ·rintro σ H4 ⟨b2,b3,rfl,s4,f4,k4⟩
   exact k _ s4
end
inductive pN (K:PySem.W.Frag)(vs:List V)(H:Hp)(Q:VK)(Hc:XK):Prop
 | mk:∀ (a:Addr) (ns:List Int),(vs=[.ref a])→(SqL K H a (ns.map V.int))→(ns.length≤63)→(∀ H',Q (.bl true) H')→pN K vs H Q Hc
section
variable {P:Program} {w:World} {K:PySem.W.Frag} {mg:Str→Option Value} {base:Heap} {aB:Addr}
theorem ifJ {c:Prop}[Decidable c]{ta tb:TE}{σ:L2.St}{H:Hp}{Q:VK}(ok:V→Hp→Prop)(main:∀ x H',ok x H'→Q x H')(hA:(∀ x H',ok x H'→Q x H')→ta σ H Q)(hB:(∀ x H',ok x H'→Q x H')→tb σ H Q):if c then ta σ H Q else tb σ H Q:=by
 by_cases h:c
 ·rw [if_pos h];exact hA main
 ·rw [if_neg h];exact hB main
theorem By {c c2:Prop}[Decidable c][Decidable c2]{A B:Prop}{D:eQ}{σ:L2.St}{H0:Hp}(ok:Hp→Prop)(h2:¬ c2)(oB:ok H0)(main:∀ H,ok H→D.nx σ H)(hA:(∀ H,ok H→D.nx σ H)→A):if c then A else (if c2 then B else tK D σ H0):=by
 by_cases h:c
 ·rw [if_pos h];exact hA main
 ·rw [if_neg h,if_neg h2];exact main _ oB
abbrev jv:Stmt:=top 62
theorem yT:aN ["_law_script","_law_feed_here","_law_k","_law_rings_here","_law_known","_law_word","_law_steps_here","_law_papers","_law_paper","_law_one"] ["_law_script"] (ao jv):=⟨rfl,rfl,rfl,by decide +kernel,rfl,by decide +kernel,by decide +kernel⟩
theorem Ax {f:Addr}{fd:FuncData}(D:Fun K "law" "law" jv f fd)(T:Bt K w mg aB)(F_feed:Fnc P w K mg base "_law_feed" ["_law_script"] 1 (nz K))(G7:Fnc P w K mg base "_law_draw" ["_law_feed_here","_law_many"] 1 cC)(G9:Fnc P w K mg base "_law_back" ["_law_word"] 1 i8)(He:Fnc P w K mg base "_law_some" ["_law_feed_here","_law_many","_law_most"] 2 dF)(IF:Fnc P w K mg base "_law_thin" ["_law_feed_here"] 4 jU)(Ih:Fnc P w K mg base "_law_rings" ["_law_feed_here","_law_most"] 4 ia)(Hm:Fnc P w K mg base "_law_turns_of" ["_law_rings_here"] 2 c8)(F_made:Fnc P w K mg base "_law_made" ["_law_feed_here","_law_rings_here","_law_most"] 3 iz)(II:Fnc P w K mg base "_law_drawn" ["_law_feed_here","_law_many","_law_most"] 3 jL)
  (Ig:Fnc P w K mg base "_law_steps" ["_law_feed_here","_law_known","_law_word"] 3 iu) (F_bent:Fnc P w K mg base "_law_bent" ["_law_feed_here","_law_known","_law_steps_here"] 3 j8) (HI:Fnc P w K mg base "_law_told" ["_law_rings_here","_law_word","_law_thing"] 8 ir) (Iy:Fnc P w K mg base "_law_due" ["_law_known","_law_word","_law_steps_here"] 4 lH) (IH:Fnc P w K mg base "_law_great_right" [] 9 ix):fZ P w K mg base CX0 10 f fd ["_law_script"] (pN K):=by
 have sc:=yT
 refine D.ok sc (fun vs H Q E h=>?_) (fun Hb A outer s H vs Q E hr h=>?_)
 ·obtain ⟨a,ns,rfl,_⟩:=h
  rfl
 ·obtain ⟨a,ns,rfl,hS,hlen,k⟩:=h
  have Hr:=a9
  refine ⟨_,(@ag _ _ _ _ _ (@aC _ _ (1) _ _ _ _ sc.nd rfl (Or.inr rfl) (@aG _ _ _ _ _ _ _ _ _ _ _ F_feed hr (by decide) rfl (@aa _ _ _ _ _ (pv 0) ae (by rfl)) (by decide) (by rfl) (by rfl)) (by rfl) (by first | exact .inl rfl | exact .inr rfl | assumption)) (@ag _ _ _ _ _ (@bf _ _ _ _ _ _ _ _ (@PW.pt _ _ _ (@cS _ _ _ _ _ _ _ (@aq _ _ _ _ _ _ _ _ bj (@aG _ _ _ _ _ _ _ _ _ _ _ G7 hr (by decide) rfl (@aa _ _ _ _ _ (pv 1) (@aa _ _ _ _ _ ai ae (by rfl)) (by rfl)) (by decide) (by rfl) (by rfl)) ai (aD _)) (@cw _ _ _ _ (@eE _ _ _ _ (@bV _ _ _ (@xv _ _ _ _ _ _ _ IH hr (by decide) rfl (by decide)) (fun _=>rfl)))))) (@aj _ _ _ (@aK _ _ _ _ dX)) aO) (@ag _ _ _ _ _ (@bN _ _ _ _ _ _ _ _ Ce rfl (@bq _ _ _ _ _ _ rfl T.range (@aa _ _ _ _ _ ai ae (by rfl)) (by rfl)) (@aX _ _ (2) _ sc.nd rfl (Or.inl rfl) (by first | exact .inl rfl | exact .inr rfl | assumption)) (@ag _ _ _ _ _ (@aC _ _ (3) _ _ _ _ sc.nd rfl (Or.inl rfl) (@bp _ _ _ _ _ _ _ _ (@aq _ _ _ _ _ _ _ _ gc (@aG _ _ _ _ _ _ _ _ _ _ _ G7 hr (by decide) rfl (@aa _ _ _ _ _ (pv 1) (@aa _ _ _ _ _ ai ae (by rfl)) (by rfl)) (by decide) (by rfl) (by rfl)) ai (aD _)) (@aG _ _ _ _ _ _ _ _ _ _ _ IF hr (by decide) rfl (@aa _ _ _ _ _ (pv 1) ae (by rfl)) (by decide) (by rfl) (by rfl)) (@aG _ _ _ _ _ _ _ _ _ _ _ Ih hr (by decide) rfl (@aa _ _ _ _ _ (pv 1) (@aa _ _ _ _ _ ai ae (by rfl)) (by rfl)) (by decide) (by rfl) (by rfl))) (by rfl) (by first | exact .inl rfl | exact .inr rfl | assumption)) (@ag _ _ _ _ _ (@aC _ _ (4) _ _ _ _ sc.nd rfl (Or.inr rfl) (@aG _ _ _ _ _ _ _ _ _ _ _ Hm hr (by decide) rfl (@aa _ _ _ _ _ (pv 3) ae (by rfl)) (by decide) (by rfl) (by rfl)) (by rfl) (by first | exact .inl rfl | exact .inr rfl | assumption)) (@ag _ _ _ _ _ (@aC _ _ (5) _ _ _ _ sc.nd rfl (Or.inl rfl) (@bp _ _ _ _ _ _ _ _ (@aq _ _ _ _ _ _ _ _ gc (@aG _ _ _ _ _ _ _ _ _ _ _ G7 hr (by decide) rfl (@aa _ _ _ _ _ (pv 1) (@aa _ _ _ _ _ ai ae (by rfl)) (by rfl)) (by decide) (by rfl) (by rfl)) ai (aD _)) (@aG _ _ _ _ _ _ _ _ _ _ _ F_made hr (by decide) rfl (@aa _ _ _ _ _ (pv 1) (@aa _ _ _ _ _ (pv 3) (@aa _ _ _ _ _ ai ae (by rfl)) (by rfl)) (by rfl)) (by decide) (by rfl) (by rfl)) (@aG _ _ _ _ _ _ _ _ _ _ _ II hr (by decide) rfl (@aa _ _ _ _ _ (pv 1) (@aa _ _ _ _ _ ai (@aa _ _ _ _ _ ai ae (by rfl)) (by rfl)) (by rfl)) (by decide) (by rfl) (by rfl))) (by rfl) (by first | exact .inl rfl | exact .inr rfl | assumption)) (@ag _ _ _ _ _ (@aC _ _ (6) _ _ _ _ sc.nd rfl (Or.inr rfl) (@aV _ _ _ _ _ _ _ aZ (@aG _ _ _ _ _ _ _ _ _ _ _ Ig hr (by decide) rfl (@aa _ _ _ _ _ (pv 1) (@aa _ _ _ _ _ (pv 4) (@aa _ _ _ _ _ (pv 5) ae (by rfl)) (by rfl)) (by rfl)) (by decide) (by rfl) (by rfl)) ai (fun _ _=>rfl)) (by rfl) (by first | exact .inl rfl | exact .inr rfl | assumption)) (@ag _ _ _ _ _ (@aC _ _ (7) _ _ _ _ sc.nd rfl (Or.inl rfl) (@ax _ _ _ _ _ _ _ _ mM (@br _ _ _ _ (@aa _ _ _ _ _ (pv 6) (@aa _ _ _ _ _ (@a8 _ _ _ _ _ ae) ae (by rfl)) (by rfl))) (@d3 _ _ _ _ _ _ _ (["_law_j","_law_feed_here","_law_known","_law_steps_here"]) (["_law_j"]) ([1,4,6]) _ _ _ _ (@cP _ _ _ _ _ _ rfl (by kernel_rfl)) rfl (@bq _ _ _ _ _ _ rfl T.range (@aa _ _ _ _ _ ai ae (by rfl)) (by rfl)) (fun _ _ _ _=>@aX _ _ (0) _ (show (["_law_j","_law_feed_here","_law_known","_law_steps_here"]:List Str).Nodup from by decide +kernel) rfl (Or.inl rfl) (by first | exact .inl rfl | exact .inr rfl | assumption)) (fun _ _ _ _=>cu) (fun _ _ _ _=>by (exact (@aG _ _ _ _ _ _ _ _ _ _ _ F_bent hr (by decide) rfl (@aa _ _ _ _ _ (pv 1) (@aa _ _ _ _ _ (pv 2) (@aa _ _ _ _ _ (pv 3) ae (by rfl)) (by rfl)) (by rfl)) (by decide) (by rfl) (by rfl)))) (by intro _ ;rfl))) (by rfl) (by first | exact .inl rfl | exact .inr rfl | assumption)) (@aj _ _ _ (@bN _ _ _ _ _ _ _ _ Ce rfl (@dw _ _ _ _ (pv 7)) (@aX _ _ (8) _ sc.nd rfl (Or.inl rfl) (by first | exact .inl rfl | exact .inr rfl | assumption)) (@aj _ _ _ (@bN _ _ _ _ _ _ _ _ Ce rfl (@gq _ _ _ _ (@a8 _ _ _ _ _ (@aa _ _ _ _ _ (pv 5) (@aa _ _ _ _ _ (@aG _ _ _ _ _ _ _ _ _ _ _ G9 hr (by decide) rfl (@aa _ _ _ _ _ (pv 5) ae (by rfl)) (by decide) (by rfl) (by rfl)) (@aa _ _ _ _ _ (@aG _ _ _ _ _ _ _ _ _ _ _ He hr (by decide) rfl (@aa _ _ _ _ _ (pv 1) (@aa _ _ _ _ _ ai (@aa _ _ _ _ _ ai ae (by rfl)) (by rfl)) (by rfl)) (by decide) (by rfl) (by rfl)) ae (by rfl)) (by rfl)) (by rfl)))) (@aX _ _ (9) _ sc.nd rfl (Or.inl rfl) (by first | exact .inl rfl | exact .inr rfl | assumption)) (@aj _ _ _ (@bf _ _ _ _ _ _ _ _ (@aq _ _ _ _ _ _ _ _ jC (@ak _ _ _ _ _ _ _ _ _ (@cM _ (by exact hr.gd) (by exact hr.units)) (by rfl) T.repr kG (@aa _ _ _ _ _ (@aG _ _ _ _ _ _ _ _ _ _ _ HI hr (by decide) rfl (@aa _ _ _ _ _ (pv 3) (@aa _ _ _ _ _ (pv 9) (@aa _ _ _ _ _ (pv 8) ae (by rfl)) (by rfl)) (by rfl)) (by decide) (by rfl) (by rfl)) ae (by rfl)) (by decide) (by decide) (by rfl) (by rfl)) (@ak _ _ _ _ _ _ _ _ _ (@cM _ (by exact hr.gd) (by exact hr.units)) (by rfl) T.repr kG (@aa _ _ _ _ _ (@aG _ _ _ _ _ _ _ _ _ _ _ Iy hr (by decide) rfl (@aa _ _ _ _ _ (pv 4) (@aa _ _ _ _ _ (pv 9) (@aa _ _ _ _ _ (pv 8) ae (by rfl)) (by rfl)) (by rfl)) (by decide) (by rfl) (by rfl)) ae (by rfl)) (by decide) (by decide) (by rfl) (by rfl)) (aD _)) (@aj _ _ _ (@aK _ _ _ _ dX)) aO)) (by intro _ ;rfl))) (by intro _ ;rfl)))))))) (by intro _ ;rfl)) (@aj _ _ _ (@aK _ _ _ _ dX))))),?_⟩
  refine ⟨_,rfl,a,ns,rfl,hS,hlen,fun d G0 _ F0 _=>?_⟩
  refine ⟨_,rfl,d,_,rfl,F0,by decide,by decide,fun r0 G1 _ _ F1 Ik=>⟨rfl,_,rfl,?_⟩⟩
  refine By (fun H'=>Fd H' d) (by decide) F1 ?_ (fun main=>⟨rfl,fun G2 s2=>⟨_,rfl,tD (main G2 (F1.same s2))⟩⟩)
  clear F1 F0 Ik
  intro G3 F0
  refine ⟨_,rfl,by decide,by decide,bQ (lo:=0) (n:=2) (fun i σ H'=>∃ (b2 b3 b4 b5 b6 b7 b8 b9:Option V),σ = [some (.ref a),some (.ref d),b2,b3,b4,b5,b6,b7,b8,b9]∧Fd H' d) ⟨none,none,none,none,none,none,none,none,rfl,F0⟩ ?_ ?_⟩
  rotate_left
  ·rintro σ H1 ⟨b2,b3,b4,b5,b6,b7,b8,b9,rfl,F1⟩
   exact k H1
  rintro i σ H1 hi ⟨b2,b3,b4,b5,b6,b7,b8,b9,rfl,F1⟩
  refine ⟨_,rfl,d,_,rfl,F1,by decide,by decide,fun r H2 r0 r1 F2 Hf=>⟨_,_,rfl,rfl,_,rfl,?_⟩⟩
  refine ifJ (fun x H'=>∃ (q:Addr) (R:List (List L)),x = .ref q∧Rgs R∧(∀ r∈R,r.length≤40)∧H' q=some (.tup (R.map tx))∧Fd H' d) ?_ (fun main=>?_) (fun main=>?_)
  rotate_left
  ·exact ⟨_,rfl,d,rfl,F2,fun q R H3 hR h40 _ hq F3 Ho=>main _ _ ⟨q,R,rfl,hR,h40,hq,F3⟩⟩
  ·exact ⟨_,rfl,d,6,rfl,F2,by decide,fun q R H3 hR h40 _ hq F3 Ho=>main _ _ ⟨q,R,rfl,hR,h40,hq,F3⟩⟩
  rintro x H3 ⟨q,R,rfl,hR,h40,q3,F3⟩
  refine ⟨_,rfl,q,R,rfl,.inl q3,hR,fun l Vs H4 hl oV mV l4 s4=>?_⟩
  have tn:Tn R Vs:=⟨oV,mV⟩
  have F4:=F3.same s4
  have q4:=s4 _ _ q3
  refine ⟨_,rfl,d,_,rfl,F4,by decide,by decide,fun r5 H5 _ _ F5 Hu=>⟨_,_,rfl,rfl,_,rfl,?_⟩⟩
  have q5:=Hu _ _ (F4.neT q4) q4
  have l5:=Hu _ _ (F4.nl l4) l4
  refine ifJ (fun x H'=>∃ w:List L,x=tx w∧w.length≤200∧H' q=some (.tup (R.map tx))∧H' l=some (.lst (Vs.map tx))∧Fd H' d) ?_ (fun main=>?_) (fun main=>?_)
  rotate_left
  ·exact ⟨_,rfl,_,rfl,d,q,R,2,rfl,F5,q5,hR,h40,by decide,by decide,fun u H6 hu F6 Ij=>main _ _ ⟨u,rfl,by omega,Ij _ _ (F5.neT q5) q5,Ij _ _ (F5.nl l5) l5,F6⟩⟩
  ·exact ⟨_,rfl,d,5,24,rfl,F5,by decide,by decide,by decide,by decide,fun u H6 hu F6 Ij=>main _ _ ⟨u,rfl,by omega,Ij _ _ (F5.neT q5) q5,Ij _ _ (F5.nl l5) l5,F6⟩⟩
  rintro x H6 ⟨v,rfl,hv,q6,l6,F6⟩
  refine ⟨_,rfl,_,rfl,_,rfl,d,l,R,Vs,v,rfl,F6,l6,tn,hR,hv,fun t0 p xs ss v' H7 t7 p7 sr HW sl F7 HS=>?_⟩
  have q7:=HS _ _ (F6.neT q6) q6
  have l7:=HS _ _ (F6.nl l6) l6
  refine ⟨t0,_,_,_,rfl,rfl,SqT.of t7,at0 _ _,?_⟩
  refine ⟨_,rfl,(aw (n:=0) (by decide)),fun em hem=>?_⟩
  have s8:aF H7 (upd H7 em (.tup [])):=aF.new hem
  have f8:(upd H7 em (.tup [])) em=some (.tup []):=af
  generalize upd H7 em (.tup [])=H8 at s8 f8 ⊢
  refine ⟨(aw (n:=2) (by decide)),fun z1 hz1=>?_⟩
  have s9:aF H8 (upd H8 z1 (.lst [.ref p,.ref em])):=aF.new hz1
  have f9:(upd H8 z1 (.lst [.ref p,.ref em])) z1=some (.lst [.ref p,.ref em]):=af
  generalize upd H8 z1 (.lst [.ref p,.ref em])=H9 at s9 f9 ⊢
  have s79:=s8.trans s9
  have q9:=s79 _ _ q7
  have l9:=s79 _ _ l7
  have p9:=s79 _ _ p7
  have F9:=F7.same s79
  replace sr:=sr.same s79
  have pp1:Pp H9 (.ref p):=⟨p,xs,ss,rfl,p9,sr,by omega⟩
  have pp2:Pp H9 (.ref em):=⟨em,[],[],rfl,s9 _ _ f8,.nil,by decide⟩
  refine ⟨_,rfl,by decide,by decide,?_⟩
  refine cj (own:=["_law_j"]) (cap:=[1,4,6]) (J:=Itr 0 6) 6 (fun j ys σ H'=>∃ (b:Option V),σ = [b,some (.ref d),some (.ref l),some (.ref p)]∧ys.length≤j∧(∀ y∈ys,Pp H' y)∧Fd H' d∧ba d H9 H') ⟨none,rfl,BG _,(fun y hy=>by cases hy),F9,ba.refl _ _⟩ (fun j ys σ H' hj ⟨_,_,e2,_⟩=>e2) (by omega) (fun j ys σ H' hj _=>hj) (fun ys σ H' _=>BG _) ?_ ?_
  ·rintro j ys σ HX x HY N hj ⟨b,rfl,hy,hpp,FX,sbX⟩ ⟨rfl,rfl⟩ hN
   refine ⟨_,rfl,_,rfl,_,rfl,d,l,p,R,Vs,xs,ss,rfl,FX,sbX _ _ (F9.nl l9) l9,tn,hR,sbX _ _ (F9.neT p9) p9,sr.sb F9 sbX,HW,sl,fun q' ys' ts HZ fq rq tl FZ sbZ=>?_⟩
   refine hN _ _ _ ⟨_,rfl,by rw [BB];simp;omega,fun y hy'=>?_,FZ,sbX.trans sbZ⟩
   rcases BR.mp hy' with h | h
   ·exact (hpp y h).sb FX sbZ
   ·rw [BE] at h
    exact ⟨q',ys',ts,h,fq,rq,tl⟩
  rintro ys σ H10 z2 ⟨b,rfl,hy,hpp,F10,sb10⟩ hz2
  have s11:aF H10 (upd H10 z2 (.lst ys)):=aF.new hz2
  have f11:(upd H10 z2 (.lst ys)) z2=some (.lst ys):=af
  generalize upd H10 z2 (.lst ys)=H11 at s11 f11 ⊢
  refine ⟨z1,z2,_,_,rfl,rfl,s11 _ _ (sb10 _ _ (F9.nl f9) f9),f11,(by show 2+_≤sizeLine;omega),fun pl HV=>?_⟩
  have s12:aF H11 (upd H11 pl (.lst ([.ref p,.ref em]++ys))):=aF.new HV
  have f12:(upd H11 pl (.lst ([.ref p,.ref em]++ys))) pl=some (.lst ([.ref p,.ref em]++ys)):=af
  generalize upd H11 pl (.lst ([.ref p,.ref em]++ys))=H12 at s12 f12 ⊢
  have Ir:=s11.trans s12
  have F12:=F10.same Ir
  have q12:=Ir _ _ (sb10 _ _ (F9.neT q9) q9)
  have l12:=Ir _ _ (sb10 _ _ (F9.nl l9) l9)
  have pp12:∀ y∈[V.ref p,.ref em]++ys,Pp H12 y:=fun y hy'=>by
   rcases BR.mp hy' with h | h
   ·simp only [B2,Cd,Do] at h
    rcases h with rfl | rfl
    ·exact (pp1.sb F9 sb10).same Ir
    ·exact (pp2.sb F9 sb10).same Ir
   ·exact (hpp y h).same Ir
  generalize [V.ref p,.ref em]++ys=zs at f12 pp12
  refine ⟨_,rfl,pl,rfl,⟨_,SqL.of f12⟩,?_⟩
  refine dG (xs:=zs) (fun j σ H'=>∃ (b8 b9:Option V),σ = [some (.ref a),some (.ref d),some (.int (0+(i:Int))),some (.ref q),some (.ref l),some (tx v),some (.ref p),some (.ref pl),b8,b9]∧Fd H' d∧ba d H12 H') ⟨_,_,rfl,F12,ba.refl _ _⟩ (fun j σ H' _ ⟨_,_,_,_,e⟩=>SqL.of (e _ _ (F12.nl f12) f12)) ?_ ?_
  ·rintro j x σ H13 hx ⟨b8,b9,rfl,F13,sb13⟩
   obtain ⟨pp,yy,tt,rfl,fpp,rpp,lpp⟩:=(pp12 x (B8 hx)).sb F12 sb13
   have q13:=sb13 _ _ (F12.neT q12) q12
   have l13:=sb13 _ _ (F12.nl l12) l12
   refine ⟨_,rfl,_,rfl,v,rfl,by omega,fun H14 s14=>?_⟩
   have F14:=F13.same s14
   refine ⟨_,rfl,d,5,6,rfl,F14,by decide,by decide,by decide,by decide,fun u H15 hu _ F15 sb15=>?_⟩
   have hu:u.length≤6:=hu
   refine ⟨(aw (n:=3) (by decide)),fun pt hpt=>?_⟩
   have s16:aF H15 (upd H15 pt (.tup [tx v,tx (bk v),tx u])):=aF.new hpt
   have f16:(upd H15 pt (.tup [tx v,tx (bk v),tx u])) pt=some (.tup ([v,bk v,u].map tx)):=af
   have hws:∀ w∈[v,bk v,u],w.length≤200:=fun w hw=>by
    have lb:=bS v
    simp only [B2,Cd,Do] at hw
    rcases hw with rfl | rfl | rfl <;> omega
   have q16:=s16 _ _ (sb15 _ _ (F14.neT (s14 _ _ q13)) (s14 _ _ q13))
   have l16':=s16 _ _ (sb15 _ _ (F14.nl (s14 _ _ l13)) (s14 _ _ l13))
   have p16:=s16 _ _ (sb15 _ _ (F14.neT (s14 _ _ fpp)) (s14 _ _ fpp))
   have r16:=((rpp.same s14).sb F14 sb15).same s16
   have F16:=F15.same s16
   have sb16:=((sb13.trans s14.b).trans sb15).trans s16.b
   generalize upd H15 pt (.tup [tx v,tx (bk v),tx u])=H16 at s16 f16 q16 l16' p16 r16 F16 sb16 ⊢
   refine ⟨pt,rfl,⟨_,SqT.of f16⟩,?_⟩
   generalize [v,bk v,u]=ws at f16 hws
   refine dz (xs:=ws.map tx) (fun m σ H'=>∃ (b9:Option V),σ = [some (.ref a),some (.ref d),some (.int (0+(i:Int))),some (.ref q),some (.ref l),some (tx v),some (.ref p),some (.ref pl),some (.ref pp),b9]∧aF H16 H') ⟨_,rfl,aF.refl _⟩ (fun m σ H' _ ⟨_,_,e⟩=>SqT.of (e _ _ f16)) ?_ ?_
   ·rintro m x σ H17 hx ⟨b9,rfl,s17⟩
    obtain ⟨w1,hw1,rfl⟩:∃ u,u∈ws∧x=tx u:=by
     rw [B7] at hx
     cases e:ws[m]? with
     | none=>rw [e] at hx;cases hx
     | some u=>rw [e] at hx;exact ⟨u,B8 e,(BW hx).symm⟩
    have wl:=hws w1 hw1
    obtain ⟨sh,nt⟩:=tG (R:=R) (w:=w1) (ss:=tt) (by omega) lpp
    refine ⟨_,rfl,_,rfl,_,rfl,q,pp,R,w1,yy,tt,rfl,s17 _ _ q16,hR.rg,by omega,s17 _ _ p16,r16.same s17,lpp,fun x H18 dx s18=>?_⟩
    refine ⟨x,_,rfl,dx,sh,nt,?_⟩
    have sA:=s17.trans s18
    refine ⟨_,rfl,_,rfl,_,rfl,l,pp,R,Vs,w1,yy,tt,rfl,sA _ _ l16',tn.mem,by omega,sA _ _ p16,r16.same sA,lpp,fun y H19 dy s19=>?_⟩
    exact ⟨y,_,rfl,dy,sh,nt,rfl,_,rfl,bO (by simp) ⟨_,rfl,sA.trans s19⟩⟩
   ·rintro σ H17 ⟨b9,rfl,s17⟩
    exact ⟨_,_,rfl,F16.same s17,sb16.trans s17.b⟩
  ·rintro σ H13 ⟨b8,b9,rfl,F13,sb13⟩
   exact ⟨_,_,_,_,_,_,_,_,rfl,F13⟩
end
theorem Ay {K:PySem.W.Frag}{h:Heap}{mg:Str→Option Value}{x:Str}{st:Stmt}{f:Addr}{oc:Value}{od an:Option Addr}{Hw:Array (Option Value)}{kV doc pm Hb ct:Value}(X:K.In h)(G:h.Ns mainGlobals mg)(a:PySem.W.nsIn K mainGlobals x=some (some (.ref f)))
  (l:K.lookup f=some ⟨oc,od,.func (PySem.W.fnOf x x (bU st) (bE st) (ao st) .none kV doc pm an Hb ct),Hw⟩) (c:PySem.W.codeIn K Hb x=true) (k:PySem.W.keepIn K (.ref f)=true):Df K mg x st:=⟨f,_,Cm X G a,ky l c k⟩
inductive DI (K:PySem.W.Frag)(x:Str)(st:Stmt):Prop
 | mk {f:Addr} {oc:Value} {od an:Option Addr} {Hw:Array (Option Value)} {kV doc pm Hb ct:Value} (a:PySem.W.nsIn K mainGlobals x=some (some (.ref f))) (l:K.lookup f=some ⟨oc,od,.func (PySem.W.fnOf x x (bU st) (bE st) (ao st) .none kV doc pm an Hb ct),Hw⟩) (c:PySem.W.codeIn K Hb x=true) (k:PySem.W.keepIn K (.ref f)=true):DI K x st
theorem DI.df {K:PySem.W.Frag}{h:Heap}{mg:Str→Option Value}{x:Str}{st:Stmt}(d:DI K x st)(X:K.In h)(G:h.Ns mainGlobals mg):Df K mg x st:=by
 cases d with
 | mk a l c k=>exact Ay X G a l c k
inductive DL where
 | n
 | c (x:Str) (st:Stmt) (r:DL)
def DIs (K:PySem.W.Frag):DL→Prop
 | .n=>True
 | .c x st r=>DI K x st∧DIs K r
theorem DIs.on {K:PySem.W.Frag}{x:Str}{st:Stmt}{r:DL}{f:Addr}{oc:Value}{od an:Option Addr}{Hw:Array (Option Value)}{kV doc pm Hb ct:Value}(a:PySem.W.nsIn K mainGlobals x=some (some (.ref f)))(l:K.lookup f=some ⟨oc,od,.func (PySem.W.fnOf x x (bU st) (bE st) (ao st) .none kV doc pm an Hb ct),Hw⟩)(c:PySem.W.codeIn K Hb x=true)(k:PySem.W.keepIn K (.ref f)=true)(hr:DIs K r):DIs K (.c x st r):=⟨.mk a l c k,hr⟩
theorem yU {l:PySem.W.OpenLaw}{w:World}{K:PySem.W.Frag}{h:Heap}{mg:Str→Option Value}{fa:Addr}(X:K.In h)(G:h.Ns mainGlobals mg)(hfa:mg "law" = some (.ref fa))
  {f39:Addr} {od39 an39:Option Addr} {sl39:Array (Option Value)} {oc39 kV39 dc39 pm39 cd39 ct39:Value} {aB:Addr} {es:Array DictEntry} {en:Nat} {tS:Tok}   {tM tL:Tok}     {tP:Tok} {CR:Addr} {ddCR:Option Addr} {cdCR:ClassData} {sCR0 sCR1 sCR2 sCR3 sCR5:Option Value}         {nsCR:Addr} {onCR:Value} {dnCR:Option Addr} {esCR:Array DictEntry} {nnCR:Nat} {snCR:Array (Option Value)}         {CT:Addr} {ddCT:Option Addr} {cdCT:ClassData} {sCT0 sCT1 sCT2 sCT3 sCT5:Option Value}          {fCT:Addr} {ocCT kVCT dcCT pmCT cvCT ctCT:Value} {odCT anCT:Option Addr} {slCT:Array (Option Value)}    {CP:Addr} {ddCP:Option Addr} {cdCP:ClassData} {sCP0 sCP1 sCP2 sCP3 sCP5:Option Value}           {fCP:Addr} {ocCP kVCP dcCP pmCP cvCP ctCP:Value} {odCP anCP:Option Addr} {slCP:Array (Option Value)}    {ck0:Addr} {ck1:Addr} {ck2:Addr} {ck3:Addr} {ck4:Addr} {ck5:Addr} {ck6:Addr} {dk0:Option Addr} {xk0:ClassData} {sk0:Array (Option Value)}  {dk1:Option Addr} {xk1:ClassData} {sk1:Array (Option Value)}  {dk2:Option Addr} {xk2:ClassData} {sk2:Array (Option Value)}  {dk3:Option Addr} {xk3:ClassData} {sk3:Array (Option Value)}  {dk4:Option Addr} {xk4:ClassData} {sk4:Array (Option Value)}  {dk5:Option Addr} {xk5:ClassData} {sk5:Array (Option Value)}  {dk6:Option Addr} {xk6:ClassData} {sk6:Array (Option Value)}   {t0 t1 t2 t3 t4 t5 t6 t7 t8 t9 t10 t11:Tok}
  (hs:DIs K (.c "is_letter" iA <| .c "is_word" o3 <| .c "number_of" vG <| .c "back" oY <| .c "is_turn_of" iB <| .c "is_whole" j9 <| .c "is_step" o5 <| .c "is_count" j_ <| .c "walked" iC <| .c "fits" o7 <| .c "is_out" kc <| .c "is_there" ke <| .c "changed" vN <| .c "are_steps" kf <| .c "end_of" vR <| .c "lets_nothing" fW <| .c "_law_feed" oX <| .c "_law_draw" oW <| .c "_law_back" kg <| .c "_law_reduced" pf <| .c "_law_some" ph <| .c "_law_drawn" kh <| .c "_law_middle" vW <| .c "_law_turns_of" pk <| .c "_law_share" vZ <| .c "_law_thick" iD <| .c "_law_thin" ki <| .c "_law_rings" iE <| .c "_law_made" pG <| .c "_law_done" kj <| .c "_law_next" pH <| .c "_law_walked" fX <| .c "_law_shorter" fY <| .c "_law_steps" iF <| .c "_law_told" pL <| .c "_law_due" v_ <| .c "_law_other" km <| .c "_law_bent" pM <| .c "_law_great_right" kn <| .n))
  (a39:PySem.W.nsIn K mainGlobals "law" = some (some (.ref f39)))
  (l39:K.lookup f39=some ⟨oc39,od39,.func (PySem.W.fnOf "law" "law" (bU jv) (bE jv) (ao jv) .none kV39 dc39 pm39 an39 cd39 ct39),sl39⟩)
  (c39:PySem.W.codeIn K cd39 "law" = true)
  (k39:PySem.W.keepIn K (.ref f39)=true)
  (z_len:PySem.W.nsIn K mainGlobals "len" = some none)
  (z_repr:PySem.W.nsIn K mainGlobals "repr" = some none)
  (z_abs:PySem.W.nsIn K mainGlobals "abs" = some none)
  (z_max:PySem.W.nsIn K mainGlobals "max" = some none)
  (z_int:PySem.W.nsIn K mainGlobals "int" = some none)
  (z_list:PySem.W.nsIn K mainGlobals "list" = some none)
  (z_range:PySem.W.nsIn K mainGlobals "range" = some none)
  (z_reversed:PySem.W.nsIn K mainGlobals "reversed" = some none)
  (z_min:PySem.W.nsIn K mainGlobals "min" = some none)
  (z_sorted:PySem.W.nsIn K mainGlobals "sorted" = some none)
  (z_tuple:PySem.W.nsIn K mainGlobals "tuple" = some none)
  (z_isinstance:PySem.W.nsIn K mainGlobals "isinstance" = some none)
  (z_all:PySem.W.nsIn K mainGlobals "all" = some none)
  (z_str:PySem.W.nsIn K mainGlobals "str" = some none)
  (z_zip:PySem.W.nsIn K mainGlobals "zip" = some none)
  (aBk:PySem.W.nsIn K mainGlobals "BACKS" = some (some (.ref aB)))
  (lB:K.lookup aB=some ⟨.type "dict",none,.dict es en,#[]⟩)
  (kB:PySem.W.KeysLit w.params es.toList)
  (aS:PySem.W.nsIn K mainGlobals "SMALL" = some (some (.str "abcdef" tS)))
  (kN:es.toList.map y6=g0)
  (lo:(aB == sysModules)=false)
  (aM:PySem.W.nsIn K mainGlobals "MOST_MANY" = some (some (.int 6 tM)))
  (aL:PySem.W.nsIn K mainGlobals "MOST_LETTERS" = some (some (.int 2000 tL)))
  (zE:PySem.W.nsIn K mainGlobals "enumerate" = some none)
  (z_bool:PySem.W.nsIn K mainGlobals "bool" = some none)
  (zV:PySem.W.nsIn K mainGlobals "ValueError" = some none)
  (aP:PySem.W.nsIn K mainGlobals "MOST_STEPS" = some (some (.int 2000 tP)))
  (aCR:PySem.W.nsIn K mainGlobals "RingError" = some (some (.ref CR)))
  (lCR:K.lookup CR=some ⟨.type "type",ddCR,.cls cdCR,#[sCR0,sCR1,sCR2,sCR3,some (.builtin "ValueError.__new__"),sCR5]⟩)
  (mCR:cdCR.mro = .ref CR::bmV)
  (eCR:cdCR.hasDel=false)
  (dCR:cdCR.hasDict=true)
  (kCR:PySem.W.keepIn K (.ref CR)=true)
  (saCR:PySem.W.findIn K (.ref CR) "__setattr__" = some (some (.builtin "object.__setattr__")))
  (gaCR:PySem.W.findIn K (.ref CR) "__getattribute__" = some (some (.builtin "BaseException.__getattribute__")))
  (gnCR:PySem.W.findIn K (.ref CR) "__getattr__" = some (none))
  (caCR:PySem.W.findIn K (.ref CR) "__class__" = some (some (.builtin "object.__class__")))
  (nCR:cdCR.ns=nsCR)
  (oCR:K.lookup nsCR=some ⟨onCR,dnCR,.dict esCR nnCR,snCR⟩)
  (pCR:(esCR.toList.all fun e=>match e.key with | .str _ _=>true | _=>false)=true)
  (qCR:PySem.W.nsIn K nsCR "__init__" = some none)
  (rdCR:PySem.W.readsIn K CR (.type "type")=true)
  (atCR:PySem.W.findCls K (.ref CR) (.type "type") "__init__" = some (.val (.builtin "ValueError.__init__")))
  (gtCR:PySem.W.specialIn K (.ref CR) "__getattribute__" = some (some (.builtin "type.__getattribute__")))
  (hdI:PySem.W.handedIn (.builtin "ValueError.__init__")=true)
  (cgt:PySem.W.specialIn K (.builtin "object.__class__") "__get__" = some (some (.builtin "getset_descriptor.__get__")))
  (ctk:PySem.W.takesIn K (.builtin "object.__class__")=some true)
  (aCT:PySem.W.nsIn K mainGlobals "NoStep" = some (some (.ref CT)))
  (lCT:K.lookup CT=some ⟨.type "type",ddCT,.cls cdCT,#[sCT0,sCT1,sCT2,sCT3,some (.builtin "ValueError.__new__"),sCT5]⟩)
  (mCT:cdCT.mro = .ref CT :: .ref CR::bmV)
  (eCT:cdCT.hasDel=false)
  (dCT:cdCT.hasDict=true)
  (kCT:PySem.W.keepIn K (.ref CT)=true)
  (saCT:PySem.W.findIn K (.ref CT) "__setattr__" = some (some (.builtin "object.__setattr__")))
  (gaCT:PySem.W.findIn K (.ref CT) "__getattribute__" = some (some (.builtin "BaseException.__getattribute__")))
  (gnCT:PySem.W.findIn K (.ref CT) "__getattr__" = some (none))
  (caCT:PySem.W.findIn K (.ref CT) "__class__" = some (some (.builtin "object.__class__")))
  (xCT0:PySem.W.findIn K (.ref CT) "place" = some none)
  (iCT:PySem.W.findIn K (.ref CT) "__init__" = some (some (.ref fCT)))
  (uCT:K.lookup fCT=some ⟨ocCT,odCT,.func (PySem.W.fnOf "__init__" "NoStep.__init__" (bU ju) (bE ju) (ao ju) .none kVCT dcCT pmCT anCT cvCT ctCT),slCT⟩)
  (vCT:PySem.W.codeIn K cvCT "NoStep.__init__" = true)
  (wCT:PySem.W.keepIn K (.ref fCT)=true)
  (jCT:PySem.W.isFn K (.ref fCT)=true)
  (aCP:PySem.W.nsIn K mainGlobals "NoPaper" = some (some (.ref CP)))
  (lCP:K.lookup CP=some ⟨.type "type",ddCP,.cls cdCP,#[sCP0,sCP1,sCP2,sCP3,some (.builtin "ValueError.__new__"),sCP5]⟩)
  (mCP:cdCP.mro = .ref CP :: .ref CR::bmV)
  (eCP:cdCP.hasDel=false)
  (dCP:cdCP.hasDict=true)
  (kCP:PySem.W.keepIn K (.ref CP)=true)
  (saCP:PySem.W.findIn K (.ref CP) "__setattr__" = some (some (.builtin "object.__setattr__")))
  (gaCP:PySem.W.findIn K (.ref CP) "__getattribute__" = some (some (.builtin "BaseException.__getattribute__")))
  (gnCP:PySem.W.findIn K (.ref CP) "__getattr__" = some (none))
  (caCP:PySem.W.findIn K (.ref CP) "__class__" = some (some (.builtin "object.__class__")))
  (xCP0:PySem.W.findIn K (.ref CP) "word" = some none)
  (xCP1:PySem.W.findIn K (.ref CP) "at" = some none)
  (iCP:PySem.W.findIn K (.ref CP) "__init__" = some (some (.ref fCP)))
  (uCP:K.lookup fCP=some ⟨ocCP,odCP,.func (PySem.W.fnOf "__init__" "NoPaper.__init__" (bU fV) (bE fV) (ao fV) .none kVCP dcCP pmCP anCP cvCP ctCP),slCP⟩)
  (vCP:PySem.W.codeIn K cvCP "NoPaper.__init__" = true)
  (wCP:PySem.W.keepIn K (.ref fCP)=true)
  (jCP:PySem.W.isFn K (.ref fCP)=true)
  (ak0:PySem.W.nsIn K mainGlobals "NoBand" = some (some (.ref ck0)))
  (ak1:PySem.W.nsIn K mainGlobals "NoRow" = some (some (.ref ck1)))
  (ak2:PySem.W.nsIn K mainGlobals "NoSlide" = some (some (.ref ck2)))
  (ak3:PySem.W.nsIn K mainGlobals "NoSurface" = some (some (.ref ck3)))
  (ak4:PySem.W.nsIn K mainGlobals "NoText" = some (some (.ref ck4)))
  (ak5:PySem.W.nsIn K mainGlobals "NoThin" = some (some (.ref ck5)))
  (ak6:PySem.W.nsIn K mainGlobals "NoWay" = some (some (.ref ck6)))
  (lk0:K.lookup ck0=some ⟨.type "type",dk0,.cls xk0,sk0⟩)
  (nk0:(Value.ref CP :: .ref CR::bmV).contains (.ref ck0)=false)
  (lk1:K.lookup ck1=some ⟨.type "type",dk1,.cls xk1,sk1⟩)
  (nk1:(Value.ref CP :: .ref CR::bmV).contains (.ref ck1)=false)
  (lk2:K.lookup ck2=some ⟨.type "type",dk2,.cls xk2,sk2⟩)
  (nk2:(Value.ref CP :: .ref CR::bmV).contains (.ref ck2)=false)
  (lk3:K.lookup ck3=some ⟨.type "type",dk3,.cls xk3,sk3⟩)
  (nk3:(Value.ref CP :: .ref CR::bmV).contains (.ref ck3)=false)
  (lk4:K.lookup ck4=some ⟨.type "type",dk4,.cls xk4,sk4⟩)
  (nk4:(Value.ref CP :: .ref CR::bmV).contains (.ref ck4)=false)
  (lk5:K.lookup ck5=some ⟨.type "type",dk5,.cls xk5,sk5⟩)
  (nk5:(Value.ref CP :: .ref CR::bmV).contains (.ref ck5)=false)
  (lk6:K.lookup ck6=some ⟨.type "type",dk6,.cls xk6,sk6⟩)
  (nk6:(Value.ref CP :: .ref CR::bmV).contains (.ref ck6)=false)
  (nkT:(Value.ref CP :: .ref CR::bmV).contains (.ref CT)=false)
  (gl0:PySem.W.nsIn K aB "a" = some (some (.str "A" t0)))
  (gl1:PySem.W.nsIn K aB "b" = some (some (.str "B" t1)))
  (gl2:PySem.W.nsIn K aB "c" = some (some (.str "C" t2)))
  (gl3:PySem.W.nsIn K aB "d" = some (some (.str "D" t3)))
  (gl4:PySem.W.nsIn K aB "e" = some (some (.str "E" t4)))
  (gl5:PySem.W.nsIn K aB "f" = some (some (.str "F" t5)))
  (gl6:PySem.W.nsIn K aB "A" = some (some (.str "a" t6)))
  (gl7:PySem.W.nsIn K aB "B" = some (some (.str "b" t7)))
  (gl8:PySem.W.nsIn K aB "C" = some (some (.str "c" t8)))
  (gl9:PySem.W.nsIn K aB "D" = some (some (.str "d" t9)))
  (gl10:PySem.W.nsIn K aB "E" = some (some (.str "e" t10)))
  (gl11:PySem.W.nsIn K aB "F" = some (some (.str "f" t11))) :
  ∃ fd:FuncData,(∀ (s:Shared) (v:Value),BindsTo s fd ⟨[v],[]⟩ [("_law_script",v)])∧∀ base:Heap,K.In base→base.Ns mainGlobals mg→fZ l.prog w K mg base CX0 10 fa fd ["_law_script"] (pN K):=by
 have e:=hfa.symm.trans (Cm X G a39)
 cases e
 have gB:∀ x:L,∃ t,PySem.W.nsIn K aB (toS [x])=some (some (.str (toS [inv x]) t)):=by
  have q:∀ (x:L) (u v:Str) (t:Tok),PySem.W.nsIn K aB u=some (some (.str v t))→toS [x]=u→toS [inv x]=v→∃ t,PySem.W.nsIn K aB (toS [x])=some (some (.str (toS [inv x]) t)):=fun x u v t g e1 e2=>⟨t,by rw [e1,e2];exact g⟩
  intro x
  match x with
  | ⟨0,_⟩=>exact q 0 "a" "A" _ gl0 (by decide +kernel) (by decide +kernel)
  | ⟨1,_⟩=>exact q 1 "b" "B" _ gl1 (by decide +kernel) (by decide +kernel)
  | ⟨2,_⟩=>exact q 2 "c" "C" _ gl2 (by decide +kernel) (by decide +kernel)
  | ⟨3,_⟩=>exact q 3 "d" "D" _ gl3 (by decide +kernel) (by decide +kernel)
  | ⟨4,_⟩=>exact q 4 "e" "E" _ gl4 (by decide +kernel) (by decide +kernel)
  | ⟨5,_⟩=>exact q 5 "f" "F" _ gl5 (by decide +kernel) (by decide +kernel)
  | ⟨6,_⟩=>exact q 6 "A" "a" _ gl6 (by decide +kernel) (by decide +kernel)
  | ⟨7,_⟩=>exact q 7 "B" "b" _ gl7 (by decide +kernel) (by decide +kernel)
  | ⟨8,_⟩=>exact q 8 "C" "c" _ gl8 (by decide +kernel) (by decide +kernel)
  | ⟨9,_⟩=>exact q 9 "D" "d" _ gl9 (by decide +kernel) (by decide +kernel)
  | ⟨10,_⟩=>exact q 10 "E" "e" _ gl10 (by decide +kernel) (by decide +kernel)
  | ⟨11,_⟩=>exact q 11 "F" "f" _ gl11 (by decide +kernel) (by decide +kernel)
 have T:Bt K w mg aB:=⟨Cg X G z_len,Cg X G z_repr,Cg X G z_abs,Cg X G z_max,Cg X G z_int,Cg X G z_list,Cg X G z_range,Cg X G z_reversed,Cg X G z_min,Cg X G z_sorted,Cg X G z_tuple,Cg X G z_isinstance,Cg X G z_all,Cg X G z_str,Cg X G z_zip,Cm X G aBk,⟨es,en,lB,kB⟩,gB⟩
 have B:Bk K aB:=zJ lo lB kB kN
 have S:∃ t,mg "SMALL" = some (.str "abcdef" t):=⟨_,Cm X G aS⟩
 have MM:∃ t,mg "MOST_MANY" = some (.int 6 t):=⟨_,Cm X G aM⟩
 have ML:∃ t,mg "MOST_LETTERS" = some (.int 2000 t):=⟨_,Cm X G aL⟩
 have Te:mg "enumerate" = none:=Cg X G zE
 have MP:∃ t,mg "MOST_STEPS" = some (.int 2000 t):=⟨_,Cm X G aP⟩
 have XCR:XCl K CR bmV:=oz lCR mCR eCR dCR fT kCR
 have ACR:XAt K CR:=⟨⟨_,XCR⟩,saCR,gaCR,gnCR⟩
 have GCR:mg "RingError" = some (.ref CR):=Cm X G aCR
 have BCR:rj K CR:=⟨rdCR,atCR,gtCR,hdI⟩
 have XCT:XCl K CT (.ref CR::bmV):=oz lCT mCT eCT dCT (ly lCR (by rw [nCR];exact oy oCR pCR) (by rw [nCR];exact qCR) fT) kCT
 have ACT:XAt K CT:=⟨⟨_,XCT⟩,saCT,gaCT,gnCT⟩
 have CCT:XCa K CT:=⟨ACT,caCT,cgt,ctk⟩
 have ICT:=fun base:Heap=>vP (P:=l.prog) (w:=w) (mg:=mg) (base:=base) (ky uCT vCT wCT) BCR GCR ACT xCT0
 have MCT:∀ base:Heap,XMk l.prog w K mg base "NoStep" CT ["place"] 1:=fun base=>⟨Cm X G aCT,CCT,by intro f hf;simp only [B2,Cd,Do] at hf;rcases hf with rfl <;> assumption,⟨_,_,_,XCT,iCT,jCT,(ICT base).1,(ICT base).2⟩⟩
 have XCP:XCl K CP (.ref CR::bmV):=oz lCP mCP eCP dCP (ly lCR (by rw [nCR];exact oy oCR pCR) (by rw [nCR];exact qCR) fT) kCP
 have ACP:XAt K CP:=⟨⟨_,XCP⟩,saCP,gaCP,gnCP⟩
 have CCP:XCa K CP:=⟨ACP,caCP,cgt,ctk⟩
 have ICP:=fun base:Heap=>o_ (P:=l.prog) (w:=w) (mg:=mg) (base:=base) (ky uCP vCP wCP) BCR GCR ACP xCP0 xCP1
 have MCPH:∀ base:Heap,Al l.prog w K mg base "NoPaper" CP ["word","at"] 1:=fun base=>⟨Cm X G aCP,CCP,⟨_,_,_,XCP,iCP,jCP,(ICP base).1,(ICP base).2⟩⟩
 have MCP:∀ base:Heap,XMk l.prog w K mg base "NoPaper" CP ["word","at"] 1:=fun base=>⟨Cm X G aCP,CCP,by intro f hf;simp only [B2,Cd,Do] at hf;rcases hf with rfl | rfl <;> assumption,⟨_,_,_,XCP,iCP,jCP,(ICP base).1,(ICP base).2.ok (fun vs H Q E h=>by obtain ⟨a,ys,b,c,e,hl,ea,k⟩:=h;exact ⟨a,ys,b,c,e,hl,ea,k⟩)⟩⟩
 have kA:=jm (Rs:=[ck0,ck1,ck2,CT,ck3,ck4,ck5,ck6]) XCP (by intro R hR;simp only [B2,Cd,Do] at hR;rcases hR with rfl | rfl | rfl | rfl | rfl | rfl | rfl | rfl;exact ⟨⟨_,_,_,lk0⟩,nk0⟩;exact ⟨⟨_,_,_,lk1⟩,nk1⟩;exact ⟨⟨_,_,_,lk2⟩,nk2⟩;exact ⟨⟨_,_,_,lCT⟩,nkT⟩;exact ⟨⟨_,_,_,lk3⟩,nk3⟩;exact ⟨⟨_,_,_,lk4⟩,nk4⟩;exact ⟨⟨_,_,_,lk5⟩,nk5⟩;exact ⟨⟨_,_,_,lk6⟩,nk6⟩)
 have TCL:TC K mg CP CR (.ref CR::bmV) bmV (fun n=>[ck0,ck1,ck2,CT,ck3,ck4,ck5,ck6].getD n ck0):=⟨Cm X G aCP,Cm X G aCR,Cg X G zV,Cm X G ak0,Cm X G ak1,Cm X G ak2,Cm X G aCT,Cm X G ak3,Cm X G ak4,Cm X G ak5,Cm X G ak6,XCP,by simp,kA,rF,x8 X XCP rfl rfl,CCP,xCP0,xCP1⟩
 refine ⟨PySem.W.fnOf "law" "law" (bU jv) (bE jv) (ao jv) .none kV39 dc39 pm39 an39 cd39 ct39,fun s v=>.of_eq rfl,fun base _ _=>?_⟩
 obtain ⟨h0,h1,h2,h3,h4,h5,h6,h7,h8,h9,h10,h11,h12,h13,h14,h15,h16,h17,h18,h19,h20,h21,h22,h23,h24,h25,h26,h27,h28,h29,h30,h31,h32,h33,h34,h35,h36,h37,h38,_⟩:=hs
 have Hl:=rK (P:=l.prog) (w:=w) (base:=base) (h0.df X G) T B
 have F_num:=Ap (P:=l.prog) (w:=w) (base:=base) (h2.df X G) T S
 have F_word:=yC (P:=l.prog) (w:=w) (base:=base) (h1.df X G) T Hl F_num
 have Hk:=yA (P:=l.prog) (w:=w) (base:=base) (h3.df X G) T
 have Ic:=rN (P:=l.prog) (w:=w) (base:=base) (h4.df X G) T Hk
 have IB:=vI (P:=l.prog) (w:=w) (base:=base) (h5.df X G) T (Cg X G z_bool)
 have HU:=vJ (P:=l.prog) (w:=w) (base:=base) (h7.df X G) IB
 have HJ:=yD (P:=l.prog) (w:=w) (base:=base) (h6.df X G) T MM Hl F_word HU
 have IG:=vL (P:=l.prog) (w:=w) (base:=base) (h10.df X G) T Hk
 have IC:=vM (P:=l.prog) (w:=w) (base:=base) (h11.df X G) T
 have F_chg:=Aq (P:=l.prog) (w:=w) (base:=base) (h12.df X G) T Hk
 have F_fits:=yF (P:=l.prog) (w:=w) (base:=base) (h9.df X G) T HJ Ic IG IC
 have Ib:=rQ (P:=l.prog) (w:=w) (base:=base) (h8.df X G) T Te ML F_fits F_chg (MCT _)
 have ID:=vQ (P:=l.prog) (w:=w) (base:=base) (h13.df X G) T MP HJ
 have F_end:=Ar (P:=l.prog) (w:=w) (base:=base) (h14.df X G) T (Cm X G aCT) XCT ACT xCT0 Ib (MCPH _)
 have HK:=pe (P:=l.prog) (w:=w) (base:=base) (h15.df X G) T ID F_end (MCP _)
 have F_feed:=yz (P:=l.prog) (w:=w) (base:=base) (h16.df X G) T
 have G7:=yw (P:=l.prog) (w:=w) (base:=base) (h17.df X G) T
 have G9:=vS (P:=l.prog) (w:=w) (base:=base) (h18.df X G)
 have F_lred:=yH (P:=l.prog) (w:=w) (base:=base) (h19.df X G) T G9
 have He:=yI (P:=l.prog) (w:=w) (base:=base) (h20.df X G) T G7
 have II:=vX (P:=l.prog) (w:=w) (base:=base) (h21.df X G) T G7 G9 (some_of He)
 have Iu:=As (P:=l.prog) (w:=w) (base:=base) (h22.df X G) T G9 F_lred
 have Hm:=yK (P:=l.prog) (w:=w) (base:=base) (h23.df X G) T G9
 have Hy:=Au (P:=l.prog) (w:=w) (base:=base) (h24.df X G) T
 have Ie:=rY (P:=l.prog) (w:=w) (base:=base) (h25.df X G) T Hy
 have IF:=v3 (P:=l.prog) (w:=w) (base:=base) (h26.df X G) T G7 G9 He Iu (oK Hm) Ie
 have Ih:=rZ (P:=l.prog) (w:=w) (base:=base) (h27.df X G) T G7 He Iu
 have F_made:=yN (P:=l.prog) (w:=w) (base:=base) (h28.df X G) T G7 G9 He
 have Hn:=v7 (P:=l.prog) (w:=w) (base:=base) (h29.df X G) T G9
 have F_next:=yP (P:=l.prog) (w:=w) (base:=base) (h30.df X G) T G7 G9 Hy
 have HL:=pI (P:=l.prog) (w:=w) (base:=base) (h31.df X G) T Hn
 have Ht:=pJ (P:=l.prog) (w:=w) (base:=base) (h32.df X G) T G7 G9 Hy
 have Ig:=sf (P:=l.prog) (w:=w) (base:=base) (h33.df X G) T G7 F_next Hn Ht
 have HI:=yQ (P:=l.prog) (w:=w) (base:=base) (h34.df X G) T TCL XCR HK
 have Iy:=Aw (P:=l.prog) (w:=w) (base:=base) (h35.df X G) T HL
 have IE:=wa (P:=l.prog) (w:=w) (base:=base) (h36.df X G) T G7
 have F_bent:=yS (P:=l.prog) (w:=w) (base:=base) (h37.df X G) T G7 IE
 have IH:=wd (P:=l.prog) (w:=w) (base:=base) (h38.df X G) T G9 Hm HI Iy
 exact Ax (ky l39 c39 k39) T F_feed G7 G9 He IF Ih (oK Hm) F_made II Ig F_bent HI Iy IH
theorem Bz {l:PySem.W.OpenLaw}{q:Program}{loose:List Str}{XP:(Str→Option Value)→Heap→Prop}{YP:World→Heap→Prop}{d:DefRec}{K:Params→PySem.W.Frag}(hn:l.most=some 63)(hdf:d.params.defaults=[])
  (hY:∀ (w:World) (h:Heap),YP w h→(K w.params).In h)
  (F:∀ (w:World) (mg:Str→Option Value) (fa:Addr) (h:Heap),(K w.params).In h→h.Ns mainGlobals mg→mg d.name=some (.ref fa) →
   ∃ fd:FuncData,(∀ (s:Shared) (u:Value),BindsTo s fd ⟨[u],[]⟩ [("_law_script",u)])∧∀ base:Heap,(K w.params).In base→base.Ns mainGlobals mg→fZ l.prog w (K w.params) mg base CX0 10 fa fd ["_law_script"] (pN (K w.params))) :
  PySem.W.WalkO q loose XP YP l.row.toRowW d [] (fun f vs=>PySem.call f vs) :=
 L2.mU (n:=63) (k:=10) (x:="_law_script") (CX:=fun _=>CX0) (sp:=fun w=>pN (K w.params)) hn (by decide) hdf ⟨rfl,by decide,by decide,rfl⟩ hY F (fun _ _ a ns hl _ hS=>⟨a,ns,rfl,hS,hl,fun _=>rfl⟩) fun _ _ _ _ _ z=>z
end Kx
namespace Kx
open PySem
def yV (s:String):Str:=⟨⟨PySem.W.R.mapR Char.toNat (PySem.W.S.toListS s)⟩⟩
theorem su:Str.ofString=yV:=by
 funext s
 rw [Str.ofString_eq_toList,PySem.W.S.toListS_eq]
 show _=(⟨⟨PySem.W.R.mapR Char.toNat (PySem.W.S.toListS s)⟩⟩:Str)
 rw [← PySem.W.R.mapR_eq]
def apG (G:(String→Str)→Program)(x:String→Str):Program:=G x
def Gs:{ G:(String→Str)→Program // apG G Str.ofString=PySem.Challenge.pw_ringwords_k13_nothing_papers }:=by
 refine ⟨?G,?h⟩
 case h =>
  delta PySem.Challenge.pw_ringwords_k13_nothing_papers
  generalize Str.ofString=x
  exact rfl
end Kx
def PySem.W.Fast.tw2658305372349180032:PySem.Program:=Kx.Gs.1 Kx.yV
theorem PySem.W.Fast.te2658305372349180032:PySem.Challenge.pw_ringwords_k13_nothing_papers=PySem.W.Fast.tw2658305372349180032:=Kx.Gs.2.symm.trans (Ci (Kx.apG Kx.Gs.1) Kx.su)
namespace PySem.W.Fast
theorem te14102492929443339941:True:=trivial
theorem tw9649354860465039647:True:=trivial
theorem tw4275850489701470807:True:=trivial
theorem tw6904534037483877624:True:=trivial
theorem tw10578044637363906365:True:=trivial
theorem tw3168159497838431714:True:=trivial
theorem tw6698716916340636728:True:=trivial
theorem tw18377093357886756518:True:=trivial
theorem tw2663605899741564230:True:=trivial
theorem tw5827428026723590844:True:=trivial
theorem tw14103880005266254143:True:=trivial
theorem tw8013089005959689098:True:=trivial
theorem tw4815954188076707860:True:=trivial
theorem tw11880415623390186506:True:=trivial
theorem tw14118866641113089699:True:=trivial
theorem tw17288440952011928443:True:=trivial
theorem tw7844824051200698388:True:=trivial
theorem tw1487450191901723191:True:=trivial
theorem tw6815973621324218404:True:=trivial
theorem tw15119273687654699099:True:=trivial
theorem tw11346644109477031067:True:=trivial
theorem tw8595606138100982846:True:=trivial
theorem tw4943070103579300709:True:=trivial
theorem tw17318145776319886073:True:=trivial
theorem tw10918396914815758511:True:=trivial
theorem tw18151186216253610866:True:=trivial
theorem tw9707484650009080406:True:=trivial
theorem tw17853539064035084293:True:=trivial
theorem tw15354812991666539280:True:=trivial
theorem tw18155944276002414910:True:=trivial
theorem tw3010965684581279274:True:=trivial
theorem tw16380057778449902917:True:=trivial
theorem tw16344882098182685369:True:=trivial
theorem tw9065399255225046665:True:=trivial
theorem tw16511109934309698973:True:=trivial
theorem tw5584324679028414290:True:=trivial
theorem tw15317402879227096814:True:=trivial
theorem tw1502633535420458746:True:=trivial
theorem tw10157247099582545102:True:=trivial
theorem tw12651677063834953271:True:=trivial
theorem tw1701987903079116908:True:=trivial
theorem tw8084724774020081456:True:=trivial
theorem tw2634654043977472872:True:=trivial
theorem tw8749225225005984430:True:=trivial
theorem tw13387696537492955283:True:=trivial
theorem tw13819882406038583534:True:=trivial
theorem tw3991868356283051141:True:=trivial
theorem tw5806636777413238471:True:=trivial
theorem tw4320273170297322377:True:=trivial
theorem tw13345919879320283428:True:=trivial
theorem tw5431586682888886637:True:=trivial
theorem tw3386550886737168085:True:=trivial
theorem tw97043815681522966:True:=trivial
theorem tw13474456991670394116:True:=trivial
theorem tw4572266793797294817:True:=trivial
theorem tw7776178446187598682:True:=trivial
theorem tw7924692473503912916:True:=trivial
theorem tw2691565556120547007:True:=trivial
theorem tw17593573317585158188:True:=trivial
theorem tw17136666408331697966:True:=trivial
theorem tw11435994423452747128:True:=trivial
theorem tw16114510283441832647:True:=trivial
theorem tw6411186134692060144:True:=trivial
theorem tw17698000566009416272:True:=trivial
theorem tw3685247820726165008:True:=trivial
theorem tw8684839142344936287:True:=trivial
theorem tw2854515446230977846:True:=trivial
theorem tw5091362009712885928:True:=trivial
theorem tw14492457880472687445:True:=trivial
theorem tw16274850515074226468:True:=trivial
theorem tw3731227893072775228:True:=trivial
theorem tw17870892044070464677:True:=trivial
theorem tw12948683496407494013:True:=trivial
theorem tw878024529583520102:True:=trivial
theorem tw5639291870130738549:True:=trivial
theorem tw11129540181452938110:True:=trivial
theorem tw11795776539127461897:True:=trivial
theorem tw13775398661909201470:True:=trivial
theorem tw9709011007654762947:True:=trivial
theorem tw3791007154469179161:True:=trivial
theorem tw2717290984153964618:True:=trivial
theorem tw10027335162064074347:True:=trivial
theorem tw10623239456624796594:True:=trivial
theorem tw11101839759585148386:True:=trivial
theorem tw14872421819876065473:True:=trivial
theorem tw18438074584954647623:True:=trivial
theorem tw4601570022562493656:True:=trivial
theorem tw14877710827434192360:True:=trivial
theorem tw7069041680995939846:True:=trivial
theorem tw13618190123145886512:True:=trivial
theorem tw12222573601981086820:True:=trivial
theorem tw10266336985911810753:True:=trivial
theorem tw8910397720367334435:True:=trivial
theorem tw65303378642113045:True:=trivial
theorem tw18019135725032665598:True:=trivial
theorem tw11240461546544922239:True:=trivial
theorem tw6645635891767213776:True:=trivial
theorem tw10475205945621402018:True:=trivial
theorem tw15857093210693684214:True:=trivial
theorem tw4745220259564497020:True:=trivial
theorem tw13505654944132248605:True:=trivial
theorem tw9571927855134668825:True:=trivial
theorem tw13822139620306051337:True:=trivial
theorem tw7195030616838343707:True:=trivial
theorem tw7084207336217591973:True:=trivial
theorem tw17305673225807187741:True:=trivial
theorem tw12782247618534107090:True:=trivial
theorem tw11486843634147328542:True:=trivial
theorem tw14012330152675795816:True:=trivial
theorem tw4445130318908084376:True:=trivial
theorem tw6818938660290717618:True:=trivial
theorem tw12132928768836570489:True:=trivial
theorem tw1154867326702361704:True:=trivial
theorem tw4808178726697366552:True:=trivial
theorem tw6723338758126287195:True:=trivial
theorem tw3635470172562220001:True:=trivial
theorem tw4629533208969076985:True:=trivial
theorem tw14145447297729872564:True:=trivial
theorem tw18345156804790093472:True:=trivial
theorem tw8658874431994845225:True:=trivial
theorem tw1216014217137525617:True:=trivial
theorem tw16249917520092054511:True:=trivial
theorem tw12517197795736503451:True:=trivial
theorem tw5017173644714967534:True:=trivial
theorem tw7286377831157025755:True:=trivial
theorem tw3641454114488673735:True:=trivial
theorem tw15005856763384285088:True:=trivial
theorem tw18205366793184321441:True:=trivial
theorem tw40249083413277296:True:=trivial
theorem tw8944042389790683668:True:=trivial
theorem tw13141582030880008279:True:=trivial
theorem tw4558859573672047384:True:=trivial
theorem tw7019894223477933644:True:=trivial
theorem tw13341334154954111736:True:=trivial
theorem tw12572322926054156:True:=trivial
theorem tw17678082633276508779:True:=trivial
theorem tw9356996277245023304:True:=trivial
theorem tw9790278712542533984:True:=trivial
theorem tw8664047081304636068:True:=trivial
theorem tw16392791672427294245:True:=trivial
theorem tw7212380165303220027:True:=trivial
theorem tw9079189431536425355:True:=trivial
theorem tw14538785244907203492:True:=trivial
theorem tw486856505516186661:True:=trivial
theorem tw1924596476699855957:True:=trivial
theorem tw8872402003644447840:True:=trivial
theorem tw5592721168176506342:True:=trivial
theorem tw9362590963149744762:True:=trivial
theorem tw1005653709731038979:True:=trivial
theorem tw4685138706480226320:True:=trivial
theorem tw16403316052272898149:True:=trivial
theorem tw7171691940866552325:True:=trivial
theorem tw316671697718755734:True:=trivial
theorem tw17998143331972140529:True:=trivial
theorem tw16555364907262909792:True:=trivial
theorem tw7735349933286460375:True:=trivial
theorem tw10970524662466192382:True:=trivial
theorem tw8715352452032711616:True:=trivial
theorem tw2113615544699185240:True:=trivial
theorem tw10073653793133027052:True:=trivial
theorem tw2407595540556687526:True:=trivial
theorem tw12356352916502021388:True:=trivial
theorem tw16943525778521716717:True:=trivial
theorem tw8601687433144197110:True:=trivial
theorem tw2301665722320223531:True:=trivial
theorem tw12728537661069711402:True:=trivial
theorem tw7073969236527901702:True:=trivial
theorem tw10416248950738858623:True:=trivial
theorem tw1886935156719546480:True:=trivial
theorem tw11648528498370223199:True:=trivial
theorem tw1497342775940839172:True:=trivial
theorem tw15578542659134592304:True:=trivial
theorem tw6526220577287845485:True:=trivial
theorem tw3240889368494700006:True:=trivial
theorem tw15223346558613844183:True:=trivial
theorem tw442916209380071405:True:=trivial
theorem tw17140320066010196557:True:=trivial
theorem tw16754788064303542330:True:=trivial
theorem tw10280492073427547121:True:=trivial
theorem tw5070222669904956380:True:=trivial
theorem tw707125269202012246:True:=trivial
theorem tw7572130138126528691:True:=trivial
theorem tw7599165758145773605:True:=trivial
theorem tw1504107329651229310:True:=trivial
theorem tw16754249390050005194:True:=trivial
theorem tw1731820765937046699:True:=trivial
theorem tw1367635699698448143:True:=trivial
theorem tw1485773162208819494:True:=trivial
theorem tw13686871235220347890:True:=trivial
theorem tw12893381314324908074:True:=trivial
theorem tw1920914450914727409:True:=trivial
theorem tw11738344810608119864:True:=trivial
theorem tw7895869992379144070:True:=trivial
theorem tw8012396283878043105:True:=trivial
theorem tw13787351505059244405:True:=trivial
theorem tw14265585470444468849:True:=trivial
theorem tw5031022138401503996:True:=trivial
theorem tw10072803464016991547:True:=trivial
theorem tw17513490908167969297:True:=trivial
theorem tw2767211422672270414:True:=trivial
theorem tw8925968685813264946:True:=trivial
theorem tw7701113418930276398:True:=trivial
theorem tw11021032139317559738:True:=trivial
theorem tw7988085303017260574:True:=trivial
theorem tw3131449267757649470:True:=trivial
theorem tw10772747009027101793:True:=trivial
theorem tw11575702463782909712:True:=trivial
theorem tw3256924674070683503:True:=trivial
theorem tw17202310725922551417:True:=trivial
theorem tw18146250672749676124:True:=trivial
theorem tw11015305251668746371:True:=trivial
theorem tw1082454693275440720:True:=trivial
theorem tw15699327509303216734:True:=trivial
theorem tw787909691200290068:True:=trivial
theorem tw12117436402559156786:True:=trivial
theorem tw9132676135608861189:True:=trivial
theorem tw7705831520645000868:True:=trivial
theorem tw17523054810498955064:True:=trivial
theorem tw7971053936844557841:True:=trivial
theorem tw10129009271461899752:True:=trivial
theorem tw3433179981116291521:True:=trivial
theorem tw14174528074670581569:True:=trivial
theorem tw9842538491259567966:True:=trivial
theorem tw5616363038341515763:True:=trivial
theorem tw11750424274618788873:True:=trivial
theorem tw11020178051189667504:True:=trivial
theorem tw8169464887742761053:True:=trivial
theorem tw3629604631546512337:True:=trivial
theorem tw9719087459984355710:True:=trivial
theorem tw13724358726714536409:True:=trivial
theorem tw13449956198752985893:True:=trivial
theorem tw18434633197514202256:True:=trivial
theorem tw8429703045724250946:True:=trivial
theorem tw2604748954898814701:True:=trivial
theorem tw11298274348349776242:True:=trivial
theorem tw14527475306058006213:True:=trivial
theorem tw5161868694277421698:True:=trivial
theorem tw17034226090348175604:True:=trivial
theorem tw4603870201354980503:True:=trivial
theorem tw4573047760918280274:True:=trivial
theorem tw6636520478435179539:True:=trivial
theorem tw4857375921583655893:True:=trivial
theorem tw14052707577733107005:True:=trivial
theorem tw16217132039117349727:True:=trivial
theorem tw13752490374418221966:True:=trivial
theorem tw17883165640448840759:True:=trivial
theorem tw4140685198568022985:True:=trivial
theorem tw13376259890116166457:True:=trivial
theorem tw4100697262976916881:True:=trivial
theorem tw8582532612905819381:True:=trivial
theorem tw6216057038215922257:True:=trivial
theorem tw13580082026261472946:True:=trivial
theorem tw3341157800000161449:True:=trivial
theorem tw1197685969025918738:True:=trivial
theorem tw9283774204744763027:True:=trivial
theorem tw6747284121221760318:True:=trivial
theorem tw530307535883091394:True:=trivial
theorem tw4344769912915135118:True:=trivial
theorem tw3736960282573070535:True:=trivial
theorem tw14497814956120244706:True:=trivial
theorem tw11401390536918889671:True:=trivial
theorem tw12355674727133740478:True:=trivial
theorem tw1827898492030110748:True:=trivial
theorem tw17270997570217934050:True:=trivial
theorem tw8976809554880073400:True:=trivial
theorem tw5223397225150448662:True:=trivial
theorem tw6838904234717223907:True:=trivial
theorem tw17454031228731641610:True:=trivial
theorem tw7105075106547069214:True:=trivial
theorem tw5945796476194467241:True:=trivial
theorem tw16069731290703706659:True:=trivial
theorem tw10033982799775331:True:=trivial
theorem tw15879287196808272573:True:=trivial
theorem tw7919826312000437438:True:=trivial
theorem tw5728646969924522884:True:=trivial
theorem tw14663712318626828841:True:=trivial
theorem tw4856615906132691599:True:=trivial
theorem tw13495623260946481644:True:=trivial
theorem tw2303249217871983263:True:=trivial
theorem tw10726902892424182084:True:=trivial
theorem tw15383244202974860775:True:=trivial
theorem tw5449518428019045476:True:=trivial
theorem tw493012858154966233:True:=trivial
theorem tw14371498219093030592:True:=trivial
theorem tw9408040451753633290:True:=trivial
theorem tw9374676988481445586:True:=trivial
theorem tw14716318112443834978:True:=trivial
theorem tw1157066269332729177:True:=trivial
theorem tw15491828686298883486:True:=trivial
theorem tw6658957142192395510:True:=trivial
theorem tw16963747329454401560:True:=trivial
theorem tw6005203873463072659:True:=trivial
theorem tw3244281653072003029:True:=trivial
theorem tw10628612395094260021:True:=trivial
theorem tw3496314663761797345:True:=trivial
theorem tw11032051672197798889:True:=trivial
theorem tw1841205568029884909:True:=trivial
theorem tw1762299258868684072:True:=trivial
theorem tw14038307882778636711:True:=trivial
theorem tw4869191323388516474:True:=trivial
theorem tw10227994424606086421:True:=trivial
theorem tw17699522381530016420:True:=trivial
theorem tw17804022484374186601:True:=trivial
theorem tw2113358048463846074:True:=trivial
theorem tw3708305395791297706:True:=trivial
theorem tw16847204335715377334:True:=trivial
theorem tw14176425342439600227:True:=trivial
theorem tw12112506311265265678:True:=trivial
theorem tw12491699015305607922:True:=trivial
theorem tw11976749659712829092:True:=trivial
theorem tw3761324433878730240:True:=trivial
theorem tw12088633613898613045:True:=trivial
theorem tw6668481054170182064:True:=trivial
theorem tw1454844903703575526:True:=trivial
theorem tw12697420759677209192:True:=trivial
theorem tw9476225161436309746:True:=trivial
theorem tw752992649286532136:True:=trivial
theorem tw6452779944063865409:True:=trivial
theorem tw12769968976316449971:True:=trivial
theorem tw11773977971520708581:True:=trivial
theorem tw10013912917704356569:True:=trivial
end PySem.W.Fast
open PySem PySem.W PyProof.Rows
set_option maxRecDepth 100000 in
set_option maxHeartbeats 0 in
theorem PySem.Challenge.cw_ringwords_k13_nothing_papers_holds : PySem.Challenge.rw_ringwords_k13_nothing_papers.Holds := by
 w_on; o_law; k_head; (case hw=>w_witness2)
 k_fill
 refine Kx.Bz (l:=PySem.Challenge.rw_ringwords_k13_nothing_papers) rfl rfl (fun w h Y=>PySem.W.kIn_of Y) ?F
 case F =>
  intro w mg fa h KX G hmg
  refine' Kx.yU KX G hmg ?hs ?a39 ?l39 ?c39 ?k39 ?z_len ?z_repr ?z_abs ?z_max ?z_int ?z_list ?z_range ?z_reversed ?z_min ?z_sorted ?z_tuple ?z_isinstance ?z_all ?z_str ?z_zip ?aBk ?lB ?kB ?aS ?kN ?lo ?aM ?aL ?zE ?z_bool ?zV ?aP ?aCR ?lCR ?mCR ?eCR ?dCR ?kCR ?saCR ?gaCR ?gnCR ?caCR ?nCR ?oCR ?pCR ?qCR ?rdCR ?atCR ?gtCR ?hdI ?cgt ?ctk ?aCT ?lCT ?mCT ?eCT ?dCT ?kCT ?saCT ?gaCT ?gnCT ?caCT ?xCT0 ?iCT ?uCT ?vCT ?wCT ?jCT ?aCP ?lCP ?mCP ?eCP ?dCP ?kCP ?saCP ?gaCP ?gnCP ?caCP ?xCP0 ?xCP1 ?iCP ?uCP ?vCP ?wCP ?jCP ?ak0 ?ak1 ?ak2 ?ak3 ?ak4 ?ak5 ?ak6 ?lk0 ?nk0 ?lk1 ?nk1 ?lk2 ?nk2 ?lk3 ?nk3 ?lk4 ?nk4 ?lk5 ?nk5 ?lk6 ?nk6 ?nkT ?gl0 ?gl1 ?gl2 ?gl3 ?gl4 ?gl5 ?gl6 ?gl7 ?gl8 ?gl9 ?gl10 ?gl11
  (case hs=>(iterate 39 (refine' Kx.DIs.on ?_ ?_ ?_ ?_ ?_; rotate_left 10; k_is; k_is; k_is; k_is)); exact trivial)
  (case a39=>k_is)
  (case l39=>k_is)
  (case c39=>k_is)
  (case k39=>k_is)
  (case z_len=>k_is)
  (case z_repr=>k_is)
  (case z_abs=>k_is)
  (case z_max=>k_is)
  (case z_int=>k_is)
  (case z_list=>k_is)
  (case z_range=>k_is)
  (case z_reversed=>k_is)
  (case z_min=>k_is)
  (case z_sorted=>k_is)
  (case z_tuple=>k_is)
  (case z_isinstance=>k_is)
  (case z_all=>k_is)
  (case z_str=>k_is)
  (case z_zip=>k_is)
  (case aBk=>k_is)
  (case lB=>k_is)
  (case kB=>exact ⟨⟨_,_,rfl,rfl⟩,⟨_,_,rfl,rfl⟩,⟨_,_,rfl,rfl⟩,⟨_,_,rfl,rfl⟩,⟨_,_,rfl,rfl⟩,⟨_,_,rfl,rfl⟩,⟨_,_,rfl,rfl⟩,⟨_,_,rfl,rfl⟩,⟨_,_,rfl,rfl⟩,⟨_,_,rfl,rfl⟩,⟨_,_,rfl,rfl⟩,⟨_,_,rfl,rfl⟩,trivial⟩)
  (case aS=>k_is)
  (case kN=>rfl)
  (case lo=>rfl)
  (case aM=>k_is)
  (case aL=>k_is)
  (case zE=>k_is)
  (case z_bool=>k_is)
  (case zV=>k_is)
  (case aP=>k_is)
  (case aCR=>k_is)
  (case lCR=>k_is)
  (case mCR=>rfl)
  (case eCR=>rfl)
  (case dCR=>rfl)
  (case kCR=>k_is)
  (case saCR=>k_is)
  (case gaCR=>k_is)
  (case gnCR=>k_is)
  (case caCR=>k_is)
  (case nCR=>rfl)
  (case oCR=>k_is)
  (case pCR=>rfl)
  (case qCR=>k_is)
  (case rdCR=>k_is)
  (case atCR=>k_is)
  (case gtCR=>k_is)
  (case hdI=>rfl)
  (case cgt=>k_is)
  (case ctk=>k_is)
  (case aCT=>k_is)
  (case lCT=>k_is)
  (case mCT=>rfl)
  (case eCT=>rfl)
  (case dCT=>rfl)
  (case kCT=>k_is)
  (case saCT=>k_is)
  (case gaCT=>k_is)
  (case gnCT=>k_is)
  (case caCT=>k_is)
  (case xCT0=>k_is)
  (case iCT=>k_is)
  (case uCT=>k_is)
  (case vCT=>k_is)
  (case wCT=>k_is)
  (case jCT=>k_is)
  (case aCP=>k_is)
  (case lCP=>k_is)
  (case mCP=>rfl)
  (case eCP=>rfl)
  (case dCP=>rfl)
  (case kCP=>k_is)
  (case saCP=>k_is)
  (case gaCP=>k_is)
  (case gnCP=>k_is)
  (case caCP=>k_is)
  (case xCP0=>k_is)
  (case xCP1=>k_is)
  (case iCP=>k_is)
  (case uCP=>k_is)
  (case vCP=>k_is)
  (case wCP=>k_is)
  (case jCP=>k_is)
  (case ak0=>k_is)
  (case ak1=>k_is)
  (case ak2=>k_is)
  (case ak3=>k_is)
  (case ak4=>k_is)
  (case ak5=>k_is)
  (case ak6=>k_is)
  (case lk0=>k_is)
  (case nk0=>rfl)
  (case lk1=>k_is)
  (case nk1=>rfl)
  (case lk2=>k_is)
  (case nk2=>rfl)
  (case lk3=>k_is)
  (case nk3=>rfl)
  (case lk4=>k_is)
  (case nk4=>rfl)
  (case lk5=>k_is)
  (case nk5=>rfl)
  (case lk6=>k_is)
  (case nk6=>rfl)
  (case nkT=>rfl)
  (case gl0=>k_is)
  (case gl1=>k_is)
  (case gl2=>k_is)
  (case gl3=>k_is)
  (case gl4=>k_is)
  (case gl5=>k_is)
  (case gl6=>k_is)
  (case gl7=>k_is)
  (case gl8=>k_is)
  (case gl9=>k_is)
  (case gl10=>k_is)
  (case gl11=>k_is)
end
