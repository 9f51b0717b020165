import PyProof.Rows.All
import Wide.All
import OpenK.AllK
import Wide.FinOn
import Lean
import PyProof.EqAt
import PyProof.EqKinds
import PyProof.TupleCall
import KE.KRevIter
import PyProof.ExcInit
import PyProof.InstStoreFacts
import PyProof.NsDelKeeps
import KE.KLam
import PyProof.FString5
import PyProof.NeData
import PyProof.TupleOfStr
import PyProof.IsRules
import PyProof.Rows.SortShellK
import PyProof.Rows.SortRunsK
import PyProof.ListRange
import PyProof.FactsAll.tuple_3
import PyProof.Rows.StrStrike
import PyProof.DictWalks
import PyProof.Rows.DictUnroll
import PyProof.Rows.SumAny
import PyProof.AttrMiss
import KE.KDictOf
import KE.KItemsList
import PyProof.WalksMore
import PyProof.NeKinds
import PyProof.FactsAll.subtypes_3
import PyProof.FactsAll.subtypes_4
import PyProof.FactsAll.dict_2
import PySem.Challenge.RW_ringwords_k67_same_papers_bent
set_option Elab.async false
set_option linter.all false
set_option maxRecDepth 100000
set_option maxHeartbeats 0
noncomputable section
def fu:=@PySem.wpAny_bind
def D_:=@PySem.Heap.get?_push_of_some
def Ea:=@List.length_map
def Eb:=@PySem.wpAny_pure
def Ec:=@List.length_append
def Ed:=@decide_eq_false
def Ee:=@List.getElem?_eq_getElem
def Ef:=@List.getElem?_eq_some_iff
def Eg:=@Nat.le_refl
def Eh:=@decide_eq_true
def Ei:=@List.mem_cons
def Ej:=@List.mem_cons_of_mem
def Ek:=@List.not_mem_nil
def El:=@PySem.Heap.get?_push_size
def Em:=@PySem.Heap.lt_size
def En:=@List.length_singleton
def Eo:=@List.size_toArray
def Ep:=@PySem.boot_len
def Er:=@List.getElem?_map
def Es:=@List.mem_of_getElem?
def Et:=@Nat.lt_of_lt_of_le
def Eu:=@List.mem_singleton
def Ew:=@List.getD_eq_getElem?_getD
def Ex:=@List.mem_cons_self
def Ey:=@List.mem_append_right
def Ez:=@Bool.false_ne_true
def EA:=@List.length_cons
def EB:=@List.length_take
def EC:=@PySem.F.plainAttrs_str
def ED:=@List.mem_map
def EE:=@Option.some.inj
def EF:=@PySem.wpAny_field
def EG:=@List.map_append
def EH:=@Int.toNat_natCast
def EI:=@Bool.and_eq_true
def EJ:=@PySem.W.mg_none_of
def EK:=@Nat.ne_of_lt
def EL:=@List.mem_append
def EM:=@Array.getElem?_eq_some_iff
def EN:=@List.nodup_cons
def EO:=@List.map_cons
def ER:=@List.take_of_length_le
def ES:=@PySem.wpAny_callSpecial?_slot
def ET:=@Int.eq_ofNat_of_zero_le
def EU:=@PySem.PassesOwn.never
def EV:=@Nat.le_trans
def EW:=@or_false
def EX:=@congrArg
def EY:=@PySem.F.plainAttrs_list
def EZ:=@PySem.Heap.get?_update_other
def E1:=@List.mem_append_left
def E2:=@PySem.wpAny_loadPart_at
def E3:=@PySem.PyData.tuple.inj
def E4:=@Array.length_toList
def E5:=@Nat.zero_le
def E6:=@PySem.W.mg_of
def E7:=@List.cons.inj
def E8:=@List.getElem?_append_right
def E9:=@Nat.lt_irrefl
def E_:=@PySem.Heap.get?_update_self
def Fb:=@PySem.wpAny_setField_rec
def Fc:=@Classical.byContradiction
def Fe:=@PySem.wpAny_call_entry
def Ff:=@PyProof.Rows.callWith_type1
def Fg:=@PyProof.Rows.slot_tuple_getitem
def Fh:=@PySem.wpAny_newObj_type
def Fi:=@PySem.F.slot_list_append
def Fj:=@PySem.F.type_list_append
def Fk:=@PySem.Obj.data_mapFields
def Fl:=@List.map_map
def Fm:=@PySem.wpAny_mono
def Fn:=@of_decide_eq_true
def Fo:=@PySem.wpAny_seqItems
def Fp:=@Bool.eq_iff_iff
def Fq:=@PySem.W.kia_one
def Fs:=@List.append_nil
def Ft:=@PySem.Obj.isFreed_of_fields
def Fu:=@List.getElem?_eq_none
def Fv:=@List.length_drop
def Fw:=@PySem.Heap.size_push
def Fx:=@List.take_length
def Fy:=@Array.getElem?_setIfInBounds_ne
def FB:=@List.length_range
def FD:=@Array.getElem?_eq_getElem
def FE:=@PySem.wpAny_holding
def FF:=@PySem.wpAny_truthy_bool
def FH:=@List.mem_range
def FI:=@PySem.wpAny_setField
def FJ:=@Bool.true_and
def FK:=@List.all_eq_true
def FL:=@PySem.mem_of_lookup
def FM:=@List.length_pos_iff
def FN:=@PySem.wpAny_isSubtype_exc
def FO:=@Bool.false_and
def FP:=@List.getElem?_append_left
def FQ:=@beq_iff_eq
def FR:=@Option.isSome_iff_exists
def FS:=@List.getElem?_set_ne
def FT:=@PySem.wpAny_updateSeq_pair
def FU:=@List.all_cons
def FV:=@PySem.wpAny_attempt
def FW:=@PyProof.Rows.F.plain_set_update_loop
def FZ:=@beq_eq_false_iff_ne
def F0:=@PySem.sizeLine_eq
def F_:=@PySem.F.slot_zip_next
def Ga:=@List.getElem?_range
def Gb:=@List.getElem?_set_self
def Gd:=@Option.map_eq_some_iff
def Ge:=@PySem.F.slot_tuple_iterator_next
def Gf:=@List.any_eq_true
def Gg:=@List.getElem_mem
def Gh:=@Nat.ne_of_gt
def Gi:=@PySem.wpAny_Call_Name_kw
def Gj:=@decide_eq_true_iff
def Gk:=@PySem.wpAny_onRaise
def Gm:=@List.drop_eq_getElem_cons
def Gn:=@PySem.wpAny_execs_nil
def Gp:=@PySem.wpAny_passesOwn
def Gq:=@Int.emod_nonneg
def Gr:=@List.take_add_one
def Gu:=@List.ext_getElem?
def Gv:=@PySem.codeAny_mono
def Gw:=@List.replicate_succ
def Gx:=@PySem.wpAny_getItem_str_slice
def Gy:=@PySem.Heap.SameBut.update
def Gz:=@List.flatMap_append
def GA:=@List.length_reverse
def GB:=@List.getElem_of_mem
def GC:=@PySem.wpAny_execs_cons
def GD:=@List.lookup_cons
def GE:=@beq_self_eq_true
def GF:=@List.eq_nil_of_length_eq_zero
def GG:=@List.nodup_range
def GH:=@PySem.PyData.str.inj
def GI:=@PySem.F.slot_str_upper
def GJ:=@PySem.F.type_str_upper
def GK:=@PySem.F.slot_str_lower
def GL:=@PySem.F.type_str_lower
def GM:=@PySem.wpAny_pyIter_tuple
def GN:=@Int.emod_lt_of_pos
def GO:=@List.contains_cons
def GP:=@List.find?_cons
def GQ:=@PySem.builtinLookup_eq_fast
def GR:=@List.getElem?_reverse
def GS:=@PySem.F.slot_str_join
def GT:=@PySem.F.type_str_join
def GU:=@List.any_eq_false
def GV:=@PySem.typeIs_str
def GW:=@Bool.or_false
def GX:=@List.reverse_cons
def GY:=@List.flatten_cons
def GZ:=@PySem.wpAny_standAt
def G6:=@PySem.Obj.cls_mapFields
def G7:=@PySem.wpAny_rule
def G8:=@PySem.wpAny_loadName_local
def G9:=@PySem.W.looks_findIn
def G_:=@PySem.codeAny_call_builtin
def Ha:=@PyProof.Rows.F.entry_set_update_loop
def Hb:=@List.getElem_inj
def Hc:=@Nat.min_eq_right
def He:=@List.perm_middle
def Hf:=@decide_eq_decide
def Hg:=@if_true
def Hh:=@Nat.le_succ
def Hi:=@PySem.wpAny_of_eq
def Hj:=@PySem.wpAny_call
def Hk:=@PySem.F.args_tuple_add_2
def Hl:=@List.map_nil
def Hm:=@PySem.W.callWith_K
def Hn:=@PySem.F.entry_tuple_add
def Ho:=@List.eraseIdx_cons_succ
def Hq:=@Option.map_some
def Hr:=@List.length_nil
def Hs:=@List.forIn_cons
def Ht:=@PySem.wpAny_pyIter_ascii
def Hu:=@PySem.wpAny_nextOf_ascii_item
def Hv:=@PySem.codeAny_builtin
def Hw:=@PySem.W.cellsFrom_some
def Hx:=@PySem.F.slot_tuple_add
def Hy:=@PyProof.Rows.subscriptTail_builtinR
def Hz:=@PySem.Calls.callWith_builtin
def HD:=@Array.getElem?_eq_none
def HE:=@PySem.F.slot_str_index
def HF:=@PySem.F.type_str_index
def HJ:=@PySem.wpAny_Assign_Name
def HK:=@List.append_assoc
def HL:=@PySem.call_meets
def HM:=@List.eraseIdxIfInBounds_toArray
def HN:=@PySem.wpAny_letGo
def HP:=@PySem.F.args_zip_next_1
def HQ:=@PySem.EqBoolInt.of_rcne
def HR:=@PySem.wpAny_pyIter_enum
def HS:=@PySem.plainObj_wpAny_Assign_Attribute
def HU:=@List.flatMap_cons
def HV:=@List.drop_zero
def HW:=@List.nodup_nil
def HZ:=@PyProof.Rows.callWith_builtin1
def H_:=@PySem.Txt.slice_le
def Ia:=@PySem.F.slot_list_pop
def Ib:=@PySem.F.type_list_pop
def Ic:=@PySem.F.slot_str_find
def Ie:=@PySem.F.type_str_find
def Ig:=@PySem.wpAny_isInstance
def Ih:=@List.drop_length
def Ii:=@List.zipIdx_cons
def Ij:=@PySem.F.entry_zip_next
def Ik:=@PySem.wpAny_pyIter_zip
def Il:=@List.reverse_reverse
def Im:=@Nat.mul_le_mul_right
def Io:=@PySem.Around.under_plainId
def Ip:=@List.mem_of_mem_take
def Iq:=@List.any_cons
def Ir:=@PySem.F.args_tuple_iterator_next_1
def Iu:=@PySem.wpAny_Name
def Iv:=@PyProof.Rows.Subscript_
def Iw:=@List.mem_filter
def Iy:=@List.filterMap_cons
def Iz:=@PySem.wpAny_loadName_cell
def IA:=@List.of_mem_zip
def IB:=@PyProof.Rows.entry_tuple_getitem
def IC:=@PySem.post_val_or_str
def ID:=@PySem.typeLookup_type
def IE:=@Nat.min_eq_left
def IF:=@List.zipIdx_nil
def IG:=@PySem.F.entry_tuple_iterator_next
def IH:=@List.idxOf_lt_length_of_mem
def II:=@PySem.Calls.Name_function_global
def IJ:=@PySem.wpAny_newFunctionEnv_cells
def IK:=@PySem.F.excBase_ValueError
def IL:=@PySem.Calls.spliced_cons
def IM:=@PyProof.Rows.args_tuple_getitem
def IP:=@PySem.tupleKind_room_in1
def IQ:=@Nat.le_of_eq
def IR:=@Bool.false_eq_true
def IS:=@List.all_map
def IT:=@PySem.Code.quiet_builtin
def IU:=@Bool.or_true
def IV:=@PyProof.Rows.slicePart_none
def IW:=@PySem.isSubtype_type
def IX:=@PySem.isSubtype_stop
def IY:=@List.forIn_nil
def IZ:=@PySem.wpAny_letOwnedTupleGo_zip
def I_:=@List.getElem?_eq_none_iff
def Ja:=@PySem.wpAny_pyIter_list
def Jb:=@List.getElem?_take_of_lt
def Jc:=@PySem.wpAny_sequenceKey
def Jd:=@PySem.F.store_ValueError
def Je:=@Array.size_setIfInBounds
def Jf:=@List.length_erase_of_mem
def Jg:=@decide_eq_true_eq
def Jh:=@Int.emod_eq_of_lt
def Ji:=@List.idxOf_lt_length_iff
def Jj:=@PySem.Paired.length
def Jk:=@PySem.noFill_tuple_add
def Jl:=@Nat.mod_eq_of_lt
def Jm:=@List.drop_eq_nil_of_le
def Jn:=@List.range_succ_eq_map
def Jo:=@List.getElem_cons_drop
def Jp:=@PySem.wpAny_typeOf
def Jq:=@PySem.wpAny_specialOf
def Jr:=@PySem.callType_new
def Js:=@Nat.sub_zero
def Jt:=@PySem.codeAny_of_tree
def Ju:=@Nat.sub_self
def Jv:=@Nat.add_zero
def Jw:=@if_false
def Jx:=@Nat.not_lt
def Jy:=@List.mapM_cons
def Jz:=@Bool.and_false
def JA:=@List.map_take
def JB:=@Nat.le_of_lt
def JC:=@Nat.succ_mul
def JD:=@Nat.add_comm
def JE:=@Int.zero_add
namespace L2
open PySem PySem.Spec PyProof.Rows
abbrev Key:=Sum Int Str
def nu:Key→Value→Bool
 | .inl k,v=>Value.isInt k v
 | .inr x,v=>Value.isStrOf x v
def Dp (w:World):Key→Int
 | .inl k=>hashInt k
 | .inr x=>hashStr w x
theorem bg:∀ {k:Key} {v:Value},nu k v=true→(∃ i t,k=Sum.inl i∧v=Value.int i t) ∨ (∃ x t,k=Sum.inr x∧v=Value.str x t)
 | .inl i,v,h=>by
  obtain ⟨t,e⟩:=Value.isInt_shape (k:=i) (v:=v) h
  exact .inl ⟨i,t,rfl,e⟩
 | .inr x,v,h=>by
  obtain ⟨t,e⟩:=Value.isStrOf_shape (x:=x) (v:=v) h
  exact .inr ⟨x,t,rfl,e⟩
theorem oB (i:Int)(t:Tok):nu (.inl i) (.int i t)=true:=by simp [nu,Value.isInt]
theorem oE (x:Str)(t:Tok):nu (.inr x) (.str x t)=true:=by simp [nu,Value.isStrOf]
theorem zf (a b:Int):decide ((Sum.inl a:Key)=Sum.inl b)=(a == b):=by
 by_cases e:a=b
 ·subst e;simp
 ·have h:¬ (Sum.inl a:Key)=Sum.inl b:=fun q=>e (Sum.inl.inj q)
  rw [Ed h]
  exact (FZ.mpr e).symm
theorem zg (a b:Str):decide ((Sum.inr a:Key)=Sum.inr b)=decide (a=b):=by
 by_cases e:a=b
 ·subst e;simp
 ·have h:¬ (Sum.inr a:Key)=Sum.inr b:=fun q=>e (Sum.inr.inj q)
  rw [Ed h,Ed e]
theorem zh (a:Int)(b:Str):decide ((Sum.inl a:Key)=Sum.inr b)=false:=Ed (fun q=>nomatch q)
theorem zi (a:Str)(b:Int):decide ((Sum.inr a:Key)=Sum.inl b)=false:=Ed (fun q=>nomatch q)
def bx (prog:Program)(w:World):PySem.KeyKind prog w Key where
 is:=nu
 hash:=Dp w
 inj:=fun v a b ha hb=>by
  rcases bg ha with ⟨i,t,rfl,rfl⟩ | ⟨x,t,rfl,rfl⟩
  ·rcases bg hb with ⟨j,u,rfl,e⟩ | ⟨y,u,rfl,e⟩
   ·injection e with e1 _;rw [e1]
   ·exact nomatch e
  ·rcases bg hb with ⟨j,u,rfl,e⟩ | ⟨y,u,rfl,e⟩
   ·exact nomatch e
   ·injection e with e1 _;rw [e1]
 byValue:=fun k v h=>by
  rcases bg h with ⟨i,t,rfl,rfl⟩ | ⟨x,t,rfl,rfl⟩ <;> rfl
 pyHash:=fun hv h=>by
  rcases bg hv with ⟨i,t,rfl,rfl⟩ | ⟨x,t,rfl,rfl⟩
  ·exact wpAny_pyHash_int h
  ·exact wpAny_pyHash_str h
 eqBool:=fun hu hv h=>by
  rcases bg hu with ⟨i,t,rfl,rfl⟩ | ⟨x,t,rfl,rfl⟩
  ·rcases bg hv with ⟨j,u,rfl,rfl⟩ | ⟨y,u,rfl,rfl⟩
   ·rw [zf] at h;exact wpAny_eqBool_int h
   ·rw [zh] at h;exact SeqAt.EqAt.int_str i t y u _ _ _ _ h
  ·rcases bg hv with ⟨j,u,rfl,rfl⟩ | ⟨y,u,rfl,rfl⟩
   ·rw [zi] at h;exact SeqAt.EqAt.str_int x t j u _ _ _ _ h
   ·rw [zg] at h;exact wpAny_eqBool_str h
 «strs»:=fun k x t v h=>by
  rcases bg h with ⟨i,u,rfl,e⟩ | ⟨y,u,rfl,e⟩
  ·exact nomatch e
  ·injection e with e1 _
   subst e1
   cases v <;> rfl
theorem kL (prog:Program)(w:World)(i:Int)(t:Tok):(bx prog w).is (.inl i) (.int i t)=true:=oB i t
theorem kM (prog:Program)(w:World)(x:Str)(t:Tok):(bx prog w).is (.inr x) (.str x t)=true:=oE x t
inductive V where
 | non | bl (b:Bool) | int (i:Int) | str (x:Str) | byt (b:Array UInt8) | flt (b:UInt64) | ref (a:Addr) | ty (n:String)
 deriving DecidableEq
def bq:V→Value→Prop
 | .non,u=>u=Value.none
 | .bl b,u=>u=Value.bool b
 | .int i,u=>∃ t,u=Value.int i t
 | .str x,u=>∃ t,u=Value.str x t
 | .byt b,u=>∃ t,u=Value.bytes b t
 | .flt b,u=>∃ t,u=Value.float b t
 | .ref a,u=>u=Value.ref a
 | .ty n,u=>u=Value.type n
abbrev a8:List V→List Value→Prop:=Paired bq
theorem a8.length {xs:List V}{us:List Value}(r:a8 xs us):xs.length=us.length:=Jj r
theorem a8.get:∀ {xs:List V} {us:List Value} {i:Nat} {x:V},a8 xs us→xs[i]? = some x→∃ u,us[i]? = some u∧bq x u
 | _,_,_,_,.nil,e=>by simp at e
 | _,_,0,_,.cons r _,e=>by simp at e;subst e;exact ⟨_,rfl,r⟩
 | _,_,i+1,x,.cons _ t,e=>by
  obtain ⟨u,h1,h2⟩:=a8.get (i:=i) (x:=x) t (by simpa using e)
  exact ⟨u,by simpa using h1,h2⟩
theorem a8.append:∀ {xs ys:List V} {us ws:List Value},a8 xs us→a8 ys ws→a8 (xs++ys) (us++ws)
 | _,_,_,_,.nil,s=>s
 | _,_,_,_,.cons r t,s=>.cons r (a8.append t s)
theorem a8.take:∀ {xs:List V} {us:List Value} (n:Nat),a8 xs us→a8 (xs.take n) (us.take n)
 | _,_,0,_=>.nil
 | _,_,_+1,.nil=>.nil
 | _,_,n+1,.cons r t=>.cons r (a8.take n t)
theorem a8.drop:∀ {xs:List V} {us:List Value} (n:Nat),a8 xs us→a8 (xs.drop n) (us.drop n)
 | _,_,0,r=>r
 | _,_,_+1,.nil=>.nil
 | _,_,n+1,.cons _ t=>a8.drop n t
def kK:Option V→Option Value→Prop
 | some v,some u=>bq v u
 | none,none=>True
 | _,_=>False
def KV {κ:Type}:List (κ × V)→List (κ × Value)→Prop:=Paired fun (p:κ × V) (q:κ × Value)=>p.1=q.1∧bq p.2 q.2
def kV:Key→V
 | .inl i=>.int i
 | .inr x=>.str x
inductive HO where
 | lst (xs:List V)
 | tup (xs:List V)
 | dK (Kt:List (Key × V)) | dT (Kt:List (List Key × V))
 | set (S:Int→Bool) (n:Nat)
 | ins (C dx:Addr) (fs:List (Str × V))
 | own (x:Addr)
 | xd (fs:List (Str × V))
 | met (f x:Addr)
 | rng (lo hi:Int)
 | frz (o:Obj) (u:HO)
 | tbl (ps:Array Value)
 | ext (φ:Heap→Prop)
abbrev Hp:=Addr→Option HO
def upd (H:Hp)(a:Addr)(o:HO):Hp:=fun b=>if b=a then some o else H b
theorem ag {H:Hp}{a:Addr}{o:HO}:upd H a o a=some o:=by unfold upd; rw [if_pos rfl]
theorem ar {H:Hp}{a b:Addr}{o:HO}(h:b≠a):upd H a o b=H b:=by unfold upd; rw [if_neg h]
theorem dv {H:Hp}{a:Addr}{o u:HO}:upd (upd H a o) a u=upd H a u:=by
 funext b;unfold upd;split <;> rfl
theorem gX {H:Hp}{a b:Addr}{o u:HO}(h:H a=some o)(h':H b=some u)(d:o≠u):a≠b:=by
 intro e;subst e;rw [h] at h';exact d (EE h')
theorem aw {H:Hp}{a b:Addr}{o:HO}(h:H a=some o)(h':H b=none):a≠b:=by
 intro e;subst e;rw [h] at h';cases h'
section
variable (P:Program) (w:World)
def NoD (h:Heap)(a:Addr):Prop:=∃ o,h.get? a=some o∧o.dict=none
theorem NoD.new (h:Heap)(o:Obj)(e:o.dict=none)(hf:o.isFreed=false:=by rfl):NoD (h.push o) h.objs.size:=⟨o,El _ hf,e⟩
def bz (H:Hp)(h:Heap)(a:Addr):HO→Prop
 | .lst xs=>xs.length≤sizeLine∧∃ (its:List Value) (n:Nat),a8 xs its∧h.get? a=some { cls:=.type "list",data:=.seq its.toArray n }
 | .tup xs=>xs.length≤sizeLine∧∃ its:List Value,a8 xs its∧IsTup h a its.toArray∧NoD h a
 | .dK Kt=>Kt.length≤sizeLine∧(a == sysModules)=false∧∃ vs,KV Kt vs∧h.DictOf (bx P w) a vs
 | .dT Kt=>Kt.length≤sizeLine∧(a == sysModules)=false∧∃ xs:List (List Key × Addr × Value),
   Paired (fun (p:List Key × V) (q:List Key × Addr × Value)=>p.1=q.1∧H q.2.1=some (.tup (p.1.map kV))∧bq p.2 q.2.2) Kt xs ∧
   ∃ o es ep,h.get? a=some o∧o.ExactDict∧o.data = .dict es ep∧es.toList=xs.map (entryOfKey (tupleKind (bx P w)))∧(xs.map (·.1)).Nodup
 | .set S n=>h.SetOf (intKind P w) a S n
 | .ins C dx fs=>H dx=some (.own a)∧fs.length≤1000∧dx≠a∧h.get? a=some (PySem.W.instObj C dx) ∧
   ∃ mA,h.Ns1 dx mA∧(∀ f,kK (fs.lookup f) (mA f))∧PySem.Within mA (fs.map (·.1))
 | .own _=>∃ o,h.get? a=some o
 | .xd fs=>∃ mA,h.Ns1 a mA∧∀ f,kK (fs.lookup f) (mA f)
 | .rng lo hi=>∃ t u v,h.get? a=some { cls:=.type "range",data:=.fields #[.int lo t,.int hi u,.int 1 v] }
 | .frz o u=>h.get? a=some o∧bz H h a u
 | .tbl ps=>h.get? a=some { cls:=.none,data:=.fields ps }
 | .met f x=>h.get? a=some (PySem.W.methodObj (.ref f) (.ref x))
 | .ext φ=>φ h∧(∃ o,h.get? a=some o)∧∀ h1 h2:Heap,φ h1→(∀ o,h1.get? a=some o→h2.get? a=some o)→φ h2
def HOk (H:Hp)(h:Heap):Prop:=∀ a o,H a=some o→bz P w H h a o
end
section
variable {P:Program} {w:World} {H H':Hp} {h h':Heap} {a:Addr} {o:HO}
theorem bz.lt (x:bz P w H h a o):a < h.objs.size:=by
 cases o with
 | lst xs=>obtain ⟨_,_,_,_,e⟩:=x;exact Em e
 | tup xs=>obtain ⟨_,_,_,p,_⟩:=x;exact p.lt
 | dK Kt=>obtain ⟨_,_,_,_,o,_,_,e,_⟩:=x;exact Em e
 | dT Kt=>obtain ⟨_,_,_,_,o,_,_,e,_⟩:=x;exact Em e
 | set S n=>obtain ⟨o,_,_,_,e,_⟩:=x;exact Em e
 | ins C dx fs=>obtain ⟨_,_,_,e,_⟩:=x;exact Em e
 | own y=>obtain ⟨_,e⟩:=x;exact Em e
 | xd fs=>obtain ⟨_,⟨_,_,_,e,_⟩,_⟩:=x;exact Em e
 | rng lo hi=>obtain ⟨_,_,_,e⟩:=x;exact Em e
 | frz ob u=>obtain ⟨e,_⟩:=x;exact Em e
 | tbl ps=>exact Em (show h.get? a=some _ from x)
 | met f y=>exact Em (show h.get? a=some _ from x)
 | ext φ=>obtain ⟨_,⟨_,e⟩,_⟩:=x;exact Em e
theorem Paired.mapP {α β:Type}{F G:α→β→Prop}:∀ {l₁:List α} {l₂:List β},Paired F l₁ l₂→(∀ a b,F a b→G a b)→Paired G l₁ l₂
 | _,_,.nil,_=>.nil
 | _,_,.cons r t,f=>.cons (f _ _ r) (Paired.mapP t f)
theorem bz.stay (x:bz P w H h a o)(k:∀ b u,(b=a ∨ H b=some (.own a))→h.get? b=some u→h'.get? b=some u)
  (ho:∀ b,H b=some (.own a)→H' b=some (.own a)) (ht:∀ b xs,H b=some (.tup xs)→H' b=some (.tup xs)):bz P w H' h' a o:=by
 induction o with
 | lst xs=>obtain ⟨z,its,n,r,e⟩:=x;exact ⟨z,its,n,r,k _ _ (.inl rfl) e⟩
 | tup xs=>obtain ⟨z,its,r,⟨ob,e,c⟩,o2,e2,c2⟩:=x;exact ⟨z,its,r,⟨ob,k _ _ (.inl rfl) e,c⟩,o2,k _ _ (.inl rfl) e2,c2⟩
 | dK Kt=>obtain ⟨z,y,vs,r,ob,es,ep,e,c⟩:=x;exact ⟨z,y,vs,r,ob,es,ep,k _ _ (.inl rfl) e,c⟩
 | dT Kt =>
  obtain ⟨z,y,xs,r,ob,es,ep,e,c⟩:=x
  exact ⟨z,y,xs,Paired.mapP r fun p q z=>⟨z.1,ht _ _ z.2.1,z.2.2⟩,ob,es,ep,k _ _ (.inl rfl) e,c⟩
 | set S n=>obtain ⟨ob,es,ep,t,e,c⟩:=x;exact ⟨ob,es,ep,t,k _ _ (.inl rfl) e,c⟩
 | ins C dx fs =>
  obtain ⟨d,z,ne,e,mA,⟨od,es,ep,e2,c⟩,r⟩:=x
  exact ⟨ho _ d,z,ne,k _ _ (.inl rfl) e,mA,⟨od,es,ep,k _ _ (.inr d) e2,c⟩,r⟩
 | own y=>obtain ⟨ob,e⟩:=x;exact ⟨ob,k _ _ (.inl rfl) e⟩
 | xd fs=>obtain ⟨mA,⟨od,es,ep,e,c⟩,r⟩:=x;exact ⟨mA,⟨od,es,ep,k _ _ (.inl rfl) e,c⟩,r⟩
 | rng lo hi=>obtain ⟨t,u,v,e⟩:=x;exact ⟨t,u,v,k _ _ (.inl rfl) e⟩
 | frz ob u ih=>obtain ⟨e,q⟩:=x;exact ⟨k _ _ (.inl rfl) e,ih q⟩
 | tbl ps =>
  have e:h.get? a=some { cls:=.none,data:=.fields ps }:=x
  show h'.get? a=some { cls:=.none,data:=.fields ps }
  exact k a _ (.inl rfl) e
 | met f y =>
  have e:h.get? a=some (PySem.W.methodObj (.ref f) (.ref y)):=x
  show h'.get? a=some (PySem.W.methodObj (.ref f) (.ref y))
  exact k a _ (.inl rfl) e
 | ext φ=>obtain ⟨p,⟨o,e⟩,st⟩:=x;exact ⟨st _ _ p fun o q=>k _ _ (.inl rfl) q,⟨o,k _ _ (.inl rfl) e⟩,st⟩
theorem HOk.lt (x:HOk P w H h)(e:H a=some o):a < h.objs.size:=(x a o e).lt
theorem HOk.fresh (x:HOk P w H h)(e:h.objs.size≤a):H a=none:=by
 cases q:H a with
 | none=>rfl
 | some u=>exact absurd (Et (x.lt q) e) (E9 _)
theorem HOk.kept (x:HOk P w H h)(k:∀ b u,h.get? b=some u→h'.get? b=some u):HOk P w H h':=fun a o e =>
 (x a o e).stay (fun b u _ q=>k b u q) (fun _ q=>q) fun _ _ q=>q
theorem HOk.laid (x:HOk P w H h)(k:∀ b u,h.get? b=some u→h'.get? b=some u)(hp:h.objs.size≤a)(new:bz P w (upd H a o) h' a o):HOk P w (upd H a o) h':=fun b u e=>by
 have hn:=x.fresh hp
 by_cases hb:b=a
 ·subst hb;rw [ag] at e;cases e;exact new
 ·rw [ar hb] at e
  exact (x b u e).stay (fun c v _ q=>k c v q) (fun c q=>by rw [ar (aw q hn)];exact q) fun c xs q=>by rw [ar (aw q hn)];exact q
end
def Rd (H:Hp)(a:Addr)(u:HO):Prop:=H a=some u ∨ ∃ o,H a=some (.frz o u)
theorem Rd.ok {P:Program}{w:World}{H:Hp}{h:Heap}{a:Addr}{u:HO}(r:Rd H a u)(x:HOk P w H h):bz P w H h a u:=by
 rcases r with r | ⟨o,r⟩
 ·exact x a u r
 ·obtain ⟨_,q⟩:=x a _ r
  exact q
def Mut:Option HO→Prop
 | some (.lst _)=>True
 | some (.dK _)=>True
 | some (.dT _)=>True
 | some (.set _ _)=>True
 | some (.ins _ _ _)=>True
 | some (.ext _)=>True
 | _=>False
section
variable {P:Program} {w:World} {H:Hp} {h h':Heap} {x e:Addr} {o':HO}
theorem HOk.write (ok:HOk P w H h)(mu:Mut (H x))(he:e=x ∨ H e=some (.own x))(k:∀ b u,b≠e→h.get? b=some u→h'.get? b=some u)(heo:∃ u,h'.get? e=some u)
  (new:bz P w (upd H x o') h' x o'):HOk P w (upd H x o') h':=fun b u q=>by
 have nown:∀ c y,H c=some (.own y)→c≠x:=fun c y r z=>by subst z;rw [r] at mu;exact mu
 have ntup:∀ c xs,H c=some (.tup xs)→c≠x:=fun c xs r z=>by subst z;rw [r] at mu;exact mu
 by_cases hb:b=x
 ·subst hb;rw [ag] at q;cases q;exact new
 ·rw [ar hb] at q
  by_cases hbe:b=e
  ·have q':H b=some (.own x):=by
    rcases he with z | z
    ·exact absurd (hbe.trans z) hb
    ·rw [hbe];exact z
   rw [q] at q';cases q'
   obtain ⟨v,hv⟩:=heo
   exact ⟨v,by rw [hbe];exact hv⟩
  ·refine (ok b u q).stay (fun c v hc r=>k c v ?_ r) (fun c r=>by rw [ar (nown c b r)];exact r) fun c xs r=>by rw [ar (ntup c xs r)];exact r
   rcases hc with rfl | hc
   ·exact hbe
   ·rintro rfl
    rcases he with z | z
    ·exact nown c b hc z
    ·rw [hc] at z;cases z;exact hb rfl
end
structure Un (fs ex:List Addr) (H H':Hp) (h h':Heap):Prop where
 keep:∀ b o,h.get? b=some o→H b=none→b∉fs→b∉ex→h'.get? b=some o
 slot:∀ b o,h.get? b=some o→H b=none→b∈fs→b∉ex→∃ sl,h'.get? b=some { o with slots:=sl }
 free:∀ b o,h.get? b=some o→H b=none→b∉ex→H' b=none
 there:∀ b o,h.get? b=some o→b∉ex→∃ o',h'.get? b=some o'
 tups:∀ b xs,H b=some (.tup xs)→H' b=some (.tup xs)
 frzs:∀ b o u,H b=some (.frz o u)→H' b=some (.frz o u)
 tbls:∀ b ps,H b=some (.tbl ps)→∃ more,H' b=some (.tbl (ps++more))
section
variable {fs fs' ex ex':List Addr} {H H1 H2:Hp} {h h1 h2 h':Heap} {a x e:Addr} {o:HO}
theorem Un.any (u:Un fs ex H H1 h h1){b:Addr}{ob:Obj}(q:h.get? b=some ob)(n:H b=none)(hx:b∉ex):∃ sl,h1.get? b=some { ob with slots:=sl }:=by
 by_cases hb:b∈fs
 ·exact u.slot b ob q n hb hx
 ·exact ⟨ob.slots,u.keep b ob q n hb hx⟩
theorem Un.kept (k:∀ b u,h.get? b=some u→h'.get? b=some u):Un fs ex H H h h' :=
 ⟨fun b ob q _ _ _=>k b ob q,fun b ob q _ _ _=>⟨ob.slots,k b ob q⟩,fun _ _ _ n _=>n,fun b ob q _=>⟨ob,k b ob q⟩,fun _ _ q=>q,fun _ _ _ q=>q,fun _ ps q=>⟨#[],by rw [q];simp⟩⟩
theorem Un.refl:Un fs ex H H h h:=Un.kept fun _ _ q=>q
theorem Un.laid (k:∀ b u,h.get? b=some u→h'.get? b=some u)(hp:h.objs.size≤a)(hn:H a=none):Un fs ex H (upd H a o) h h' where
 keep:=fun b u q _ _ _=>k b u q
 slot:=fun b u q _ _ _=>⟨u.slots,k b u q⟩
 free:=fun b u q n _=>by rw [ar (EK (Et (Em q) hp))];exact n
 there:=fun b u q _=>⟨u,k b u q⟩
 tups:=fun b xs q=>by rw [ar (aw q hn)];exact q
 frzs:=fun b u xs q=>by rw [ar (aw q hn)];exact q
 tbls:=fun b ps q=>⟨#[],by rw [ar (aw q hn),q];simp⟩
theorem Un.write (mu:Mut (H x))(he:e=x ∨ H e=some (.own x))(k:∀ b u,b≠e→h.get? b=some u→h'.get? b=some u)(heo:∃ u,h'.get? e=some u):Un fs ex H (upd H x o) h h':=by
 have hx:∀ b,H b=none→b≠x:=fun b n z=>by subst z;rw [n] at mu;exact mu
 have hb:∀ b,H b=none→b≠e:=fun b n z=>by
  subst z
  rcases he with r | r
  ·exact hx b n r
  ·rw [n] at r;cases r
 have hm:∀ b u,H b=some u→¬ Mut (some u)→b≠x:=fun b u q nm z=>by subst z;rw [q] at mu;exact nm mu
 refine ⟨fun b u q n _ _=>k b u (hb b n) q,fun b u q n _ _=>⟨u.slots,k b u (hb b n) q⟩,fun b u q n _=>by rw [ar (hx b n)];exact n,fun b u q _=>?_,
  fun b xs q=>by rw [ar (hm b _ q fun z=>z)];exact q,fun b u xs q=>by rw [ar (hm b _ q fun z=>z)];exact q,fun b ps q=>⟨#[],by rw [ar (hm b _ q fun z=>z),q];simp⟩⟩
 by_cases hbe:b=e
 ·subst hbe;exact heo
 ·exact ⟨u,k b u hbe q⟩
end
def trk (h:Heap)(H:Hp):List Addr:=(List.range h.objs.size).filter fun a=>(H a).isSome
def sO (h:Heap)(H:Hp):Heap:=PySem.W.hideAll h (trk h H)
theorem oF (h:Heap)(H:Hp):(sO h H).objs.size=h.objs.size:=PySem.W.hideAll_size _ _
theorem sP {h:Heap}{H:Hp}{b:Addr}{o:Obj}(e:h.get? b=some o)(n:H b=none):(sO h H).get? b=some o :=
 PySem.W.hideAll_get _ e fun hm=>by
  have q:(H b).isSome=true:=(Iw.mp hm).2
  rw [n] at q;simp at q
theorem wW {h:Heap}{H:Hp}{b:Addr}{o:Obj}(e:(sO h H).get? b=some o):h.get? b=some o∧H b=none:=by
 have e':h.get? b=some o:=PySem.W.of_hideAll (trk h H) e
 refine ⟨e',?_⟩
 cases q:H b with
 | none=>rfl
 | some x =>
  have hm:b∈trk h H:=Iw.mpr ⟨FH.mpr (Em e'),by simp [q]⟩
  have z:(sO h H).get? b=none:=PySem.W.hideAll_none (trk h H) hm
  rw [z] at e;cases e
structure Mod (K:PySem.W.Frag) (mg:Str→Option Value) (base:Heap):Prop where
 kin:K.In base
 glob:base.Ns mainGlobals mg
 blt:∃ mb,base.Ns builtinsNs mb∧∀ x:Str,x ≠ "__name__"→mb x=bootBuiltins x
 nolimit:base.NoLimit
/-- the context: a def's body (or a comprehension's block) running. base: fixed through the whole law;s₀,H₀: the entry;outer: the frames whose slots others may change (a def's callers);stack: all frames that run;
  ex: iterators that were made ahead of the entry and are walked here (a comprehension's);fn: the names whose cells were made at the entry (a def: all;a comprehension's block: its own);calm: not within an except suite;pn: Ks that every state bears;xe: what is wanted of an exception that leaves the code -/
structure Cx where
 prog:Program
 w:World
 K:PySem.W.Frag
 mg:Str→Option Value
 base:Heap
 A:Around
 N:List Str
 s₀:Shared
 H₀:Hp
 env:Env
 outer:List Env
 stack:List Env
 ex:List Addr
 fn:Str→Bool
 calm:Bool
 pn:List (Addr × Obj)
 xe:Value→Shared→Prop
def frs (l:List Env):List Addr:=l.filterMap (·.frame)
abbrev Cx.fs (X:Cx):List Addr:=frs X.outer
def Vis (sc:Scope)(x:Str):Prop:=sc.names.lookup x=some .local ∨ sc.names.lookup x=some .cell ∨ sc.names.lookup x=some .free
def Loc (sc:Scope)(x:Str):Prop:=sc.names.lookup x=some .local ∨ sc.names.lookup x=some .cell
def Dq (env:Env)(h:Heap)(m:Str→Option Value)(x:Str)(u:Value):Prop :=
 (env.kindOf x=some .local∧m x=some u) ∨ ((env.kindOf x=some .cell ∨ env.kindOf x=some .free)∧∃ c,env.cells.lookup x=some c∧h.IsCell c (some u))
structure Cx.Ok (X:Cx):Prop where
 mod:Mod X.K X.mg X.base
 kind:X.env.scope.kind = .function
 glob:X.env.globals=mainGlobals
 blt:X.env.builtins=builtinsNs
 above:X.s₀.heap.objs.size≤X.env.locals
 inj:∀ x y c,X.env.cells.lookup x=some c→X.env.cells.lookup y=some c→x=y
 has:∀ x,(X.env.kindOf x=some .cell ∨ X.env.kindOf x=some .free)→∃ c,X.env.cells.lookup x=some c
 cab:∀ x c,X.fn x=true→X.env.cells.lookup x=some c→X.s₀.heap.objs.size≤c
 hd:X.calm=true→X.A.handled=none
 frames:X.A.frames=some X.stack
 stk:X.stack=X.outer ∨ (X.stack=X.env::X.outer∧X.env.frame=some X.env.locals)
 exf:∀ b∈X.ex,b≠X.env.locals∧∀ x c,X.env.cells.lookup x=some c→c≠b
 bs:∀ b o,X.base.get? b=some o→X.s₀.heap.get? b=some o∧X.H₀ b=none
 bsz:X.base.objs.size≤X.s₀.heap.objs.size
 noex:∀ b o,X.base.get? b=some o→b∉X.ex
 exfs:∀ b∈X.ex,b∉X.fs
 funs:X.s₀.heap.FunFrames X.base X.outer
 frf:∀ b∈X.fs,X.H₀ b=none
structure Inv (X:Cx) (Ks:List (Addr × Obj)) (σ:List (Option V)) (H:Hp) (s:Shared):Prop where
 ok:X.Ok
 os:s.os=X.s₀.os
 bare:AllBare s.gens
 base:Un X.fs X.ex X.H₀ H X.s₀.heap s.heap
 loc:∃ m,s.heap.Ns X.env.locals m∧∀ (i:Nat) (x:Str) (v:V),X.N[i]? = some x→σ[i]? = some (some v)→Vis X.env.scope x→∃ u,bq v u∧Dq X.env s.heap m x u
 cell:∀ x c,X.env.cells.lookup x=some c→∃ v,s.heap.IsCell c v
 free:H X.env.locals=none
 freeC:∀ x c,X.env.cells.lookup x=some c→H c=none
 pin:∀ p∈X.pn++Ks,s.heap.get? p.1=some p.2∧H p.1=none∧p.1≠X.env.locals∧p.1∉X.fs∧∀ v,p.2.data ≠ .cell v
 hok:HOk X.prog X.w H s.heap
 len:σ.length=X.N.length
section
variable {X:Cx} {Ks:List (Addr × Obj)} {σ:List (Option V)} {H H':Hp} {s:Shared} {h':Heap}
theorem Cx.Ok.nofr (ok:X.Ok){b:Addr}{o:Obj}(e:X.base.get? b=some o):b∉X.fs:=fun hb=>by
 have:=(ok.funs.mem hb).1
 rw [e] at this;cases this
theorem Inv.bs (I:Inv X Ks σ H s):∀ b o,X.base.get? b=some o→s.heap.get? b=some o∧H b=none:=fun b o e =>
 ⟨I.base.keep b o (I.ok.bs b o e).1 (I.ok.bs b o e).2 (I.ok.nofr e) (I.ok.noex b o e),I.base.free b o (I.ok.bs b o e).1 (I.ok.bs b o e).2 (I.ok.noex b o e)⟩
theorem Inv.bk (I:Inv X Ks σ H s):∀ b o,X.base.get? b=some o→s.heap.get? b=some o:=fun b o e=>(I.bs b o e).1
theorem Inv.mod (I:Inv X Ks σ H s):Mod X.K X.mg X.base:=I.ok.mod
theorem Inv.kIn (I:Inv X Ks σ H s):X.K.In s.heap:=I.ok.mod.kin.keeps I.bk
theorem Inv.fr (I:Inv X Ks σ H s):∃ m,Fr X.base X.env.locals s.heap m :=
 let ⟨m,hn,_⟩:=I.loc
 ⟨m,hn,I.bk,EV I.ok.bsz I.ok.above⟩
theorem Inv.lt (I:Inv X Ks σ H s):X.env.locals < s.heap.objs.size:=let ⟨_,hn,_⟩:=I.loc; hn.lt
theorem Inv.sz (I:Inv X Ks σ H s):X.s₀.heap.objs.size≤s.heap.objs.size:=EV I.ok.above (JB I.lt)
theorem Inv.nofs (I:Inv X Ks σ H s){a:Addr}(h:s.heap.objs.size≤a):a∉X.fs:=fun hb=>by
 obtain ⟨_,o,ho,_⟩:=I.ok.funs.mem hb
 exact absurd (Et (Em ho) (EV I.sz h)) (E9 _)
theorem Inv.cne (I:Inv X Ks σ H s):∀ x c,X.env.cells.lookup x=some c→c≠X.env.locals:=fun x c e z=>by
 obtain ⟨v,o,ho,hd⟩:=I.cell x c e
 obtain ⟨m,⟨o',es,ep,ho',hd',_⟩,_⟩:=I.loc
 rw [z,ho'] at ho;cases ho;rw [hd'] at hd;cases hd
theorem Inv.funs (I:Inv X Ks σ H s):s.heap.FunFrames X.base X.outer:=by
 have all:∀ (l:List Env),(∀ b∈frs l,b∈X.fs)→X.s₀.heap.FunFrames X.base l→s.heap.FunFrames X.base l:=by
  intro l
  induction l with
  | nil=>intro _ _;trivial
  | cons env r ih =>
   intro hs hl
   obtain ⟨hk,⟨L,o,hf,hn,ho,hd⟩,hr⟩:=hl
   have hL:L∈X.fs:=hs L (by unfold frs;rw [Iy,hf];exact Ex)
   obtain ⟨sl,e⟩:=I.base.slot L o ho (I.ok.frf L hL) hL fun z=>I.ok.exfs L z hL
   exact ⟨hk,⟨L,_,hf,hn,e,hd⟩,ih (fun b hb=>hs b (by unfold frs;rw [Iy,hf];exact Ej _ hb)) hr⟩
 exact all X.outer (fun _ hb=>hb) I.ok.funs
theorem Inv.stack (I:Inv X Ks σ H s):s.heap.FunFrames X.base X.stack:=by
 rcases I.ok.stk with e | ⟨e,hf⟩
 ·rw [e];exact I.funs
 ·rw [e]
  obtain ⟨m,hn,_⟩:=I.loc
  refine .cons (by rw [I.ok.kind];decide) hf hn ?_ I.funs
  exact Heap.get?_none_of_le (EV I.ok.bsz I.ok.above)
theorem Inv.stkSub (I:Inv X Ks σ H s):∀ b∈frs X.stack,b∈X.env.locals::X.fs:=fun b hb=>by
 rcases I.ok.stk with e | ⟨e,hf⟩
 ·rw [e] at hb;exact Ej _ hb
 ·rw [e] at hb
  unfold frs at hb
  rw [Iy,hf] at hb
  exact hb
theorem Inv.stkFree (I:Inv X Ks σ H s):∀ b∈frs X.stack,H b=none:=fun b hb=>by
 rcases Ei.mp (I.stkSub b hb) with e | hb
 ·rw [e];exact I.free
 ·obtain ⟨_,o,ho,_⟩:=I.ok.funs.mem hb
  exact I.base.free b o ho (I.ok.frf b hb) fun z=>I.ok.exfs b z hb
theorem Inv.step {g':Array GenState}{t':Nat}{d':Drawn}{ch:List Addr}(I:Inv X Ks σ H s)
  (hch:∀ b∈ch,(b∈X.ex ∨ X.s₀.heap.objs.size≤b)∧b≠X.env.locals∧(∀ x c,X.env.cells.lookup x=some c→c≠b)∧∀ p∈X.pn++Ks,p.1≠b)
  (keep:∀ b o,b≠X.env.locals→b∉X.fs→b∉ch→s.heap.get? b=some o→H b=none→h'.get? b=some o)
  (slot:∀ b o,b≠X.env.locals→b∈X.fs→b∉ch→s.heap.get? b=some o→H b=none→∃ sl,h'.get? b=some { o with slots:=sl }) (free:∀ b o,b∉ch→s.heap.get? b=some o→H b=none→H' b=none)
  (there:∀ b o,b∉ch→s.heap.get? b=some o→∃ o',h'.get? b=some o')
  (tups:∀ b xs,H b=some (.tup xs)→H' b=some (.tup xs)) (frzs:∀ b o u,H b=some (.frz o u)→H' b=some (.frz o u)) (tbls:∀ b ps,H b=some (.tbl ps)→∃ more,H' b=some (.tbl (ps++more)))
  (ns:∀ m,s.heap.Ns X.env.locals m→h'.Ns X.env.locals m) (hok:HOk X.prog X.w H' h') (hg:AllBare g') :
  Inv X Ks σ H' { s with heap:=h',gens:=g',drawn:=d',toks:=t' }:=by
 have neL:∀ b o,X.s₀.heap.get? b=some o→b≠X.env.locals:=fun b o e=>EK (Et (Em e) I.ok.above)
 have neC:∀ b o,X.s₀.heap.get? b=some o→b∉X.ex→b∉ch:=fun b o e hx hb=>by
  rcases (hch b hb).1 with z | z
  ·exact hx z
  ·exact absurd (Et (Em e) z) (E9 _)
 have cellK:∀ x c,X.env.cells.lookup x=some c→∀ v,s.heap.IsCell c v→h'.IsCell c v:=fun x c e v ⟨o,ho,hd⟩=>by
  have nch:c∉ch:=fun z=>(hch c z).2.2.1 x c e rfl
  by_cases hc:c∈X.fs
  ·obtain ⟨sl,q⟩:=slot c o (I.cne x c e) hc nch ho (I.freeC x c e)
   exact ⟨_,q,hd⟩
  ·exact ⟨o,keep c o (I.cne x c e) hc nch ho (I.freeC x c e),hd⟩
 refine ⟨I.ok,I.os,hg,⟨fun b o e n hb hx=>?_,fun b o e n hb hx=>?_,fun b o e n hx=>?_,fun b o e hx=>?_,fun b xs e=>tups b xs (I.base.tups b xs e),fun b o xs e=>frzs b o xs (I.base.frzs b o xs e),fun b ps e=>?_⟩,?_,fun x c e=>?_,?_,fun x c e=>?_,fun p hp=>?_,hok,I.len⟩
 ·exact keep b o (neL b o e) hb (neC b o e hx) (I.base.keep b o e n hb hx) (I.base.free b o e n hx)
 ·obtain ⟨sl,e1⟩:=I.base.slot b o e n hb hx
  obtain ⟨sl',e2⟩:=slot b _ (neL b o e) hb (neC b o e hx) e1 (I.base.free b o e n hx)
  exact ⟨sl',e2⟩
 ·obtain ⟨o',e1⟩:=I.base.there b o e hx
  exact free b o' (neC b o e hx) e1 (I.base.free b o e n hx)
 ·obtain ⟨o',e1⟩:=I.base.there b o e hx
  exact there b o' (neC b o e hx) e1
 ·obtain ⟨m1,e1⟩:=I.base.tbls b ps e
  obtain ⟨m2,e2⟩:=tbls b _ e1
  exact ⟨m1++m2,by rw [e2,Array.append_assoc]⟩
 ·obtain ⟨m,hn,hl⟩:=I.loc
  refine ⟨m,ns m hn,fun i x v e1 e2 e3=>?_⟩
  obtain ⟨u,r,l⟩:=hl i x v e1 e2 e3
  refine ⟨u,r,?_⟩
  rcases l with l | ⟨k,c,e,z⟩
  ·exact .inl l
  ·exact .inr ⟨k,c,e,cellK x c e _ z⟩
 ·obtain ⟨v,z⟩:=I.cell x c e
  exact ⟨v,cellK x c e v z⟩
 ·obtain ⟨m,⟨o,_,_,ho,_⟩,_⟩:=I.loc
  exact free _ o (fun z=>(hch _ z).2.1 rfl) ho I.free
 ·obtain ⟨v,o,ho,hd⟩:=I.cell x c e
  exact free c o (fun z=>(hch c z).2.2.1 x c e rfl) ho (I.freeC x c e)
 ·obtain ⟨e,n,ne,nf,d⟩:=I.pin p hp
  have nch:p.1∉ch:=fun z=>(hch p.1 z).2.2.2 p hp rfl
  exact ⟨keep p.1 p.2 ne nf nch e n,free p.1 p.2 nch e n,ne,nf,d⟩
theorem Inv.un {t':Nat}(I:Inv X Ks σ H s)(u:Un X.fs [] H H' s.heap h')(hok:HOk X.prog X.w H' h'):Inv X Ks σ H' { s with heap:=h',toks:=t' }:=by
 obtain ⟨m,⟨o,es,ep,ho,r⟩,_⟩:=id I.loc
 obtain ⟨sl,hL⟩:=u.any ho I.free (by simp)
 exact I.step (g':=s.gens) (d':=s.drawn) (ch:=[]) (fun _ z=>nomatch z) (fun b o _ hb _ e n=>u.keep b o e n hb (by simp)) (fun b o _ hb _ e n=>u.slot b o e n hb (by simp)) (fun b o _ e n=>u.free b o e n (by simp)) (fun b o _ e=>u.there b o e (by simp)) u.tups u.frzs u.tbls (fun m' hm=>by
  obtain ⟨o',es',ep',ho',r'⟩:=hm
  rw [ho] at ho';cases ho'
  exact ⟨_,es',ep',hL,r'⟩) hok I.bare
theorem Inv.call {g':Array GenState}{t':Nat}{d':Drawn}{ch:List Addr}(I:Inv X Ks σ H s)(u:Un (frs X.stack) ch H H' s.heap h')(hok:HOk X.prog X.w H' h')(hg:AllBare g')
  (hch:∀ b∈ch,(b∈X.ex ∨ X.s₀.heap.objs.size≤b)∧b≠X.env.locals∧(∀ x c,X.env.cells.lookup x=some c→c≠b)∧∀ p∈X.pn++Ks,p.1≠b) :
  Inv X Ks σ H' { s with heap:=h',gens:=g',drawn:=d',toks:=t' }:=by
 obtain ⟨m,⟨o,es,ep,ho,r⟩,_⟩:=id I.loc
 obtain ⟨sl,hL⟩:=u.any ho I.free fun z=>(hch _ z).2.1 rfl
 exact I.step (ch:=ch) hch (fun b o hL hb hc e n=>u.keep b o e n (fun z=>(Ei.mp (I.stkSub b z)).elim hL hb) hc) (fun b o _ _ hc e n=>u.any e n hc) (fun b o hc e n=>u.free b o e n hc) (fun b o hc e=>u.there b o e hc) u.tups u.frzs u.tbls (fun m' hm=>by
  obtain ⟨o',es',ep',ho',r'⟩:=hm
  rw [ho] at ho';cases ho'
  exact ⟨_,es',ep',hL,r'⟩) hok hg
theorem Inv.turned {t':Nat}{it:Addr}(I:Inv X Ks σ H s)(k:∀ b o,b≠it→s.heap.get? b=some o→h'.get? b=some o)(hn:H it=none)(hL:it≠X.env.locals)
  (h1:it∈X.ex ∨ X.s₀.heap.objs.size≤it) (h2:∀ x c,X.env.cells.lookup x=some c→c≠it) (h3:∀ p∈X.pn++Ks,p.1≠it):Inv X Ks σ H { s with heap:=h',toks:=t' }:=by
 have nit:∀ b u,H b=some u→b≠it:=fun b u e z=>by rw [z,hn] at e;cases e
 refine I.step (g':=s.gens) (d':=s.drawn) (ch:=[it]) (fun b hb=>?_) (fun b o _ _ hc e _=>k b o (fun z=>hc (by simp [z])) e) (fun b o _ _ hc e _=>⟨o.slots,k b o (fun z=>hc (by simp [z])) e⟩) (fun _ _ _ _ n=>n)
  (fun b o hc e=>⟨o,k b o (fun z=>hc (by simp [z])) e⟩) (fun _ _ e=>e) (fun _ _ _ e=>e) (fun b ps e=>⟨#[],by rw [e];simp⟩) (fun m hm=>?_) (fun b u e=>?_) I.bare
 ·have e:b=it:=by simpa using hb
  subst e
  exact ⟨h1,hL,h2,h3⟩
 ·obtain ⟨o,es,ep,ho,r⟩:=hm
  exact ⟨o,es,ep,k _ o (Ne.symm hL) ho,r⟩
 ·refine (I.hok b u e).stay (fun c v hc q=>k c v ?_ q) (fun _ q=>q) fun _ _ q=>q
  rcases hc with z | z
  ·rw [z];exact nit b u e
  ·exact nit c _ z
theorem Inv.tok (I:Inv X Ks σ H s)(t:Nat):Inv X Ks σ H { s with toks:=t }:=I.un (h':=s.heap) (t':=t) Un.refl I.hok
theorem Inv.kept {t':Nat}(I:Inv X Ks σ H s)(k:∀ b u,s.heap.get? b=some u→h'.get? b=some u):Inv X Ks σ H { s with heap:=h',toks:=t' }:=I.un (Un.kept k) (I.hok.kept k)
theorem Inv.laid {a:Addr}{o:HO}{t':Nat}(I:Inv X Ks σ H s)(k:∀ b u,s.heap.get? b=some u→h'.get? b=some u)(hp:s.heap.objs.size≤a)(new:bz X.prog X.w (upd H a o) h' a o) :
  Inv X Ks σ (upd H a o) { s with heap:=h',toks:=t' }:=I.un (Un.laid k hp (I.hok.fresh hp)) (I.hok.laid k hp new)
theorem Inv.write {x e:Addr}{o:HO}{t':Nat}(I:Inv X Ks σ H s)(mu:Mut (H x))(he:e=x ∨ H e=some (.own x))(k:∀ b u,b≠e→s.heap.get? b=some u→h'.get? b=some u)(heo:∃ u,h'.get? e=some u)
  (new:bz X.prog X.w (upd H x o) h' x o):Inv X Ks σ (upd H x o) { s with heap:=h',toks:=t' }:=I.un (Un.write mu he k heo) (I.hok.write mu he k heo new)
theorem Inv.pins_of {pins':List (Addr × Obj)}(I:Inv X Ks σ H s)(h:∀ p∈pins',s.heap.get? p.1=some p.2∧H p.1=none∧p.1≠X.env.locals∧p.1∉X.fs∧∀ v,p.2.data ≠ .cell v):Inv X pins' σ H s :=
 ⟨I.ok,I.os,I.bare,I.base,I.loc,I.cell,I.free,I.freeC,fun p hp=>(EL.mp hp).elim (fun z=>I.pin p (E1 _ z)) (h p),I.hok,I.len⟩
theorem fS {N:List Str}(hN:N.Nodup){i j:Nat}{x:Str}(a:N[i]? = some x)(b:N[j]? = some x):i=j:=by
 obtain ⟨h1,e1⟩:=Ef.mp a
 obtain ⟨h2,e2⟩:=Ef.mp b
 exact (Hb hN).mp (e1.trans e2.symm)
theorem oG {M:Model}{A:Around}{E:Value→Shared→Prop}{i:Nat}{x:Str}{v:V}{u:Value}{Q:Unit→Shared→Prop}(I:Inv X Ks σ H s)(hN:X.N.Nodup)(hi:X.N[i]? = some x)(hx:Loc X.env.scope x)(r:bq v u)
  (h:∀ s',Inv X Ks (σ.set i (some v)) H s'→(∃ a,Heap.SameBut a s.heap s'.heap∧(a=X.env.locals ∨ X.env.cells.lookup x=some a))→Q () s') (hf:X.fn x=true ∨ X.env.scope.names.lookup x=some .local:=by first | exact .inl rfl | exact .inr rfl | assumption):wpAny M A (storeName X.env x u) Q E s:=by
 obtain ⟨m,hn,hl⟩:=id I.loc
 have Lo:(X.env.scope.kind == .class || (X.env.scope.kind == .module && X.env.locals != X.env.globals))=false:=by rw [I.ok.kind];rfl
 have hiσ:i < σ.length:=by rw [I.len];exact (Ef.mp hi).1
 have cne:=I.cne
 have tracked:∀ {a:Addr} {h':Heap},(∃ o,s.heap.get? a=some o∧H a=none)→Heap.SameBut a s.heap h'→HOk X.prog X.w H h':=fun {a h'} ha hs b ob e=>by
  obtain ⟨_,_,hfree⟩:=ha
  refine (I.hok b ob e).stay (fun c w' hc q=>(hs.2 c ?_).trans q) (fun _ q=>q) fun _ _ q=>q
  rintro rfl
  rcases hc with rfl | hc
  ·rw [hfree] at e;cases e
  ·rw [hfree] at hc;cases hc
 rcases hx with hk | hk
 ·refine wpAny_storeName_local hk hn (fun h' hn' hs=>?_) Lo
  obtain ⟨oL,_,_,hoL,_⟩:=id hn
  refine h _ ⟨I.ok,I.os,I.bare,⟨fun b o e n hb hx=>?_,fun b o e n hb hx=>?_,I.base.free,fun b o e hx=>?_,I.base.tups,I.base.frzs,I.base.tbls⟩,⟨_,hn',fun j y v' e1 e2 e3=>?_⟩,fun y c e=>?_,I.free,I.freeC,fun p hp=>?_,tracked ⟨oL,hoL,I.free⟩ hs,by simpa using I.len⟩ ⟨_,hs,.inl rfl⟩
  ·exact (hs.2 b (EK (Et (Em e) I.ok.above))).trans (I.base.keep b o e n hb hx)
  ·obtain ⟨sl,e1⟩:=I.base.slot b o e n hb hx
   exact ⟨sl,(hs.2 b (EK (Et (Em e) I.ok.above))).trans e1⟩
  ·obtain ⟨o',e1⟩:=I.base.there b o e hx
   exact ⟨o',(hs.2 b (EK (Et (Em e) I.ok.above))).trans e1⟩
  ·by_cases hj:j=i
   ·subst hj
    rw [hi] at e1;cases e1
    rw [Gb hiσ] at e2
    cases e2
    exact ⟨u,r,.inl ⟨hk,by simp⟩⟩
   ·rw [FS (Ne.symm hj)] at e2
    obtain ⟨u',r',q⟩:=hl j y v' e1 e2 e3
    refine ⟨u',r',?_⟩
    rcases q with ⟨k,e⟩ | ⟨k,c,e,z⟩
    ·refine .inl ⟨k,?_⟩
     have:y≠x:=fun e=>hj (fS hN e1 (e ▸ hi))
     simp [this,e]
    ·exact .inr ⟨k,c,e,z.sameBut hs (cne y c e)⟩
  ·obtain ⟨w',z⟩:=I.cell y c e
   exact ⟨w',z.sameBut hs (cne y c e)⟩
  ·obtain ⟨e,n,ne,nf,d⟩:=I.pin p hp
   exact ⟨(hs.2 p.1 ne).trans e,n,ne,nf,d⟩
 ·have hfn:X.fn x=true:=by
   rcases hf with z | z
   ·exact z
   ·rw [z] at hk;cases hk
  obtain ⟨c,hc⟩:=I.ok.has x (.inl hk)
  obtain ⟨w',z⟩:=I.cell x c hc
  refine wpAny_storeName_cell I.ok.kind hk hc z (fun h' hc' hs=>?_)
  obtain ⟨oc,hoc,hocd⟩:=id z
  refine h { s with heap:=h' } ⟨I.ok,I.os,I.bare,⟨fun b o e n hb hx=>?_,fun b o e n hb hx=>?_,I.base.free,fun b o e hx=>?_,I.base.tups,I.base.frzs,I.base.tbls⟩,⟨m,hn.sameBut hs (Ne.symm (cne x c hc)),fun j y v' e1 e2 e3=>?_⟩,fun y c' e=>?_,I.free,I.freeC,fun p hp=>?_,tracked ⟨oc,hoc,I.freeC x c hc⟩ hs,by simpa using I.len⟩ ⟨c,hs,.inr hc⟩
  ·exact (hs.2 b (EK (Et (Em e) (I.ok.cab x c hfn hc)))).trans (I.base.keep b o e n hb hx)
  ·obtain ⟨sl,e1⟩:=I.base.slot b o e n hb hx
   exact ⟨sl,(hs.2 b (EK (Et (Em e) (I.ok.cab x c hfn hc)))).trans e1⟩
  ·obtain ⟨o',e1⟩:=I.base.there b o e hx
   exact ⟨o',(hs.2 b (EK (Et (Em e) (I.ok.cab x c hfn hc)))).trans e1⟩
  ·by_cases hj:j=i
   ·subst hj
    rw [hi] at e1;cases e1
    rw [Gb hiσ] at e2
    cases e2
    exact ⟨u,r,.inr ⟨.inl hk,c,hc,hc'⟩⟩
   ·rw [FS (Ne.symm hj)] at e2
    obtain ⟨u',r',q⟩:=hl j y v' e1 e2 e3
    refine ⟨u',r',?_⟩
    rcases q with q | ⟨k,c',e,z'⟩
    ·exact .inl q
    ·refine .inr ⟨k,c',e,z'.sameBut hs ?_⟩
     rintro rfl
     exact hj (fS hN e1 (I.ok.inj _ _ _ e hc ▸ hi))
  ·by_cases hcc:c'=c
   ·subst hcc;exact ⟨_,hc'⟩
   ·obtain ⟨w2,z2⟩:=I.cell y c' e
    exact ⟨w2,z2.sameBut hs hcc⟩
  ·obtain ⟨e,n,ne,nf,d⟩:=I.pin p hp
   refine ⟨(hs.2 p.1 ?_).trans e,n,ne,nf,d⟩
   intro q
   rw [q,hoc] at e
   have q':oc=p.2:=EE e
   exact d w' (by rw [← q'];exact hocd)
theorem cQ {M:Model}{A:Around}{E:Value→Shared→Prop}{i:Nat}{x:Str}{v:V}{u:Value}{Q:Unit→Shared→Prop}(I:Inv X Ks σ H s)(hN:X.N.Nodup)(hi:X.N[i]? = some x)(hx:Loc X.env.scope x)(r:bq v u)
  (h:∀ s',Inv X Ks (σ.set i (some v)) H s'→Q () s') (hf:X.fn x=true ∨ X.env.scope.names.lookup x=some .local:=by first | exact .inl rfl | exact .inr rfl | assumption):wpAny M A (storeName X.env x u) Q E s :=
 oG I hN hi hx r (fun s' I' _=>h s' I') hf
theorem Inv.call' {s':Shared}{ch:List Addr}(I:Inv X Ks σ H s)(ho:s'.os=s.os)(u:Un (frs X.stack) ch H H' s.heap s'.heap)(hok:HOk X.prog X.w H' s'.heap)(hg:AllBare s'.gens)
  (hch:∀ b∈ch,(b∈X.ex ∨ X.s₀.heap.objs.size≤b)∧b≠X.env.locals∧(∀ x c,X.env.cells.lookup x=some c→c≠b)∧∀ p∈X.pn++Ks,p.1≠b):Inv X Ks σ H' s':=by
 obtain ⟨h',g',d',t',o'⟩:=s'
 have e:o'=s.os:=ho
 subst e
 exact I.call (g':=g') (t':=t') (d':=d') u hok hg hch
end
abbrev XK:=Value→Option Addr→Hp→Prop
abbrev St:=List (Option V)
abbrev VK:=V→Hp→Prop
abbrev TE:=St→Hp→VK→Prop
abbrev TT:=St→Hp→(Bool→Hp→Prop)→Prop
abbrev TA:=St→Hp→(List V→Hp→Prop)→Prop
structure gW where
 nx:St→Hp→Prop
 rt:VK
 bk:St→Hp→Prop:=fun _ _=>False
 ct:St→Hp→Prop:=fun _ _=>False
abbrev TS:=gW→St→Hp→Prop
def EP (X:Cx)(Ks:List (Addr × Obj))(σ:St)(Q:VK)(u:Value)(s':Shared):Prop:=∃ v H',Inv X Ks σ H' s'∧bq v u∧Q v H'
def TP (X:Cx)(Ks:List (Addr × Obj))(σ:St)(Q:Bool→Hp→Prop)(b:Bool)(s':Shared):Prop:=∃ H',Inv X Ks σ H' s'∧Q b H'
def AP (X:Cx)(Ks:List (Addr × Obj))(σ:St)(Q:List V→Hp→Prop)(us:List Value)(s':Shared):Prop:=∃ vs H',Inv X Ks σ H' s'∧a8 vs us∧Q vs H'
def SP (X:Cx)(Ks:List (Addr × Obj))(D:gW)(f:Flow)(s':Shared):Prop :=
 match f with
 | .next=>∃ σ' H',Inv X Ks σ' H' s'∧D.nx σ' H'
 | .brk=>∃ σ' H',Inv X Ks σ' H' s'∧D.bk σ' H'
 | .cont=>∃ σ' H',Inv X Ks σ' H' s'∧D.ct σ' H'
 | .ret u=>∃ v σ' H',Inv X Ks σ' H' s'∧bq v u∧D.rt v H'
def PE (X:Cx)(e:Expr)(t:TE):Prop :=
 ∀ (Ks:List (Addr × Obj)) (s:Shared) (σ:St) (H:Hp) (Q:VK),Inv X Ks σ H s→t σ H Q→wpAny (model X.prog X.w) X.A (eval e X.env) (EP X Ks σ Q) X.xe s
def PT (X:Cx)(e:Expr)(t:TT):Prop :=
 ∀ (Ks:List (Addr × Obj)) (s:Shared) (σ:St) (H:Hp) (Q:Bool→Hp→Prop),Inv X Ks σ H s→t σ H Q→wpAny (model X.prog X.w) X.A (isTrue e X.env (eval e X.env)) (TP X Ks σ Q) X.xe s
def PW (X:Cx)(e:Expr)(t:TT):Prop :=
 ∀ (whole:Sem Value) (Ks:List (Addr × Obj)) (s:Shared) (σ:St) (H:Hp) (Q:Bool→Hp→Prop),Inv X Ks σ H s→t σ H Q→wpAny (model X.prog X.w) X.A (isTrue e X.env whole) (TP X Ks σ Q) X.xe s
theorem PW.pt {X:Cx}{e:Expr}{t:TT}(h:PW X e t):PT X e t:=h _
def PA (X:Cx)(es:List Expr)(t:TA):Prop :=
 ∀ (pos:Pos) (Ks:List (Addr × Obj)) (s:Shared) (σ:St) (H:Hp) (Q:List V→Hp→Prop),Inv X Ks σ H s→t σ H Q→wpAny (model X.prog X.w) X.A (spliced (backTo pos (starEach es X.env))) (AP X Ks σ Q) X.xe s
def PS (X:Cx)(st:Stmt)(t:TS):Prop :=
 ∀ (Ks:List (Addr × Obj)) (s:Shared) (σ:St) (H:Hp) (D:gW),Inv X Ks σ H s→t D σ H→wpAny (model X.prog X.w) X.A (exec st X.env) (SP X Ks D) X.xe s
def PSs (X:Cx)(st:List Stmt)(t:TS):Prop :=
 ∀ (Ks:List (Addr × Obj)) (s:Shared) (σ:St) (H:Hp) (D:gW),Inv X Ks σ H s→t D σ H→wpAny (model X.prog X.w) X.A (execs st X.env) (SP X Ks D) X.xe s
theorem thn {α:Type}{t:Sem α}{Q Q':α→Shared→Prop}{M:Model}{A:Around}{E:Value→Shared→Prop}{s:Shared}(h:wpAny M A t Q E s)(hQ:∀ a s,Q a s→Q' a s):wpAny M A t Q' E s:=Fm h hQ fun _ _ x=>x
section
variable {X:Cx}
inductive Bs (i:Nat)(σ:St)(H:Hp)(Q:VK):Prop
 | mk:∀ v,(σ[i]? = some (some v))→(Q v H)→Bs i σ H Q
def tC (v:V):TE:=fun _ H Q=>Q v H
theorem zj {i:Nat}{x:Str}{pos:Pos}(hN:X.N[i]? = some x)(hv:Vis X.env.scope x)(hd:(x == ("__debug__":Str))=false:=by decide)(K0:(x == ("__classdict__":Str))=false:=by decide):PE X (.Name x pos) (Bs i):=by
 intro Ks s σ H Q I h
 obtain ⟨v,e,h⟩:=h
 obtain ⟨m,hn,hl⟩:=I.loc
 obtain ⟨u,r,l⟩:=hl i x v hN e hv
 have fin:EP X Ks σ Q u s:=⟨v,H,I,r,h⟩
 rcases l with ⟨hk,hm⟩ | ⟨hk,c,hc,K6⟩
 ·exact Iu (G8 I.ok.kind hk hn hm fin) hd
 ·rcases hk with hk | hk
  ·exact Iu (Iz I.ok.kind hk hc K6 fin) hd
  ·exact Iu (wpAny_loadName_free I.ok.kind hk hc K6 fin K0) hd
theorem aj {i j pos}:PE X (.Constant (.int i) j pos) (tC (.int i)):=fun _ _ _ H _ I h=>wpAny_Constant_int ⟨.int i,H,I.tok _,⟨_,rfl⟩,h⟩
theorem bK {b j pos}:PE X (.Constant (.bool b) j pos) (tC (.bl b)):=fun _ _ _ H _ I h=>Constant_bool ⟨.bl b,H,I,rfl,h⟩
theorem hJ {j pos}:PE X (.Constant .none j pos) (tC .non):=fun _ _ _ H _ I h=>Constant_none ⟨.non,H,I,rfl,h⟩
theorem ax {x j pos}:PE X (.Constant (.str x) j pos) (tC (.str x)):=fun _ _ _ H _ I h=>Calls.Constant_str ⟨.str x,H,I.tok _,⟨_,rfl⟩,h⟩
def Gl (X:Cx)(x:Str):Prop:=X.env.kindOf x=some .globalImplicit
theorem cC {E:Value→Shared→Prop}{Ks:List (Addr × Obj)}{s:Shared}{σ:St}{H:Hp}{x:Str}{u:Value}{pos:Pos}{Q:Value→Shared→Prop}(I:Inv X Ks σ H s)(hg:Gl X x)(hm:X.mg x=some u)(h:Q u s)
  (hd:(x == ("__debug__":Str))=false:=by decide):wpAny (model X.prog X.w) X.A (eval (.Name x pos) X.env) Q E s :=
 II I.ok.kind hg (Calls.loadGlobal_global (by rw [I.ok.glob];exact I.mod.glob.keeps I.bk) hm h) hd
theorem eF {E:Value→Shared→Prop}{Ks:List (Addr × Obj)}{s:Shared}{σ:St}{H:Hp}{x:Str}{u:Value}{pos:Pos}{Q:Value→Shared→Prop}(I:Inv X Ks σ H s)(hg:Gl X x)(hm:X.mg x=none)(hv:bootBuiltins x=some u)(h:Q u s)
  (hn:x ≠ "__name__":=by decide) (hd:(x == ("__debug__":Str))=false:=by decide):wpAny (model X.prog X.w) X.A (eval (.Name x pos) X.env) Q E s:=by
 obtain ⟨mb,h1,h2⟩:=I.mod.blt
 exact II I.ok.kind hg (Calls.loadGlobal_builtin (by rw [I.ok.glob];exact I.mod.glob.keeps I.bk) hm (by rw [I.ok.blt];exact h1.keeps I.bk) ((h2 x hn).trans hv) h) hd
theorem cD {x:Str}{v:V}{u:Value}{pos:Pos}(hg:Gl X x)(hm:X.mg x=some u)(r:bq v u)(hd:(x == ("__debug__":Str))=false:=by decide):PE X (.Name x pos) (tC v) :=
 fun _ _ _ H _ I h=>cC I hg hm ⟨v,H,I,r,h⟩ hd
theorem bo {x:Str}{v:V}{u:Value}{pos:Pos}(hg:Gl X x)(hm:X.mg x=none)(hv:bootBuiltins x=some u)(r:bq v u)(hn:x ≠ "__name__":=by decide)(hd:(x == ("__debug__":Str))=false:=by decide):PE X (.Name x pos) (tC v) :=
 fun _ _ _ H _ I h=>eF I hg hm hv ⟨v,H,I,r,h⟩ hn hd
variable {a b:Expr} {ta tb:TE} {pos:Pos}
def PC (X:Cx)(op:CmpOp)(a b:Expr)(t:TE):Prop :=
 ∀ (Ks:List (Addr × Obj)) (s:Shared) (σ:St) (H:Hp) (Q:VK),Inv X Ks σ H s→t σ H Q →
  wpAny (model X.prog X.w) X.A (eval a X.env) (fun v s₁=>wpAny (model X.prog X.w) X.A (eval b X.env) (fun u s₂=>wpAny (model X.prog X.w) X.A (compareOp op v u) (EP X Ks σ Q) X.xe s₂) X.xe s₁) X.xe s
theorem sQ (b:Expr){op:CmpOp}(h:op ≠ .In)(h2:op ≠ .NotIn):behindInMarks op b=false:=by
 have e1:(op == CmpOp.In)=false:=by cases op <;> first | rfl | exact absurd rfl h
 have e2:(op == CmpOp.NotIn)=false:=by cases op <;> first | rfl | exact absurd rfl h2
 cases b <;> simp [behindInMarks,e1,e2]
inductive IsB (x:V)(H:Hp)(Q:Bool→Hp→Prop):Prop
 | mk:∀ c,(x = .bl c)→(Q c H)→IsB x H Q
def Bu (Q:(Bool→Hp→Prop)):V→Hp→Prop:=fun x H1=>IsB x H1 Q
def tB (t:TE):TT:=fun σ H Q=>t σ H (Bu Q)
theorem zk {op:CmpOp}{t:TE}(h:PC X op a b t)(h1:behindInMarks op b=false:=by first | exact sQ _ (by decide) (by decide) | rfl):PT X (.Compare a [op] [b] pos) (tB t):=by
 intro Ks s σ H Q I hw
 refine wpAny_isTrue_Compare1 (thn (h Ks s σ H _ I hw) fun v s1 h1=>thn h1 fun u s2 h2=>thn h2 fun c s3 zq5=>?_) h1
 obtain ⟨x,H1,I1,r1,q1⟩:=zq5
 obtain ⟨d,rfl,q⟩:=q1
 cases r1
 exact FF ⟨H1,I1,q⟩
variable {tA tB':TT} {rest:List Expr}
def oH (u:TT)(σ:St)(Q:(Bool→Hp→Prop)):Bool→Hp→Prop:=fun c H1=>if c=true then u σ H1 Q else Q false H1
def Dr (t u:TT):TT:=fun σ H Q=>t σ H (oH u σ Q)
def oI (u:TT)(σ:St)(Q:(Bool→Hp→Prop)):Bool→Hp→Prop:=fun c H1=>if c=true then Q true H1 else u σ H1 Q
def tOr (t u:TT):TT:=fun σ H Q=>t σ H (oI u σ Q)
def kO (Q:(Bool→Hp→Prop)):Bool→Hp→Prop:=fun c H1=>Q (!c) H1
def Ds (t:TT):TT:=fun σ H Q=>t σ H (kO Q)
theorem oJ (ha:PT X a tA):PW X (.BoolOp .And [a] pos) tA:=by
 intro wh Ks s σ H Q I h
 refine isTrue_and (thn (ha Ks s σ H Q I h) fun c s1 e=>?_)
 cases c with
 | true=>exact isTrue_and_nil e
 | false=>exact e
theorem dh (ha:PT X a tA):PW X (.BoolOp .Or [a] pos) tA:=by
 intro wh Ks s σ H Q I h
 refine isTrue_or (thn (ha Ks s σ H Q I h) fun c s1 e=>?_)
 cases c with
 | false=>exact isTrue_or_nil e
 | true=>exact e
theorem vH (ha:PT X a tA)(hb:PW X (.BoolOp .And (b::rest) pos) tB'):PW X (.BoolOp .And (a::b::rest) pos) (Dr tA tB'):=by
 intro wh Ks s σ H Q I h
 refine isTrue_and (thn (ha Ks s σ H _ I h) fun c s1 zq7=>?_)
 obtain ⟨H1,I1,q1⟩:=zq7
 cases c with
 | true=>exact hb wh Ks s1 σ H1 Q I1 q1
 | false=>exact ⟨H1,I1,q1⟩
theorem cE (ha:PT X a tA)(hb:PW X (.BoolOp .Or (b::rest) pos) tB'):PW X (.BoolOp .Or (a::b::rest) pos) (tOr tA tB'):=by
 intro wh Ks s σ H Q I h
 refine isTrue_or (thn (ha Ks s σ H _ I h) fun c s1 zq8=>?_)
 obtain ⟨H1,I1,q1⟩:=zq8
 cases c with
 | true=>exact ⟨H1,I1,q1⟩
 | false=>exact hb wh Ks s1 σ H1 Q I1 q1
theorem bh (ha:PT X a tA):PT X (.UnaryOp .Not a pos) (Ds tA):=by
 intro Ks s σ H Q I h
 exact isTrue_not (ha Ks s σ H (fun c H1=>Q (!c) H1) I h)
def sR (tb:TE)(σ:St)(Q:VK):Bool→Hp→Prop:=fun c H1=>if c=true then tb σ H1 Q else Q (.bl false) H1
def sS (tb:TE)(σ:St)(Q:VK):V→Hp→Prop:=fun x H1=>IsB x H1 (sR tb σ Q)
def Bv (ta tb:TE):TE:=fun σ H Q=>ta σ H (sS tb σ Q)
def sT (Q:VK):Bool→Hp→Prop:=fun c H1=>Q (.bl (!c)) H1
def sU (Q:VK):V→Hp→Prop:=fun x H1=>IsB x H1 (sT Q)
def Bw (ta:TE):TE:=fun σ H Q=>ta σ H (sU Q)
theorem dA {op}{t:TE}(h:PE X a t):PE X (.BoolOp op [a] pos) t:=fun Ks s σ H Q I hw=>BoolOp_one (h Ks s σ H Q I hw)
theorem cH (ha:PE X a ta)(hb:PE X (.BoolOp .And (b::rest) pos) tb):PE X (.BoolOp .And (a::b::rest) pos) (Bv ta tb):=by
 intro Ks s σ H Q I h
 refine BoolOp_and (thn (ha Ks s σ H _ I h) fun v s1 zq9=>?_)
 obtain ⟨x,H1,I1,r1,q1⟩:=zq9
 obtain ⟨c,rfl,q1⟩:=q1
 cases r1
 refine FF ?_
 cases c with
 | true=>exact hb Ks s1 σ H1 Q I1 q1
 | false=>exact ⟨.bl false,H1,I1,rfl,q1⟩
theorem oK (ha:PE X a ta):PE X (.UnaryOp .Not a pos) (Bw ta):=by
 intro Ks s σ H Q I h
 refine UnaryOp_ (thn (ha Ks s σ H _ I h) fun v s1 zq11=>?_)
 obtain ⟨x,H1,I1,r1,q1⟩:=zq11
 obtain ⟨c,rfl,q1⟩:=q1
 cases r1
 exact not_of (FF ⟨.bl (!c),H1,I1,rfl,q1⟩)
def oM (ta:TE)(tb:TE)(σ:St)(Q:VK):Bool→Hp→Prop:=fun c H1=>if c=true then ta σ H1 Q else tb σ H1 Q
def tIf (t:TT)(ta tb:TE):TE:=fun σ H Q=>t σ H (oM ta tb σ Q)
theorem fT {c:Expr}(hc:PT X c tA)(ha:PE X a ta)(hb:PE X b tb):PE X (.IfExp c a b pos) (tIf tA ta tb):=by
 intro Ks s σ H Q I h
 refine wpAny_IfExp (thn (hc Ks s σ H _ I h) fun d s1 zq12=>?_)
 obtain ⟨H1,I1,q1⟩:=zq12
 cases d with
 | true=>exact ha Ks s1 σ H1 Q I1 q1
 | false=>exact hb Ks s1 σ H1 Q I1 q1
end
def SqL (K:PySem.W.Frag)(H:Hp)(a:Addr)(xs:List V):Prop :=
 Rd H a (.lst xs) ∨
  ∃ (o:Obj) (its:Array Value) (n:Nat),K.lookup a=some o∧o.cls = .type "list"∧o.dict=none∧o.data = .seq its n∧its.size≤sizeLine∧a8 xs its.toList
def SqT (K:PySem.W.Frag)(H:Hp)(a:Addr)(xs:List V):Prop :=
 Rd H a (.tup xs) ∨
  ∃ (o:Obj) (its:Array Value) (n:Nat),K.lookup a=some o∧o.cls = .type "tuple"∧o.data = .seq its n∧its.size≤sizeLine∧a8 xs its.toList
def Du:Value→Option V
 | .none=>some .non
 | .bool b=>some (.bl b)
 | .int i _=>some (.int i)
 | .str x _=>some (.str x)
 | .bytes b _=>some (.byt b)
 | .float b _=>some (.flt b)
 | .ref a=>some (.ref a)
 | .type n=>some (.ty n)
 | _=>none
theorem bq.abs {x:V}{u:Value}(r:bq x u):Du u=some x:=by
 cases x with
 | non=>cases r;rfl
 | bl _=>cases r;rfl
 | int _=>obtain ⟨t,rfl⟩:=r;rfl
 | str _=>obtain ⟨t,rfl⟩:=r;rfl
 | byt _=>obtain ⟨t,rfl⟩:=r;rfl
 | flt _=>obtain ⟨t,rfl⟩:=r;rfl
 | ref _=>cases r;rfl
 | ty _=>cases r;rfl
theorem bq.inj {x y:V}{u:Value}(r:bq x u)(q:bq y u):x=y:=EE (r.abs.symm.trans q.abs)
theorem a8.inj:∀ {xs ys:List V} {us:List Value},a8 xs us→a8 ys us→xs=ys
 | _,_,_,.nil,.nil=>rfl
 | _,_,_,.cons r t,.cons r' t'=>by rw [r.inj r',a8.inj t t']
section
variable {X:Cx} {Ks:List (Addr × Obj)} {σ:St} {H:Hp} {s:Shared} {a:Addr} {xs ys:List V}
theorem SqL.of {K:PySem.W.Frag}(h:H a=some (.lst xs)):SqL K H a xs:=.inl (.inl h)
theorem SqT.of {K:PySem.W.Frag}(h:H a=some (.tup xs)):SqT K H a xs:=.inl (.inl h)
theorem Inv.list (I:Inv X Ks σ H s)(h:SqL X.K H a xs):∃ its:List Value,a8 xs its∧PlainL s.heap a its.toArray∧xs.length≤sizeLine:=by
 rcases h with h | ⟨o,its,n,hk,hc,hd,hs,hz,r⟩
 ·obtain ⟨z,its,n,r,e⟩:=h.ok I.hok
  exact ⟨its,r,⟨_,n,e,rfl,rfl,rfl⟩,z⟩
 ·refine ⟨its.toList,r,⟨o,n,I.kIn a o hk,hc,hd,by simpa using hs⟩,?_⟩
  have e:=r.length
  simp only [E4] at e
  omega
theorem Inv.tuple (I:Inv X Ks σ H s)(h:SqT X.K H a xs):∃ its:List Value,a8 xs its∧IsTup s.heap a its.toArray∧xs.length≤sizeLine:=by
 rcases h with h | ⟨o,its,n,hk,hc,hs,hz,r⟩
 ·obtain ⟨z,its,r,p,_⟩:=h.ok I.hok
  exact ⟨its,r,p,z⟩
 ·refine ⟨its.toList,r,⟨o,I.kIn a o hk,hc,n,by simpa using hs⟩,?_⟩
  have e:=r.length
  simp only [E4] at e
  omega
theorem Inv.list_inj (I:Inv X Ks σ H s)(h:SqL X.K H a xs)(h':SqL X.K H a ys):xs=ys:=by
 obtain ⟨its,r,⟨o,n,e,_,_,d⟩,_⟩:=I.list h
 obtain ⟨its',r',⟨o',n',e',_,_,d'⟩,_⟩:=I.list h'
 rw [e] at e';cases e'
 rw [d] at d'
 injection d' with d1 _
 have:its=its':=by simpa using EX Array.toList d1
 subst this
 exact r.inj r'
theorem Inv.tuple_inj (I:Inv X Ks σ H s)(h:SqT X.K H a xs)(h':SqT X.K H a ys):xs=ys:=by
 obtain ⟨its,r,⟨o,e,_,n,d⟩,_⟩:=I.tuple h
 obtain ⟨its',r',⟨o',e',_,n',d'⟩,_⟩:=I.tuple h'
 rw [e] at e';cases e'
 rw [d] at d'
 injection d' with d1 _
 have:its=its':=by simpa using EX Array.toList d1
 subst this
 exact r.inj r'
end
abbrev Cx.wish (X:Cx)(E:Value→Shared→Prop):Cx:={ X with xe:=E }
abbrev Cx.nox (X:Cx):Cx:=X.wish fun _ _=>False
theorem Cx.Ok.wish {X:Cx}(ok:X.Ok)(E:Value→Shared→Prop):(X.wish E).Ok :=
 ⟨ok.mod,ok.kind,ok.glob,ok.blt,ok.above,ok.inj,ok.has,ok.cab,ok.hd,ok.frames,ok.stk,ok.exf,ok.bs,ok.bsz,ok.noex,ok.exfs,ok.funs,ok.frf⟩
theorem Cx.Ok.unwish {X:Cx}{E:Value→Shared→Prop}(ok:(X.wish E).Ok):X.Ok :=
 ⟨ok.mod,ok.kind,ok.glob,ok.blt,ok.above,ok.inj,ok.has,ok.cab,ok.hd,ok.frames,ok.stk,ok.exf,ok.bs,ok.bsz,ok.noex,ok.exfs,ok.funs,ok.frf⟩
section
variable {X:Cx} {Ks:List (Addr × Obj)} {σ:St} {H:Hp} {s:Shared} {E:Value→Shared→Prop}
theorem Inv.wish (I:Inv X Ks σ H s)(E:Value→Shared→Prop):Inv (X.wish E) Ks σ H s:=⟨I.ok.wish E,I.os,I.bare,I.base,I.loc,I.cell,I.free,I.freeC,I.pin,I.hok,I.len⟩
theorem Inv.unwish (I:Inv (X.wish E) Ks σ H s):Inv X Ks σ H s:=⟨I.ok.unwish,I.os,I.bare,I.base,I.loc,I.cell,I.free,I.freeC,I.pin,I.hok,I.len⟩
theorem SP.unwish {D:gW}{f:Flow}{s':Shared}(h:SP (X.wish E) Ks D f s'):SP X Ks D f s':=by
 cases f with
 | next=>obtain ⟨σ',H',I,q⟩:=h;exact ⟨σ',H',I.unwish,q⟩
 | brk=>obtain ⟨σ',H',I,q⟩:=h;exact ⟨σ',H',I.unwish,q⟩
 | cont=>obtain ⟨σ',H',I,q⟩:=h;exact ⟨σ',H',I.unwish,q⟩
 | ret u=>obtain ⟨v,σ',H',I,r,q⟩:=h;exact ⟨v,σ',H',I.unwish,r,q⟩
theorem PSs.nox {st:List Stmt}{t:TS}(h:PSs X.nox st t):PSs X st t:=fun Ks s σ H D I hw =>
 Fm (h Ks s σ H D (I.wish _) hw) (fun _ _ q=>q.unwish) fun _ _ z=>False.elim z
end
section
variable {X:Cx} {st:Stmt} {rest:List Stmt} {t u:TS} {e:Expr} {te:TE} {pos:Pos}
def Bx:TS:=fun D σ H=>D.nx σ H
def CW (t u:TS):TS:=fun D σ H=>t { D with nx:=u D } σ H
theorem aI:PSs X [] Bx:=fun _ _ σ H _ I h=>Gn ⟨σ,H,I,h⟩
theorem ai (h1:PS X st t)(h2:PSs X rest u):PSs X (st::rest) (CW t u):=by
 intro Ks s σ H D I h
 refine GC (thn (h1 Ks s σ H { D with nx:=u D } I h) fun f s1 q=>?_)
 cases f with
 | next =>
  obtain ⟨σ',H',I',q⟩:=q
  exact h2 Ks s1 σ' H' D I' q
 | ret v=>exact q
 | brk=>exact q
 | cont=>exact q
theorem ak (h1:PS X st t):PSs X [st] t:=by
 intro Ks s σ H D I h
 refine GC (thn (h1 Ks s σ H D I h) fun f s1 q=>?_)
 cases f with
 | next=>exact Gn q
 | ret v=>exact q
 | brk=>exact q
 | cont=>exact q
theorem Inv.quiet {Ks:List (Addr × Obj)}{σ:St}{H:Hp}{s:Shared}(I:Inv X Ks σ H s):interactive X.env=false:=by simp [interactive,I.ok.kind]
def sV (D:gW)(σ:St):V→Hp→Prop:=fun _ H1=>D.nx σ H1
def By (te:TE):TS:=fun D σ H=>te σ H (sV D σ)
theorem bL (he:PE X e te)(hs:swapsWith e none pos.line X.env=pure false:=by rfl):PS X (.Expr e pos) (By te):=by
 intro Ks s σ H D I h
 exact wpAny_Expr_any (thn (he Ks s σ H _ I h) fun v s1 zq15=>(by obtain ⟨x,H1,I1,r1,q1⟩:=zq15;exact ⟨σ,H1,I1,q1⟩)) I.quiet hs
def Dv (te:TE):TS:=fun D σ H=>te σ H D.rt
theorem aD (he:PE X e te):PS X (.Return (some e) pos) (Dv te):=by
 intro Ks s σ H D I h
 exact wpAny_Return_some (thn (he Ks s σ H _ I h) fun v s1 zq16=>(by obtain ⟨x,H1,I1,r1,q1⟩:=zq16;exact ⟨x,σ,H1,I1,r1,q1⟩))
def kP (t:TS)(u:TS)(D:gW)(σ:St):Bool→Hp→Prop:=fun b H1=>if b=true then t D σ H1 else u D σ H1
def Dw (c:TT)(t u:TS):TS:=fun D σ H=>c σ H (kP t u D σ)
theorem a6 {c:Expr}{a b:List Stmt}{tc:TT}(hc:PT X c tc)(ha:PSs X a t)(hb:PSs X b u):PS X (.If c a b pos) (Dw tc t u):=by
 intro Ks s σ H D I h
 refine wpAny_If (thn (hc Ks s σ H _ I h) fun d s1 zq17=>?_)
 obtain ⟨H1,I1,q1⟩:=zq17
 cases d with
 | true=>exact ha Ks s1 σ H1 D I1 q1
 | false=>exact hb Ks s1 σ H1 D I1 q1
end
abbrev TG:=V→St→Hp→(St→Hp→Prop)→Prop
abbrev TGs:=List V→St→Hp→(St→Hp→Prop)→Prop
def PG (X:Cx)(target:Expr)(t:TG):Prop :=
 ∀ (Ks:List (Addr × Obj)) (s:Shared) (σ:St) (H:Hp) (v:V) (u:Value) (Q:St→Hp→Prop),Inv X Ks σ H s→bq v u→t v σ H Q →
  wpAny (model X.prog X.w) X.A (assign target X.env u) (fun _ s'=>∃ σ' H',Inv X Ks σ' H' s'∧Q σ' H') X.xe s
def PGs (X:Cx)(ts:List Expr)(t:TGs):Prop :=
 ∀ (Ks:List (Addr × Obj)) (s:Shared) (σ:St) (H:Hp) (vs:List V) (us:List Value) (Q:St→Hp→Prop),Inv X Ks σ H s→a8 vs us→t vs σ H Q →
  wpAny (model X.prog X.w) X.A (assignInOrder ((assignEach ts X.env).map (·.2)) us) (fun _ s'=>∃ σ' H',Inv X Ks σ' H' s'∧Q σ' H') X.xe s
abbrev TIp:=V→V→Hp→VK→Prop
def PIp (X:Cx)(op:Operator)(t:TIp):Prop :=
 ∀ (Ks:List (Addr × Obj)) (s:Shared) (σ:St) (H:Hp) (x y:V) (v u:Value) (Q:VK),Inv X Ks σ H s→bq x v→bq y u→t x y H Q →
  wpAny (model X.prog X.w) X.A (inplaceOp op v u) (EP X Ks σ Q) X.xe s
section
variable {X:Cx} {pos:Pos}
def sW (i:Nat):TG:=fun v σ H Q=>Q (σ.set i (some v)) H
theorem aF {i:Nat}{x:Str}(hN:X.N.Nodup)(hi:X.N[i]? = some x)(hx:Loc X.env.scope x)(hf:X.fn x=true ∨ X.env.scope.names.lookup x=some .local:=by first | exact .inl rfl | exact .inr rfl | assumption):PG X (.Name x pos) (sW i):=by
 intro Ks s σ H v u Q I r h
 exact wpAny_assign_Name (cQ I hN hi hx r (fun s' I'=>⟨_,H,I',h⟩) hf)
def Dx:TGs:=fun vs σ H Q=>vs=[]∧Q σ H
def Bz (t:TG)(u:TGs):TGs:=fun vs σ H Q=>∃ v r,vs=v::r∧t v σ H fun σ' H'=>u r σ' H' Q
theorem d_:PGs X [] Dx:=by
 intro Ks s σ H vs us Q I r h
 obtain ⟨e,h⟩:=h
 subst e
 cases r
 exact assignInOrder_nil ⟨σ,H,I,h⟩
theorem bf {e:Expr}{es:List Expr}{t:TG}{u:TGs}(h1:PG X e t)(h2:PGs X es u)
  (hs:(assignEach (e::es) X.env).map (·.2)=assign e X.env::(assignEach es X.env).map (·.2):=by rfl):PGs X (e::es) (Bz t u):=by
 intro Ks s σ H vs us Q I r h
 obtain ⟨v,vr,e1,h⟩:=h
 subst e1
 cases r with
 | cons r rr =>
  rw [hs]
  refine assignInOrder_cons (thn (h1 Ks s σ H _ _ _ I r h) fun _ s1 zq18=>?_)
  obtain ⟨σ1,H1,I1,q1⟩:=zq18
  exact h2 Ks s1 σ1 H1 _ _ Q I1 rr q1
def CY (K:PySem.W.Frag)(n:Nat)(t:TGs):TG:=fun v σ H Q=>∃ a xs,v = .ref a∧SqT K H a xs∧xs.length=n∧t xs σ H Q
theorem gm {es:List Expr}{k:Nat}{t:TGs}{n:Nat}(hc:X.calm=true)(h:PGs X es t)
  (hn:(assignEach es X.env).length=n:=by rfl) (KP:(assignEach es X.env).findIdx? (·.1)=none:=by rfl):PG X (.Tuple es k pos) (CY X.K n t):=by
 intro Ks s σ H v u Q I r hw
 obtain ⟨a,xs,e1,hq,hl,hw⟩:=hw
 subst e1
 cases r
 obtain ⟨its,rv,ht,hz⟩:=I.tuple hq
 refine assign_Tuple_tuple (I.ok.hd hc) ht (by simp [hn,← hl,rv.length]) KP fun h' hx=>?_
 have I1:Inv X Ks σ H { s with heap:=h' }:=I.kept (t':=s.toks) fun b o e=>hx b o (EK (Em e)) e
 exact h Ks _ σ H xs _ Q I1 (by simpa using rv) hw
def wX (g:TG)(D:gW)(σ:St):V→Hp→Prop:=fun x H1=>g x σ H1 D.nx
def Bl (te:TE)(g:TG):TS:=fun D σ H=>te σ H (wX g D σ)
theorem vI {tg e:Expr}{te:TE}{g:TG}(he:PE X e te)(hg:PG X tg g)(hs:swapsWithSole [tg] e pos.line X.env=pure false:=by rfl)(hw:swappedStores [tg] e X.env=pure none:=by rfl)
  (h1:(assignEach [tg] X.env).map (·.2)=[assign tg X.env]:=by rfl):PS X (.Assign [tg] e pos) (Bl te g):=by
 intro Ks s σ H D I h
 refine wpAny_Assign_stores (thn (he Ks s σ H _ I h) fun v s1 zq22=>?_) hs hw
 obtain ⟨x,H1,I1,r1,q1⟩:=zq22
 rw [h1]
 exact thn (hg Ks s1 σ H1 x v _ I1 r1 q1) fun _ s2 q=>q
theorem az {i:Nat}{x:Str}{e:Expr}{te:TE}{pos':Pos}(hN:X.N.Nodup)(hi:X.N[i]? = some x)(hx:Loc X.env.scope x)(he:PE X e te)(hs:swapsWith e (some (.Name x pos')) pos.line X.env=pure false:=by rfl)(hf:X.fn x=true ∨ X.env.scope.names.lookup x=some .local:=by first | exact .inl rfl | exact .inr rfl | assumption) :
  PS X (.Assign [.Name x pos'] e pos) (Bl te (sW i)):=by
 intro Ks s σ H D I h
 refine HJ (thn (he Ks s σ H _ I h) fun v s1 zq23=>?_) hs
 obtain ⟨y,H1,I1,r1,q1⟩:=zq23
 exact cQ I1 hN hi hx r1 (fun s2 I2=>⟨_,H1,I2,q1⟩) hf
inductive CZ (i:Nat)(te:TE)(ti:TIp)(D:gW)(σ:St)(H:Hp):Prop
 | mk:∀ x,(σ[i]? = some (some x))→(te σ H fun y H1=>ti x y H1 fun z H2=>D.nx (σ.set i (some z)) H2)→CZ i te ti D σ H
theorem zl {i:Nat}{x:Str}{e:Expr}{te:TE}{op:Operator}{ti:TIp}{pos':Pos}(hN:X.N.Nodup)(hi:X.N[i]? = some x)(hx:Loc X.env.scope x)(he:PE X e te)(ho:PIp X op ti)(hf:X.fn x=true ∨ X.env.scope.names.lookup x=some .local:=by first | exact .inl rfl | exact .inr rfl | assumption) :
  PS X (.AugAssign (.Name x pos') op e pos) (CZ i te ti):=by
 intro Ks s σ H D I h
 obtain ⟨v,e1,h⟩:=h
 obtain ⟨m,hn,hl⟩:=I.loc
 have vis:Vis X.env.scope x:=by rcases hx with k | k;exact .inl k;exact .inr (.inl k)
 obtain ⟨u,r,l⟩:=hl i x v hi e1 vis
 refine wpAny_AugAssign_Name ?_
 have go:wpAny (model X.prog X.w) X.A (eval e X.env) (fun w s₂=>wpAny (model X.prog X.w) X.A (inplaceOp op u w) (fun r s₃=>wpAny (model X.prog X.w) X.A (storeName X.env x r) (fun _=>SP X Ks D .next) X.xe s₃) X.xe s₂) X.xe s:=by
  refine thn (he Ks s σ H _ I h) fun w s1 zq25=>?_
  obtain ⟨y,H1,I1,r1,q1⟩:=zq25
  refine thn (ho Ks s1 σ H1 v y u w _ I1 r r1 q1) fun z s2 zq26=>?_
  obtain ⟨zv,H2,I2,r2,q2⟩:=zq26
  exact cQ I2 hN hi hx r2 (fun s3 I3=>⟨_,H2,I3,q2⟩) hf
 rcases l with ⟨hk,hm⟩ | ⟨hk,c,hc,K6⟩
 ·exact G8 I.ok.kind hk hn hm go
 ·rcases hk with hk | hk
  ·exact Iz I.ok.kind hk hc K6 go
  ·rcases hx with k | k
   ·have:X.env.scope.names.lookup x=some .free:=hk
    rw [k] at this;cases this
   ·have:X.env.scope.names.lookup x=some .free:=hk
    rw [k] at this;cases this
def ipI (f:Int→Int→Int):TIp:=fun x y H Q=>∃ i j,x = .int i∧y = .int j∧Q (.int (f i j)) H
theorem zo:PIp X .Add (ipI fun i j=>i+j):=by
 intro Ks s σ H x y v u Q I r1 r2 h
 obtain ⟨i,j,e1,e2,q⟩:=h
 subst e1;subst e2
 obtain ⟨t,rfl⟩:=r1
 obtain ⟨t',rfl⟩:=r2
 exact iadd_int ⟨.int _,H,I.tok _,⟨_,rfl⟩,q⟩
def zp (c:TT)(tb:TS):TS:=fun D σ H=>∃ W:Nat→St→Hp→Prop,(∃ m,W m σ H)∧∀ m σ H,W m σ H →
 c σ H fun b H1=>if b=true then ∃ N:St→Hp→Prop,(∀ σ' H',N σ' H'→∃ m',m' < m∧W m' σ' H')∧tb { D with nx:=N,ct:=N,bk:=D.nx } σ H1 else D.nx σ H1
theorem mi {c:Expr}{body:List Stmt}{tc:TT}{tb:TS}(hp:PassesOwn (model X.prog X.w) X.A X.env X.xe)(hc:PT X c tc)(hb:PSs X body tb):PS X (.While c body [] pos) (zp tc tb):=by
 intro Ks s σ H D I h
 obtain ⟨W,⟨m0,w0⟩,turn⟩:=h
 refine wpAny_While (codeAny_whileLoop (fun n s'=>∃ σ' H',Inv X Ks σ' H' s'∧W n σ' H') ?_ m0 ⟨σ,H,I,w0⟩)
 rintro n s1 ⟨σ1,H1,I1,w1⟩
 refine Gp hp (thn (hc Ks s1 σ1 H1 _ I1 (turn n σ1 H1 w1)) fun b s2 zq33=>?_)
 obtain ⟨H2,I2,q2⟩:=zq33
 cases b with
 | true =>
  obtain ⟨N,hN,q2⟩:=q2
  rw [if_pos rfl]
  refine Gp hp (thn (hb Ks s2 σ1 H2 _ I2 q2) fun f s3 q3=>?_)
  cases f with
  | next =>
   obtain ⟨σ3,H3,I3,n3⟩:=q3
   obtain ⟨m',hm,w3⟩:=hN σ3 H3 n3
   exact ⟨m',hm,σ3,H3,I3,w3⟩
  | cont =>
   obtain ⟨σ3,H3,I3,n3⟩:=q3
   obtain ⟨m',hm,w3⟩:=hN σ3 H3 n3
   exact ⟨m',hm,σ3,H3,I3,w3⟩
  | brk=>exact q3
  | ret v=>exact q3
 | false =>
  rw [if_neg Ez]
  exact Gn ⟨σ1,H2,I2,q2⟩
end
structure It where
 go:Nat→Hp→Prop
 yld:Nat→Hp→V→Hp→Prop
 stop:Nat→Hp→Prop
def mj (X:Cx)(Ks:List (Addr × Obj))(H:Hp)(b:Addr):Prop :=
 H b=none∧b≠X.env.locals∧b∉X.fs∧(b∈X.ex ∨ X.s₀.heap.objs.size≤b)∧(∀ x c,X.env.cells.lookup x=some c→c≠b)∧∀ p∈X.pn++Ks,p.1≠b
theorem Inv.fpOk {X:Cx}{Ks:List (Addr × Obj)}{σ:St}{H H':Hp}{s:Shared}{b:Addr}(I:Inv X Ks σ H s)(hb:s.heap.objs.size≤b)(hn:H' b=none):mj X Ks H' b:=by
 refine ⟨hn,Gh (Et I.lt hb),I.nofs hb,.inr (EV I.sz hb),fun x c e z=>?_,fun p hp z=>?_⟩
 ·obtain ⟨v,q⟩:=I.cell x c e
  exact absurd (Et q.lt (by rw [z];exact hb)) (E9 _)
 ·exact absurd (Et (Em (I.pin p hp).1) (by rw [z];exact hb)) (E9 _)
structure sX (P:Program) (w:World) (K:PySem.W.Frag) (tg:Expr) (J:It) (fp:List Addr) (it:Addr) (tn:Nat→Heap→Prop):Prop where
 mem:it∈fp
 obj:∀ i h,tn i h→∀ b∈fp,∃ o,h.get? b=some o∧∀ v,o.data ≠ .cell v
 keep:∀ i h h',tn i h→(∀ b∈fp,∀ o,h.get? b=some o→h'.get? b=some o)→tn i h'
 item:∀ (X:Cx),X.prog=P→X.w=w→X.K=K→X.calm=true→∀ (i:Nat) (Ks:List (Addr × Obj)) (s:Shared) (σ:St) (H:Hp) (E:Value→Shared→Prop),Inv X Ks σ H s→(∀ b∈fp,mj X Ks H b)→tn i s.heap→J.go i H →
  wpAny (model P w) X.A (pyNext (.ref it)) (fun r s1=>∃ u,r=some u ∧
   wpAny (model P w) X.A (letOwnedTupleGo tg (.ref it) u) (fun _ s2=>∃ x H',Inv X Ks σ H' s2∧bq x u∧J.yld i H x H'∧tn (i+1) s2.heap∧∀ b∈fp,H' b=none) E s1) E s
 done:∀ (X:Cx),X.prog=P→X.w=w→X.K=K→X.calm=true→∀ (i:Nat) (Ks:List (Addr × Obj)) (s:Shared) (σ:St) (H:Hp) (E:Value→Shared→Prop),Inv X Ks σ H s→(∀ b∈fp,mj X Ks H b)→tn i s.heap→J.stop i H →
  wpAny (model P w) X.A (pyNext (.ref it)) (fun r s1=>r=none∧Inv X Ks σ H s1) E s
 self:∀ (A:Around) (i:Nat) (s:Shared) (Q:Value→Shared→Prop) (E:Value→Shared→Prop),tn i s.heap→Q (.ref it) s→wpAny (model P w) A (pyIter (.ref it)) Q E s
abbrev TI:=St→Hp→(It→Hp→Prop)→Prop
def PIE (X:Cx)(Ks:List (Addr × Obj))(σ:St)(tg:Expr)(R:It→Hp→Prop)(itv:Value)(s2:Shared):Prop :=
 ∃ (it:Addr) (fp:List Addr) (tn:Nat→Heap→Prop) (J:It) (H':Hp),itv = .ref it∧Inv X Ks σ H' s2∧sX X.prog X.w X.K tg J fp it tn∧tn 0 s2.heap∧(∀ b∈fp,mj X Ks H' b)∧R J H'
def PI (X:Cx)(tg iter:Expr)(wi:TI):Prop :=
 ∀ (Ks:List (Addr × Obj)) (s:Shared) (σ:St) (H:Hp) (R:It→Hp→Prop),Inv X Ks σ H s→wi σ H R →
  wpAny (model X.prog X.w) X.A (eval iter X.env) (fun v s1=>wpAny (model X.prog X.w) X.A (pyIter v) (PIE X Ks σ tg R) X.xe s1) X.xe s
theorem sY {M:Model}{A:Around}{E:Value→Shared→Prop}{s:Shared}{tg:Expr}{it:Addr}{u:Value}{o:Obj}{n:String}{vs:Array Value}{Q:Unit→Shared→Prop}(ho:s.heap.get? it=some o)(hc:o.cls = .type n)(hd:o.data = .fields vs)
  (hn:["enumerate","zip","dict_itemiterator","dict_reverseitemiterator","odict_iterator","itertools.zip_longest","itertools.pairwise"].contains n=false) (hQ:Q () s):wpAny M A (letOwnedTupleGo tg (.ref it) u) Q E s:=by
 unfold letOwnedTupleGo
 cases tg <;> first
  | exact Eb hQ
  | (cases u <;> first
    | exact Eb hQ
    | (
      refine fu (wpAny_load ho ?_)
      rw [hc,hd]
      show wpAny M A (if (["enumerate","zip","dict_itemiterator","dict_reverseitemiterator","odict_iterator","itertools.zip_longest","itertools.pairwise"].contains n && vs[0]? == some (rawInt _))=true then _ else _) Q E s
      rw [if_neg (by intro h;rw [hn,FO] at h;cases h)]
      exact Eb hQ))
def Itl (K:PySem.W.Frag)(a:Addr):It :=
 ⟨fun i H=>∃ xs x,SqL K H a xs∧xs[i]? = some x,fun i H x H'=>H'=H∧∀ xs,SqL K H a xs→xs[i]? = some x,fun i H=>∃ xs,SqL K H a xs∧xs.length≤i⟩
def Itt (K:PySem.W.Frag)(a:Addr):It :=
 ⟨fun i H=>∃ xs x,SqT K H a xs∧xs[i]? = some x,fun i H x H'=>H'=H∧∀ xs,SqT K H a xs→xs[i]? = some x,fun i H=>∃ xs,SqT K H a xs∧xs.length≤i⟩
def Itr (lo:Int)(n:Nat):It:=⟨fun i _=>i < n,fun i H x H'=>H'=H∧x = .int (lo+i),fun i _=>n≤i⟩
theorem oO {P:Program}{w:World}{K:PySem.W.Frag}{tg:Expr}(a it:Addr):sX P w K tg (Itl K a) [it] it (fun i h=>h.IsListIter it a i) where
 mem:=by simp
 obj:=fun i h st b hb=>by
  have e:b=it:=by simpa using hb
  subst e
  obtain ⟨o,e,c,d⟩:=st
  exact ⟨o,e,fun v z=>by rw [d] at z;cases z⟩
 keep:=fun i h h' st k=>st.at fun o e=>k it (by simp) o e
 item:=by
  intro X hP hw hK hc i Ks s σ H E I hf st hg
  subst hP hw hK
  obtain ⟨xs,x,hq,hx⟩:=hg
  obtain ⟨its,rv,p,hz⟩:=I.list hq
  obtain ⟨u,hu,ru⟩:=rv.get hx
  obtain ⟨f0,f1,f2,f3,f4,f5⟩:=hf it (by simp)
  refine wpAny_pyNext_list_item st p.isList (x:=u) (by simpa using hu) fun h' Lm sb=>?_
  have I1:Inv X Ks σ H { s with heap:=h' }:=I.turned (t':=s.toks) (fun b o hb e=>(sb.2 b hb).trans e) f0 f1 f3 f4 f5
  obtain ⟨o,e,c,d⟩:=id Lm
  exact ⟨u,rfl,sY (s:={ s with heap:=h' }) e c d (by decide) ⟨x,H,I1,ru,⟨rfl,fun ys hy=>by rw [I.list_inj hy hq];exact hx⟩,Lm,fun b hb=>(hf b hb).1⟩⟩
 done:=by
  intro X hP hw hK hc i Ks s σ H E I hf st hg
  subst hP hw hK
  obtain ⟨xs,hq,hx⟩:=hg
  obtain ⟨its,rv,p,hz⟩:=I.list hq
  obtain ⟨f0,f1,f2,f3,f4,f5⟩:=hf it (by simp)
  have hl:=rv.length
  exact wpAny_pyNext_list_end (I.ok.hd hc) st p.isList (by simp;omega) fun h' eb=>⟨rfl,I.turned (t':=s.toks) (fun b o hb e=>eb b o hb e) f0 f1 f3 f4 f5⟩
 self:=fun _ _ _ _ _ st h=>wpAny_pyIter_listiter st h
theorem nv {P:Program}{w:World}{K:PySem.W.Frag}{tg:Expr}(a it:Addr):sX P w K tg (Itt K a) [it] it (fun i h=>h.IsTupleIter it a i) where
 mem:=by simp
 obj:=fun i h st b hb=>by
  have e:b=it:=by simpa using hb
  subst e
  obtain ⟨o,e,c,d⟩:=st
  exact ⟨o,e,fun v z=>by rw [d] at z;cases z⟩
 keep:=fun i h h' st k=>st.at fun o e=>k it (by simp) o e
 item:=by
  intro X hP hw hK hc i Ks s σ H E I hf st hg
  subst hP hw hK
  obtain ⟨xs,x,hq,hx⟩:=hg
  obtain ⟨its,rv,p,hz⟩:=I.tuple hq
  obtain ⟨u,hu,ru⟩:=rv.get hx
  obtain ⟨f0,f1,f2,f3,f4,f5⟩:=hf it (by simp)
  refine wpAny_pyNext_tuple_item st (show s.heap.IsTuple a its.toArray from p) (x:=u) (by simpa using hu) fun h' Lm sb=>?_
  have I1:Inv X Ks σ H { s with heap:=h' }:=I.turned (t':=s.toks) (fun b o hb e=>(sb.2 b hb).trans e) f0 f1 f3 f4 f5
  obtain ⟨o,e,c,d⟩:=id Lm
  exact ⟨u,rfl,sY (s:={ s with heap:=h' }) e c d (by decide) ⟨x,H,I1,ru,⟨rfl,fun ys hy=>by rw [I.tuple_inj hy hq];exact hx⟩,Lm,fun b hb=>(hf b hb).1⟩⟩
 done:=by
  intro X hP hw hK hc i Ks s σ H E I hf st hg
  subst hP hw hK
  obtain ⟨xs,hq,hx⟩:=hg
  obtain ⟨its,rv,p,hz⟩:=I.tuple hq
  obtain ⟨f0,f1,f2,f3,f4,f5⟩:=hf it (by simp)
  have hl:=rv.length
  exact wpAny_pyNext_tuple_end (I.ok.hd hc) st (show s.heap.IsTuple a its.toArray from p) (by simp;omega) fun h' eb=>⟨rfl,I.turned (t':=s.toks) (fun b o hb e=>eb b o hb e) f0 f1 f3 f4 f5⟩
 self:=fun _ _ _ _ _ st h=>wpAny_pyIter_tupleiter st h
theorem ny {P:Program}{w:World}{K:PySem.W.Frag}{tg:Expr}(it:Addr)(lo:Int)(n:Nat):sX P w K tg (Itr lo n) [it] it (fun i h=>IsRangeIter h it (lo+(i:Nat)*1) ((n:Int) - (i:Nat)) 1) where
 mem:=by simp
 obj:=fun i h st b hb=>by
  have e:b=it:=by simpa using hb
  subst e
  exact ⟨_,st,fun v z=>by
   have z':Data.fields _=Data.cell v:=z
   cases z'⟩
 keep:=fun i h h' st k=>k it (by simp) _ st
 item:=by
  intro X hP hw hK hc i Ks s σ H E I hf st hg
  subst hP hw hK
  obtain ⟨f0,f1,f2,f3,f4,f5⟩:=hf it (by simp)
  have W:=Walks.range (prog:=X.prog) (w:=X.w) (I.ok.hd hc) it lo 1 n
  refine W.item i s _ _ hg st fun v h' tk hv Lm kk=>?_
  obtain ⟨t,rfl⟩:=hv
  have I1:Inv X Ks σ H { s with heap:=h',toks:=tk }:=I.turned (fun b o hb e=>kk b o (by simpa using hb) e) f0 f1 f3 f4 f5
  refine ⟨_,rfl,sY (s:={ s with heap:=h',toks:=tk }) (n:="range_iterator") Lm rfl rfl (by decide) ⟨.int (lo+i),H,I1,⟨t,?_⟩,⟨rfl,rfl⟩,Lm,fun b hb=>(hf b hb).1⟩⟩
  rw [Int.mul_one]
 done:=by
  intro X hP hw hK hc i Ks s σ H E I hf st hg
  subst hP hw hK
  obtain ⟨f0,f1,f2,f3,f4,f5⟩:=hf it (by simp)
  exact wpAny_pyNext_range_end (I.ok.hd hc) st (by have:n≤i:=hg;omega) fun h' eb=>⟨rfl,I.turned (t':=s.toks) (fun b o hb e=>eb b o hb e) f0 f1 f3 f4 f5⟩
 self:=fun _ _ _ _ _ st h=>wpAny_pyIter_rangeiter st h
section
variable {X:Cx} {tg:Expr}
def BA (K:PySem.W.Frag)(tl:TE):TI:=fun σ H R=>tl σ H fun x H1=>∃ a,x = .ref a∧(∃ xs,SqL K H1 a xs)∧R (Itl K a) H1
def Dy (K:PySem.W.Frag)(tl:TE):TI:=fun σ H R=>tl σ H fun x H1=>∃ a,x = .ref a∧(∃ xs,SqT K H1 a xs)∧R (Itt K a) H1
theorem wY {l:Expr}{tl:TE}(hl:PE X l tl):PI X tg l (BA X.K tl):=by
 intro Ks s σ H R I h
 refine thn (hl Ks s σ H _ I h) fun v s1 zq34=>?_
 obtain ⟨x,H1,I1,r1,q1⟩:=zq34
 obtain ⟨a,e,⟨xs,hq⟩,q⟩:=q1
 subst e
 cases r1
 obtain ⟨its,rv,p,hz⟩:=I1.list hq
 refine Ja p.isList ?_
 refine ⟨s1.heap.objs.size,[s1.heap.objs.size],_,_,H1,rfl,I1.kept (t':=s1.toks) fun b o e=>D_ _ e,oO a _,⟨_,El _ rfl,rfl,rfl⟩,fun b hb=>?_,q⟩
 have e:b=s1.heap.objs.size:=by simpa using hb
 subst e
 exact I1.fpOk (Eg _) (I1.hok.fresh (Eg _))
theorem dC {l:Expr}{tl:TE}(hl:PE X l tl):PI X tg l (Dy X.K tl):=by
 intro Ks s σ H R I h
 refine thn (hl Ks s σ H _ I h) fun v s1 zq35=>?_
 obtain ⟨x,H1,I1,r1,q1⟩:=zq35
 obtain ⟨a,e,⟨xs,hq⟩,q⟩:=q1
 subst e
 cases r1
 obtain ⟨its,rv,p,hz⟩:=I1.tuple hq
 refine GM (show s1.heap.IsTuple a its.toArray from p) ?_
 refine ⟨s1.heap.objs.size,[s1.heap.objs.size],_,_,H1,rfl,I1.kept (t':=s1.toks) fun b o e=>D_ _ e,nv a _,⟨_,El _ rfl,rfl,rfl⟩,fun b hb=>?_,q⟩
 have e:b=s1.heap.objs.size:=by simpa using hb
 subst e
 exact I1.fpOk (Eg _) (I1.hok.fresh (Eg _))
theorem sZ {Ks:List (Addr × Obj)}{σ:St}{H:Hp}{s:Shared}{R:It→Hp→Prop}{E:Value→Shared→Prop}{lo hi:Int}{t u v:Tok}{tk:Nat}(I:Inv X Ks σ H s)(h1:-(2 ^ 62)≤lo)(h2:lo < 2 ^ 62)(h3:-(2 ^ 62)≤hi)(h4:hi < 2 ^ 62)
  (q:R (Itr lo (hi - lo).toNat) H):wpAny (model X.prog X.w) X.A (pyIter (.ref s.heap.objs.size)) (PIE X Ks σ tg R) E { s with heap:=s.heap.push { cls:=.type "range",data:=.fields #[.int lo t,.int hi u,.int 1 v] },toks:=tk }:=by
 refine wpAny_pyIter_range (IsRange.new ..) (small_one h1 h2 h3 h4) ?_
 have I1:Inv X Ks σ H { s with heap:=s.heap.push { cls:=.type "range",data:=.fields #[.int lo t,.int hi u,.int 1 v] },toks:=tk }:=I.kept fun b o e=>D_ _ e
 refine ⟨(s.heap.push { cls:=.type "range",data:=.fields #[.int lo t,.int hi u,.int 1 v] }).objs.size,[(s.heap.push { cls:=.type "range",data:=.fields #[.int lo t,.int hi u,.int 1 v] }).objs.size],_,_,H,rfl,
  I1.kept (t':=tk) fun b o e=>D_ _ e,ny _ lo (hi - lo).toNat,?_,fun b hb=>?_,q⟩
 ·have e1:lo+((0:Nat):Int)*1=lo:=by simp
  have e2:(((hi - lo).toNat:Nat):Int) - ((0:Nat):Int)=Builtin.Range.rangeSize lo hi 1:=by rw [rangeSize_one];split <;> omega
  show IsRangeIter _ _ (lo+((0:Nat):Int)*1) ((((hi - lo).toNat:Nat):Int) - ((0:Nat):Int)) 1
  rw [e1,e2]
  exact El _ rfl
 ·have e:b=(s.heap.push { cls:=.type "range",data:=.fields #[.int lo t,.int hi u,.int 1 v] }).objs.size:=by simpa using hb
  subst e
  exact I1.fpOk (Eg _) (I1.hok.fresh (Eg _))
def BB (ta:TA):TI:=fun σ H R=>ta σ H fun vs H1=>∃ j:Int,vs=[.int j]∧-(2 ^ 62)≤j∧j < 2 ^ 62∧R (Itr 0 j.toNat) H1
theorem bA {a:Expr}{ta:TA}{p pos:Pos}(hg:Gl X "range")(hm:X.mg "range" = none)(ha:PA X [a] ta)(hs:starEach [a] X.env=[(false,eval a X.env)]:=by rfl):PI X tg (.Call (.Name "range" p) [a] [] pos) (BB ta):=by
 intro Ks s σ H R I h
 refine Call_ (eF I hg hm boot_range (Ff (thn (ha pos Ks s σ H _ I h) fun us s1 zq36=>?_) hs rfl))
 obtain ⟨vs,H1,I1,r1,q1⟩:=zq36
 obtain ⟨j,e,q1,q2,q⟩:=q1
 subst e
 cases r1 with
 | cons r rr =>
  cases rr
  obtain ⟨t,rfl⟩:=r
  exact call_range_1 (sZ I1 (by omega) (by omega) q1 q2 (by simpa using q))
def Dz (wi:TI)(g:TG)(tb:TS):TS:=fun D σ H=>wi σ H fun J H1=>∃ W:Nat→Nat→St→Hp→Prop,(∃ m,W 0 m σ H1)∧∀ i m σ H,W i m σ H →
 (J.stop i H∧D.nx σ H) ∨ (J.go i H∧∃ N:St→Hp→Prop,(∀ σ' H',N σ' H'→∃ m',m' < m∧W (i+1) m' σ' H')∧∀ x H',J.yld i H x H'→g x σ H' fun σ2 H2=>tb { D with nx:=N,ct:=N,bk:=D.nx } σ2 H2)
def jL (fp:List Addr)(h:Heap):List (Addr × Obj):=fp.filterMap fun b=>(h.get? b).map fun o=>(b,o)
theorem dP {fp:List Addr}{h:Heap}{b:Addr}{o:Obj}(hb:b∈fp)(e:h.get? b=some o):(b,o)∈jL fp h:=List.mem_filterMap.mpr ⟨b,hb,by rw [e]; rfl⟩
theorem oP {fp:List Addr}{h:Heap}{p:Addr × Obj}(hp:p∈jL fp h):p.1∈fp∧h.get? p.1=some p.2:=by
 obtain ⟨b,hb,e⟩:=List.mem_filterMap.mp hp
 cases q:h.get? b with
 | none=>rw [q] at e;cases e
 | some o =>
  rw [q] at e
  have e':(b,o)=p:=EE e
  subst e'
  exact ⟨hb,q⟩
theorem Inv.pinned {Ks:List (Addr × Obj)}{σ:St}{H:Hp}{s:Shared}{fp:List Addr}(I:Inv X Ks σ H s)(hf:∀ b∈fp,mj X Ks H b)(ho:∀ b∈fp,∃ o,s.heap.get? b=some o∧∀ v,o.data ≠ .cell v):Inv X (Ks++jL fp s.heap) σ H s :=
 I.pins_of fun p hp=>(EL.mp hp).elim (fun z=>I.pin p (Ey _ z)) fun z=>by
  obtain ⟨hb,e⟩:=oP z
  obtain ⟨f0,f1,f2,_⟩:=hf p.1 hb
  obtain ⟨o,e',d⟩:=ho p.1 hb
  rw [e] at e';cases e'
  exact ⟨e,f0,f1,f2,d⟩
theorem Inv.unpinned {Ks pl:List (Addr × Obj)}{σ:St}{H:Hp}{s:Shared}(I:Inv X (Ks++pl) σ H s):Inv X Ks σ H s:=I.pins_of fun p hp=>I.pin p (Ey _ (E1 _ hp))
theorem bD {iter:Expr}{body:List Stmt}{wi:TI}{g:TG}{tb:TS}{pos:Pos}(hp:PassesOwn (model X.prog X.w) X.A X.env X.xe)(hc:X.calm=true)(hi:PI X tg iter wi)(hg:PG X tg g)(hb:PSs X body tb)
  (hs:∀ x,foldedSetIterable iter X.env x=pure x:=by intro _;rfl):PS X (.For tg iter body [] pos) (Dz wi g tb):=by
 intro Ks s σ H D I h
 refine wpAny_For (thn (hi Ks s σ H _ I h) fun v s1 h1=>thn h1 fun itv s2 h2=>?_) hs
 obtain ⟨it,fp,tn,J,H2,e,I2,T,st2,f2,W,⟨m0,w0⟩,turn⟩:=h2
 subst e
 -- what stays true of the iterator's objects through the loop
 have stat:∀ {H':Hp},(∀ b∈fp,H' b=none)→∀ b∈fp,mj X Ks H' b:=fun hn b hb=>⟨hn b hb,(f2 b hb).2⟩
 refine codeAny_forLoop_any (fun n s'=>∃ i σ' H',Inv X Ks σ' H' s'∧tn i s'.heap∧(∀ b∈fp,H' b=none)∧W i n σ' H') ?_ m0 ⟨0,σ,H2,I2,st2,fun b hb=>(f2 b hb).1,w0⟩
 rintro n s3 ⟨i,σ3,H3,I3,st3,fr3,w3⟩
 rcases turn i n σ3 H3 w3 with ⟨stop,qn⟩ | ⟨go,N,hN,step⟩
 ·refine Gp hp (thn (T.done X rfl rfl rfl hc i Ks s3 σ3 H3 X.xe I3 (stat fr3) st3 stop) fun r s4 zq38=>?_)
  obtain ⟨hr,I4⟩:=zq38
  subst hr
  exact Gn ⟨σ3,H3,I4,qn⟩
 ·refine Gp hp (thn (T.item X rfl rfl rfl hc i Ks s3 σ3 H3 X.xe I3 (stat fr3) st3 go) fun r s4 zq39=>?_)
  obtain ⟨u,hr,h4⟩:=zq39
  subst hr
  refine Gp hp (thn h4 fun _ s5 zq40=>?_)
  obtain ⟨x,H5,I5,r5,y5,st5,fr5⟩:=zq40
  have I5':=I5.pinned (stat fr5) (T.obj _ _ st5)
  refine Gp hp (thn (hg _ s5 σ3 H5 x u _ I5' r5 (step x H5 y5)) fun _ s6 zq41=>?_)
  obtain ⟨σ6,H6,I6,q6⟩:=zq41
  refine Gp hp (thn (hb _ s6 σ6 H6 _ I6 q6) fun f s7 q7=>?_)
  have again:∀ {σ7:St} {H7:Hp},Inv X (Ks++jL fp s5.heap) σ7 H7 s7→N σ7 H7→∃ m,m < n∧∃ i σ' H',Inv X Ks σ' H' s7∧tn i s7.heap∧(∀ b∈fp,H' b=none)∧W i m σ' H':=fun {σ7 H7} I7 n7=>by
   obtain ⟨m',hm,w7⟩:=hN σ7 H7 n7
   refine ⟨m',hm,i+1,σ7,H7,I7.unpinned,T.keep _ _ _ st5 fun b hb o e=>(I7.pin (b,o) (Ey _ (Ey _ (dP hb e)))).1,fun b hb=>?_,w7⟩
   obtain ⟨o,e,d⟩:=T.obj _ _ st5 b hb
   exact (I7.pin (b,o) (Ey _ (Ey _ (dP hb e)))).2.1
  cases f with
  | next=>obtain ⟨σ7,H7,I7,n7⟩:=q7;exact again I7 n7
  | cont=>obtain ⟨σ7,H7,I7,n7⟩:=q7;exact again I7 n7
  | brk=>obtain ⟨σ7,H7,I7,q7⟩:=q7;exact ⟨σ7,H7,I7.unpinned,q7⟩
  | ret v=>obtain ⟨x7,σ7,H7,I7,r7,q7⟩:=q7;exact ⟨x7,σ7,H7,I7.unpinned,r7,q7⟩
end
theorem kQ {K:PySem.W.Frag}{a:Addr}{xs:List V}{g:TG}{tb:TS}{D:gW}{σ:St}{H:Hp}(Pv:Nat→St→Hp→Prop)(h0:Pv 0 σ H)(hl:∀ i σ H,i≤xs.length→Pv i σ H→SqT K H a xs)
  (hs:∀ i x σ H,xs[i]? = some x→Pv i σ H→g x σ H fun σ2 H2=>tb { D with nx:=Pv (i+1),ct:=Pv (i+1),bk:=D.nx } σ2 H2) (hd:∀ σ H,Pv xs.length σ H→D.nx σ H) :
  ∃ W:Nat→Nat→St→Hp→Prop,(∃ m,W 0 m σ H)∧∀ i m σ H,W i m σ H →
   ((Itt K a).stop i H∧D.nx σ H) ∨ ((Itt K a).go i H∧∃ N:St→Hp→Prop,(∀ σ' H',N σ' H'→∃ m',m' < m∧W (i+1) m' σ' H')∧∀ x H',(Itt K a).yld i H x H'→g x σ H' fun σ2 H2=>tb { D with nx:=N,ct:=N,bk:=D.nx } σ2 H2):=by
 refine ⟨fun i m σ H=>m=xs.length - i∧i≤xs.length∧Pv i σ H,⟨xs.length,by simp,E5 _,h0⟩,?_⟩
 rintro i m σ H ⟨rfl,hi,p⟩
 have q:=hl i σ H hi p
 by_cases KB:i < xs.length
 ·refine .inr ⟨⟨xs,xs[i],q,by simp [KB]⟩,Pv (i+1),fun σ' H' p'=>⟨xs.length - (i+1),by omega,rfl,KB,p'⟩,fun x H' y=>?_⟩
  obtain ⟨e,y⟩:=y
  subst e
  exact hs i x σ _ (y xs q) p
 ·have e:i=xs.length:=by omega
  subst e
  exact .inl ⟨⟨xs,q,Eg _⟩,hd σ H p⟩
theorem bP {lo:Int}{n:Nat}{g:TG}{tb:TS}{D:gW}{σ:St}{H:Hp}(Pv:Nat→St→Hp→Prop)(h0:Pv 0 σ H)
  (hs:∀ i σ H,i < n→Pv i σ H→g (.int (lo+i)) σ H fun σ2 H2=>tb { D with nx:=Pv (i+1),ct:=Pv (i+1),bk:=D.nx } σ2 H2) (hd:∀ σ H,Pv n σ H→D.nx σ H) :
  ∃ W:Nat→Nat→St→Hp→Prop,(∃ m,W 0 m σ H)∧∀ i m σ H,W i m σ H →
   ((Itr lo n).stop i H∧D.nx σ H) ∨ ((Itr lo n).go i H∧∃ N:St→Hp→Prop,(∀ σ' H',N σ' H'→∃ m',m' < m∧W (i+1) m' σ' H')∧∀ x H',(Itr lo n).yld i H x H'→g x σ H' fun σ2 H2=>tb { D with nx:=N,ct:=N,bk:=D.nx } σ2 H2):=by
 refine ⟨fun i m σ H=>m=n - i∧i≤n∧Pv i σ H,⟨n,by simp,E5 _,h0⟩,?_⟩
 rintro i m σ H ⟨rfl,hi,p⟩
 by_cases KB:i < n
 ·refine .inr ⟨KB,Pv (i+1),fun σ' H' p'=>⟨n - (i+1),by omega,rfl,KB,p'⟩,fun x H' y=>?_⟩
  obtain ⟨e,y⟩:=y
  subst e y
  exact hs i σ _ KB p
 ·have e:i=n:=by omega
  subst e
  exact .inl ⟨Eg _,hd σ H p⟩
abbrev R2:=V→V→Hp→VK→Prop
def OpR (X:Cx)(f:Value→Value→Sem Value)(r:R2):Prop :=
 ∀ (Ks:List (Addr × Obj)) (s:Shared) (σ:St) (H:Hp) (x y:V) (v u:Value) (Q:VK),Inv X Ks σ H s→bq x v→bq y u→r x y H Q →
  wpAny (model X.prog X.w) X.A (f v u) (EP X Ks σ Q) X.xe s
def UnR (X:Cx)(f:Value→Sem Value)(r:V→Hp→VK→Prop):Prop :=
 ∀ (Ks:List (Addr × Obj)) (s:Shared) (σ:St) (H:Hp) (x:V) (v:Value) (Q:VK),Inv X Ks σ H s→bq x v→r x H Q →
  wpAny (model X.prog X.w) X.A (f v) (EP X Ks σ Q) X.xe s
def cI (X:Cx)(f:Value)(r:List V→Hp→VK→Prop):Prop :=
 ∀ (Ks:List (Addr × Obj)) (s:Shared) (σ:St) (H:Hp) (xs:List V) (us:List Value) (Q:VK),Inv X Ks σ H s→a8 xs us→r xs H Q →
  wpAny (model X.prog X.w) X.A (call f us) (EP X Ks σ Q) X.xe s
def DA (X:Cx)(r:V→Hp→(Bool→Hp→Prop)→Prop):Prop :=
 ∀ (Ks:List (Addr × Obj)) (s:Shared) (σ:St) (H:Hp) (x:V) (v:Value) (Q:Bool→Hp→Prop),Inv X Ks σ H s→bq x v→r x H Q →
  wpAny (model X.prog X.w) X.A (truthy v) (TP X Ks σ Q) X.xe s
def zr (r:R2)(Q:VK)(x:V):V→Hp→Prop:=fun y H2=>r x y H2 Q
def zu (r:R2)(tb:TE)(σ:St)(Q:VK):V→Hp→Prop:=fun x H1=>tb σ H1 (zr r Q x)
def tOp (r:R2)(ta tb:TE):TE:=fun σ H Q=>ta σ H (zu r tb σ Q)
def zw (r:V→Hp→VK→Prop)(Q:VK):V→Hp→Prop:=fun x H1=>r x H1 Q
def tUn (r:V→Hp→VK→Prop)(ta:TE):TE:=fun σ H Q=>ta σ H (zw r Q)
inductive rI (C:Int→Int→Prop)(g:Int→Int→V)(x:V)(y:V)(H:Hp)(Q:VK):Prop
 | mk:∀ i j,(x = .int i)→(y = .int j)→(C i j)→(Q (g i j) H)→rI C g x y H Q
inductive rI0 (g:Int→Int→V)(x:V)(y:V)(H:Hp)(Q:VK):Prop
 | mk:∀ i j,(x = .int i)→(y = .int j)→(Q (g i j) H)→rI0 g x y H Q
inductive rU (g:Int→V)(x:V)(H:Hp)(Q:VK):Prop
 | mk:∀ i,(x = .int i)→(Q (g i) H)→rU g x H Q
section
variable {X:Cx} {a b c:Expr} {ta tb tc:TE} {pos:Pos}
theorem BC (ha:PE X a ta)(hb:PE X b tb){Ks:List (Addr × Obj)}{s:Shared}{σ:St}{H:Hp}{R:V→V→Hp→Prop}(I:Inv X Ks σ H s)
  (h:ta σ H fun x H1=>tb σ H1 fun y H2=>R x y H2) {Q:Value→Shared→Prop} {f:Value→Value→Sem Value}
  (hf:∀ v u s2 x y H2,Inv X Ks σ H2 s2→bq x v→bq y u→R x y H2→wpAny (model X.prog X.w) X.A (f v u) Q X.xe s2) :
  wpAny (model X.prog X.w) X.A (eval a X.env) (fun v s₁=>wpAny (model X.prog X.w) X.A (eval b X.env) (fun u s₂=>wpAny (model X.prog X.w) X.A (f v u) Q X.xe s₂) X.xe s₁) X.xe s:=by
 refine thn (ha Ks s σ H _ I h) fun v s1 zq42=>?_
 obtain ⟨x,H1,I1,r1,q1⟩:=zq42
 refine thn (hb Ks s1 σ H1 _ I1 q1) fun u s2 zq43=>?_
 obtain ⟨y,H2,I2,r2,q2⟩:=zq43
 exact hf v u s2 x y H2 I2 r1 r2 q2
theorem aJ {op:Operator}{r:R2}(ho:OpR X (binaryOp op) r)(ha:PE X a ta)(hb:PE X b tb):PE X (.BinOp a op b pos) (tOp r ta tb):=by
 intro Ks s σ H Q I h
 exact wpAny_BinOp (BC ha hb I h fun v u s2 x y H2 I2 rx ry q=>ho Ks s2 σ H2 x y v u Q I2 rx ry q)
theorem iG {op:UnaryOp}{r:V→Hp→VK→Prop}(ho:UnR X (unaryOp op) r)(ha:PE X a ta):PE X (.UnaryOp op a pos) (tUn r ta):=by
 intro Ks s σ H Q I h
 exact UnaryOp_ (thn (ha Ks s σ H _ I h) fun v s1 zq44=>(by obtain ⟨x,H1,I1,r1,q1⟩:=zq44;exact ho Ks s1 σ H1 x v Q I1 r1 q1))
theorem opI {f:Value→Value→Sem Value}{C:Int→Int→Prop}{g:Int→Int→Int}
  (rule:∀ (i j:Int) (t u:Tok) (s:Shared) (Q:Value→Shared→Prop) (E:Value→Shared→Prop),C i j→Q (.int (g i j) s.toks) { s with toks:=s.toks+1 }→wpAny (model X.prog X.w) X.A (f (.int i t) (.int j u)) Q E s) :
  OpR X f (rI C fun i j=>.int (g i j)):=by
 intro Ks s σ H x y v u Q I rx ry h
 obtain ⟨i,j,rfl,rfl,hc,q⟩:=h
 obtain ⟨t,rfl⟩:=rx
 obtain ⟨t',rfl⟩:=ry
 exact rule i j t t' s _ _ hc ⟨.int (g i j),H,I.tok _,⟨_,rfl⟩,q⟩
theorem C0 {f:Value→Value→Sem Value}{g:Int→Int→Int}
  (rule:∀ (i j:Int) (t u:Tok) (s:Shared) (Q:Value→Shared→Prop) (E:Value→Shared→Prop),Q (.int (g i j) s.toks) { s with toks:=s.toks+1 }→wpAny (model X.prog X.w) X.A (f (.int i t) (.int j u)) Q E s) :
  OpR X f (rI0 fun i j=>.int (g i j)):=by
 intro Ks s σ H x y v u Q I rx ry h
 obtain ⟨i,j,rfl,rfl,q⟩:=h
 obtain ⟨t,rfl⟩:=rx
 obtain ⟨t',rfl⟩:=ry
 exact rule i j t t' s _ _ ⟨.int (g i j),H,I.tok _,⟨_,rfl⟩,q⟩
theorem BD {f:Value→Value→Sem Value}{g:Int→Int→Bool}
  (rule:∀ (i j:Int) (t u:Tok) (s:Shared) (Q:Value→Shared→Prop) (E:Value→Shared→Prop),Q (.bool (g i j)) s→wpAny (model X.prog X.w) X.A (f (.int i t) (.int j u)) Q E s) :
  OpR X f (rI0 fun i j=>.bl (g i j)):=by
 intro Ks s σ H x y v u Q I rx ry h
 obtain ⟨i,j,rfl,rfl,q⟩:=h
 obtain ⟨t,rfl⟩:=rx
 obtain ⟨t',rfl⟩:=ry
 exact rule i j t t' s _ _ ⟨.bl (g i j),H,I,rfl,q⟩
def DB (i j:Int):Prop:=0 < j∧j < 1073741824
def DC (i j:Int):Prop:=0≤j∧j≤1000000∧i.natAbs < 2 ^ 64
def BE (i j:Int):Prop:=(-(2 ^ 64) < i∧i < 2 ^ 64) ∨ (-(2 ^ 64) < j∧j < 2 ^ 64)
theorem BE.ok {i j:Int}(h:BE i j):IntMulOk i j:=by
 rcases h with ⟨h1,h2⟩ | ⟨h1,h2⟩
 ·exact .of_left (intBits_le_64 h1 h2)
 ·exact .of_right (intBits_le_64 h1 h2)
theorem bC:OpR X (binaryOp .Add) (rI0 fun i j=>.int (i+j)):=C0 fun _ _ _ _ _ _ _ q=>add_int q
theorem fF:OpR X (binaryOp .Sub) (rI0 fun i j=>.int (i - j)):=C0 fun _ _ _ _ _ _ _ q=>sub_int q
theorem hV:OpR X (binaryOp .Mult) (rI BE fun i j=>.int (i*j)):=opI fun _ _ _ _ _ _ _ hc q=>mul_int q hc.ok
theorem cR:OpR X (binaryOp .FloorDiv) (rI DB fun i j=>.int (i / j)):=opI fun i j _ _ _ _ _ hc q=>by
 have h1:(0:Int) < j:=hc.1
 have h2:j < 1073741824:=hc.2
 exact floordiv_int (by omega) (by rw [Int.fdiv_eq_ediv_of_nonneg i (by omega)];exact q) (.inl (PyProof.noPylong_small (by omega)))
theorem dD:OpR X (binaryOp .Mod) (rI (fun _ j=>0 < j) fun i j=>.int (i % j)):=opI fun i j _ _ _ _ _ hc q=>by
 have h1:(0:Int) < j:=hc
 exact mod_int' (by omega) (by rw [Int.fmod_eq_emod_of_nonneg i (by omega)];exact q)
theorem vJ:OpR X (binaryOp .Pow) (rI DC fun i j=>.int (i ^ j.toNat)):=opI fun _ _ _ _ _ _ _ hc q=>pow_int_small hc.1 hc.2.1 hc.2.2 q
theorem unI {f:Value→Sem Value}{g:Int→Int}
  (rule:∀ (i:Int) (t:Tok) (s:Shared) (Q:Value→Shared→Prop) (E:Value→Shared→Prop),Q (.int (g i) s.toks) { s with toks:=s.toks+1 }→wpAny (model X.prog X.w) X.A (f (.int i t)) Q E s) :
  UnR X f (rU fun i=>.int (g i)):=by
 intro Ks s σ H x v Q I rx h
 obtain ⟨i,rfl,q⟩:=h
 obtain ⟨t,rfl⟩:=rx
 exact rule i t s _ _ ⟨.int (g i),H,I.tok _,⟨_,rfl⟩,q⟩
theorem eG:UnR X (unaryOp .USub) (rU fun i=>.int (-i)):=unI fun _ _ _ _ _ q=>neg_int q
end
def C1:V→V→Bool
 | .non,.non=>true | .non,.int _=>true | .int _,.non=>true | .non,.bl _=>true | .bl _,.non=>true | .non,.str _=>true | .str _,.non=>true
 | .int _,.int _=>true | .bl _,.bl _=>true | .str _,.str _=>true | .byt _,.byt _=>true
 | .int _,.str _=>true | .str _,.int _=>true | .bl _,.str _=>true | .str _,.bl _=>true
 | _,_=>false
def rEq:R2:=fun x y H Q=>C1 x y=true∧Q (.bl (decide (x=y))) H
def rNe:R2:=fun x y H Q=>C1 x y=true∧Q (.bl (!decide (x=y))) H
theorem dec_int {i j:Int}:decide (V.int i=V.int j)=(i == j):=by
 rw [Fp]
 simp
theorem vK {i j:Bool}:decide (V.bl i=V.bl j)=(i == j):=by
 rw [Fp]
 simp
theorem oQ {i j:Str}:decide (V.str i=V.str j)=(i == j):=by
 rw [Fp]
 simp
theorem oR {i j:Array UInt8}:decide (V.byt i=V.byt j)=(i.toList == j.toList):=by
 rw [Fp]
 cases i
 cases j
 simp
section
variable {X:Cx} {a b c:Expr} {ta tb tc:TE} {pos:Pos}
theorem aV {Ks:List (Addr × Obj)}{σ:St}{H:Hp}{s:Shared}{Q:VK}{k k':Bool}(I:Inv X Ks σ H s)(q:Q (.bl k) H)(e:k=k'):EP X Ks σ Q (.bool k') s:=by
 subst e
 exact ⟨.bl k,H,I,rfl,q⟩
theorem cj:OpR X (compareOp .Eq) rEq:=by
 intro Ks s σ H x y v u Q I rx ry h
 obtain ⟨hs,q⟩:=h
 cases x with
 | non =>
  cases rx
  cases y with
  | non=>cases ry;exact PySem.EqNone.eq_none_none (aV I q (by simp))
  | bl j=>cases ry;exact PySem.EqNone.eq_none_bool (aV I q (by simp))
  | int j=>obtain ⟨t',rfl⟩:=ry;exact PySem.EqNone.eq_none_int (aV I q (by simp))
  | str j=>obtain ⟨t',rfl⟩:=ry;exact PySem.EqNone.eq_none_str (aV I q (by simp))
  | _=>exact absurd (show false=true from hs) Ez
 | bl i =>
  cases rx
  cases y with
  | non=>cases ry;exact PySem.EqNone.eq_bool_none (aV I q (by simp))
  | bl j=>cases ry;exact eq_bool (aV I q vK)
  | str j=>obtain ⟨t',rfl⟩:=ry;exact PySem.EqMixed.eq_bool_str (aV I q (by simp))
  | _=>exact absurd (show false=true from hs) Ez
 | int i =>
  obtain ⟨t,rfl⟩:=rx
  cases y with
  | non=>cases ry;exact PySem.EqNone.eq_int_none (aV I q (by simp))
  | int j=>obtain ⟨t',rfl⟩:=ry;exact eq_int (aV I q dec_int)
  | str j=>obtain ⟨t',rfl⟩:=ry;exact PySem.EqMixed.eq_int_str (aV I q (by simp))
  | _=>exact absurd (show false=true from hs) Ez
 | str i =>
  obtain ⟨t,rfl⟩:=rx
  cases y with
  | non=>cases ry;exact PySem.EqNone.eq_str_none (aV I q (by simp))
  | bl j=>cases ry;exact PySem.EqMixed.eq_str_bool (aV I q (by simp))
  | int j=>obtain ⟨t',rfl⟩:=ry;exact PySem.EqMixed.eq_str_int (aV I q (by simp))
  | str j=>obtain ⟨t',rfl⟩:=ry;exact eq_str (aV I q oQ)
  | _=>exact absurd (show false=true from hs) Ez
 | byt i =>
  obtain ⟨t,rfl⟩:=rx
  cases y with
  | byt j=>obtain ⟨t',rfl⟩:=ry;exact PySem.W.eq_bytes (aV I q oR)
  | _=>exact absurd (show false=true from hs) Ez
 | _=>cases y <;> exact absurd (show false=true from hs) Ez
theorem dW:OpR X (compareOp .NotEq) rNe:=by
 intro Ks s σ H x y v u Q I rx ry h
 obtain ⟨hs,q⟩:=h
 cases x with
 | non =>
  cases rx
  cases y with
  | non=>cases ry;exact PySem.EqNone.ne_none_none (aV I q (by simp))
  | bl j=>cases ry;exact PySem.EqNone.ne_none_bool (aV I q (by simp))
  | int j=>obtain ⟨t',rfl⟩:=ry;exact PySem.EqNone.ne_none_int (aV I q (by simp))
  | str j=>obtain ⟨t',rfl⟩:=ry;exact PySem.EqNone.ne_none_str (aV I q (by simp))
  | _=>exact absurd (show false=true from hs) Ez
 | bl i =>
  cases rx
  cases y with
  | non=>cases ry;exact PySem.EqNone.ne_bool_none (aV I q (by simp))
  | bl j=>cases ry;exact ne_bool (aV I q (EX not vK))
  | str j=>obtain ⟨t',rfl⟩:=ry;exact PySem.EqMixed.ne_bool_str (aV I q (by simp))
  | _=>exact absurd (show false=true from hs) Ez
 | int i =>
  obtain ⟨t,rfl⟩:=rx
  cases y with
  | non=>cases ry;exact PySem.EqNone.ne_int_none (aV I q (by simp))
  | int j=>obtain ⟨t',rfl⟩:=ry;exact ne_int (aV I q (EX not dec_int))
  | str j=>obtain ⟨t',rfl⟩:=ry;exact PySem.EqMixed.ne_int_str (aV I q (by simp))
  | _=>exact absurd (show false=true from hs) Ez
 | str i =>
  obtain ⟨t,rfl⟩:=rx
  cases y with
  | non=>cases ry;exact PySem.EqNone.ne_str_none (aV I q (by simp))
  | bl j=>cases ry;exact PySem.EqMixed.ne_str_bool (aV I q (by simp))
  | int j=>obtain ⟨t',rfl⟩:=ry;exact PySem.EqMixed.ne_str_int (aV I q (by simp))
  | str j=>obtain ⟨t',rfl⟩:=ry;exact ne_str (aV I q (EX not oQ))
  | _=>exact absurd (show false=true from hs) Ez
 | byt i =>
  obtain ⟨t,rfl⟩:=rx
  cases y with
  | byt j=>obtain ⟨t',rfl⟩:=ry;exact PySem.W.ne_bytes (aV I q (EX not oR))
  | _=>exact absurd (show false=true from hs) Ez
 | _=>cases y <;> exact absurd (show false=true from hs) Ez
theorem iH:OpR X (compareOp .Lt) (rI0 fun i j=>.bl (decide (i < j))):=BD fun _ _ _ _ _ _ _ q=>lt_int q
theorem oS:OpR X (compareOp .LtE) (rI0 fun i j=>.bl (decide (i≤j))):=BD fun _ _ _ _ _ _ _ q=>le_int q
theorem zx:OpR X (compareOp .Gt) (rI0 fun i j=>.bl (decide (j < i))):=BD fun _ _ _ _ _ _ _ q=>gt_int q
inductive gp  (x:V)(y:V)(H:Hp)(Q:VK):Prop
 | mk:∀ i j,(x = .str i)→(y = .str j)→(Q (.bl (!(Builtin.Str.occurrences j i 0 j.length 1).isEmpty)) H)→gp x y H Q
theorem jM:OpR X (compareOp .In) gp:=by
 intro Ks s σ H x y v u Q I rx ry h
 obtain ⟨i,j,rfl,rfl,q⟩:=h
 obtain ⟨t,rfl⟩:=rx
 obtain ⟨t',rfl⟩:=ry
 exact in_str (aV I q rfl)
theorem zy:OpR X (compareOp .Is) (fun x y H Q=>y = .non∧Q (.bl (decide (x = .non))) H):=by
 intro Ks s σ H x y v u Q I rx ry h
 obtain ⟨rfl,q⟩:=h
 cases ry
 refine is_none_gen (aV I q ?_)
 cases x <;> first
  | (cases rx;rfl)
  | (obtain ⟨t,rfl⟩:=rx;rfl)
theorem oU:OpR X (compareOp .IsNot) (fun x y H Q=>y = .non∧Q (.bl (!decide (x = .non))) H):=by
 intro Ks s σ H x y v u Q I rx ry h
 obtain ⟨rfl,q⟩:=h
 cases ry
 refine isnot_none_gen (aV I q ?_)
 cases x <;> first
  | (cases rx;rfl)
  | (obtain ⟨t,rfl⟩:=rx;rfl)
theorem aM (b:Expr){op:CmpOp}(h:op ≠ .In:=by decide)(h2:op ≠ .NotIn:=by decide):behindInMarks op b=false:=by
 have e1:(op == CmpOp.In)=false:=by cases op <;> first | rfl | exact absurd rfl h
 have e2:(op == CmpOp.NotIn)=false:=by cases op <;> first | rfl | exact absurd rfl h2
 cases b <;> simp [behindInMarks,e1,e2]
theorem bE {op:CmpOp}{r:R2}(ho:OpR X (compareOp op) r)(ha:PE X a ta)(hb:PE X b tb)(hm:behindInMarks op b=false):PE X (.Compare a [op] [b] pos) (tOp r ta tb):=by
 intro Ks s σ H Q I h
 exact wpAny_Compare1 (BC ha hb I h fun v u s2 x y H2 I2 rx ry q=>ho Ks s2 σ H2 x y v u Q I2 rx ry q) hm
def s_ (Q:(Bool→Hp→Prop)):V→Hp→Prop:=fun x H'=>IsB x H' Q
def wZ (t:TE):TT:=fun σ H Q=>t σ H (s_ Q)
theorem aG {op:CmpOp}{r:R2}(ho:OpR X (compareOp op) r)(ha:PE X a ta)(hb:PE X b tb)(hm:behindInMarks op b=false):PT X (.Compare a [op] [b] pos) (wZ (tOp r ta tb)):=by
 intro Ks s σ H Q I h
 refine wpAny_isTrue_Compare1 (thn (ha Ks s σ H _ I h) fun v s1 ⟨x,H1,I1,r1,q1⟩=>thn (hb Ks s1 σ H1 _ I1 q1) fun u s2 ⟨y,H2,I2,r2,q2⟩ =>
  thn (ho Ks s2 σ H2 x y v u _ I2 r1 r2 q2) fun c s3 ⟨z,H3,I3,r3,k,e,q3⟩=>?_) hm
 subst e
 cases r3
 exact FF ⟨H3,I3,q3⟩
def vL (r r':R2)(ta tb tc:TE):TE:=fun σ H Q=>ta σ H fun x H1=>tb σ H1 fun y H2=>r x y H2 fun z H3=>∃ k,z = .bl k ∧
 (if k=true then tc σ H3 fun w' H4=>r' y w' H4 Q else Q (.bl false) H3)
theorem tf {op op':CmpOp}{r r':R2}(ho:OpR X (compareOp op) r)(ho':OpR X (compareOp op') r')(ha:PE X a ta)(hb:PE X b tb)(hc:PE X c tc)
  (hm:lastMarks [op,op'] [b,c]=false:=by with_unfolding_all rfl):PE X (.Compare a [op,op'] [b,c] pos) (vL r r' ta tb tc):=by
 intro Ks s σ H Q I h
 refine Compare_chain (thn (ha Ks s σ H _ I h) fun v s1 ⟨x,H1,I1,r1,q1⟩=>chain_link (thn (hb Ks s1 σ H1 _ I1 q1) fun u s2 ⟨y,H2,I2,r2,q2⟩ =>
  thn (ho Ks s2 σ H2 x y v u _ I2 r1 r2 q2) fun d s3 ⟨z,H3,I3,r3,k,e,q3⟩=>?_)) hm
 subst e
 cases r3
 refine FF ?_
 cases k with
 | false=>exact ite_ff ⟨.bl false,H3,I3,rfl,q3⟩
 | true=>exact ite_tt (chain_last (thn (hc Ks s3 σ H3 _ I3 q3) fun w' s4 zq45=>(by obtain ⟨z',H4,I4,r4,q4⟩:=zq45;exact ho' Ks s4 σ H4 y z' u w' Q I4 r2 r4 q4)))
theorem iI {op op':CmpOp}{r r':R2}(ho:OpR X (compareOp op) r)(ho':OpR X (compareOp op') r')(ha:PE X a ta)(hb:PE X b tb)(hc:PE X c tc)
  (hm:lastMarks [op,op'] [b,c]=false:=by with_unfolding_all rfl):PT X (.Compare a [op,op'] [b,c] pos) (wZ (vL r r' ta tb tc)):=by
 intro Ks s σ H Q I h
 refine isTrue_chain (thn (ha Ks s σ H _ I h) fun v s1 ⟨x,H1,I1,r1,q1⟩=>test_link (thn (hb Ks s1 σ H1 _ I1 q1) fun u s2 ⟨y,H2,I2,r2,q2⟩ =>
  thn (ho Ks s2 σ H2 x y v u _ I2 r1 r2 q2) fun d s3 ⟨z,H3,I3,r3,k,e,q3⟩=>?_)) hm
 subst e
 cases r3
 refine FF ?_
 cases k with
 | false =>
  obtain ⟨k',e',q'⟩:=q3
  cases e'
  exact ite_ff ⟨H3,I3,q'⟩
 | true =>
  refine ite_tt (test_last (thn (hc Ks s3 σ H3 _ I3 q3) fun w' s4 ⟨z',H4,I4,r4,q4⟩=>thn (ho' Ks s4 σ H4 y z' u w' _ I4 r2 r4 q4) fun d' s5 zq46=>?_))
  obtain ⟨z2,H5,I5,r5,k2,e2,q5⟩:=zq46
  subst e2
  cases r5
  exact FF ⟨H5,I5,q5⟩
def DE (K:PySem.W.Frag)(x:V)(H:Hp)(k:Bool):Prop :=
 match x with
 | .non=>k=false
 | .bl b=>k=b
 | .int i=>k=(i != 0)
 | .str y=>y.length≤sizeLine∧k=((y.length:Int) != 0)
 | .byt y=>y.size≤sizeLine∧k=((y.size:Int) != 0)
 | .ref p=>(∃ xs,SqL K H p xs∧k=!xs.isEmpty) ∨ (∃ xs,SqT K H p xs∧k=!xs.isEmpty) ∨ ∃ Kt,H p=some (.dK Kt)∧k=!Kt.isEmpty
 | _=>False
theorem nB {κ:Type}{Kt:List (κ × V)}{vs:List (κ × Value)}(r:KV Kt vs):(!vs.isEmpty)=!Kt.isEmpty:=by
 cases r <;> rfl
theorem hX {xs:List V}{its:List Value}(r:a8 xs its):(!its.toArray.isEmpty)=!xs.isEmpty:=by
 cases r <;> simp
theorem fG:(sizeLine:Nat) < 2 ^ 63:=by rw [F0]; decide
inductive w_ (K:PySem.W.Frag)(x:V)(H:Hp)(Q:Bool→Hp→Prop):Prop
 | mk:∀ k,(DE K x H k)→(Q k H)→w_ K x H Q
theorem vM:DA X (w_ X.K):=by
 intro Ks s σ H x v Q I rx h
 obtain ⟨k,e,q⟩:=h
 have hl:=fG
 have hs:sizeLine=16777216:=F0
 cases x with
 | non =>
  cases rx
  have e':k=false:=e
  subst e'
  exact truthy_none ⟨H,I,q⟩
 | bl b =>
  cases rx
  have e':k=b:=e
  subst e'
  exact FF ⟨H,I,q⟩
 | int i =>
  obtain ⟨t,rfl⟩:=rx
  have e':k=(i != 0):=e
  subst e'
  exact PySem.P.truthy_int ⟨H,I,q⟩
 | str y =>
  obtain ⟨t,rfl⟩:=rx
  obtain ⟨hy,e'⟩:y.length≤sizeLine∧k=((y.length:Int) != 0):=e
  subst e'
  exact PySem.P.truthy_str (by omega) ⟨H,I.tok _,q⟩
 | byt y =>
  obtain ⟨t,rfl⟩:=rx
  obtain ⟨hy,e'⟩:y.size≤sizeLine∧k=((y.size:Int) != 0):=e
  subst e'
  exact PySem.W.truthy_bytes (by omega) ⟨H,I.tok _,q⟩
 | ref p =>
  cases rx
  have e':(∃ xs,SqL X.K H p xs∧k=!xs.isEmpty) ∨ (∃ xs,SqT X.K H p xs∧k=!xs.isEmpty) ∨ ∃ Kt,H p=some (.dK Kt)∧k=!Kt.isEmpty:=e
  rcases e' with ⟨xs,hx,e'⟩ | ⟨xs,hx,e'⟩ | ⟨Kt,hx,e'⟩
  ·subst e'
   obtain ⟨its,r,pl,hz⟩:=I.list hx
   have hlen:=r.length
   exact wpAny_truthy_list pl.isList (by simp only [Eo];omega) ⟨H,I.tok _,by rw [hX r];exact q⟩
  ·subst e'
   obtain ⟨its,r,pl,hz⟩:=I.tuple hx
   have hlen:=r.length
   exact truthy_tuple pl (by simp only [Eo];omega) ⟨H,I.tok _,by rw [hX r];exact q⟩
  ·subst e'
   obtain ⟨hz,hS,vs,r,m⟩:Kt.length≤sizeLine∧(p == sysModules)=false∧∃ vs,KV Kt vs∧s.heap.DictOf (bx X.prog X.w) p vs:=I.hok p _ hx
   have hlen:Kt.length=vs.length:=Jj r
   exact wpAny_truthy_dict hS m (by omega) ⟨H,I.tok _,by rw [nB r];exact q⟩
 | _=>exact (show False from e).elim
def xb (K:PySem.W.Frag)(Q:(Bool→Hp→Prop)):V→Hp→Prop:=fun x H'=>w_ K x H' Q
def DF (K:PySem.W.Frag)(ta:TE):TT:=fun σ H Q=>ta σ H (xb K Q)
theorem aR (ha:PE X a ta)(he:∀ whole,isTrue a X.env whole=(do let v ← whole; standAt a.pos; holding [v] (truthy v))) :
  PT X a (DF X.K ta):=by
 intro Ks s σ H Q I h
 exact isTrue_plain (thn (ha Ks s σ H _ I h) fun v s1 zq47=>(by obtain ⟨x,H1,I1,r1,q1⟩:=zq47;exact vM Ks s1 σ H1 x v Q I1 r1 q1)) (he _)
inductive fH  (x:V)(y:V)(H:Hp)(Q:VK):Prop
 | mk:∀ i j,(x = .str i)→(y = .str j)→(i.length+j.length≤sizeLine)→(Q (.str (i++j)) H)→fH x y H Q
theorem aU:OpR X (binaryOp .Add) fH:=by
 intro Ks s σ H x y v u Q I rx ry h
 obtain ⟨i,j,rfl,rfl,hz,q⟩:=h
 obtain ⟨t,rfl⟩:=rx
 obtain ⟨t',rfl⟩:=ry
 exact add_str (fun t' tk=>⟨.str (i++j),H,I.tok _,⟨_,rfl⟩,q⟩) hz
theorem cJ {x:V}{us:List Value}(r:a8 [x] us):∃ u,us=[u]∧bq x u:=by
 cases r with
 | cons r1 r2=>cases r2;exact ⟨_,rfl,r1⟩
theorem tj {x y:V}{us:List Value}(r:a8 [x,y] us):∃ u w',us=[u,w']∧bq x u∧bq y w':=by
 cases r with
 | cons r1 r2 =>
  cases r2 with
  | cons r3 r4=>cases r4;exact ⟨_,_,rfl,r1,r3⟩
theorem gq:cI X (.type "int") (fun xs H Q=>(∃ i,xs=[.int i]∧Q (.int i) H) ∨ ∃ k,xs=[.bl k]∧Q (.int (if k then 1 else 0)) H):=by
 intro Ks s σ H xs us Q I r h
 rcases h with ⟨i,rfl,q⟩ | ⟨k,rfl,q⟩
 ·obtain ⟨u,rfl,t,rfl⟩:=cJ r
  exact call_int_int ⟨.int i,H,I,⟨_,rfl⟩,q⟩
 ·obtain ⟨u,rfl,r1⟩:=cJ r
  cases r1
  exact call_int_bool ⟨.int (if k then 1 else 0),H,I.tok _,⟨_,rfl⟩,q⟩
end
structure BF (h:Heap) (x dx C:Addr) (mA:Str→Option Value):Prop where
 obj:h.get? x=some (PySem.W.instObj C dx)
 ns:h.Ns1 dx mA
 ne:dx≠x
theorem jN {h:Heap}{dx:Addr}{mA:Str→Option Value}(n:h.Ns1 dx mA):∃ od,h.get? dx=some od∧∀ name,PySem.W.lookIn name od=some (mA name):=by
 obtain ⟨o,es,ep,ho,hd,hk,_,hm⟩:=n
 refine ⟨o,ho,fun name=>?_⟩
 have e:=hm name
 unfold nsFind findBy at e
 rw [← Array.find?_toList] at e
 unfold PySem.W.lookIn
 rw [hd]
 dsimp only
 split
 ·rename_i y q
  rw [q] at e
  exact EX some e
 ·rename_i q
  rw [q] at e
  have a:es.toList.any (·.refKey)=false:=by
   rw [GU]
   intro y hy
   obtain ⟨z,t,hkey⟩:=hk y (Array.mem_toList_iff.mp hy)
   simp [DictEntry.refKey,hkey]
  have a':¬ es.toList.any (·.refKey)=true:=by rw [a];exact Ez
  rw [if_neg a']
  exact EX some e
theorem BF.look {h:Heap}{x dx C:Addr}{mA:Str→Option Value}(I:BF h x dx C mA):∃ od,PySem.W.InstAt h x (PySem.W.instObj C dx) C (some od)∧∀ name,PySem.W.lookIn name od=some (mA name) :=
 let ⟨od,ho,hl⟩:=jN I.ns
 ⟨od,⟨I.obj,rfl,rfl,ho⟩,hl⟩
section
variable {prog:Program} {w:World} {A:Around} {E:Value→Shared→Prop} {s:Shared} {K:PySem.W.Frag} {x dx C f:Addr} {mA:Str→Option Value} {name:Str} {v:Value}
end
def nD (f:Str)(v:V):List (Str × V)→List (Str × V)
 | []=>[(f,v)]
 | (g,x)::r=>if g=f then (g,v)::r else (g,x)::nD f v r
theorem gr (f g:Str)(v:V):∀ fs:List (Str × V),(nD f v fs).lookup g=if g=f then some v else fs.lookup g
 | []=>by
  show List.lookup g [(f,v)]=_
  by_cases h:g=f
  ·have hb:(g == f)=true:=FQ.mpr h
   simp only [List.lookup,hb,if_pos h]
  ·have hb:(g == f)=false:=FZ.mpr h
   simp only [List.lookup,hb,if_neg h]
 | (k,x)::r=>by
  have ih:=gr f g v r
  rw [show nD f v ((k,x)::r)=(if k=f then (k,v)::r else (k,x)::nD f v r) from rfl]
  by_cases hk:k=f
  ·rw [if_pos hk]
   by_cases h:g=k
   ·have hb:(g == k)=true:=FQ.mpr h
    simp only [List.lookup,hb,if_pos (h.trans hk)]
   ·have hb:(g == k)=false:=FZ.mpr h
    simp only [List.lookup,hb,if_neg (fun e:g=f=>h (e.trans hk.symm))]
  ·rw [if_neg hk]
   by_cases h:g=k
   ·have hb:(g == k)=true:=FQ.mpr h
    simp only [List.lookup,hb,if_neg (fun e:g=f=>hk (h.symm.trans e))]
   ·have hb:(g == k)=false:=FZ.mpr h
    simp only [List.lookup,hb]
    exact ih
theorem gu (f:Str)(v:V):∀ fs:List (Str × V),f∈(nD f v fs).map (·.1)∧∀ g,g∈fs.map (·.1)→g∈(nD f v fs).map (·.1)
 | []=>⟨by simp [nD],fun g h=>by simp at h⟩
 | (k,x)::r=>by
  obtain ⟨i1,i2⟩:=gu f v r
  rw [show nD f v ((k,x)::r)=(if k=f then (k,v)::r else (k,x)::nD f v r) from rfl]
  by_cases hk:k=f
  ·rw [if_pos hk]
   subst hk
   exact ⟨by simp,fun g h=>by simpa using h⟩
  ·rw [if_neg hk]
   refine ⟨?_,fun g h=>?_⟩
   ·rw [EO]
    exact Ej _ i1
   ·rw [EO] at h ⊢
    rcases Ei.mp h with e | e
    ·exact Ei.mpr (.inl e)
    ·exact Ej _ (i2 g e)
theorem kK.some_of {v:V}{o:Option Value}(r:kK (some v) o):∃ u,o=some u∧bq v u:=by
 cases o with
 | none=>exact (show False from r).elim
 | some u=>exact ⟨u,rfl,r⟩
theorem oV {v:V}{u:Value}(r:bq v u):PySem.W.handedIn u=true:=by
 cases v with
 | non=>cases (show u=Value.none from r);rfl
 | bl b=>cases (show u=Value.bool b from r);rfl
 | int i=>obtain ⟨t,e⟩:=(show ∃ t,u=Value.int i t from r);cases e;rfl
 | str x=>obtain ⟨t,e⟩:=(show ∃ t,u=Value.str x t from r);cases e;rfl
 | byt b=>obtain ⟨t,e⟩:=(show ∃ t,u=Value.bytes b t from r);cases e;rfl
 | flt b=>obtain ⟨t,e⟩:=(show ∃ t,u=Value.float b t from r);cases e;rfl
 | ref a=>cases (show u=Value.ref a from r);rfl
 | ty n=>cases (show u=Value.type n from r);rfl
section
variable {P:Program} {w:World} {H H':Hp} {h h':Heap} {a C dx:Addr} {fs fs':List (Str × V)}
theorem xf (hok:HOk P w H h)(e:H a=some (.ins C dx fs)):∃ mA,BF h a dx C mA∧(∀ f,kK (fs.lookup f) (mA f))∧PySem.Within mA (fs.map (·.1))∧fs.length≤1000∧H dx=some (.own a):=by
 obtain ⟨d,z,ne,ob,mA,n,r,q⟩:=(show bz P w H h a (.ins C dx fs) from hok a _ e)
 exact ⟨mA,⟨ob,n,ne⟩,r,q,z,d⟩
end
structure Cls (K:PySem.W.Frag) (C:Addr):Prop where
 pg:PySem.W.plainGet K C Str.empty=true
 hd:PySem.W.hasDictIn K C=true
 po:PySem.W.plainOver K C=true
 sa:PySem.W.findIn K (.ref C) "__setattr__" = some (some (.builtin "object.__setattr__"))
theorem Cls.get {K:PySem.W.Frag}{C:Addr}(c:Cls K C)(f:Str):PySem.W.plainGet K C f=true:=c.pg
section
variable {X:Cx} {Ks:List (Addr × Obj)} {σ:St} {H:Hp} {s:Shared} {a C dx:Addr} {fs:List (Str × V)} {f:Str} {v:V} {A:Around} {E:Value→Shared→Prop}
theorem xh {prog:Program}{w:World}{env:Env}{e:Expr}{f:Str}{pos:Pos}{s:Shared}{Q:Value→Shared→Prop}(hb:attributeBase e f env (eval e env)=eval e env)
  (h:wpAny (model prog w) A (eval e env) (fun o s₁=>wpAny (model prog w) A (getAttr o f true) Q E s₁) E s):wpAny (model prog w) A (eval (.Attribute e f pos) env) Q E s :=
 Attribute_any_ h (by rw [arm_eval_Attribute,hb])
end
section
variable {X:Cx} {o e value:Expr} {f:Str} {pos pos' tpos:Pos} {ta tv:TE}
end
section
variable {X:Cx} {Ks:List (Addr × Obj)} {σ:St} {H:Hp} {s:Shared} {A:Around} {E:Value→Shared→Prop} {Q:Value→Shared→Prop} {c:Value} {b:Bool}
inductive fU (K:PySem.W.Frag)(H:Hp):V→Value→Prop where
 | non:fU K H .non (.type "NoneType")
 | bl (x:Bool):fU K H (.bl x) (.type "bool")
 | int (i:Int):fU K H (.int i) (.type "int")
 | str (x:Str):fU K H (.str x) (.type "str")
 | flt (x:UInt64):fU K H (.flt x) (.type "float")
 | lst {a:Addr} {xs:List V} (e:H a=some (.lst xs)):fU K H (.ref a) (.type "list")
 | frz {a:Addr} {o:Obj} {xs:List V} (e:H a=some (.frz o (.lst xs))):fU K H (.ref a) (.type "list")
 | tup {a:Addr} {xs:List V} (e:H a=some (.tup xs)):fU K H (.ref a) (.type "tuple")
 | dK {a:Addr} {Kt:List (Key × V)} (e:H a=some (.dK Kt)):fU K H (.ref a) (.type "dict")
 | dT {a:Addr} {Kt:List (List Key × V)} (e:H a=some (.dT Kt)):fU K H (.ref a) (.type "dict")
 | ins {a C dx:Addr} {fs:List (Str × V)} (e:H a=some (.ins C dx fs)) (cl:Cls K C) (ha:PySem.W.findIn K (.ref C) "__class__" = some (some (.builtin "object.__class__")))
   (hn:PySem.W.specialIn K (.builtin "object.__class__") "__get__" = some (some (.builtin "getset_descriptor.__get__"))) (htk:PySem.W.takesIn K (.builtin "object.__class__")=some true)
   (hm:PySem.W.mroIn K C (.type "object")=some true):fU K H (.ref a) (.ref C)
theorem oW {x:V}{u t:Value}(I:Inv X Ks σ H s)(rx:bq x u)(ty:fU X.K H x t)(e:PySem.W.kitOne X.K t c=some b)(h:∀ tk,Q (.bool b) { s with toks:=tk }) :
  wpAny (model X.prog X.w) A (call (.builtin "isinstance") [u,c]) Q E s:=by
 cases ty with
 | non=>cases (show u=Value.none from rx);exact Fq PySem.W.kitx_none I.kIn True.intro e (fun z=>nomatch z) h
 | bl y=>cases (show u=Value.bool y from rx);exact Fq PySem.W.kitx_bool I.kIn True.intro e (fun z=>nomatch z) h
 | int i=>obtain ⟨t,q⟩:=(show ∃ t,u=Value.int i t from rx);cases q;exact Fq PySem.W.kitx_int I.kIn True.intro e (fun z=>nomatch z) h
 | str y=>obtain ⟨t,q⟩:=(show ∃ t,u=Value.str y t from rx);cases q;exact Fq PySem.W.kitx_str I.kIn True.intro e (fun z=>nomatch z) h
 | flt y=>obtain ⟨t,q⟩:=(show ∃ t,u=Value.float y t from rx);cases q;exact Fq PySem.W.kitx_float I.kIn True.intro e (fun z=>nomatch z) h
 | @lst a xs ea =>
  cases (show u=Value.ref a from rx)
  obtain ⟨_,_,n,_,h1⟩:=(show bz X.prog X.w H s.heap a (.lst xs) from I.hok a _ ea)
  exact Fq PySem.W.kitx_list I.kIn ⟨_,h1,rfl⟩ e (fun z=>nomatch z) h
 | @frz a ob xs ea =>
  cases (show u=Value.ref a from rx)
  obtain ⟨_,_,_,n,_,h1⟩:=(show bz X.prog X.w H s.heap a (.frz ob (.lst xs)) from I.hok a _ ea)
  exact Fq PySem.W.kitx_list I.kIn ⟨_,h1,rfl⟩ e (fun z=>nomatch z) h
 | @tup a xs ea =>
  cases (show u=Value.ref a from rx)
  obtain ⟨_,_,_,p,_⟩:=(show bz X.prog X.w H s.heap a (.tup xs) from I.hok a _ ea)
  obtain ⟨o,h1,h2,_⟩:=p
  exact Fq PySem.W.kitx_tuple I.kIn ⟨o,h1,h2⟩ e (fun z=>nomatch z) h
 | @dK a Kt ea =>
  cases (show u=Value.ref a from rx)
  obtain ⟨_,_,vs,_,p⟩:=(show bz X.prog X.w H s.heap a (.dK Kt) from I.hok a _ ea)
  obtain ⟨o,es,ep,h1,h2,_⟩:=p
  exact Fq PySem.W.kitx_dict I.kIn ⟨o,h1,h2.1⟩ e (fun z=>nomatch z) h
 | @dT a Kt ea =>
  cases (show u=Value.ref a from rx)
  obtain ⟨_,_,xs,_,o,es,ep,h1,h2,_⟩:=(show bz X.prog X.w H s.heap a (.dT Kt) from I.hok a _ ea)
  exact Fq PySem.W.kitx_dict I.kIn ⟨o,h1,h2.1⟩ e (fun z=>nomatch z) h
 | @ins a C dx fs ea cl ha hn htk hm =>
  cases (show u=Value.ref a from rx)
  obtain ⟨mA,O,_⟩:=xf I.hok ea
  obtain ⟨od,J,_⟩:=O.look
  exact Fq (PySem.W.kitx_own (cl.get _) cl.hd ha hn htk hm) I.kIn J e (fun z=>nomatch z) h
end
structure eE (k:Nat) (A:Around):Prop where
 hd:A.handled=none
 dp:A.depth+3*k+5 < recursionLimit
 un:A.units+16*k+200 < cLine
 gd:A.guards=some []
theorem eE.mono {j k:Nat}{A:Around}(r:eE k A)(h:j≤k):eE j A:=⟨r.hd,by have:=r.dp; omega,by have:=r.un; omega,r.gd⟩
theorem eE.deeper {k:Nat}{A:Around}(r:eE (k+1) A)(env:Env):eE k (A.deeper env) :=
 ⟨r.hd,by have:=r.dp;show A.depth+1+3*k+5 < _;omega,by have:=r.un;show A.units+3+16*k+200 < _;omega,r.gd⟩
theorem hZ {A:Around}{C:Addr}{us:List Value}{kw:List (Str × Value)}:(A.under (.builtin "type.__call__" ⟨.ref C::us,kw⟩)).depth=A.depth+1:=by
 first | rfl | simp [Around.under,Code.weight,Code.isCreation,Code.isGuard,Code.isCaller,Code.frames,Code.isFrame,guardIds]
theorem h_ {A:Around}{C:Addr}{us:List Value}{kw:List (Str × Value)}:(A.under (.builtin "type.__call__" ⟨.ref C::us,kw⟩)).units=A.units+1:=by
 first | rfl | simp [Around.under,Code.cUnits,Code.frames,Code.isFrame]
theorem eE.make {k:Nat}{A:Around}(r:eE (k+1) A)(C:Addr)(us:List Value)(kw:List (Str × Value)):eE k (A.under (.builtin "type.__call__" ⟨.ref C::us,kw⟩)) :=
 ⟨r.hd,by have:=r.dp;rw [hZ];omega,by have:=r.un;rw [h_];omega,by have g:=r.gd;simpa [Around.under,Code.guards,pushGuards,Code.isGuard,guardIds] using g⟩
theorem eE.depth {k:Nat}{A:Around}(r:eE k A):A.depth < recursionLimit:=by have:=r.dp; omega
theorem eE.units {k:Nat}{A:Around}(r:eE k A):A.units+64 < cLine:=by have:=r.un; omega
def DG:TA:=fun _ H Q=>Q [] H
def tq (Q:(List V→Hp→Prop))(x:V):List V→Hp→Prop:=fun xs H2=>Q (x::xs) H2
def tu (tr:TA)(σ:St)(Q:(List V→Hp→Prop)):V→Hp→Prop:=fun x H1=>tr σ H1 (tq Q x)
def zA (ta:TE)(tr:TA):TA:=fun σ H Q=>ta σ H (tu tr σ Q)
section
variable {X:Cx} {e:Expr} {es:List Expr} {te:TE} {t:TA} {pos:Pos}
theorem af:PA X [] DG:=fun _ _ _ _ H Q I h=>Calls.spliced_nil ⟨[],H,I,.nil,h⟩
theorem aa (ha:PE X e te)(hr:PA X es t)(hs:starEach (e::es) X.env=(false,eval e X.env)::starEach es X.env:=by rfl):PA X (e::es) (zA te t):=by
 intro pos Ks s σ H Q I h
 rw [hs]
 show wpAny _ _ (spliced ((false,eval e X.env)::backTo pos (starEach es X.env))) _ _ s
 refine IL (thn (ha Ks s σ H _ I h) fun u s1 zq54=>?_)
 obtain ⟨x,H1,I1,r1,q1⟩:=zq54
 exact thn (hr pos Ks s1 σ H1 _ I1 q1) fun us s2 zq55=>(by obtain ⟨xs,H2,I2,r2,q2⟩:=zq55;exact ⟨x::xs,H2,I2,.cons r1 r2,q2⟩)
def xi (Q:VK):List V→Hp→Prop:=fun xs H1=>xs.length≤sizeLine∧∀ p,H1 p=none→Q (.ref p) (upd H1 p (.tup xs))
def DH (t:TA):TE:=fun σ H Q=>t σ H (xi Q)
def xj (Q:VK):List V→Hp→Prop:=fun xs H1=>xs.length≤sizeLine∧∀ p,H1 p=none→Q (.ref p) (upd H1 p (.lst xs))
def DJ (t:TA):TE:=fun σ H Q=>t σ H (xj Q)
theorem aP {x1}(h:PA X es t):PE X (.Tuple es x1 pos) (DH t):=by
 intro Ks s σ H Q I hq
 refine wpAny_Tuple_spliced (thn (h pos Ks s σ H _ I hq) fun us s1 ⟨xs,H1,I1,r,z,q⟩=>⟨by rw [← r.length];exact z,?_⟩)
 have hf:H1 s1.heap.objs.size=none:=I1.hok.fresh (Eg _)
 refine ⟨.ref s1.heap.objs.size,upd H1 s1.heap.objs.size (.tup xs),I1.laid (t':=s1.toks) (fun b u e=>D_ _ e) (Eg _) ?_,rfl,q _ hf⟩
 exact ⟨z,us,r,⟨_,El _ rfl,rfl,_,rfl⟩,.new _ _ rfl⟩
theorem bc (h:PA X es t):PE X (.List es pos) (DJ t):=by
 intro Ks s σ H Q I hq
 refine wpAny_List_spliced (thn (h pos Ks s σ H _ I hq) fun us s1 ⟨xs,H1,I1,r,z,q⟩=>⟨by rw [← r.length];exact z,?_⟩)
 have hf:H1 s1.heap.objs.size=none:=I1.hok.fresh (Eg _)
 refine ⟨.ref s1.heap.objs.size,upd H1 s1.heap.objs.size (.lst xs),I1.laid (t':=s1.toks) (fun b u e=>D_ _ e) (Eg _) ?_,rfl,q _ hf⟩
 exact ⟨z,us,0,r,El _ rfl⟩
end
abbrev Sp:=List V→Hp→VK→XK→Prop
abbrev CXT:=List Env→Hp→Shared→XK→Value→Shared→Prop
structure sM (P:Program) (w:World) (K:PySem.W.Frag) (mg:Str→Option Value) (base:Heap) (A:Around) (outer:List Env) (s:Shared) (H:Hp):Prop where
 frames:A.frames=some outer
 mod:Mod K mg base
 bs:∀ b o,base.get? b=some o→s.heap.get? b=some o∧H b=none
 bsz:base.objs.size≤s.heap.objs.size
 funs:s.heap.FunFrames base outer
 frf:∀ b∈frs outer,H b=none
 hok:HOk P w H s.heap
 bare:AllBare s.gens
def CE (outer:List Env)(P:Program)(w:World)(H:Hp)(s:Shared)(Q:VK)(u:Value)(s':Shared):Prop :=
 ∃ v H',s'.os=s.os∧AllBare s'.gens∧Un (frs outer) [] H H' s.heap s'.heap∧HOk P w H' s'.heap∧bq v u∧Q v H'
def CR (CX:CXT)(outer:List Env)(P:Program)(w:World)(H:Hp)(s:Shared)(Q:VK)(E:XK)(r:Result)(s':Shared):Prop :=
 match r with
 | .ok (.ret u)=>CE outer P w H s Q u s'
 | .ok _=>False
 | .error e=>CX outer H s E e s'
structure jI (P:Program) (w:World) (K:PySem.W.Frag) (mg:Str→Option Value) (base:Heap) (CX:CXT) (k:Nat) (f:Addr) (fd:FuncData) (ps:List Str) (sp:Sp):Prop where
 len:∀ vs H Q E,sp vs H Q E→vs.length=ps.length
 run:∀ (A:Around) (outer:List Env) (s:Shared) (H:Hp) (args:Args) (us:List Value) (vs:List V) (Q:VK) (E:XK),eE k A→sM P w K mg base A outer s H→BindsTo s fd args (ps.zip us)→a8 vs us→sp vs H Q E →
  codeAny (model P w) A (.call (.ref f) args) (CR CX outer P w H s Q E) s
theorem jI.mono {P:Program}{w:World}{K:PySem.W.Frag}{mg:Str→Option Value}{base:Heap}{CX:CXT}{j k:Nat}{f:Addr}{fd:FuncData}{ps:List Str}{sp:Sp}(F:jI P w K mg base CX j f fd ps sp)(h:j≤k) :
  jI P w K mg base CX k f fd ps sp:=⟨F.len,fun A outer s H args us vs Q E hr=>F.run A outer s H args us vs Q E (hr.mono h)⟩
theorem sM.make {P:Program}{w:World}{K:PySem.W.Frag}{mg:Str→Option Value}{base:Heap}{A:Around}{outer:List Env}{s:Shared}{H:Hp}(e:sM P w K mg base A outer s H)(C:Addr)(us:List Value)(kw:List (Str × Value)) :
  sM P w K mg base (A.under (.builtin "type.__call__" ⟨.ref C::us,kw⟩)) outer s H:=⟨by first | exact e.frames | (simpa [Around.under,Code.envs,Code.isFrame,pushEnvs] using e.frames),e.mod,e.bs,e.bsz,e.funs,e.frf,e.hok,e.bare⟩
section
variable {X:Cx} {Ks:List (Addr × Obj)} {σ:St} {H:Hp} {s s':Shared}
theorem Inv.env0 (I:Inv X Ks σ H s):sM X.prog X.w X.K X.mg X.base X.A X.stack s H :=
 ⟨I.ok.frames,I.ok.mod,I.bs,EV I.ok.bsz I.sz,I.stack,I.stkFree,I.hok,I.bare⟩
theorem Inv.after {Q:VK}{u:Value}(I:Inv X Ks σ H s)(h:CE X.stack X.prog X.w H s Q u s'):EP X Ks σ Q u s':=by
 obtain ⟨v,H',os,bare,un,hok,r,q⟩:=h
 obtain ⟨hh,g,d,t,os'⟩:=s'
 obtain rfl:os'=s.os:=os
 exact ⟨v,H',I.call (h':=hh) (g':=g) (d':=d) (t':=t) (ch:=[]) un hok bare (fun b z=>absurd z (by simp)),r,q⟩
end
def tw (sp:Sp)(dvs:List V)(E:XK)(Q:VK):List V→Hp→Prop:=fun vs H1=>sp (vs++dvs) H1 Q E
def tD (sp:Sp)(dvs:List V)(E:XK)(t:TA):TE:=fun σ H Q=>t σ H (tw sp dvs E Q)
def eY (K:PySem.W.Frag)(fd:FuncData)(ps:List Str)(ds:List Value):Prop :=
 ∀ (s:Shared) (us:List Value),K.In s.heap→(us++ds).length=ps.length→BindsTo s fd ⟨us,[]⟩ (ps.zip (us++ds))
theorem eY.all {K:PySem.W.Frag}{fd:FuncData}{ps:List Str}(h:∀ us:List Value,us.length=ps.length→bindArgs fd ⟨us,[]⟩=pure (ps.zip us)):eY K fd ps []:=fun s us _ hl=>by
 rw [Fs] at hl ⊢
 exact .of_eq (h us hl)
def jO (CX:CXT)(X:Cx)(E:XK):Prop:=∀ (Ks:List (Addr × Obj)) (σ:St) (H:Hp) (s:Shared) (e:Value) (s':Shared),Inv X Ks σ H s→CX X.stack H s E e s'→X.xe e s'
section
variable {X:Cx} {CX:CXT} {k:Nat} {f C:Addr} {fd:FuncData} {ps:List Str} {sp:Sp} {dvs:List V} {ds:List Value} {E:XK} {x m:Str} {p pos apos:Pos} {e o:Expr} {es:List Expr} {ta:TE} {t:TA}
theorem zB {Ks:List (Addr × Obj)}{σ:St}{H:Hp}{s:Shared}{Q:VK}{us:List Value}{vs:List V}(F:jI X.prog X.w X.K X.mg X.base CX k f fd ps sp)(hr:eE k X.A)(hb:eY X.K fd ps ds)(hd:a8 dvs ds)(hx:jO CX X E)
  (I:Inv X Ks σ H s) (r:a8 vs us) (h:sp (vs++dvs) H Q E):wpAny (model X.prog X.w) X.A (call (.ref f) us) (EP X Ks σ Q) X.xe s:=by
 have r2:a8 (vs++dvs) (us++ds):=r.append hd
 have hl:(us++ds).length=ps.length:=by rw [← r2.length];exact F.len _ _ _ _ h
 refine Hj (Gv (F.run X.A X.stack s H ⟨us,[]⟩ (us++ds) (vs++dvs) Q E hr I.env0 (hb s us I.kIn hl) r2 h) fun r s' hq=>?_)
 cases r with
 | error e=>exact hx Ks σ H s e s' I hq
 | ok fl =>
  cases fl with
  | ret u=>exact I.after hq
  | next=>exact False.elim hq
  | brk=>exact False.elim hq
  | cont=>exact False.elim hq
theorem oX (F:jI X.prog X.w X.K X.mg X.base CX k f fd ps sp)(hr:eE k X.A)(hg:Gl X x)(hm:X.mg x=some (.ref f))(hk:PySem.W.keepIn X.K (.ref f)=true)(hb:eY X.K fd ps ds)(hd:a8 dvs ds)(hx:jO CX X E)
  (ha:PA X (e::es) t) (Lh:(x == ("__debug__":Str))=false:=by decide) (he:starEach (e::es) X.env=(false,eval e X.env)::starEach es X.env:=by rfl) (KW:(backTo pos (starEach es X.env)).any (·.1)=false:=by rfl) :
  PE X (.Call (.Name x p) (e::es) [] pos) (tD sp dvs E t):=by
 intro Ks s σ H Q I h
 refine Gi (cC I hg hm ?_ Lh)
 refine Hm (h₀:=X.base) I.ok.mod.kin hk (thn (ha pos Ks s σ H _ I h) fun us s1 ⟨vs,H1,I1,r,q⟩=>⟨I1.kIn,?_⟩) he KW
 exact zB F hr hb hd hx I1 r q
end
section
variable {X:Cx} {CX:CXT} {k:Nat} {f C:Addr} {fd:FuncData} {ps ks:List Str} {sp:Sp} {E:XK} {x m:Str} {p pos apos kpos:Pos} {e o:Expr} {es:List Expr} {kws:List Keyword} {te ta:TE} {t tk:TA} {nm:Option Str}
variable {g:List Value→List Value→List Value} {gV:List V→List V→List V}
end
structure aC (N P:List Str) (sc:Scope):Prop where
 kind:sc.kind = .function
 co:sc.isCoroutine=false
 gen:sc.isGenerator=false
 nd:N.Nodup
 pre:N.take P.length=P
 par:∀ x∈P,sc.names.lookup x=some .local ∨ sc.names.lookup x=some .cell
 nofree:∀ y∈sc.names,y.2 ≠ .free
theorem jP {kindOf:Str→Option NameKind}{x:Str}:∀ {binds:List (Str × Value)} {m:Str→Option Value},(∀ v,(x,v)∉binds)→bindL kindOf binds m x=m x
 | [],_,_=>rfl
 | (n,v)::r,m,h=>by
  unfold bindL
  rw [jP fun w hw=>h w (Ej _ hw)]
  split
  ·have:x≠n:=by rintro rfl;exact h v Ex
   simp [this]
  ·rfl
theorem jQ {kindOf:Str→Option NameKind}{x:Str}:∀ {binds:List (Str × Value)} {m:Str→Option Value},(∀ v,(x,v)∉binds)→bindC kindOf binds m x=m x
 | [],_,_=>rfl
 | (n,v)::r,m,h=>by
  unfold bindC
  rw [jQ fun w hw=>h w (Ej _ hw)]
  split
  ·rfl
  ·have:x≠n:=by rintro rfl;exact h v Ex
   simp [this]
theorem jR {kindOf:Str→Option NameKind}{x:Str}{v:Value}:∀ {P:List Str} {vs:List Value} {i:Nat} {m:Str→Option Value},P.Nodup→P[i]? = some x→vs[i]? = some v→kindOf x=some .local →
  bindL kindOf (P.zip vs) m x=some v
 | [],_,_,_,_,h,_,_=>by simp at h
 | _::_,[],_,_,_,_,h,_=>by simp at h
 | p::P,w::vs,0,m,nd,h1,h2,hk=>by
  simp at h1 h2;subst h1;subst h2
  show bindL kindOf ((p,w)::P.zip vs) m p=_
  unfold bindL
  rw [jP fun v hv=>(EN.mp nd).1 (IA hv).1,if_pos hk]
  simp
 | p::P,w::vs,i+1,m,nd,h1,h2,hk=>by
  show bindL kindOf ((p,w)::P.zip vs) m x=_
  unfold bindL
  exact jR (i:=i) (EN.mp nd).2 (by simpa using h1) (by simpa using h2) hk
theorem jS {kindOf:Str→Option NameKind}{x:Str}{v:Value}:∀ {P:List Str} {vs:List Value} {i:Nat} {m:Str→Option Value},P.Nodup→P[i]? = some x→vs[i]? = some v→kindOf x≠some .local →
  bindC kindOf (P.zip vs) m x=some v
 | [],_,_,_,_,h,_,_=>by simp at h
 | _::_,[],_,_,_,_,h,_=>by simp at h
 | p::P,w::vs,0,m,nd,h1,h2,hk=>by
  simp at h1 h2;subst h1;subst h2
  show bindC kindOf ((p,w)::P.zip vs) m p=_
  unfold bindC
  rw [jQ fun v hv=>(EN.mp nd).1 (IA hv).1,if_neg hk]
  simp
 | p::P,w::vs,i+1,m,nd,h1,h2,hk=>by
  show bindC kindOf ((p,w)::P.zip vs) m x=_
  unfold bindC
  exact jS (i:=i) (EN.mp nd).2 (by simpa using h1) (by simpa using h2) hk
def start (N:List Str)(vs:List V):St:=vs.map some++List.replicate (N.length - vs.length) none
def kR (CX:CXT)(P:Program)(w:World)(K:PySem.W.Frag)(mg:Str→Option Value)(base:Heap)(N:List Str)(qual:Str)(scope:Scope)(f:Addr)(cd:Value)(A:Around)(outer:List Env)(s:Shared)(H:Hp)(E:XK):Cx where
 prog:=P
 w:=w
 K:=K
 mg:=mg
 base:=base
 A:=A.deeper (envOfC qual scope s.heap.objs.size f cd)
 N:=N
 s₀:=s
 H₀:=H
 env:=envOfC qual scope s.heap.objs.size f cd
 outer:=outer
 stack:=envOfC qual scope s.heap.objs.size f cd::outer
 ex:=[]
 calm:=true
 fn:=fun _=>true
 pn:=[]
 xe:=fun e s'=>wpAny (model P w) (A.deeper (envOfC qual scope s.heap.objs.size f cd)) (leaving (envOfC qual scope s.heap.objs.size f cd) e) (fun _ s''=>CX outer H s E e s'') (fun e' s''=>CX outer H s E e' s'') s'
theorem ml {sc:Scope}{n:Nat}{x:Str}(h:sc.names.lookup x=some .cell):∃ c,(cellsFrom n sc.names []).lookup x=some c:=by
 have q:=Hw sc.names n [] (.inl h)
 exact FR.mp q
theorem jT {CX:CXT}{P:Program}{w:World}{K:PySem.W.Frag}{mg:Str→Option Value}{base:Heap}{N ps:List Str}{qual:Str}{scope:Scope}{f:Addr}{cd:Value}{A:Around}{outer:List Env}{s s1:Shared}{H:Hp}{E:XK}{us:List Value}{vs:List V}
  (S:aC N ps scope) (hd:A.handled=none) (e0:sM P w K mg base A outer s H) (hl:vs.length=ps.length) (r:a8 vs us)
  (x:InCallC s s.heap.objs.size (bindL (envOfC qual scope s.heap.objs.size f cd).kindOf (ps.zip us) fun _=>none) (cellsFrom (s.heap.objs.size+1) scope.names []) (bindC (envOfC qual scope s.heap.objs.size f cd).kindOf (ps.zip us) fun _=>none) s1) :
  Inv (kR CX P w K mg base N qual scope f cd A outer s H E) [] (start N vs) H s1:=by
 have KW:ps.length≤N.length:=by have:=EX List.length S.pre;rw [EB] at this;omega
 obtain ⟨h1,tk,rfl,hk⟩:=x.done
 have noA:∀ b:Addr,b∉(kR CX P w K mg base N qual scope f cd A outer s H E).ex:=fun b z=>absurd (show b∈([]:List Addr) from z) (by simp)
 refine ⟨⟨e0.mod,S.kind,rfl,rfl,Eg _,fun y z c h1 h2=>?_,fun y hy=>?_,fun y c _ h=>?_,fun _=>hd,Around.frames_deeper e0.frames,.inr ⟨rfl,rfl⟩,fun b z=>absurd z (noA b),e0.bs,e0.bsz,fun b _ _=>noA b,fun b z=>absurd z (noA b),e0.funs,e0.frf⟩,
  rfl,e0.bare,Un.kept hk,⟨_,x.toInCall.ns,fun i y v h1 h2 h3=>?_⟩,fun y c h=>⟨_,x.cell y c h⟩,e0.hok.fresh (Eg _),fun y c h=>?_,fun p hp=>absurd (show p∈([]:List (Addr × Obj)) from hp) (by simp),e0.hok.kept hk,?_⟩
 ·exact name_of_addr x.apart (FL h1) (FL h2)
 ·have hy:scope.names.lookup y=some .cell ∨ scope.names.lookup y=some .free:=hy
  rcases hy with hy | hy
  ·exact ml hy
  ·exact absurd rfl (S.nofree _ (FL hy))
 ·exact JB (x.above y c (FL h))
 ·have hi:i < vs.length:=by
   unfold start at h2
   by_cases hi:i < vs.length
   ·exact hi
   ·rw [E8 (by simpa using hi)] at h2
    rw [List.getElem?_replicate] at h2
    split at h2 <;> cases h2
  have ha:vs[i]? = some v:=by
   unfold start at h2
   rw [FP (by simpa using hi),Er] at h2
   cases e:vs[i]? with
   | none=>rw [e] at h2;cases h2
   | some a=>rw [e] at h2;cases h2;rfl
  obtain ⟨u,hu,rv⟩:=r.get ha
  have hp:ps[i]? = some y:=by
   rw [← S.pre,Jb (by omega)];exact h1
  have ndP:ps.Nodup:=by rw [← S.pre];exact S.nd.sublist (List.take_sublist _ _)
  refine ⟨u,rv,?_⟩
  rcases S.par y (Es hp) with k | k
  ·exact .inl ⟨k,jR ndP hp hu k⟩
  ·obtain ⟨c,e⟩:=ml (n:=s.heap.objs.size+1) k
   refine .inr ⟨.inl k,c,e,?_⟩
   have q:=x.cell y c e
   rw [jS ndP hp hu (by show scope.names.lookup y≠_;rw [k];decide)] at q
   exact q
 ·exact e0.hok.fresh (JB (x.above y c (FL h)))
 ·unfold start
  show _=N.length
  rw [Ec,Ea,List.length_replicate]
  omega
theorem zC {CX:CXT}{P:Program}{w:World}{K:PySem.W.Frag}{mg:Str→Option Value}{base:Heap}{k:Nat}{f:Addr}{name qual:Str}{params:Arguments}{body:List Stmt}{scope:Scope}{dV kV doc pm Kv ct oc:Value}{an od:Option Addr}
  {K2:Array (Option Value)} {N ps:List Str} {sp:Sp} (lk:K.lookup f=some ⟨oc,od,.func (PySem.W.fnOf name qual params body scope dV kV doc pm an Kv ct),K2⟩) (K0:PySem.W.codeIn K Kv qual=true) (S:aC N ps scope)
  (len:∀ vs H Q E,sp vs H Q E→vs.length=ps.length)
  (KM:∀ (A:Around) (outer:List Env) (s:Shared) (H:Hp) (vs:List V) (Q:VK) (E:XK),eE k (A.deeper (envOfC qual scope s.heap.objs.size f Kv))→sp vs H Q E →
   ∃ t,PSs (kR CX P w K mg base N qual scope f Kv A outer s H E) body t∧t { nx:=fun _ H'=>Q .non H',rt:=Q } (start N vs) H) :
  jI P w K mg base CX (k+1) f (PySem.W.fnOf name qual params body scope dV kV doc pm an Kv ct) ps sp:=by
 refine ⟨len,fun A outer s H args us vs Q E hr e0 hb r hsp=>?_⟩
 have hl:=len _ _ _ _ hsp
 have KX:K.In s.heap:=e0.mod.kin.keeps fun b o e=>(e0.bs b o e).1
 have lim:s.heap.NoLimit:=e0.mod.nolimit.keeps fun b o e=>(e0.bs b o e).1
 have hkind:∀ y∈ps.zip us,scope.names.lookup y.1=some .local ∨ (scope.names.lookup y.1=some .cell∧((cellsFrom (s.heap.objs.size+1) scope.names []).lookup y.1).isSome=true):=fun ⟨n,v⟩ hy=>by
  rcases S.par n (IA hy).1 with q | q
  ·exact .inl q
  ·exact .inr ⟨q,Hw _ _ _ (.inl q)⟩
 refine codeAny_call_function hr.depth (KX _ _ lk) rfl S.co S.gen rfl (PySem.W.codeRec_of KX K0) (hb _ _ _ _ ?_)
 refine IJ S.kind hkind fun env he s1 x=>?_
 subst he
 refine ⟨lim.keeps x.toInCall.keep,codeAny_func ?_⟩
 obtain ⟨t,ht,hq⟩:=KM A outer s H vs Q E (hr.deeper _) hsp
 have I:Inv (kR CX P w K mg base N qual scope f Kv A outer s H E) [] (start N vs) H s1:=jT S hr.hd e0 hl r x
 refine Fm (ht [] s1 (start N vs) H _ I hq) (fun fl s' hs=>?_) fun e s' hs=>hs
 have fin:∀ {σ':St} {H':Hp} {v:V} {u:Value},Inv (kR CX P w K mg base N qual scope f Kv A outer s H E) [] σ' H' s'→bq v u→Q v H'→CE outer P w H s Q u s' :=
  fun {σ' H' v u} J rv q=>⟨v,H',J.os,J.bare,J.base,J.hok,rv,q⟩
 cases fl with
 | ret u =>
  obtain ⟨v,σ',H',J,rv,q⟩:=hs
  exact fin J rv q
 | next =>
  obtain ⟨σ',H',J,q⟩:=hs
  exact fin (v:=V.non) (u:=Value.none) J rfl q
 | brk =>
  obtain ⟨_,_,_,q⟩:=hs
  exact False.elim q
 | cont =>
  obtain ⟨_,_,_,q⟩:=hs
  exact False.elim q
section
variable {X:Cx} {x:Str} {p pos:Pos} {e:Expr} {es:List Expr} {t:TA} {id T:String} {r:List V→Hp→VK→Prop}
def zD (r:List V→Hp→VK→Prop)(Q:VK):List V→Hp→Prop:=fun vs H1=>r vs H1 Q
def tCB (r:List V→Hp→VK→Prop)(t:TA):TE:=fun σ H Q=>t σ H (zD r Q)
theorem ao (hc:cI X (.builtin id) r)(hg:Gl X x)(hm:X.mg x=none)(hv:bootBuiltins x=some (.builtin id))(ha:PA X (e::es) t)(hn:x ≠ "__name__":=by decide)(Lh:(x == ("__debug__":Str))=false:=by decide)
  (he:starEach (e::es) X.env=(false,eval e X.env)::starEach es X.env:=by rfl) (KW:(backTo pos (starEach es X.env)).any (·.1)=false:=by rfl):PE X (.Call (.Name x p) (e::es) [] pos) (tCB r t):=by
 intro Ks s σ H Q I h
 refine Gi (eF I hg hm hv ?_ hn Lh)
 exact HZ (thn (ha pos Ks s σ H _ I h) fun us s1 zq60=>(by obtain ⟨vs,H1,I1,r1,q1⟩:=zq60;exact hc Ks s1 σ H1 vs us Q I1 r1 q1)) he KW
theorem aW (hc:cI X (.type T) r)(hg:Gl X x)(hm:X.mg x=none)(hv:bootBuiltins x=some (.type T))(ha:PA X (e::es) t)(hn:x ≠ "__name__":=by decide)(Lh:(x == ("__debug__":Str))=false:=by decide)
  (he:starEach (e::es) X.env=(false,eval e X.env)::starEach es X.env:=by rfl) (KW:(backTo pos (starEach es X.env)).any (·.1)=false:=by rfl):PE X (.Call (.Name x p) (e::es) [] pos) (tCB r t):=by
 intro Ks s σ H Q I h
 refine Gi (eF I hg hm hv ?_ hn Lh)
 exact Ff (thn (ha pos Ks s σ H _ I h) fun us s1 zq61=>(by obtain ⟨vs,H1,I1,r1,q1⟩:=zq61;exact hc Ks s1 σ H1 vs us Q I1 r1 q1)) he KW
end
end L2
namespace HT
open PySem PyProof.Rows
section
open PySem.SeqAt
open PySem.AutoSeq1 (wpAny_loadPart')
open PySem.MeetsSeq PySem.MeetsSeq2 PySem.MeetsSeq3
end
section
variable {prog:Program} {w:World} {A:Around} {E:Value→Shared→Prop} {s:Shared}
theorem xk {t b:Addr}{vs ws:List Value}{Q:Value→Shared→Prop}(ht:IsTup s.heap t vs.toArray)(hb:IsTup s.heap b ws.toArray)(hv:vs≠[])
  (h1:ws=[]→Q (.ref t) s) (h2:ws≠[]→Q (.ref s.heap.objs.size) { s with heap:=s.heap.push { cls:=.type "tuple",data:=.seq (vs++ws).toArray } })
  (hsz:vs.length+ws.length≤sizeLine):wpAny (model prog w) A (binaryOp .Add (.ref t) (.ref b)) Q E s:=by
 obtain ⟨⟨cls,dd,data,sl⟩,ho,hc,n,hd⟩:=id ht
 obtain ⟨⟨cls2,dd2,data2,sl2⟩,ho2,hc2,n2,hd2⟩:=id hb
 simp only at hc hd hc2 hd2
 subst hc hd hc2 hd2
 have e:vs.toArray++ws.toArray=(vs++ws).toArray:=by simp
 by_cases hw:ws=[]
 ·exact concat_meets ⟨_,ho,rfl⟩ ⟨_,ho2,rfl⟩ Jk seq_tuple_add Hx Hn (Hk _ _)
   (tuple_addW1 t b vs.toArray ws.toArray n n2 dd dd2 sl sl2 (by simpa using hv) (by simp [hw])) ⟨ho,ho2,h1 hw⟩
 ·refine concat_meets ⟨_,ho,rfl⟩ ⟨_,ho2,rfl⟩ Jk seq_tuple_add Hx Hn (Hk _ _)
   (tuple_addW2 t b vs.toArray ws.toArray n n2 dd dd2 sl sl2 (by simpa using hv) (by simpa using hw) (by rw [Eo,Eo];exact hsz)) ⟨ho,ho2,?_⟩
  rw [e]
  exact h2 hw
def sIx (n d:Nat):Option Int→Nat
 | none=>d
 | some v=>if v < 0 then (v+(n:Int)).toNat else min v.toNat n
theorem eJ (n d:Nat):sIx n d none=d:=rfl
theorem e9 (n d k:Nat):sIx n d (some (k:Int))=min k n:=by
 show (if (k:Int) < 0 then ((k:Int)+(n:Int)).toNat else min (k:Int).toNat n)=min k n
 rw [if_neg (by omega),EH]
theorem oY (n d:Nat)(hd:d≤n)(o:Option Int):sIx n d o≤n:=by
 cases o with
 | none=>exact hd
 | some v =>
  show (if v < 0 then (v+(n:Int)).toNat else min v.toNat n)≤n
  by_cases hv:v < 0
  ·rw [if_pos hv];omega
  ·rw [if_neg hv];exact Nat.min_le_right _ _
theorem oZ (v:Int)(n d:Nat):(if v < 0 then max (v+(n:Int)) 0 else min v (n:Int))=((sIx n d (some v):Nat):Int):=by
 show (if v < 0 then max (v+(n:Int)) 0 else min v (n:Int))=(((if v < 0 then (v+(n:Int)).toNat else min v.toNat n):Nat):Int)
 by_cases hv:v < 0
 ·simp only [if_pos hv];omega
 ·simp only [if_neg hv];omega
theorem nF (lo hi:Option Int)(n:Nat):Builtin.Slice.sliceAdjust lo hi 1 (n:Int)=(((sIx n 0 lo:Nat):Int),((sIx n n hi:Nat):Int)):=by
 have h1:¬ ((1:Int) < 0):=by omega
 unfold Builtin.Slice.sliceAdjust
 simp only [h1,Jw]
 refine Prod.ext ?_ ?_
 ·cases lo with
  | none=>rfl
  | some v=>exact oZ v n 0
 ·cases hi with
  | none=>rfl
  | some v=>exact oZ v n n
theorem nG (i j:Nat):Builtin.Slice.slicePlaces (i:Int) (j:Int) 1=j - i:=by
 unfold Builtin.Slice.slicePlaces
 have h1:(1:Int) > 0:=by omega
 simp only [h1,Hg,Int.ediv_one]
 split <;> omega
theorem ia {v:Value}{o:Option Int}{Q:Option Int→Shared→Prop}(p:IsPart v o)(h:Q o s):wpAny (model prog w) A (Builtin.Slice.slicePartIndex v) Q E s:=by
 cases p with
 | none=>exact IV h
 | int i t=>exact slicePart_int h
theorem dj {sl:Addr}{vl vu:Value}{lo hi:Option Int}{n:Nat}{Q:Int × Int × Nat→Shared→Prop}(hs:s.heap.IsSliceOf sl vl vu .none)(pl:IsPart vl lo)(pu:IsPart vu hi)
  (h:Q (((sIx n 0 lo:Nat):Int),1,sIx n n hi - sIx n 0 lo) s):wpAny (model prog w) A (Builtin.Slice.sliceApplied (.ref sl) (pure (n:Int))) Q E s:=by
 obtain ⟨os,hos,hcs,hds⟩:=id hs
 unfold Builtin.Slice.sliceApplied Builtin.Slice.sliceFields
 refine fu (fu (EF hos hds (x:=vl) rfl (fu (EF hos hds (x:=vu) rfl (fu (EF hos hds (x:=.none) rfl (Eb ?_)))))))
 refine fu (IV ?_)
 show wpAny _ _ (if ((1:Int) == 0)=true then _ else _) _ _ s
 rw [if_neg (by decide)]
 refine fu (ia pl (fu (ia pu (fu (Eb ?_)))))
 show wpAny _ _ (match Builtin.Slice.sliceAdjust lo hi 1 (n:Int) with | (lo,hi)=>pure (lo,(1:Int),Builtin.Slice.slicePlaces lo hi 1)) _ _ s
 rw [nF lo hi n]
 show wpAny _ _ (pure (((sIx n 0 lo:Nat):Int),(1:Int),Builtin.Slice.slicePlaces ((sIx n 0 lo:Nat):Int) ((sIx n n hi:Nat):Int) 1)) _ _ s
 rw [nG]
 exact Eb h
theorem tE (xs:Array Value)(i k:Nat):((List.range k).filterMap fun (m:Nat)=>xs[((i:Int)+(m:Int)*1).toNat]?).toArray=((xs.toList.drop i).take k).toArray:=by
 have e:(fun (m:Nat)=>xs[((i:Int)+(m:Int)*1).toNat]?)=fun m=>xs[i+m]?:=by
  funext m
  have:((i:Int)+(m:Int)*1).toNat=i+m:=by omega
  rw [this]
 rw [e]
 have:=pick_run xs i k
 rw [List.filterMap_map] at this
 have e2:((fun x=>xs[x]?) ∘ fun x=>i+x)=fun m=>xs[i+m]?:=rfl
 rw [e2] at this
 rw [this]
theorem e_ {t sl:Addr}{items:Array Value}{vl vu:Value}{lo hi:Option Int}{Q:Value→Shared→Prop}(ht:IsTup s.heap t items)(hs:s.heap.IsSliceOf sl vl vu .none)(pl:IsPart vl lo)(pu:IsPart vu hi)
  (hw:¬ (sIx items.size 0 lo=0∧sIx items.size items.size hi=items.size))
  (h:Q (.ref s.heap.objs.size) { s with heap:=s.heap.push { cls:=.type "tuple",data:=.seq ((items.toList.drop (sIx items.size 0 lo)).take (sIx items.size items.size hi - sIx items.size 0 lo)).toArray } })
  (hsz:items.size≤sizeLine):wpAny (model prog w) A (getItem (.ref t) (.ref sl)) Q E s:=by
 have KQ:sizeOk (.seq ((items.toList.drop (sIx items.size 0 lo)).take (sIx items.size items.size hi - sIx items.size 0 lo)).toArray):=by
  show ((items.toList.drop (sIx items.size 0 lo)).take (sIx items.size items.size hi - sIx items.size 0 lo)).toArray.size≤sizeLine
  rw [Eo,EB,Fv,E4]
  omega
 have hj:sIx items.size items.size hi≤items.size:=oY _ _ (Eg _) hi
 obtain ⟨os,hos,hcs,hds⟩:=id hs
 have hTs:s.TypeIs (.ref sl) "slice":=⟨os,hos,hcs⟩
 unfold getItem
 try with_reducible refine FE ?_
 first | refine fu (Eb ?_) | skip
 refine fu (Jc ht.typeIs (by decide) ?_)
 refine fu (ES (name:=Str.ofString "__getitem__") ht.typeIs Fg
  (Fe Fg ht.typeIs IB ?_ (IM _ _)))
 show wpAny _ _ (Builtin.Tuple.tupleItemsOf (.ref t) >>= _) _ _ s
 refine fu (tupleItemsOf_ ht ?_)
 refine fu (Jp hTs ?_)
 rw [if_pos (by decide)]
 refine fu (dj hs pl pu ?_)
 have hno:¬ ((((sIx items.size 0 lo:Nat):Int) == 0 && (1:Int) == 1 && (sIx items.size items.size hi - sIx items.size 0 lo) == items.size)=true):=by
  intro q
  rw [EI,EI] at q
  have q1:((sIx items.size 0 lo:Nat):Int)=0:=eq_of_beq q.1.1
  have q2:sIx items.size items.size hi - sIx items.size 0 lo=items.size:=eq_of_beq q.2
  exact hw ⟨by omega,by omega⟩
 show wpAny _ _ (if (((sIx items.size 0 lo:Nat):Int) == 0 && (1:Int) == 1 && (sIx items.size items.size hi - sIx items.size 0 lo) == items.size)=true then _ else _) _ _ s
 rw [if_neg hno,tE]
 first
  | exact fu (m:=Builtin.Tuple.tupleExact _) (Fh (Eb ⟨_,rfl,Eb h⟩) KQ)
  | exact fu (m:=Builtin.Tuple.tupleExact _) (Fh (fu (Eb (Eb ⟨_,rfl,Eb h⟩))) KQ)
  | exact fu (fu (m:=Builtin.Tuple.tupleExact _) (Fh (Eb (Eb ⟨_,rfl,Eb h⟩)) KQ))
  | exact fu (fu (m:=Builtin.Tuple.tupleExact _) (Fh (Eb ⟨_,rfl,Eb h⟩) KQ))
end
end HT
namespace L2
open PySem PySem.Spec PyProof.Rows
abbrev TO:=St→Hp→(Option Int→Hp→Prop)→Prop
def PO (X:Cx)(e:Option Expr)(t:TO):Prop :=
 ∀ (Ks:List (Addr × Obj)) (s:Shared) (σ:St) (H:Hp) (Q:Option Int→Hp→Prop),Inv X Ks σ H s→t σ H Q →
  wpAny (model X.prog X.w) X.A (evalPart e X.env) (fun u s'=>∃ o H',Inv X Ks σ H' s'∧IsPart u o∧Q o H') X.xe s
def xl:TO:=fun _ H Q=>Q none H
inductive IsI (x:V)(H:Hp)(Q:Option Int→Hp→Prop):Prop
 | mk:∀ i,(x = .int i)→(Q (some i) H)→IsI x H Q
def tF (Q:(Option Int→Hp→Prop)):V→Hp→Prop:=fun x H1=>IsI x H1 Q
def BG (t:TE):TO:=fun σ H Q=>t σ H (tF Q)
section
variable {X:Cx} {e:Expr} {te:TE} {lo hi:Option Expr} {tl th:TO} {pos p2:Pos}
theorem aX:PO X none xl:=by
 intro Ks s σ H Q I h
 rw [evalPart_none]
 exact Eb ⟨none,H,I,.none,h⟩
theorem aY (h:PE X e te):PO X (some e) (BG te):=by
 intro Ks s σ H Q I hw
 rw [evalPart_some]
 refine thn (h Ks s σ H _ I hw) fun u s1 zq62=>?_
 obtain ⟨x,H1,I1,r1,q1⟩:=zq62
 obtain ⟨i,rfl,q⟩:=q1
 obtain ⟨t,rfl⟩:=r1
 exact ⟨some i,H1,I1,.int i t,q⟩
def SlR (X:Cx)(r:V→Option Int→Option Int→Hp→VK→Prop):Prop :=
 ∀ (Ks:List (Addr × Obj)) (s:Shared) (σ:St) (H:Hp) (x:V) (v vl vu:Value) (lo hi:Option Int) (sl:Addr) (Q:VK),Inv X Ks σ H s→bq x v→s.heap.IsSliceOf sl vl vu .none→IsPart vl lo→IsPart vu hi→r x lo hi H Q →
  ∃ T id,typeLookup (.type T) "__getitem__" = pure (some (.builtin id))∧s.TypeIs v T∧wpAny (model X.prog X.w) X.A (getItem v (.ref sl)) (EP X Ks σ Q) X.xe s
def zF (r:V→Option Int→Option Int→Hp→VK→Prop)(Q:VK)(x:V)(l:Option Int):Option Int→Hp→Prop:=fun u H3=>r x l u H3 Q
def zG (r:V→Option Int→Option Int→Hp→VK→Prop)(th:TO)(σ:St)(Q:VK)(x:V):Option Int→Hp→Prop:=fun l H2=>th σ H2 (zF r Q x l)
def zH (r:V→Option Int→Option Int→Hp→VK→Prop)(tl:TO)(th:TO)(σ:St)(Q:VK):V→Hp→Prop:=fun x H1=>tl σ H1 (zG r th σ Q x)
def tSl (r:V→Option Int→Option Int→Hp→VK→Prop)(te:TE)(tl th:TO):TE:=fun σ H Q=>te σ H (zH r tl th σ Q)
theorem aQ {r:V→Option Int→Option Int→Hp→VK→Prop}(hr:SlR X r)(he:PE X e te)(hl:PO X lo tl)(hu:PO X hi th):PE X (.Subscript e (.Slice lo hi none p2) pos) (tSl r te tl th):=by
 intro Ks s σ H Q I h
 refine Iv (thn (he Ks s σ H _ I h) fun v s1 zq63=>?_)
 obtain ⟨x,H1,I1,r1,q1⟩:=zq63
 refine wpAny_Slice (thn (hl Ks s1 σ H1 _ I1 q1) fun vl s2 ⟨l,H2,I2,pl,q2⟩=>thn (hu Ks s2 σ H2 _ I2 q2) fun vu s3 zq64=>?_)
 obtain ⟨u,H3,I3,pu,q3⟩:=zq64
 rw [evalPart_none]
 refine Eb ?_
 have I4:Inv X Ks σ H3 { s3 with heap:=s3.heap.push { cls:=.type "slice",data:=.fields #[vl,vu,.none] } }:=I3.kept (t':=s3.toks) fun b ob q=>D_ _ q
 obtain ⟨T,id,hT,ht,hg⟩:=hr Ks { s3 with heap:=s3.heap.push { cls:=.type "slice",data:=.fields #[vl,vu,.none] } } σ H3 x v vl vu l u s3.heap.objs.size Q I4 r1 (Heap.IsSliceOf.new ..) pl pu q3
 show wpAny (model X.prog X.w) X.A (subscriptTail e (.Slice lo hi none p2) v (.ref s3.heap.objs.size)) (EP X Ks σ Q) X.xe { s3 with heap:=s3.heap.push { cls:=.type "slice",data:=.fields #[vl,vu,.none] } }
 exact tail_any (ops:=[.ref s3.heap.objs.size,v]) ht hT hg (by with_unfolding_all rfl)
def iJ (xs:List V)(lo hi:Option Int):List V:=(xs.drop (HT.sIx xs.length 0 lo)).take (HT.sIx xs.length xs.length hi - HT.sIx xs.length 0 lo)
theorem gv (xs:List V)(lo hi:Option Int):(iJ xs lo hi).length≤xs.length:=by
 unfold iJ
 rw [EB,Fv]
 omega
inductive C2 (K:PySem.W.Frag)(x:V)(lo:Option Int)(hi:Option Int)(H:Hp)(Q:VK):Prop
 | mk:∀ a xs,(x = .ref a)→(SqT K H a xs)→(¬ (HT.sIx xs.length 0 lo=0∧HT.sIx xs.length xs.length hi=xs.length))→(∀ p,H p=none→Q (.ref p) (upd H p (.tup (iJ xs lo hi))))→C2 K x lo hi H Q
theorem zI:SlR X (C2 X.K):=by
 intro Ks s σ H x v vl vu lo hi sl Q I rx hs pl pu h
 obtain ⟨a,xs,rfl,hx,hw,q⟩:=h
 cases rx
 obtain ⟨its,r,ht,hz⟩:=I.tuple hx
 have hlen:its.toArray.size=xs.length:=by rw [Eo];exact r.length.symm
 refine ⟨"tuple",_,Fg.lookup,ht.typeIs,?_⟩
 refine HT.e_ ht hs pl pu (by rw [hlen];exact hw) ?_ (by rw [hlen];exact hz)
 rw [hlen]
 refine ⟨.ref s.heap.objs.size,_,I.laid (t':=s.toks) (o:=.tup (iJ xs lo hi)) (fun b ob q=>D_ _ q) (Eg _) ?_,rfl,q _ (I.hok.fresh (Eg _))⟩
 exact ⟨EV (gv xs lo hi) hz,_,(r.drop (HT.sIx xs.length 0 lo)).take (HT.sIx xs.length xs.length hi - HT.sIx xs.length 0 lo),IsTup.new _ _,.new _ _ rfl⟩
inductive zJ (K:PySem.W.Frag)(x:V)(y:V)(H:Hp)(Q:VK):Prop
 | mk:∀ a b xs ys,(x = .ref a)→(y = .ref b)→(SqT K H a xs)→(SqT K H b ys)→(xs≠[])→(xs.length+ys.length≤sizeLine)→((ys=[]→Q (.ref a) H))→((ys≠[]→∀ p,H p=none→Q (.ref p) (upd H p (.tup (xs++ys)))))→zJ K x y H Q
theorem a8.nil_iff {xs:List V}{us:List Value}(r:a8 xs us):us=[] ↔ xs=[]:=by
 cases r with
 | nil=>simp
 | cons _ _=>simp
theorem xm:OpR X (binaryOp .Add) (zJ X.K):=by
 intro Ks s σ H x y v u Q I rx ry h
 obtain ⟨a,b,xs,ys,rfl,rfl,ha,hb,hx,hz,q1,q2⟩:=h
 cases rx
 cases ry
 obtain ⟨its,r1,p1,_⟩:=I.tuple ha
 obtain ⟨KL,r2,p2,_⟩:=I.tuple hb
 refine HT.xk p1 p2 (fun z=>hx (r1.nil_iff.mp z)) (fun z=>⟨.ref a,H,I,rfl,q1 (r2.nil_iff.mp z)⟩) (fun z=>?_) (by rw [← r1.length,← r2.length];exact hz)
 refine ⟨.ref s.heap.objs.size,_,I.laid (t':=s.toks) (o:=.tup (xs++ys)) (fun b ob q=>D_ _ q) (Eg _) ?_,rfl,q2 (fun w=>z (r2.nil_iff.mpr w)) _ (I.hok.fresh (Eg _))⟩
 exact ⟨by rw [Ec];exact hz,_,r1.append r2,IsTup.new _ _,.new _ _ rfl⟩
end
def ixN (n:Nat)(i:Int):Option Nat:=if 0≤i then (if i < n then some i.toNat else none) else if -(n:Int)≤i then some (i+n).toNat else none
def atI {α:Type}(xs:List α)(i:Int):Option α:=(ixN xs.length i).bind fun j=>xs[j]?
theorem kT {n:Nat}{i:Int}{j:Nat}(h:ixN n i=some j):seqIndex? i n=some j∧j < n∧-(n:Int)≤i∧i < n:=by
 unfold ixN at h
 by_cases h0:0≤i
 ·rw [if_pos h0] at h
  by_cases h1:i < n
  ·rw [if_pos h1] at h
   have e:i.toNat=j:=EE h
   exact ⟨by rw [seqIndex_of h0 h1,e],by omega,by omega,h1⟩
  ·rw [if_neg h1] at h;cases h
 ·rw [if_neg h0] at h
  by_cases h1:-(n:Int)≤i
  ·rw [if_pos h1] at h
   have e:(i+n).toNat=j:=EE h
   exact ⟨by rw [seqIndex_neg (by omega) h1,e],by omega,h1,by omega⟩
  ·rw [if_neg h1] at h;cases h
theorem iK {α:Type}{xs:List α}{i:Int}{v:α}(h:atI xs i=some v):∃ j,seqIndex? i xs.length=some j∧xs[j]? = some v∧j < xs.length∧-(xs.length:Int)≤i∧i < xs.length:=by
 unfold atI at h
 cases e:ixN xs.length i with
 | none=>rw [e] at h;cases h
 | some j =>
  rw [e] at h
  obtain ⟨h1,h2,h3,h4⟩:=kT e
  exact ⟨j,h1,h,h2,h3,h4⟩
theorem fb {α:Type}{xs:List α}{j:Nat}{v:α}(h:xs[j]? = some v):atI xs (j:Int)=some v:=by
 have hj:j < xs.length:=(Ef.mp h).1
 have e:ixN xs.length (j:Int)=some j:=by
  unfold ixN
  rw [if_pos (by omega),if_pos (by omega)];simp
 unfold atI;rw [e];exact h
theorem tG {α:Type}(xs:List α)(v:α):atI (xs++[v]) (-1)=some v:=by
 have hl:(xs++[v]).length=xs.length+1:=by simp
 have e:ixN (xs++[v]).length (-1)=some xs.length:=by
  unfold ixN
  rw [hl,if_neg (by decide),if_pos (by omega)]
  congr 1
  omega
 unfold atI
 rw [e]
 show (xs++[v])[xs.length]? = some v
 simp
def iL (b:Expr):Prop:=∀ o i,subscripted b false o i=operate [o,i] (getItem o i)
def IxR (X:Cx)(r:R2):Prop :=
 ∀ (value slice:Expr) (Ks:List (Addr × Obj)) (s:Shared) (σ:St) (H:Hp) (x y:V) (v u:Value) (Q:VK),Inv X Ks σ H s→bq x v→bq y u→r x y H Q →
  subscripted slice false v u=operate [v,u] (getItem v u)→wpAny (model X.prog X.w) X.A (subscriptTail value slice v u) (EP X Ks σ Q) X.xe s
def MtR (X:Cx)(id:String)(r:V→List V→Hp→VK→Prop):Prop :=
 ∀ (Ks:List (Addr × Obj)) (s:Shared) (σ:St) (H:Hp) (x:V) (xs:List V) (v:Value) (us:List Value) (Q:VK),Inv X Ks σ H s→bq x v→a8 xs us→r x xs H Q →
  wpAny (model X.prog X.w) X.A (call (.builtin id) (v::us)) (EP X Ks σ Q) X.xe s
section
variable {X:Cx} {a b:Expr} {ta tb:TE} {pos:Pos}
theorem aK {r:R2}(hr:IxR X r)(ha:PE X a ta)(hb:PE X b tb)(hs:iL b):PE X (.Subscript a b pos) (tOp r ta tb):=by
 intro Ks s σ H Q I h
 exact Iv (BC ha hb I h fun v u s2 x y H2 I2 rx ry q=>hr a b Ks s2 σ H2 x y v u Q I2 rx ry q (hs _ _))
inductive C3 (K:PySem.W.Frag)(x:V)(y:V)(H:Hp)(Q:VK):Prop
 | mk:∀ p xs i v,(x = .ref p)→(y = .int i)→(SqL K H p xs)→(atI xs i=some v)→(Q v H)→C3 K x y H Q
inductive BH (K:PySem.W.Frag)(x:V)(y:V)(H:Hp)(Q:VK):Prop
 | mk:∀ p xs i v,(x = .ref p)→(y = .int i)→(SqT K H p xs)→(atI xs i=some v)→(Q v H)→BH K x y H Q
inductive C4 (x:V)(y:V)(H:Hp)(Q:VK):Prop
 | mk:∀ z i c,(x = .str z)→(y = .int i)→(z.length≤sizeLine)→(atI z.cps.toList i=some c)→(Q (.str ⟨#[c]⟩) H)→C4 x y H Q
theorem aZ:IxR X (C3 X.K):=by
 intro value slice Ks s σ H x y v u Q I rx ry h hs
 obtain ⟨p,xs,i,z,rfl,rfl,hq,he,q⟩:=h
 cases rx
 obtain ⟨t,rfl⟩:=ry
 obtain ⟨its,r,pl,hz⟩:=I.list hq
 obtain ⟨j,h1,h2,h3,h4,h5⟩:=iK he
 obtain ⟨w,ew,rw'⟩:=r.get h2
 have hl:=r.length
 have hn:=fG
 have fin:EP X Ks σ Q w s:=⟨z,H,I,rw',q⟩
 by_cases h0:0≤i
 ·have hj:i.toNat=j:=by
   rw [seqIndex_of h0 h5] at h1
   exact EE h1
  exact item_listR pl.isList h0 (by omega) (by rw [hj];simpa using ew) fin hs
 ·have hj:(i+(its.toArray.size:Int)).toNat=j:=by
   rw [seqIndex_neg (by omega) h4] at h1
   rw [Eo,← hl]
   exact EE h1
  exact Hy (x:=w) pl.isList.typeIs slot_list_getitem.lookup
   (wpAny_getItem_list_neg (Q:=fun r s'=>r=w∧EP X Ks σ Q r s') pl.isList (by omega) (by rw [Eo] <;> omega) (by omega) (by rw [hj];simpa using ew) ⟨rfl,fin⟩) hs
theorem aO:IxR X (BH X.K):=by
 intro value slice Ks s σ H x y v u Q I rx ry h hs
 obtain ⟨p,xs,i,z,rfl,rfl,hq,he,q⟩:=h
 cases rx
 obtain ⟨t,rfl⟩:=ry
 obtain ⟨its,r,pl,hz⟩:=I.tuple hq
 obtain ⟨j,h1,h2,h3,h4,h5⟩:=iK he
 obtain ⟨w,ew,rw'⟩:=r.get h2
 have hl:=r.length
 have hn:=fG
 have fin:EP X Ks σ Q w s:=⟨z,H,I,rw',q⟩
 exact Hy (x:=w) pl.typeIs slot_tuple_getitem.lookup
  (getItem_tuple (j:=j) (Q:=fun r s'=>r=w∧EP X Ks σ Q r s') pl (by omega) (by omega) (by rw [Eo,← hl];exact h1) (by simpa using ew) ⟨rfl,fin⟩) hs
theorem dk:IxR X C4:=by
 intro value slice Ks s σ H x y v u Q I rx ry h hs
 obtain ⟨z,i,c,rfl,rfl,hz,he,q⟩:=h
 obtain ⟨t,rfl⟩:=rx
 obtain ⟨t',rfl⟩:=ry
 obtain ⟨j,h1,h2,h3,h4,h5⟩:=iK he
 have hl:z.cps.toList.length=z.length:=by simp [Str.length]
 rw [hl] at h1 h4 h5
 have hn:=fG
 exact tail_any (GV s z t) slot_str_getitem.lookup (getItem_str (c:=c) (by
  have e1:decide (i < -(2 ^ 63:Int))=false:=Ed (by omega)
  have e2:decide (i≥2 ^ 63)=false:=Ed (by omega)
  rw [e1,e2,GW]) (by rw [h1];simpa using h2) ⟨.str ⟨#[c]⟩,H,I.tok _,⟨_,rfl⟩,q⟩) hs
theorem Inv.lst {Ks:List (Addr × Obj)}{σ:St}{H:Hp}{s:Shared}{p:Addr}{xs:List V}(I:Inv X Ks σ H s)(h:H p=some (.lst xs)) :
  ∃ (its:List Value) (n:Nat),a8 xs its∧s.heap.get? p=some { cls:=.type "list",data:=.seq its.toArray n }∧xs.length≤sizeLine:=by
 obtain ⟨z,its,n,r,e⟩:=I.hok p _ h
 exact ⟨its,n,r,e,z⟩
theorem jU (lo hi:Option Int)(n:Nat):(sliceBounds lo hi none n).1=((HT.sIx n 0 lo:Nat):Int)∧(sliceBounds lo hi none n).2.1=((HT.sIx n n hi:Nat):Int)∧(sliceBounds lo hi none n).2.2=1:=by
 refine ⟨?_,?_,rfl⟩
 ·cases lo with
  | none=>simp [sliceBounds,HT.sIx]
  | some i =>
   simp only [sliceBounds,HT.sIx,Option.getD_none,show (1:Int) > 0 by decide,Hg]
   by_cases h:i < 0
   ·simp only [h,Hg] <;> omega
   ·simp only [h,Jw] <;> omega
 ·cases hi with
  | none=>simp [sliceBounds,HT.sIx]
  | some i =>
   simp only [sliceBounds,HT.sIx,Option.getD_none,show (1:Int) > 0 by decide,Hg]
   by_cases h:i < 0
   ·simp only [h,Hg] <;> omega
   ·simp only [h,Jw] <;> omega
theorem iM (its:List Value)(lo hi:Option Int):slicePick its.toArray lo hi none=((its.drop (HT.sIx its.length 0 lo)).take (HT.sIx its.length its.length hi - HT.sIx its.length 0 lo)).toArray:=by
 obtain ⟨h1,h2,h3⟩:=jU lo hi its.toArray.size
 unfold slicePick
 rw [h1,h2,h3]
 simp only [sliceRange_one,pick_run,Eo] <;> rfl
inductive C5 (K:PySem.W.Frag)(x:V)(lo:Option Int)(hi:Option Int)(H:Hp)(Q:VK):Prop
 | mk:∀ a xs,(x = .ref a)→(SqL K H a xs)→(∀ p,H p=none→Q (.ref p) (upd H p (.lst (iJ xs lo hi))))→C5 K x lo hi H Q
theorem o6:SlR X (C5 X.K):=by
 intro Ks s σ H x v vl vu lo hi sl Q I rx hs pl pu h
 obtain ⟨a,xs,rfl,hx,q⟩:=h
 cases rx
 obtain ⟨its,r,ht,hz⟩:=I.list hx
 have hlen:=r.length
 refine ⟨"list",_,slot_list_getitem.lookup,ht.isList.typeIs,?_⟩
 refine wpAny_getItem_list_slice ht.isList hs pl pu .none (by simp) ?_ (by rw [Eo] <;> omega)
 rw [iM,← hlen]
 refine ⟨.ref s.heap.objs.size,_,I.laid (t':=s.toks) (o:=.lst (iJ xs lo hi)) (fun b ob q=>D_ _ q) (Eg _) ?_,rfl,q _ (I.hok.fresh (Eg _))⟩
 exact ⟨EV (gv xs lo hi) hz,_,0,(r.drop (HT.sIx xs.length 0 lo)).take (HT.sIx xs.length xs.length hi - HT.sIx xs.length 0 lo),El _ rfl⟩
def iN:V→Bool
 | .non=>true
 | .bl _=>true
 | .int _=>true
 | .str _=>true
 | _=>false
def eqV:V→V→Bool
 | .non,.non=>true
 | .bl a,.bl b=>a == b
 | .bl a,.int b=>(if a then 1 else 0) == b
 | .int a,.bl b=>a == (if b then 1 else 0)
 | .int a,.int b=>a == b
 | .str a,.str b=>a == b
 | _,_=>false
theorem zK {A:Around}{s:Shared}{y x:V}{u v:Value}(ry:bq y u)(rx:bq x v)(fy:iN y=true)(fx:iN x=true):SeqAt.EqAt A s u v (eqV y x):=by
 cases y with
 | non =>
  cases ry
  cases x with
  | non=>cases rx;exact SeqAt.EqAt.same _
  | bl b=>cases rx;exact SeqAt.EqAt.none_bool b
  | int b=>obtain ⟨t,rfl⟩:=rx;exact SeqAt.EqAt.none_int b t
  | str b=>obtain ⟨t,rfl⟩:=rx;exact SeqAt.EqAt.none_str b t
  | _=>exact absurd (show false=true from fx) Ez
 | bl a =>
  cases ry
  cases x with
  | non=>cases rx;exact SeqAt.EqAt.bool_none a
  | bl b=>cases rx;exact SeqAt.EqAt.bool_bool a b
  | int b=>obtain ⟨t,rfl⟩:=rx;exact SeqAt.EqAt.bool_int a b t
  | str b=>obtain ⟨t,rfl⟩:=rx;exact SeqAt.EqAt.bool_str a b t
  | _=>exact absurd (show false=true from fx) Ez
 | int a =>
  obtain ⟨t',rfl⟩:=ry
  cases x with
  | non=>cases rx;exact SeqAt.EqAt.int_none a t'
  | bl b=>cases rx;exact SeqAt.EqAt.int_bool a t' b
  | int b=>obtain ⟨t,rfl⟩:=rx;exact SeqAt.EqAt.int_int a t' b t
  | str b=>obtain ⟨t,rfl⟩:=rx;exact SeqAt.EqAt.int_str a t' b t
  | _=>exact absurd (show false=true from fx) Ez
 | str a =>
  obtain ⟨t',rfl⟩:=ry
  cases x with
  | non=>cases rx;exact SeqAt.EqAt.str_none a t'
  | bl b=>cases rx;exact SeqAt.EqAt.str_bool a t' b
  | int b=>obtain ⟨t,rfl⟩:=rx;exact SeqAt.EqAt.str_int a t' b t
  | str b=>obtain ⟨t,rfl⟩:=rx;exact SeqAt.EqAt.str_str a t' b t
  | _=>exact absurd (show false=true from fx) Ez
 | _=>exact absurd (show false=true from fy) Ez
def eqU (x:V)(u:Value):Bool:=match u with
 | .none=>eqV .non x
 | .bool b=>eqV (.bl b) x
 | .int i _=>eqV (.int i) x
 | .str z _=>eqV (.str z) x
 | _=>false
theorem vN {x y:V}{u:Value}(r:bq y u)(f:iN y=true):eqU x u=eqV y x:=by
 cases y with
 | non=>cases r;rfl
 | bl b=>cases r;rfl
 | int i=>obtain ⟨t,rfl⟩:=r;rfl
 | str z=>obtain ⟨t,rfl⟩:=r;rfl
 | _=>exact absurd (show false=true from f) Ez
theorem gw {x:V}:∀ {xs:List V} {us:List Value},a8 xs us→xs.all iN=true→us.any (eqU x)=xs.any fun y=>eqV y x
 | _,_,.nil,_=>rfl
 | y::xs,u::us,.cons r t,f=>by
  rw [FU,EI] at f
  rw [Iq,Iq,vN r f.1,gw t f.2]
theorem eK {A:Around}{s:Shared}{x:V}{v:Value}(rx:bq x v)(fx:iN x=true):∀ {xs:List V} {us:List Value},a8 xs us→xs.all iN=true→∀ u∈us,SeqAt.EqAt A s u v (eqU x u)
 | _,_,.nil,_=>fun u hu=>by cases hu
 | y::xs,u::us,.cons r t,f=>fun u' hu=>by
  rw [FU,EI] at f
  rcases Ei.mp hu with rfl | hu
  ·rw [vN r f.1];exact zK r rx f.1 fx
  ·exact eK rx fx t f.2 u' hu
def inV (x:V)(xs:List V):Bool:=xs.any fun y=>eqV y x
inductive rIn (K:PySem.W.Frag)(neg:Bool)(x:V)(y:V)(H:Hp)(Q:VK):Prop
 | mk:∀ p xs,(y = .ref p)→((SqL K H p xs ∨ SqT K H p xs))→(iN x=true)→(xs.all iN=true)→(Q (.bl (if neg then !inV x xs else inV x xs)) H)→rIn K neg x y H Q
theorem o7:OpR X (compareOp .In) (rIn X.K false):=by
 intro Ks s σ H x y v u Q I rx ry h
 obtain ⟨p,xs,rfl,hq,fx,fs,q⟩:=h
 cases ry
 rcases hq with hq | hq
 ·obtain ⟨its,r,pl,hz⟩:=I.list hq
  refine SeqAt.in_listAt (eqU x) pl.isList (fun w hw=>eK rx fx r fs w (by simpa using hw)) ⟨.bl _,H,I,rfl,?_⟩
  rw [show its.toArray.any (eqU x)=its.any (eqU x) by simp,gw r fs]
  exact q
 ·obtain ⟨its,r,pl,hz⟩:=I.tuple hq
  refine SeqAt.in_tupleAt (eqU x) pl (fun w hw=>eK rx fx r fs w (by simpa using hw)) ⟨.bl _,H,I,rfl,?_⟩
  rw [show its.toArray.any (eqU x)=its.any (eqU x) by simp,gw r fs]
  exact q
theorem fJ:OpR X (compareOp .NotIn) (rIn X.K true):=by
 intro Ks s σ H x y v u Q I rx ry h
 obtain ⟨p,xs,rfl,hq,fx,fs,q⟩:=h
 cases ry
 rcases hq with hq | hq
 ·obtain ⟨its,r,pl,hz⟩:=I.list hq
  refine SeqAt.notIn_listAt (eqU x) pl.isList (fun w hw=>eK rx fx r fs w (by simpa using hw)) ⟨.bl _,H,I,rfl,?_⟩
  rw [show its.toArray.any (eqU x)=its.any (eqU x) by simp,gw r fs]
  exact q
 ·obtain ⟨its,r,pl,hz⟩:=I.tuple hq
  refine SeqAt.notIn_tupleAt (eqU x) pl (fun w hw=>eK rx fx r fs w (by simpa using hw)) ⟨.bl _,H,I,rfl,?_⟩
  rw [show its.toArray.any (eqU x)=its.any (eqU x) by simp,gw r fs]
  exact q
inductive cF (K:PySem.W.Frag)(xs:List V)(H:Hp)(Q:VK):Prop
 | mk:∀ p ys,(xs=[.ref p])→((SqL K H p ys ∨ SqT K H p ys))→(Q (.int ys.length) H)→cF K xs H Q
theorem aE:cI X (.builtin "len") (cF X.K):=by
 intro Ks s σ H xs us Q I r h
 obtain ⟨p,ys,rfl,hq,q⟩:=h
 obtain ⟨u,rfl,rx⟩:=cJ r
 cases rx
 have hn:=fG
 rcases hq with hq | hq
 ·obtain ⟨its,r',pl,hz⟩:=I.list hq
  have hlen:=r'.length
  exact Calls.call_len_list pl.isList (by simp only [Eo] <;> omega) ⟨.int ys.length,H,I.tok _,⟨s.toks+1,by rw [Eo,hlen]⟩,q⟩
 ·obtain ⟨its,r',pl,hz⟩:=I.tuple hq
  have hlen:=r'.length
  exact len_tuple pl (by simp only [Eo] <;> omega) ⟨.int ys.length,H,I.tok _,⟨s.toks+1,by rw [Eo,hlen]⟩,q⟩
inductive d6  (xs:List V)(H:Hp)(Q:VK):Prop
 | mk:∀ z,(xs=[.str z])→(z.length≤sizeLine)→(Q (.int z.length) H)→d6 xs H Q
theorem ay:cI X (.builtin "len") d6:=by
 intro Ks s σ H xs us Q I r h
 obtain ⟨z,rfl,hz,q⟩:=h
 obtain ⟨u,rfl,t,rfl⟩:=cJ r
 have hn:=fG
 exact len_str (by omega) ⟨.int z.length,H,I.tok _,⟨_,rfl⟩,q⟩
inductive d7 (K:PySem.W.Frag)(xs:List V)(H:Hp)(Q:VK):Prop
 | mk:∀ p ys,(xs=[.ref p])→((SqL K H p ys ∨ SqT K H p ys))→(∀ l,H l=none→Q (.ref l) (upd H l (.lst ys)))→d7 K xs H Q
theorem cu:cI X (.type "list") (d7 X.K):=by
 intro Ks s σ H xs us Q I r h
 obtain ⟨p,ys,rfl,hq,q⟩:=h
 obtain ⟨u,rfl,rx⟩:=cJ r
 cases rx
 have fin:∀ (its:List Value),a8 ys its→ys.length≤sizeLine→∀ (h':Heap) (c':Nat),(∀ b o',s.heap.get? b=some o'→h'.get? b=some o') →
   h'.get? s.heap.objs.size=some { cls:=.type "list",dict:=none,data:=.seq its.toArray c',slots:=#[] }→EP X Ks σ Q (.ref s.heap.objs.size) { s with heap:=h' }:=fun its r' hz h' c' kp e =>
  ⟨.ref s.heap.objs.size,_,I.laid (t':=s.toks) kp (Eg _) (show bz X.prog X.w _ h' _ (.lst ys) from ⟨hz,its,c',r',e⟩),rfl,q _ (I.hok.fresh (Eg _))⟩
 rcases hq with hq | hq
 ·obtain ⟨its,r',pl,hz⟩:=I.list hq
  have hlen:=r'.length
  obtain ⟨o,ho,hc,n,hd⟩:=pl.isList
  exact call_list_seq p (.inl rfl) ho hc hd (fun h' c' kp e=>fin its r' hz h' c' kp e) (by simp only [Eo] <;> omega)
 ·obtain ⟨its,r',pl,hz⟩:=I.tuple hq
  have hlen:=r'.length
  obtain ⟨o,ho,hc,n,hd⟩:=pl
  exact call_list_seq p (.inr rfl) ho hc hd (fun h' c' kp e=>fin its r' hz h' c' kp e) (by simp only [Eo] <;> omega)
inductive dE (K:PySem.W.Frag)(xs:List V)(H:Hp)(Q:VK):Prop
 | mk:∀ p ys,(xs=[.ref p])→(((SqL K H p ys∧∀ l,H l=none→Q (.ref l) (upd H l (.tup ys))) ∨ (SqT K H p ys∧Q (.ref p) H)))→dE K xs H Q
theorem cS:cI X (.type "tuple") (dE X.K):=by
 intro Ks s σ H xs us Q I r h
 obtain ⟨p,ys,rfl,h⟩:=h
 obtain ⟨u,rfl,rx⟩:=cJ r
 cases rx
 rcases h with ⟨hq,q⟩ | ⟨hq,q⟩
 ·obtain ⟨its,r',pl,hz⟩:=I.list hq
  have hlen:=r'.length
  refine call_tuple_list pl.isList (fun h' kp=>?_) (by simp only [Eo] <;> omega)
  have I1:Inv X Ks σ H { s with heap:=h' }:=I.kept (t':=s.toks) kp
  have I2:Inv X Ks σ (upd H h'.objs.size (.tup ys)) { s with heap:=h'.push { cls:=.type "tuple",data:=.seq its.toArray } } :=
   I1.laid (t':=s.toks) (fun b o e=>D_ _ e) (Eg _) (show bz X.prog X.w _ _ _ (.tup ys) from ⟨hz,its,r',IsTup.new _ _,.new _ _ rfl⟩)
  exact ⟨.ref h'.objs.size,_,I2,rfl,q _ (I1.hok.fresh (Eg _))⟩
 ·obtain ⟨its,r',pl,hz⟩:=I.tuple hq
  exact call_tuple_same pl ⟨.ref p,H,I,rfl,q⟩
def tyV (K:PySem.W.Frag)(T:String)(x:V)(H:Hp):Prop:=match x with
 | .str _=>T = "str"
 | .int _=>T = "int"
 | .ref p=>(T = "list"∧∃ xs,SqL K H p xs) ∨ (T = "tuple"∧((∃ o,K.lookup p=some o∧o.cls = .type "tuple"∧o.dict=none) ∨ ∃ xs,H p=some (.tup xs))) ∨
   (T = "dict"∧((∃ Kt,H p=some (.dK Kt)) ∨ ∃ Kt,H p=some (.dT Kt))) ∨ (T = "set"∧∃ S n,H p=some (.set S n))
 | _=>False
theorem vO {Ks:List (Addr × Obj)}{σ:St}{H:Hp}{s:Shared}{T:String}{x:V}{v:Value}(I:Inv X Ks σ H s)(r:bq x v)(ty:tyV X.K T x H) :
  s.TypeIs v T∧∀ a,v = .ref a→∃ ob,s.heap.get? a=some ob∧ob.dict=none:=by
 cases x with
 | str z =>
  obtain ⟨t,rfl⟩:=r
  cases (show T = "str" from ty)
  exact ⟨GV s z t,fun _ e=>nomatch e⟩
 | int i =>
  obtain ⟨t,rfl⟩:=r
  cases (show T = "int" from ty)
  exact ⟨typeIs_int s i t,fun _ e=>nomatch e⟩
 | ref p =>
  cases r
  rcases ty with ⟨rfl,xs,hq⟩ | ⟨rfl,⟨o,hk,hc,hd⟩ | ⟨xs,hk⟩⟩ | ⟨rfl,hk⟩ | ⟨rfl,S,n,hk⟩
  ·obtain ⟨its,_,pl,_⟩:=I.list hq
   refine ⟨pl.isList.typeIs,fun a e=>?_⟩
   cases e
   obtain ⟨o,n,e,c,hd,_⟩:=pl
   exact ⟨o,e,hd⟩
  ·refine ⟨⟨o,I.kIn p o hk,hc⟩,fun a e=>?_⟩
   cases e
   exact ⟨o,I.kIn _ o hk,hd⟩
  ·obtain ⟨_,_,_,⟨o,e,hc,_⟩,hn⟩:=I.hok p _ hk
   refine ⟨⟨o,e,hc⟩,fun a e=>?_⟩
   cases e
   exact hn
  ·have z:∃ o,s.heap.get? p=some o∧o.ExactDict:=by
    rcases hk with ⟨Kt,hk⟩ | ⟨Kt,hk⟩
    ·obtain ⟨_,_,_,_,o,_,_,e,ex,_⟩:=I.hok p _ hk
     exact ⟨o,e,ex⟩
    ·obtain ⟨_,_,_,_,o,_,_,e,ex,_⟩:=I.hok p _ hk
     exact ⟨o,e,ex⟩
   obtain ⟨o,e,ex⟩:=z
   refine ⟨⟨o,e,ex.1⟩,fun a e2=>?_⟩
   cases e2
   exact ⟨o,e,ex.2.1⟩
  ·obtain ⟨o,_,_,_,e,ex,_⟩:=I.hok p _ hk
   refine ⟨⟨o,e,ex.1⟩,fun a e2=>?_⟩
   cases e2
   exact ⟨o,e,ex.2.1⟩
 | _=>exact False.elim ty
def xo (K:PySem.W.Frag)(T:String)(r:V→List V→Hp→VK→Prop)(Q:VK):V→Hp→Prop:=fun x H1=>tyV K T x H1∧r x [] H1 Q
def C6 (K:PySem.W.Frag)(T:String)(r:V→List V→Hp→VK→Prop)(to:TE):TE:=fun σ H Q=>to σ H (xo K T r Q)
def zL (r:V→List V→Hp→VK→Prop)(Q:VK)(x:V):List V→Hp→Prop:=fun xs H2=>r x xs H2 Q
def zM (K:PySem.W.Frag)(T:String)(r:V→List V→Hp→VK→Prop)(t:TA)(σ:St)(Q:VK):V→Hp→Prop:=fun x H1=>tyV K T x H1∧t σ H1 (zL r Q x)
def tBM (K:PySem.W.Frag)(T:String)(r:V→List V→Hp→VK→Prop)(to:TE)(t:TA):TE:=fun σ H Q=>to σ H (zM K T r t σ Q)
variable {o e:Expr} {es:List Expr} {to:TE} {t:TA} {name:Str} {apos KO:Pos} {T id:String} {r:V→List V→Hp→VK→Prop}
theorem fK (pa:PlainAttrs T)(slot:Slot T name id)(hty:typeOf (.builtin id)=pure (.type "method_descriptor"))(hm:MtR X id r)(ho:PE X o to)
  (K7:attributeBase o name X.env (eval o X.env)=eval o X.env:=by rfl) (K5:(apos.endLine == KO.line)=true:=by rfl):PE X (.Call (.Attribute o name apos) [] [] KO) (C6 X.K T r to):=by
 intro Ks s σ H Q I h
 refine wpAny_Call_method0_late K7 K5 (thn (ho Ks s σ H _ I h) fun v s1 zq65=>?_)
 obtain ⟨x,H1,I1,r1,ty,q1⟩:=zq65
 obtain ⟨h1,h2⟩:=vO I1 r1 ty
 exact ⟨T,id,pa,slot,hty,h1,h2,Hz rfl (PySem.evalArgs_none (hm Ks s1 σ H1 x [] v [] Q I1 r1 .nil q1))⟩
theorem cK (pa:PlainAttrs T)(slot:Slot T name id)(hty:typeOf (.builtin id)=pure (.type "method_descriptor"))(hm:MtR X id r)(ho:PE X o to)(ha:PA X (e::es) t)
  (K7:attributeBase o name X.env (eval o X.env)=eval o X.env:=by rfl)
  (hfew:((backTo KO (starEach (e::es) X.env)).all (fun x=>!x.1) && (backToKw KO (keywordEach [] X.env)).all (fun x=>x.1.isSome)
   && decide ((e::es).length+([]:List Keyword).length+(if ([]:List Keyword).isEmpty then 0 else 1) < 30))=true:=by rfl)
  (K5:(apos.endLine == KO.line)=true:=by rfl) (hs:starEach (e::es) X.env=(false,eval e X.env)::starEach es X.env:=by rfl) (hplain:(backTo KO (starEach es X.env)).any (·.1)=false:=by rfl) :
  PE X (.Call (.Attribute o name apos) (e::es) [] KO) (tBM X.K T r to t):=by
 intro Ks s σ H Q I h
 refine wpAny_Call_method_late K7 hfew K5 rfl (thn (ho Ks s σ H _ I h) fun v s1 zq66=>?_)
 obtain ⟨x,H1,I1,r1,ty,q1⟩:=zq66
 obtain ⟨h1,h2⟩:=vO I1 r1 ty
 refine ⟨T,id,pa,slot,hty,h1,h2,?_⟩
 have hA:=ha KO Ks s1 σ H1 _ I1 q1
 rw [hs] at hA ⊢
 refine Hz (by show (false || (backTo KO (starEach es X.env)).any (·.1))=false;rw [hplain] <;> rfl) (Calls.evalArgs_plain ?_)
 exact thn hA fun us s2 zq67=>(by obtain ⟨vs,H2,I2,r2,q2⟩:=zq67;exact hm Ks s2 σ H2 x vs v us Q I2 r1 r2 q2)
/- xs.append(e),list.index on a module's tuple .. are MtR facts of 06m -/
end
def MtM (X:Cx)(id:String)(r:V→List V→Hp→VK→Prop):Prop :=
 ∀ (Ks:List (Addr × Obj)) (s:Shared) (σ:St) (H:Hp) (x:V) (xs:List V) (v:Value) (us:List Value) (Q:VK),Inv X Ks σ H s→bq x v→a8 xs us→r x xs H Q →
  wpAny (model X.prog X.w) X.A (call (.builtin id) (v::us)) (EP X Ks σ Q) X.xe s
theorem a8.one:∀ {x:V} {us:List Value},a8 [x] us→∃ u,us=[u]∧bq x u
 | _,_,.cons r .nil=>⟨_,rfl,r⟩
theorem a8.zero:∀ {us:List Value},a8 [] us→us=[]
 | _,.nil=>rfl
theorem a8.dropLast {xs:List V}{us:List Value}(h:a8 xs us):a8 xs.dropLast us.dropLast:=by
 induction h with
 | nil=>exact .nil
 | cons r t ih =>
  cases t with
  | nil=>exact .nil
  | cons q t'=>exact .cons r ih
theorem a8.eraseIdx:∀ {xs:List V} {us:List Value} (i:Nat),a8 xs us→a8 (xs.eraseIdx i) (us.eraseIdx i)
 | _,_,_,.nil=>.nil
 | _,_,0,.cons _ t=>t
 | _,_,i+1,.cons r t=>.cons r (a8.eraseIdx i t)
theorem a8.reverse {xs:List V}{us:List Value}(h:a8 xs us):a8 xs.reverse us.reverse:=by
 induction h with
 | nil=>exact .nil
 | cons r t ih=>rw [GX,GX];exact a8.append ih (.cons r .nil)
theorem a8.rep {xs:List V}{us:List Value}(h:a8 xs us):∀ k:Nat,a8 (List.replicate k xs).flatten (List.replicate k us).flatten
 | 0=>.nil
 | k+1=>by
  rw [Gw,Gw,GY,GY]
  exact a8.append h (a8.rep h k)
theorem nH {α:Type}(l:List α):l.eraseIdx (l.length - 1)=l.dropLast:=by
 induction l with
 | nil=>rfl
 | cons a r ih =>
  cases r with
  | nil=>rfl
  | cons b r =>
   have e:(a::b::r).length - 1=((b::r).length - 1)+1:=by
    have h1:(a::b::r).length=r.length+2:=rfl
    have h2:(b::r).length=r.length+1:=rfl
    omega
   rw [e,Ho,ih]
   all_goals rfl
theorem jV {α:Type}:∀ (l:List α) (i:Nat),(l.eraseIdx i).length≤l.length
 | [],_=>Eg _
 | _::_,0=>Hh _
 | _::r,i+1=>Nat.succ_le_succ (jV r i)
theorem jW (its:List Value):∀ (k:Nat) (acc:List Value),
  List.foldl (fun x1 x2=>x1++x2) acc.toArray (List.replicate k its.toArray)=(acc++(List.replicate k its).flatten).toArray
 | 0,acc=>by simp
 | k+1,acc=>by
  have e:acc.toArray++its.toArray=(acc++its).toArray:=by simp
  have e2:(acc++its)++(List.replicate k its).flatten=acc++(List.replicate (k+1) its).flatten:=by
   rw [Gw,GY,HK]
  rw [← e2,← jW its k (acc++its),← e,Gw,List.foldl_cons]
section
variable {X:Cx} {Ks:List (Addr × Obj)} {σ:St} {H:Hp} {s:Shared} {l b:Addr} {xs ys zs:List V}
theorem Inv.lset {its its':List Value}{n:Nat}{f:Array Value→Array Value}{t':Nat}(I:Inv X Ks σ H s)(hH:H l=some (.lst xs))
  (e:s.heap.get? l=some { cls:=.type "list",data:=.seq its.toArray n }) (hf:f its.toArray=its'.toArray) (hv:a8 ys its') (hz:ys.length≤sizeLine) :
  Inv X Ks σ (upd H l (.lst ys)) { s with heap:=s.heap.update l (Obj.mapSeq f),toks:=t' }:=by
 have q:=PySem.IsL.update e f
 rw [hf] at q
 refine I.write (x:=l) (e:=l) (by rw [hH];exact trivial) (.inl rfl) (fun b' u hb hu=>(EZ s.heap (Obj.mapSeq f) (Ne.symm hb)).trans hu) ⟨_,q⟩ ?_
 exact ⟨hz,its',_,hv,q⟩
theorem Inv.lnew {its:List Value}{t':Nat}(I:Inv X Ks σ H s)(hv:a8 ys its)(hz:ys.length≤sizeLine) :
  Inv X Ks σ (upd H s.heap.objs.size (.lst ys)) { s with heap:=s.heap.push { cls:=.type "list",data:=.seq its.toArray },toks:=t' } :=
 I.laid (fun _ _ q=>D_ _ q) (Eg _) ⟨hz,its,0,hv,El _ rfl⟩
theorem Inv.fresh (I:Inv X Ks σ H s):H s.heap.objs.size=none:=I.hok.fresh (Eg _)
theorem Inv.lstM (I:Inv X Ks σ H s)(hH:H l=some (.lst xs)):xs.length≤sizeLine∧∃ (its:List Value) (n:Nat),a8 xs its∧xs.length=its.length∧s.heap.get? l=some { cls:=.type "list",data:=.seq its.toArray n }:=by
 obtain ⟨z,its,n,r,e⟩:=I.hok l _ hH
 exact ⟨z,its,n,r,r.length,e⟩
theorem tH {n:Nat}(h:n≤sizeLine):Builtin.List.listTooLong n=false:=by
 unfold Builtin.List.listTooLong
 exact Ed (by omega)
end
section
variable {X:Cx}
inductive o8 (x:V)(vs:List V)(H:Hp)(Q:VK):Prop
 | mk:∀ l xs y,(x = .ref l)→(vs=[y])→(H l=some (.lst xs))→(xs.length < sizeLine)→(Q .non (upd H l (.lst (xs++[y]))))→o8 x vs H Q
theorem bQ:MtM X "list.append" o8:=by
 intro Ks s σ H x vs v us Q I rx rv h
 obtain ⟨l,xs,y,rfl,rfl,hH,hz,q⟩:=h
 cases rx
 obtain ⟨u,rfl,ru⟩:=rv.one
 obtain ⟨z,its,n,r,hl,e⟩:=I.lstM hH
 refine HL F.slot_list_append ⟨_,e,rfl⟩ F.entry_list_append (F.args_list_append_2 _ _) (PySem.list_append l its.toArray n u (by rw [Eo];omega)) ⟨e,?_⟩
 refine ⟨.non,_,I.lset (its':=its++[u]) hH e (by simp) (r.append (.cons ru .nil)) ?_,rfl,q⟩
 rw [Ec,En]
 omega
inductive C7 (x:V)(vs:List V)(H:Hp)(Q:VK):Prop
 | mk:∀ l xs y,(x = .ref l)→(vs=[])→(H l=some (.lst xs))→(xs[xs.length - 1]? = some y)→(Q y (upd H l (.lst xs.dropLast)))→C7 x vs H Q
theorem zN:MtM X "list.pop" C7:=by
 intro Ks s σ H x vs v us Q I rx rv h
 obtain ⟨l,xs,y,rfl,rfl,hH,hy,q⟩:=h
 cases rx
 have hus:=rv.zero
 subst hus
 obtain ⟨z,its,n,r,hl,e⟩:=I.lstM hH
 obtain ⟨u,hu,ru⟩:=r.get hy
 have hy':its.toArray[its.toArray.size - 1]? = some u:=by
  show its.toArray[its.length - 1]? = some u
  rw [← Array.getElem?_toList,← hl]
  exact hu
 refine HL F.slot_list_pop ⟨_,e,rfl⟩ F.entry_list_pop (F.args_list_pop_1 _) (MeetsSeq.list_pop_last l its.toArray n u hy' (by rw [Eo];omega)) ⟨e,?_⟩
 refine ⟨y,_,I.lset (its':=its.dropLast) hH e ?_ r.dropLast ?_,ru,q⟩
 ·show its.toArray.eraseIdxIfInBounds (its.toArray.size - 1)=its.dropLast.toArray
  rw [Eo,HM,nH]
 ·rw [List.length_dropLast]
  omega
inductive vP (x:V)(vs:List V)(H:Hp)(Q:VK):Prop
 | mk:∀ l xs i k y,(x = .ref l)→(vs=[.int i])→(H l=some (.lst xs))→(-(2 ^ 63)≤i)→(i < 2 ^ 63)→(seqIndex? i xs.length=some k)→(xs[k]? = some y)→(Q y (upd H l (.lst (xs.eraseIdx k))))→vP x vs H Q
theorem mn:MtM X "list.pop" vP:=by
 intro Ks s σ H x vs v us Q I rx rv h
 obtain ⟨l,xs,i,k,y,rfl,rfl,hH,h1,h2,hk,hy,q⟩:=h
 cases rx
 obtain ⟨u,rfl,ru⟩:=rv.one
 obtain ⟨t,rfl⟩:=ru
 obtain ⟨z,its,n,r,hl,e⟩:=I.lstM hH
 obtain ⟨w,hw,rw'⟩:=r.get hy
 refine HL F.slot_list_pop ⟨_,e,rfl⟩ F.entry_list_pop (F.args_list_pop_2 _ _)
  (MeetsSeq.list_pop_at l its.toArray n i t k w (fitsIndex_both h1 h2) (by rw [Eo,← hl];exact hk) (by rw [← Array.getElem?_toList];exact hw) (by rw [Eo];omega)) ⟨e,?_⟩
 refine ⟨y,_,I.lset (its':=its.eraseIdx k) hH e ?_ (r.eraseIdx k) ?_,rw',q⟩
 ·show its.toArray.eraseIdxIfInBounds k=(its.eraseIdx k).toArray
  rw [HM]
 ·have:=jV xs k
  omega
inductive C8 (x:V)(y:V)(H:Hp)(Q:VK):Prop
 | mk:∀ l b xs zs,(x = .ref l)→(y = .ref b)→(H l=some (.lst xs))→(H b=some (.lst zs))→(xs.length+zs.length≤sizeLine)→(∀ p,H p=none→Q (.ref p) (upd H p (.lst (xs++zs))))→C8 x y H Q
theorem jX:OpR X (binaryOp .Add) C8:=by
 intro Ks s σ H x y v u Q I rx ry h
 obtain ⟨l,b,xs,zs,rfl,rfl,hH,hB,hz,q⟩:=h
 cases rx
 cases ry
 obtain ⟨z,its,n,r,hl,e⟩:=I.lstM hH
 obtain ⟨z2,KL,n2,r2,KS,e2⟩:=I.lstM hB
 refine PySem.P.add_list e e2 ?_ (by rw [Eo,Eo];omega)
 have ea:its.toArray++KL.toArray=(its++KL).toArray:=by simp
 rw [ea]
 exact ⟨.ref _,_,I.lnew (t':=s.toks) (r.append r2) (by rw [Ec];omega),rfl,q _ I.fresh⟩
inductive C9 (x:V)(y:V)(H:Hp)(Q:VK):Prop
 | mk:∀ l k xs,(x = .ref l)→(y = .int k)→(H l=some (.lst xs))→(-(2 ^ 63)≤k)→(k < 2 ^ 63)→(xs.length*k.toNat≤sizeLine)→(∀ p,H p=none→Q (.ref p) (upd H p (.lst (List.replicate k.toNat xs).flatten)))→C9 x y H Q
theorem xp {α:Type}(xs:List α)(k:Nat):(List.replicate k xs).flatten.length=k*xs.length:=by
 induction k with
 | zero=>simp
 | succ k ih=>rw [Gw,GY,Ec,ih,JC,JD]
theorem zO:OpR X (binaryOp .Mult) C9:=by
 intro Ks s σ H x y v u Q I rx ry h
 obtain ⟨l,k,xs,rfl,rfl,hH,h1,h2,hz,q⟩:=h
 cases rx
 obtain ⟨t,rfl⟩:=ry
 obtain ⟨z,its,n,r,hl,e⟩:=I.lstM hH
 have hlen:its.toArray.size*k.toNat≤sizeLine:=by rw [Eo,← hl];exact hz
 have hcap:¬ its.toArray.size*k.toNat > (2 ^ 63 - 1) / 8:=by
  have:(sizeLine:Nat)≤(2 ^ 63 - 1) / 8:=by decide
  omega
 have hfit:¬ (!Builtin.List.listFitsIndex k)=true:=by
  rw [fitsIndex_both h1 h2]
  exact Ez
 have hlong:¬ Builtin.List.listTooLong (its.toArray.size*k.toNat)=true:=by
  rw [tH hlen]
  exact Ez
 have hnew:List.foldl (fun x1 x2=>x1++x2) #[] (List.replicate (if its.toArray.isEmpty=true then 0 else k.toNat) its.toArray)=(List.replicate k.toNat its).flatten.toArray:=by
  have f0:∀ m:Nat,List.foldl (fun x1 x2=>x1++x2) #[] (List.replicate m its.toArray)=(List.replicate m its).flatten.toArray:=fun m=>by
   have:=jW its m []
   rw [List.nil_append] at this
   exact this
  rw [f0]
  cases its with
  | nil=>simp
  | cons a r'=>rw [if_neg (by simp)]
 refine wpAny_binaryOp_repeat_ref (T:="list") (U:="int") (by decide) ⟨_,e,rfl⟩ (fun s'=>typeIs_int s' k t) noFill_list_mul F.fills_int_mul F.slot_int_rmul repeat_list F.slot_int_index.lookup
  (HL F.slot_int_rmul (typeIs_int s k t) F.entry_int_rmul (F.args_int_rmul_2 _ _) (int___rmul___int_list k t l its.toArray n)
   ⟨e,rfl,⟨_,e,rfl⟩,HL F.slot_list_mul ⟨_,e,rfl⟩ F.entry_list_mul (F.args_list_mul_2 _ _) (AutoListH.list___mul___list_int_3 l its.toArray n k t hfit hcap hlong) ⟨e,?_⟩⟩)
 rw [hnew]
 exact ⟨.ref _,_,I.lnew (t':=s.toks) (r.rep k.toNat) (by rw [xp,Nat.mul_comm];exact hz),rfl,q _ I.fresh⟩
end
section
variable {prog:Program} {w:World} {A:Around} {E:Value→Shared→Prop} {s:Shared}
end
section
variable {X:Cx}
end
section
variable {κ:Type} [DecidableEq κ]
def dQ (Kt:List (κ × V))(k:κ):Option V:=(Kt.find? fun kv=>decide (kv.1=k)).map (·.2)
def dX (Kt:List (κ × V))(k:κ)(v:V):List (κ × V) :=
 if (Kt.any fun kv=>decide (kv.1=k))=true then Kt.map (fun kv=>if kv.1=k then (kv.1,v) else kv) else Kt++[(k,v)]
theorem bF {p:κ × V}{r:List (κ × V)}{k:κ}(e:p.1=k):dQ (p::r) k=some p.2:=by simp [dQ,GP,e]
theorem bG {p:κ × V}{r:List (κ × V)}{k:κ}(e:¬ p.1=k):dQ (p::r) k=dQ r k:=by simp [dQ,GP,e]
theorem dR (k:κ):∀ Kt:List (κ × V),(Kt.any fun kv=>decide (kv.1=k))=(dQ Kt k).isSome
 | []=>rfl
 | p::r=>by
  rw [Iq]
  by_cases e:p.1=k
  ·simp only [bF e,Eh e,Bool.true_or,Option.isSome_some]
  ·rw [bG e,Ed e,Bool.false_or];exact dR k r
theorem mq (k j:κ)(y:V):∀ Kt:List (κ × V),dQ (Kt.map fun kv=>if kv.1=k then (kv.1,y) else kv) j=(dQ Kt j).map fun x=>if j=k then y else x
 | []=>rfl
 | p::r=>by
  have ih:=mq k j y r
  rw [EO]
  by_cases h:p.1=k
  ·rw [if_pos h]
   by_cases e:p.1=j
   ·rw [bF (p:=(p.1,y)) e,bF e,Hq,if_pos (e.symm.trans h)]
   ·rw [bG (p:=(p.1,y)) e,bG e,ih]
  ·rw [if_neg h]
   by_cases e:p.1=j
   ·rw [bF (p:=p) e,bF e,Hq,if_neg (fun z=>h (e.trans z))]
   ·rw [bG (p:=p) e,bG e,ih]
theorem jY (k j:κ)(y:V):∀ Kt:List (κ × V),dQ Kt k=none→dQ (Kt++[(k,y)]) j=if j=k then some y else dQ Kt j
 | [],_=>by
  by_cases e:k=j
  ·rw [if_pos e.symm];exact bF (p:=(k,y)) e
  ·rw [if_neg (fun z=>e z.symm)];exact bG (p:=(k,y)) e
 | p::r,hn=>by
  rw [List.cons_append]
  have hk:¬ p.1=k:=fun z=>by rw [bF z] at hn;cases hn
  rw [bG hk] at hn
  have ih:=jY k j y r hn
  by_cases e:p.1=j
  ·rw [bF e,bF e,if_neg (fun z=>hk (e.trans z))]
  ·rw [bG e,bG e,ih]
theorem mr (Kt:List (κ × V))(k j:κ)(y:V):dQ (dX Kt k y) j=if j=k then some y else dQ Kt j:=by
 unfold dX
 by_cases a:(Kt.any fun kv=>decide (kv.1=k))=true
 ·rw [if_pos a,mq]
  rw [dR] at a
  by_cases e:j=k
  ·obtain ⟨x,hx⟩:=FR.mp a
   rw [if_pos e,e,hx,Hq,if_pos rfl]
  ·rw [if_neg e]
   cases dQ Kt j with
   | none=>rfl
   | some x=>rw [Hq,if_neg e]
 ·rw [if_neg a]
  refine jY k j y Kt ?_
  rw [dR] at a
  cases q:dQ Kt k with
  | none=>rfl
  | some x=>rw [q] at a;exact (a rfl).elim
theorem bY (Kt:List (κ × V))(k:κ)(v:V):(dX Kt k v).length≤Kt.length+1:=by
 unfold dX
 split
 ·rw [Ea];omega
 ·rw [Ec,EA,Hr];omega
theorem tI {Kt:List (κ × V)}{k:κ}(v:V)(h:dQ Kt k=none):dX Kt k v=Kt++[(k,v)]:=by
 unfold dX
 rw [dR,h]
 exact if_neg (by decide)
theorem kK.isSome_eq {o:Option V}{u:Option Value}(r:kK o u):o.isSome=u.isSome:=by
 cases o with
 | none=>cases u with
  | none=>rfl
  | some _=>exact (show False from r).elim
 | some _=>cases u with
  | none=>exact (show False from r).elim
  | some _=>rfl
theorem KV.val {Kt:List (κ × V)}{vs:List (κ × Value)}(r:KV Kt vs)(k:κ):kK (dQ Kt k) (valueAt vs k):=by
 unfold KV at r
 induction r with
 | nil=>exact True.intro
 | @cons p q ps qs h t ih =>
  obtain ⟨h1,h2⟩:=h
  by_cases e:p.1=k
  ·have e':q.1=k:=h1.symm.trans e
   have b:valueAt (q::qs) k=some q.2:=by simp [valueAt,GP,e']
   rw [bF e,b];exact h2
  ·have e':¬ q.1=k:=fun z=>e (h1.trans z)
   have b:valueAt (q::qs) k=valueAt qs k:=by simp [valueAt,GP,e']
   rw [bG e,b];exact ih
theorem KV.any {Kt:List (κ × V)}{vs:List (κ × Value)}(r:KV Kt vs)(k:κ):(Kt.any fun kv=>decide (kv.1=k))=vs.any fun kv=>decide (kv.1=k):=by
 unfold KV at r
 induction r with
 | nil=>rfl
 | cons h t ih=>rw [Iq,Iq,ih,h.1]
theorem KV.repl {Kt:List (κ × V)}{vs:List (κ × Value)}(r:KV Kt vs)(k:κ){y:V}{u:Value}(ry:bq y u) :
  KV (Kt.map fun kv=>if kv.1=k then (kv.1,y) else kv) (vs.map fun kv=>if kv.1=k then (kv.1,u) else kv):=by
 unfold KV at r ⊢
 induction r with
 | nil=>exact .nil
 | @cons p q ps qs h t ih =>
  rw [EO,EO]
  refine .cons ?_ ih
  obtain ⟨h1,h2⟩:=h
  by_cases e:p.1=k
  ·rw [if_pos e,if_pos (h1.symm.trans e)];exact ⟨h1,ry⟩
  ·rw [if_neg e,if_neg (fun z=>e (h1.trans z))];exact ⟨h1,h2⟩
theorem KV.put {Kt:List (κ × V)}{vs:List (κ × Value)}(r:KV Kt vs)(k:κ){y:V}{u:Value}(ry:bq y u):KV (dX Kt k y) (stored vs k u):=by
 unfold dX stored
 rw [r.any k]
 by_cases e:(vs.any fun kv=>decide (kv.1=k))=true
 ·rw [if_pos e,if_pos e];exact r.repl k ry
 ·rw [if_neg e,if_neg e];exact Paired.snoc r ⟨rfl,ry⟩
theorem KV.length {Kt:List (κ × V)}{vs:List (κ × Value)}(r:KV Kt vs):Kt.length=vs.length:=Jj r
end
theorem o9 {P:Program}{w:World}{k:Key}{u:Value}(r:bq (kV k) u):(bx P w).is k u=true:=by
 cases k with
 | inl i=>obtain ⟨t,e⟩:=(show ∃ t,u=Value.int i t from r);subst e;exact kL P w i t
 | inr x=>obtain ⟨t,e⟩:=(show ∃ t,u=Value.str x t from r);subst e;exact kM P w x t
theorem jZ {P:Program}{w:World}:∀ {ks:List Key} {us:List Value},a8 (ks.map kV) us→ItemsAre (bx P w) ks us
 | [],_,r=>by rw [Hl] at r;cases r;exact .nil
 | k::ks,_,r=>by
  rw [EO] at r
  cases r with
  | cons h t=>exact .cons (o9 h) (jZ t)
abbrev KT (H:Hp):List (List Key × V)→List (List Key × Addr × Value)→Prop:=Paired fun p q=>p.1=q.1∧H q.2.1=some (.tup (p.1.map kV))∧bq p.2 q.2.2
theorem KT.val {H:Hp}{Kt:List (List Key × V)}{xs:List (List Key × Addr × Value)}(r:KT H Kt xs)(k:List Key):kK (dQ Kt k) ((atKey xs k).map (·.2)):=by
 induction r with
 | nil=>exact True.intro
 | @cons p q ps qs h t ih =>
  obtain ⟨h1,_,h2⟩:=h
  by_cases e:p.1=k
  ·have e':q.1=k:=h1.symm.trans e
   have b:atKey (q::qs) k=some q.2:=by simp [atKey,GP,e']
   rw [bF e,b];exact h2
  ·have e':¬ q.1=k:=fun z=>e (h1.trans z)
   have b:atKey (q::qs) k=atKey qs k:=by simp [atKey,GP,e']
   rw [bG e,b];exact ih
theorem KT.repl {H:Hp}{Kt:List (List Key × V)}{xs:List (List Key × Addr × Value)}(r:KT H Kt xs)(k:List Key){y:V}{u:Value}(ry:bq y u) :
  KT H (Kt.map fun kv=>if kv.1=k then (kv.1,y) else kv) (xs.map (putAt k u)):=by
 induction r with
 | nil=>exact .nil
 | @cons p q ps qs h t ih =>
  rw [EO,EO]
  refine .cons ?_ ih
  obtain ⟨h1,h2,h3⟩:=h
  unfold putAt
  by_cases e:p.1=k
  ·rw [if_pos e,if_pos (h1.symm.trans e)];exact ⟨h1,h2,ry⟩
  ·rw [if_neg e,if_neg (fun z=>e (h1.trans z))];exact ⟨h1,h2,h3⟩
theorem KT.put {H:Hp}{Kt:List (List Key × V)}{xs:List (List Key × Addr × Value)}(r:KT H Kt xs)(k:List Key){b:Addr}{y:V}{u:Value}(hb:H b=some (.tup (k.map kV)))(ry:bq y u) :
  KT H (dX Kt k y) (storedH xs k b u):=by
 have e:(Kt.any fun kv=>decide (kv.1=k))=(atKey xs k).isSome:=by
  rw [dR,(r.val k).isSome_eq,Option.isSome_map]
 unfold dX storedH
 rw [e]
 by_cases q:(atKey xs k).isSome=true
 ·rw [if_pos q,if_pos q];exact r.repl k ry
 ·rw [if_neg q,if_neg q];exact Paired.snoc r ⟨rfl,hb,ry⟩
theorem KT.keeps {H H':Hp}{Kt:List (List Key × V)}{xs:List (List Key × Addr × Value)}(r:KT H Kt xs)(ht:∀ b ys,H b=some (.tup ys)→H' b=some (.tup ys)):KT H' Kt xs :=
 Paired.mapP r fun _ _ z=>⟨z.1,ht _ _ z.2.1,z.2.2⟩
section
variable {P:Program} {w:World} {H:Hp} {h:Heap} {a:Addr}
theorem zP {u:HO}(ok:HOk P w H h)(e:Rd H a u):bz P w H h a u:=e.ok ok
theorem tJ {Kt:List (Key × V)}(ok:HOk P w H h)(e:Rd H a (.dK Kt)):Kt.length≤sizeLine∧(a == sysModules)=false∧∃ vs,KV Kt vs∧h.DictOf (bx P w) a vs :=
 show bz P w H h a (.dK Kt) from zP ok e
theorem tK {Kt:List (Key × V)}(ok:HOk P w H h)(e:H a=some (.dK Kt)):Kt.length≤sizeLine∧(a == sysModules)=false∧∃ vs,KV Kt vs∧h.DictOf (bx P w) a vs:=tJ ok (.inl e)
theorem mw {ks:List Key}(ok:HOk P w H h)(e:H a=some (.tup (ks.map kV))):(tupleKind (bx P w)).is h ks a:=by
 obtain ⟨_,its,r,⟨o,h1,h2,n,h3⟩,_⟩:=(show bz P w H h a (.tup (ks.map kV)) from ok a _ e)
 exact ⟨o,its.toArray,n,h1,h2,h3,by simpa using jZ r⟩
theorem tM {Kt:List (List Key × V)}(ok:HOk P w H h)(e:Rd H a (.dT Kt)):Kt.length≤sizeLine∧(a == sysModules)=false ∧
  ∃ xs,KT H Kt xs∧h.DictOfH (tupleKind (bx P w)) a xs:=by
 obtain ⟨z,y,xs,r,o,es,ep,h1,h2,h3,h4,h5⟩:=(show bz P w H h a (.dT Kt) from zP ok e)
 refine ⟨z,y,xs,r,o,es,ep,h1,h2,h3,h4,fun x hx=>?_,h5⟩
 have all:∀ {l:List (List Key × V)} {m:List (List Key × Addr × Value)},KT H l m→∀ x∈m,(tupleKind (bx P w)).is h x.1 x.2.1:=by
  intro l m q
  induction q with
  | nil=>intro x hx;exact nomatch hx
  | @cons p q ps qs hq t ih =>
   intro x hx
   rcases Ei.mp hx with e | hx
   ·subst e
    exact mw ok (by rw [← hq.1];exact hq.2.1)
   ·exact ih x hx
 exact all r x hx
theorem BI {Kt:List (List Key × V)}(ok:HOk P w H h)(e:H a=some (.dT Kt)):Kt.length≤sizeLine∧(a == sysModules)=false ∧
  ∃ xs,KT H Kt xs∧h.DictOfH (tupleKind (bx P w)) a xs:=tM ok (.inl e)
end
def oy (H:Hp)(a:Addr)(y:V)(r:Option V):Prop :=
 (∃ Kt k,Rd H a (.dK Kt)∧y=kV k∧r=dQ Kt k) ∨ ∃ Kt k b,Rd H a (.dT Kt)∧y = .ref b∧H b=some (.tup (k.map kV))∧r=dQ Kt k
def vQ (H:Hp)(a:Addr)(y v:V)(H':Hp):Prop :=
 (∃ Kt k,H a=some (.dK Kt)∧y=kV k∧Kt.length < sizeLine∧H'=upd H a (.dK (dX Kt k v))) ∨
 ∃ Kt k b,H a=some (.dT Kt)∧y = .ref b∧H b=some (.tup (k.map kV))∧Kt.length < sizeLine∧H'=upd H a (.dT (dX Kt k v))
theorem oy.k {H:Hp}{a:Addr}{Kt:List (Key × V)}{k:Key}(e:H a=some (.dK Kt)):oy H a (kV k) (dQ Kt k):=.inl ⟨Kt,k,.inl e,rfl,rfl⟩
theorem vQ.k {H:Hp}{a:Addr}{Kt:List (Key × V)}{k:Key}{v:V}(e:H a=some (.dK Kt))(hl:Kt.length < sizeLine):vQ H a (kV k) v (upd H a (.dK (dX Kt k v))):=.inl ⟨Kt,k,e,rfl,hl,rfl⟩
section
variable {X:Cx} {Ks:List (Addr × Obj)} {σ:St} {H:Hp} {s:Shared} {a:Addr} {y v:V} {u r:Value} {o:Option V} {A:Around} {E:Value→Shared→Prop}
theorem Inv.big (I:Inv X Ks σ H s):sysModules < s.heap.objs.size:=by
 have h:mainGlobals < s.heap.objs.size:=(I.mod.glob.keeps I.bk).lt
 exact Nat.lt_trans (by decide) h
theorem o_ {Q:Value→Shared→Prop}(hu:A.units+1 < cLine)(I:Inv X Ks σ H s)(g:oy H a y (some v))(ry:bq y u)(h:∀ w' s',Inv X Ks σ H s'→bq v w'→Q w' s') :
  wpAny (model X.prog X.w) A (getItem (.ref a) u) Q E s:=by
 rcases g with ⟨Kt,k,e,ey,l⟩ | ⟨Kt,k,b,e,ey,eb,l⟩
 ·subst ey
  obtain ⟨z,hd,vs,rel,dd⟩:=tJ I.hok e
  obtain ⟨w',hw,rw'⟩:=kK.some_of (v:=v) (o:=valueAt vs k) (by rw [l];exact rel.val k)
  exact wpAny_getItem_of (o9 ry) dd.mapOf hw (h w' _ (I.tok _) rw')
 ·subst ey
  cases (show u=Value.ref b from ry)
  obtain ⟨z,hd,xs,rel,dd⟩:=tM I.hok e
  obtain ⟨w',hw,rw'⟩:=kK.some_of (v:=v) (o:=(atKey xs k).map (·.2)) (by rw [l];exact rel.val k)
  obtain ⟨p,hp,hp2⟩:=Gd.mp hw
  refine wpAny_getItem_heap (IP hu) (mw I.hok eb) dd hp ?_
  rw [hp2]
  exact h w' _ (I.tok _) rw'
theorem xq {Q:Value→Shared→Prop}(hu:A.units+1 < cLine)(I:Inv X Ks σ H s)(g:oy H a y o)(ry:bq y u)(h:∀ s',Inv X Ks σ H s'→Q (.bool (!o.isSome)) s') :
  wpAny (model X.prog X.w) A (compareOp .NotIn u (.ref a)) Q E s:=by
 rcases g with ⟨Kt,k,e,ey,l⟩ | ⟨Kt,k,b,e,ey,eb,l⟩
 ·subst ey
  obtain ⟨z,hd,vs,rel,dd⟩:=tJ I.hok e
  refine wpAny_notIn_of (o9 ry) hd dd.mapOf ?_
  rw [← (rel.val k).isSome_eq,← l]
  exact h _ (I.tok _)
 ·subst ey
  cases (show u=Value.ref b from ry)
  obtain ⟨z,hd,xs,rel,dd⟩:=tM I.hok e
  refine wpAny_notIn_heap (IP hu) (mw I.hok eb) hd dd ?_
  have q:=(rel.val k).isSome_eq
  rw [Option.isSome_map] at q
  rw [← q,← l]
  exact h _ (I.tok _)
theorem kU {h':Heap}{t':Nat}{ob:HO}(I:Inv X Ks σ H s)(mu:Mut (H a))(hs:Heap.SameBut a s.heap h')(he:∃ q,h'.get? a=some q)(new:bz X.prog X.w (upd H a ob) h' a ob) :
  Inv X Ks σ (upd H a ob) { s with heap:=h',toks:=t' } :=
 I.write (x:=a) (e:=a) mu (.inl rfl) (fun b q hb z=>(hs.2 b hb).trans z) he new
theorem vR {P:Program}{w:World}{H':Hp}{h':Heap}{Kt:List (Key × V)}{vs:List (Key × Value)}(z:Kt.length≤sizeLine)(hd:(a == sysModules)=false)(rel:KV Kt vs)(dd:h'.DictOf (bx P w) a vs) :
  bz P w H' h' a (.dK Kt):=⟨z,hd,vs,rel,dd⟩
theorem pb {H':Hp}{Q:Unit→Shared→Prop}(hu:A.units+1 < cLine)(I:Inv X Ks σ H s)(g:vQ H a y v H')(ry:bq y u)(rv:bq v r)(h:∀ s',Inv X Ks σ H' s'→Q () s') :
  wpAny (model X.prog X.w) A (setItem (.ref a) u r) Q E s:=by
 rcases g with ⟨Kt,k,e,ey,l,eH⟩ | ⟨Kt,k,b,e,ey,eb,l,eH⟩
 ·subst ey eH
  obtain ⟨z,hd,vs,rel,dd⟩:=tK I.hok e
  have hz:vs.length≤sizeLine:=by rw [← rel.length];exact z
  have hl:(dX Kt k v).length≤sizeLine:=by have:=bY Kt k v;omega
  refine wpAny_setItem_pairs (hsz:=hz) (o9 ry) dd fun h' dd' hs=>h _ ?_
  have he:∃ q,h'.get? a=some q:=let ⟨q,_,_,hq,_⟩:=dd';⟨q,hq⟩
  exact kU I (by rw [e];exact True.intro) hs he (vR hl hd (rel.put k rv) dd')
 ·subst ey eH
  cases (show u=Value.ref b from ry)
  obtain ⟨z,hd,xs,rel,dd⟩:=BI I.hok e
  have hz:xs.length≤sizeLine:=by rw [← Jj rel];exact z
  have hl:(dX Kt k v).length≤sizeLine:=by have:=bY Kt k v;omega
  refine wpAny_setItem_heap (hsz:=hz) (IP hu) (mw I.hok eb) dd fun h' dd' hs=>h _ ?_
  obtain ⟨q,es,ep,hq,h2,h3,h4,_,h5⟩:=dd'
  refine kU I (by rw [e];exact True.intro) hs ⟨q,hq⟩ ⟨hl,hd,_,(rel.put k eb rv).keeps fun c ys ec=>?_,q,es,ep,hq,h2,h3,h4,h5⟩
  rw [ar (gX ec e (fun z=>nomatch z))]
  exact ec
end
section
variable {X:Cx} {Ks:List (Addr × Obj)} {σ:St} {H:Hp} {s:Shared} {a:Addr} {Kt:List (Key × V)} {k:Key} {u:Value} {A:Around} {E:Value→Shared→Prop}
end
def C_ (i:Expr):Prop:=∀ ov iv,subscripted i false ov iv=operate [ov,iv] (getItem ov iv)
theorem xt {prog:Program}{w:World}{A:Around}{E:Value→Shared→Prop}{s:Shared}{env:Env}{value slice:Expr}{pos:Pos}{T id:String}{Q:Value→Shared→Prop}
  (hl:typeLookup (.type T) "__getitem__" = pure (some (.builtin id))) (hs:C_ slice)
  (h:wpAny (model prog w) A (eval value env) (fun o s₁=>wpAny (model prog w) A (eval slice env) (fun i s₂=>s₂.TypeIs o T∧wpAny (model prog w) A (getItem o i) Q E s₂) E s₁) E s) :
  wpAny (model prog w) A (eval (.Subscript value slice pos) env) Q E s:=by
 refine Iv (Fm h (fun o s₁ h₁=>Fm h₁ (fun i s₂ h₂=>?_) fun _ _ x=>x) fun _ _ x=>x)
 obtain ⟨hT,h₂⟩:=h₂
 unfold subscriptTail
 refine fu ?_
 rw [getitemInPython_of_ne hT.not_modules]
 refine fu (Jq hT hl ?_)
 have fin:wpAny (model prog w) A (subscripted slice false o i) (fun r s₃=>wpAny (model prog w) A (letTemporaryGo value o r >>= fun _=>pure r) Q E s₃) E s₂:=by
  rw [hs o i]
  exact wpAny_operating (Fm h₂ (fun r s₃ h₃=>fu (wpAny_letTemporaryGo (Eb h₃))) fun _ _ x=>x)
 first
  | exact Eb (fu fin)
  | exact fu (Eb (fu fin))
  | exact fu fin
theorem kW {X:Cx}{Ks:List (Addr × Obj)}{σ:St}{H:Hp}{s:Shared}{a:Addr}{y:V}{o:Option V}(I:Inv X Ks σ H s)(g:oy H a y o):s.TypeIs (.ref a) "dict":=by
 rcases g with ⟨Kt,k,e,_,_⟩ | ⟨Kt,k,b,e,_,_,_⟩
 ·obtain ⟨_,_,vs,_,dd⟩:=tJ I.hok e
  exact dd.typeIs
 ·obtain ⟨_,_,xs,_,dd⟩:=tM I.hok e
  exact dd.typeIs
def BJ (td ty:TE):TE:=fun σ H Q=>td σ H fun x H1=>ty σ H1 fun y H2=>∃ a v,x = .ref a∧oy H2 a y (some v)∧Q v H2
def pd (ty td:TE):TE:=fun σ H Q=>ty σ H fun y H1=>td σ H1 fun x H2=>∃ a o,x = .ref a∧oy H2 a y o∧Q (.bl (!o.isSome)) H2
def BK (td ty tv:TE):TS:=fun D σ H=>tv σ H fun v H1=>td σ H1 fun x H2=>ty σ H2 fun y H3=>∃ a H4,x = .ref a∧vQ H3 a y v H4∧D.nx σ H4
section
variable {X:Cx} {o i e value:Expr} {pos pos' tpos:Pos} {td ty tv:TE}
theorem bZ (hu:X.A.units+1 < cLine)(ho:PE X o td)(hi:PE X i ty)(hs:C_ i):PE X (.Subscript o i pos) (BJ td ty):=by
 intro Ks s σ H Q I h
 refine xt PySem.F.slot_dict_getitem.lookup hs (thn (ho Ks s σ H _ I h) fun u s1 ⟨x,H1,I1,rx,q1⟩=>thn (hi Ks s1 σ H1 _ I1 q1) fun iv s2 zq68=>?_)
 obtain ⟨y,H2,I2,ry,a,v,ex,g,q2⟩:=zq68
 subst ex
 obtain rfl:u=Value.ref a:=rx
 exact ⟨kW I2 g,o_ hu I2 g ry fun w' s3 I3 rw'=>⟨v,H2,I3,rw',q2⟩⟩
theorem pe (hu:X.A.units+1 < cLine)(hi:PE X i ty)(ho:PE X o td):PC X .NotIn i o (pd ty td):=by
 intro Ks s σ H Q I h
 refine thn (hi Ks s σ H _ I h) fun iv s1 ⟨y,H1,I1,ry,q1⟩=>thn (ho Ks s1 σ H1 _ I1 q1) fun u s2 zq70=>?_
 obtain ⟨x,H2,I2,rx,a,ov,ex,g,q2⟩:=zq70
 subst ex
 obtain rfl:u=Value.ref a:=rx
 exact xq hu I2 g ry fun s3 I3=>⟨.bl (!ov.isSome),H2,I3,rfl,q2⟩
theorem dF (hu:X.A.units+1 < cLine)(ho:PE X o td)(hi:PE X i ty)(hv:PE X value tv)(hs:swapsWith value (some (.Subscript o i pos')) pos.line X.env=pure false) :
  PS X (.Assign [.Subscript o i pos'] value pos) (BK td ty tv):=by
 intro Ks s σ H D I h
 refine wpAny_Assign_Subscript (thn (hv Ks s σ H _ I h) fun r s1 ⟨v,H1,I1,rv,q1⟩=>thn (ho Ks s1 σ H1 _ I1 q1) fun u s2 ⟨x,H2,I2,rx,q2⟩=>thn (hi Ks s2 σ H2 _ I2 q2) fun iv s3 zq71=>?_) hs
 obtain ⟨y,H3,I3,ry,a,H4,ex,g,q3⟩:=zq71
 subst ex
 obtain rfl:u=Value.ref a:=rx
 exact pb hu I3 g ry rv fun s4 I4=>⟨σ,H4,I4,q3⟩
end
theorem mx {P:Program}{w:World}{H:Hp}(h:Heap)(hb:sysModules < h.objs.size):bz P w H (h.push { cls:=.type "dict",data:=.dict #[] }) h.objs.size (.dK []) :=
 ⟨E5 _,FZ.mpr (Ne.symm (EK hb)),[],.nil,Heap.DictOf.new h⟩
def zQ:TE:=fun _ H Q=>∀ p,H p=none→Q (.ref p) (upd H p (.dK []))
section
variable {X:Cx} {pos:Pos}
theorem fV:PE X (.Dict [] [] pos) zQ:=fun Ks s σ H Q I h =>
 wpAny_Dict_empty ⟨.ref s.heap.objs.size,_,I.laid (a:=s.heap.objs.size) (o:=.dK []) (t':=s.toks) (fun _ _ q=>D_ _ q) (Eg _) (mx s.heap I.big),rfl,h _ (I.hok.fresh (Eg _))⟩
end
def pf:List (TE × TE)→St→Hp→(List (V × V)→Hp→Prop)→Prop
 | [],_,H,Q=>Q [] H
 | (tk,tv)::r,σ,H,Q=>tk σ H fun x H1=>tv σ H1 fun y H2=>pf r σ H2 fun ps H3=>Q ((x,y)::ps) H3
abbrev VV:List (V × V)→List (Value × Value)→Prop:=Paired fun p q=>bq p.1 q.1∧bq p.2 q.2
def PPs (X:Cx)(pos:Pos)(keys:List (Option Expr))(values:List Expr)(trs:List (TE × TE)):Prop :=
 ∀ (Ks:List (Addr × Obj)) (s:Shared) (σ:St) (H:Hp) (Q:List (V × V)→Hp→Prop),Inv X Ks σ H s→pf trs σ H Q →
  wpAny (model X.prog X.w) X.A (evalPairs (pairTrees keys values X.env pos)) (fun vs s'=>∃ ps H',Inv X Ks σ H' s'∧VV ps vs∧Q ps H') X.xe s
theorem xu {X:Cx}{pos:Pos}:PPs X pos [] [] []:=fun Ks s σ H Q I h=>pairTrees_nil_walk ⟨[],H,I,.nil,h⟩
theorem fW {X:Cx}{pos:Pos}{k v:Expr}{ks:List (Option Expr)}{vs:List Expr}{tk tv:TE}{trs:List (TE × TE)}(hk:PE X k tk)(hv:PE X v tv)(hr:PPs X pos ks vs trs) :
  PPs X pos (some k::ks) (v::vs) ((tk,tv)::trs):=fun Ks s σ H Q I h =>
 pairTrees_cons_walk (thn (hk Ks s σ H _ I h) fun u s1 ⟨x,H1,I1,rx,q1⟩=>thn (hv Ks s1 σ H1 _ I1 q1) fun w2 s2 ⟨y,H2,I2,ry,q2⟩ =>
  thn (hr Ks s2 σ H2 _ I2 q2) fun ws s3 zq75=>(by obtain ⟨ps,H3,I3,rel,q3⟩:=zq75;exact ⟨(x,y)::ps,H3,I3,.cons ⟨rx,ry⟩ rel,q3⟩))
def gx (Kt more:List (Key × V)):List (Key × V):=more.foldl (fun acc kv=>dX acc kv.1 kv.2) Kt
theorem KV.merge:∀ {more:List (Key × V)} {rs:List (Key × Value)} {Kt:List (Key × V)} {vs:List (Key × Value)},KV more rs→KV Kt vs→KV (gx Kt more) (merged vs rs):=by
 intro more rs Kt vs r
 unfold KV at r
 induction r generalizing Kt vs with
 | nil=>intro q;exact q
 | @cons p q ps qs h t ih =>
  intro r0
  have e:KV (dX Kt p.1 p.2) (stored vs q.1 q.2):=by
   have:=r0.put p.1 h.2
   rw [← h.1];exact this
  exact ih e
theorem eL:∀ (more Kt:List (Key × V)),(gx Kt more).length≤Kt.length+more.length
 | [],Kt=>by show Kt.length≤Kt.length+0;omega
 | p::r,Kt=>by
  have h1:=eL r (dX Kt p.1 p.2)
  have h2:=bY Kt p.1 p.2
  show (gx (dX Kt p.1 p.2) r).length≤_
  rw [EA];omega
theorem ib {P:Program}{w:World}:∀ {Kt:List (Key × V)} {ws:List (Value × Value)},VV (Kt.map fun kv=>(kV kv.1,kv.2)) ws→∃ rs,Carries (bx P w) ws rs∧KV Kt rs
 | [],_,r=>by rw [Hl] at r;cases r;exact ⟨[],True.intro,.nil⟩
 | p::Kt,_,r=>by
  rw [EO] at r
  cases r with
  | @cons a b as bs h t =>
   obtain ⟨rs,c,q⟩:=ib (P:=P) (w:=w) t
   obtain ⟨b1,b2⟩:=b
   exact ⟨(p.1,b2)::rs,⟨o9 h.1,rfl,c⟩,.cons ⟨rfl,h.2⟩ q⟩
def BL (trs:List (TE × TE)):TE:=fun σ H Q=>∀ p,H p=none→pf trs σ (upd H p (.dK [])) fun ps H2=>H2 p=some (.dK [])∧∃ Kt:List (Key × V),ps=Kt.map (fun kv=>(kV kv.1,kv.2))∧Kt.length≤15∧Q (.ref p) (upd H2 p (.dK (gx [] Kt)))
theorem xv {X:Cx}{pos:Pos}{keys:List (Option Expr)}{values:List Expr}{trs:List (TE × TE)}(h:PPs X pos keys values trs)(K4:keys.all (·.isSome)=true)(hl:keys.length=values.length)(h0:keys≠[])
  (h15:keys.length≤15):PE X (.Dict keys values pos) (BL trs):=by
 intro Ks s σ H Q I q
 have hn:=I.hok.fresh (Eg s.heap.objs.size)
 have I1:=I.laid (a:=s.heap.objs.size) (o:=.dK []) (h':=s.heap.push { cls:=.type "dict",data:=.dict #[] }) (t':=s.toks) (fun _ _ q=>D_ _ q) (Eg _) (mx s.heap I.big)
 refine wpAny_Dict_walk (knd:=bx X.prog X.w) K4 hl h0 h15 (thn (h Ks _ σ _ _ I1 (q _ hn)) fun ws s2 zq76=>?_)
 obtain ⟨ps,H2,I2,rel,e,Kt,ep,lk,q2⟩:=zq76
 subst ep
 obtain ⟨rs,c,rk⟩:=ib (P:=X.prog) (w:=X.w) rel
 obtain ⟨z,hd,vs0,r0,dd⟩:=tK I2.hok e
 cases r0
 refine ⟨rs,c,dd,fun h' dd' hs=>⟨.ref s.heap.objs.size,_,?_,rfl,q2⟩⟩
 have hz:(gx [] Kt).length≤sizeLine:=by
  have h1:=eL Kt []
  rw [Hr] at h1
  rw [F0];omega
 have he:∃ q,h'.get? s.heap.objs.size=some q:=let ⟨q,_,_,hq,_⟩:=dd';⟨q,hq⟩
 exact kU I2 (by rw [e];exact True.intro) hs he (vR hz hd (rk.merge .nil) dd')
section
variable {X:Cx} {Ks:List (Addr × Obj)} {σ:St} {H:Hp} {s:Shared} {a:Addr} {y d:V} {u r:Value} {o:Option V} {A:Around} {E:Value→Shared→Prop}
end
section
variable {X:Cx} {o e f:Expr} {apos KO:Pos} {td ty tx:TE}
end
section
variable {X:Cx} {Ks:List (Addr × Obj)} {σ:St} {H:Hp} {s:Shared} {a:Addr} {Kt:List (Key × V)} {A:Around} {E:Value→Shared→Prop}
end
section
variable {X:Cx} {Ks:List (Addr × Obj)} {σ:St} {H:Hp} {s:Shared} {a:Addr} {y:V} {u:Value} {A:Around} {E:Value→Shared→Prop}
end
end L2
namespace Att
open PySem PySem.W PySem.Calls PyProof.Rows
theorem gz {P:Params}{h:Heap}:∀ (ns:List Int) (vs:List Value),WellAll P h vs (ns.map WData.int)→IntsAre vs ns:=by
 intro ns
 induction ns with
 | nil =>
  intro vs w
  rw [Hl] at w
  cases w
  exact .nil
 | cons n ns ih =>
  intro vs w
  rw [EO] at w
  cases w with
  | cons a b =>
   cases a
   exact .cons _ _ (ih _ b)
theorem ph {l:OpenLaw}{n:Nat}(hn:l.most=some n){P:Params}{h:Heap}{args:List WData}{vals:List Value}
  (hpre:l.row.toRowW.claim.pre args=true) (hwl:WellAll P h vals args) :
  ∃ a vs ns,vals=[Value.ref a]∧args=[WData.list (ns.map WData.int)]∧h.get? a=some { cls:=.type "list",data:=.seq vs.toArray }∧IntsAre vs ns∧ns.length≤n:=by
 have hsh:WShape.hasAll [] args [.list .int]=true:=(pre_splitW hpre).1
 have hc:l.pre.holds [] { args:=args }=true:=(pre_splitW hpre).2
 obtain ⟨d,r,rfl,h1,h2⟩:=hasAllW_cons hsh
 obtain rfl:=hasAllW_nil h2
 obtain ⟨xs,rfl,h3⟩:=hasW_list h1
 obtain ⟨ns,rfl⟩:=items_int h3
 have hlen:ns.length≤n:=by
  unfold OpenLaw.pre at hc
  have h4:(WTm.not (.lt (.lit (.int (n:Int))) (.len (.arg 0)))).holds [] { args:=[.list (ns.map .int)] }=true:=by
   have h4:=(holds_andW hc).1
   rw [hn] at h4
   exact h4
  have h5:=condW_of h4 (w_not (w_lt w_lit (w_len_list (w_arg rfl))))
  rw [Ea] at h5
  refine Nat.le_of_not_lt fun q=>?_
  have q':(n:Int) < ((ns.length:Nat):Int):=by omega
  first
   | (rw [Eh q'] at h5;exact absurd h5 (by decide))
   | (simp at h5;omega)
 cases hwl with
 | cons w1 w2 =>
  cases w2
  cases w1 with
  | list ho K4=>exact ⟨_,_,ns,rfl,rfl,ho,gz ns _ K4,hlen⟩
theorem pj (l:OpenLaw)(args:List WData):l.row.toRowW.claim.post args (.bool true) args=true :=
 postW_of (r:=l.row.toRowW) (X:=(true == true))
  (show WShape.has [] (.bool true) .bool=true by first | rfl | decide | simp [WShape.has,WShape.arms,WShape.armsAll])
  (show (WTm.eq .res (.lit (.bool true))).value [] { args:=args,res:=some (.bool true),after:=args }=some (.bool (true == true)) from w_eq_bool (w_res rfl) w_lit) rfl
theorem attach_call {l:OpenLaw}{n:Nat}{q:Program}{loose:List Str}{XP:(Str→Option Value)→Heap→Prop}{YP:World→Heap→Prop}{d:DefRec}
  (hn:l.most=some n) (hdf:d.params.defaults=[])
  (call:∀ (w:World) (s₀ s₁:Shared) (mg mb:Str→Option Value) (fa:Addr) (o:Obj) (pm cd doc:Value) (a:Addr) (vs:List Value) (ns:List Int),
   Ground q loose [] XP w s₀ mg mb s₁.heap→YP w s₁.heap →
   s₁.heap.get? fa=some o→o.data = .func (docDef d.name d.params d.body d.scope pm cd doc)→s₁.heap.CodeRec cd d.name→mg d.name=some (.ref fa) →
   s₁.heap.get? a=some { cls:=.type "list",data:=.seq vs.toArray }→IntsAre vs ns→ns.length≤n→s₁.gens=#[] →
   codeAny (model l.prog w) callerA (.call (.ref fa) ⟨[.ref a],[]⟩) (fun r s'=>r = .ok (.ret (.bool true))∧OldK s₁.heap s'.heap∧s'.os=s₁.os∧AllBare s'.gens) s₁) :
  WalkO q loose XP YP l.row.toRowW d [] (fun f vs=>PySem.call f vs):=by
 intro w s₀ s₁ mg mb G Y fa o pm cd doc dV kV ho hd K0 hD hmg hg args vals as hpre hlay hrd hwl hlo
 obtain rfl:dV = .none:=Dflts.none hD hdf
 obtain rfl:kV = .none:=Dflts.noKw hD
 obtain ⟨a,vs,ns,rfl,rfl,hobj,hints,hlen⟩:=ph hn hpre hwl
 refine enter_call (Gv (call w s₀ s₁ mg mb fa o pm cd doc a vs ns G Y ho (fd_plain hd) K0 hmg hobj hints hlen hg) fun r s' hq=>?_)
 obtain ⟨rfl,h2,h3,h4⟩:=hq
 exact ⟨.inl ⟨.bool true,.bool true,[],rfl,fun _=>rfl,.bool true,pj l _,fun _=>⟨List.Pairwise.nil,fun _ hm=>(nomatch hm)⟩⟩,h2,h3,h4⟩
section
variable {prog:Program} {w:World} {A:Around} {E:Value→Shared→Prop} {s:Shared} {K:Frag}
end
end Att
namespace L2
open PySem PySem.Spec PyProof.Rows
theorem j3:∀ {vs:List Value} {ns:List Int},IntsAre vs ns→a8 (ns.map V.int) vs
 | _,_,.nil=>.nil
 | _,_,.cons n t h=>.cons ⟨t,rfl⟩ (j3 h)
def BM (H:Hp):Prop:=∀ b,H b=none ∨ ∃ o xs,H b=some (.frz o (.lst xs))
theorem tN {P:Program}{w:World}{K:PySem.W.Frag}{mg mb:Str→Option Value}{CX:CXT}{k:Nat}{fa a:Addr}{fd:FuncData}{x:Str}{sp:Sp}{s₁:Shared}{vs:List Value}{ns:List Int}
  (KX:K.In s₁.heap) (hns:s₁.heap.Ns mainGlobals mg) (hb:s₁.heap.Ns builtinsNs mb) (hbb:∀ x:Str,x ≠ "__name__"→mb x=bootBuiltins x) (hlim:s₁.heap.NoLimit) (hg:s₁.gens=#[])
  (ha:s₁.heap.get? a=some { cls:=.type "list",data:=.seq vs.toArray }) (hi:IntsAre vs ns) (hl:ns.length≤sizeLine) (hr:eE k callerA)
  (F:∀ base:Heap,K.In base→base.Ns mainGlobals mg→jI P w K mg base CX k fa fd [x] sp) (hbind:∀ (s:Shared) (u:Value),BindsTo s fd ⟨[u],[]⟩ [(x,u)])
  (hsp:∀ H:Hp,BM H→SqL K H a (ns.map V.int)→sp [.ref a] H (fun v _=>v = .bl true) fun _ _ _=>False)
  (hCX:∀ H e s',CX [] H s₁ (fun _ _ _=>False) e s'→False) :
  codeAny (model P w) callerA (.call (.ref fa) ⟨[.ref a],[]⟩) (fun r s'=>r = .ok (.ret (.bool true))∧OldK s₁.heap s'.heap∧s'.os=s₁.os∧AllBare s'.gens) s₁:=by
 have rv:=j3 hi
 have lenV:=hi.length
 -- from an abstract heap in which nothing but the script may be tracked
 have core:∀ H:Hp,BM H→SqL K H a (ns.map V.int)→HOk P w H s₁.heap→(∀ b,H b≠none→b=a)→(H a≠none→K.lookup a=none) →
   codeAny (model P w) callerA (.call (.ref fa) ⟨[.ref a],[]⟩) (fun r s'=>r = .ok (.ret (.bool true))∧OldK s₁.heap s'.heap∧s'.os=s₁.os∧AllBare s'.gens) s₁:=by
  intro H hO hS hok hA hK
  have base_of:∀ {b:Addr} {o:Obj},s₁.heap.get? b=some o→H b=none→(sO s₁.heap H).get? b=some o:=fun e n=>sP e n
  have noA:∀ {b:Addr} {o:Obj} {es:Array DictEntry} {ep:Nat},s₁.heap.get? b=some o→o.data = .dict es ep→H b=none:=fun {b o es ep} e d=>by
   cases q:H b with
   | none=>rfl
   | some u =>
    have e':b=a:=hA b (by rw [q];simp)
    subst e'
    rw [ha] at e;cases e
    have d':Data.seq vs.toArray _=Data.dict es ep:=d
    cases d'
  have nsK:∀ {b:Addr} {m:Str→Option Value},s₁.heap.Ns b m→(sO s₁.heap H).Ns b m:=fun {b m} ⟨o,es,ep,e,d,r⟩=>⟨o,es,ep,base_of e (noA e d),d,r⟩
  have hKb:K.In (sO s₁.heap H):=fun b o e=>base_of (KX b o e) (by
   cases q:H b with
   | none=>rfl
   | some u =>
    have e':b=a:=hA b (by rw [q];simp)
    subst e'
    rw [hK (by rw [q];simp)] at e;cases e)
  have hM:Mod K mg (sO s₁.heap H):=⟨hKb,nsK hns,⟨mb,nsK hb,hbb⟩,let ⟨mc,h1,h2⟩:=hlim;⟨mc,nsK h1,h2⟩⟩
  have e0:sM P w K mg (sO s₁.heap H) callerA [] s₁ H:=⟨rfl,hM,fun b o e=>wW e,IQ (oF _ _),trivial,fun b hb=>absurd (show b∈([]:List Addr) from hb) (by simp),hok,.of_eq hg⟩
  refine Gv ((F _ hKb (nsK hns)).run callerA [] s₁ H ⟨[.ref a],[]⟩ [.ref a] [.ref a] _ _ hr e0 (hbind s₁ (.ref a)) (.cons rfl .nil) (hsp H hO hS)) fun r s' h=>?_
  cases r with
  | error e=>exact (hCX H e s' h).elim
  | ok fl =>
   cases fl with
   | next=>exact False.elim h
   | brk=>exact False.elim h
   | cont=>exact False.elim h
   | ret u =>
    obtain ⟨v,H',os,bare,un,hok',r',q⟩:=h
    have q':v = .bl true:=q
    subst q'
    obtain rfl:u=Value.bool true:=r'
    refine ⟨rfl,OldK.of_keep fun b o e=>?_,os,bare⟩
    cases q:H b with
    | none=>exact un.keep b o e q (by intro z;exact absurd (show b∈([]:List Addr) from z) (by simp)) (by simp)
    | some u =>
     rcases hO b with z | ⟨ob,xs,z⟩
     ·rw [q] at z;cases z
     ·have z2:=un.frzs b ob _ z
      obtain ⟨e1,_⟩:=hok b _ z
      obtain ⟨e2,_⟩:=hok' b _ z2
      rw [e] at e1;cases e1
      exact e2
 cases hk:K.lookup a with
 | some o =>
  -- the script is one of the module's own objects
  have e:=KX a o hk
  rw [ha] at e
  cases e
  refine core (fun _=>none) (fun _=>.inl rfl) (.inr ⟨_,vs.toArray,_,hk,rfl,rfl,rfl,by rw [Eo,lenV];exact hl,by simpa using rv⟩) (fun b u z=>by have z':(none:Option HO)=some u:=z;cases z') (fun b z=>absurd rfl z) fun z=>absurd rfl z
 | none =>
  refine core (fun b=>if b=a then some (.frz { cls:=.type "list",data:=.seq vs.toArray } (.lst (ns.map V.int))) else none) (fun b=>?_) (.inl (.inr ⟨{ cls:=.type "list",data:=.seq vs.toArray },if_pos rfl⟩)) (fun b u z=>?_) (fun b z=>?_) fun _=>hk
  ·by_cases hb:b=a
   ·exact .inr ⟨_,_,if_pos hb⟩
   ·exact .inl (if_neg hb)
  ·by_cases hb:b=a
   ·have z':=(if_pos hb).symm.trans z
    cases z'
    subst hb
    exact ⟨ha,by rw [Ea];exact hl,vs,_,rv,ha⟩
   ·have z':=(if_neg hb).symm.trans z
    cases z'
  ·by_cases hb:b=a
   ·exact hb
   ·exact absurd (if_neg hb) z
theorem pk {l:PySem.W.OpenLaw}{n k:Nat}{q:Program}{loose:List Str}{XP:(Str→Option Value)→Heap→Prop}{YP:World→Heap→Prop}{d:DefRec}{K:Params→PySem.W.Frag}{CX:World→CXT}{sp:World→Sp}{x:Str}
  (hn:l.most=some n) (hn2:n≤sizeLine) (hdf:d.params.defaults=[]) (hr:eE k callerA)
  (hY:∀ (w:World) (h:Heap),YP w h→(K w.params).In h)
  (F:∀ (w:World) (mg:Str→Option Value) (fa:Addr) (h:Heap),(K w.params).In h→h.Ns mainGlobals mg→mg d.name=some (.ref fa) →
   ∃ fd:FuncData,(∀ (s:Shared) (u:Value),BindsTo s fd ⟨[u],[]⟩ [(x,u)]) ∧
    ∀ base:Heap,(K w.params).In base→base.Ns mainGlobals mg→jI l.prog w (K w.params) mg base (CX w) k fa fd [x] (sp w))
  (hsp:∀ (w:World) (H:Hp) (a:Addr) (ns:List Int),ns.length≤n→BM H→SqL (K w.params) H a (ns.map V.int)→sp w [.ref a] H (fun v _=>v = .bl true) fun _ _ _=>False)
  (hCX:∀ (w:World) (H:Hp) (s:Shared) (e:Value) (s':Shared),CX w [] H s (fun _ _ _=>False) e s'→False) :
  PySem.W.WalkO q loose XP YP l.row.toRowW d [] (fun f vs=>PySem.call f vs):=by
 refine Att.attach_call hn hdf fun w s₀ s₁ mg mb fa o pm cd doc a vs ns G Y ho hd K0 hmg hobj hints hlen hg=>?_
 have KX:=hY w _ Y
 obtain ⟨fd,hb,hF⟩:=F w mg fa _ KX G.T.g hmg
 exact tN KX G.T.g G.T.b G.T.builtins G.T.nolimit hg hobj hints (EV hlen hn2) hr hF hb (fun H hO hS=>hsp w H a ns hlen hO hS) fun H e s'=>hCX w H s₁ e s'
end L2
/- THE LAST THEOREM (shape;LID,My.* are yours):
  My.Adr: a structure of the addresses that your layer names (classes,functions);My.Txt K t: a structure (Prop) of the equations over K;
  My.txt_mk:{K} {implicit addresses ..} (e1:nsIn K mainGlobals "law" = some (some (.ref f))) (e2:K.lookup f=some ⟨oc,od,.func (fnOf "law" "law" params body scope dV kV doc pm an Kv ct),sl⟩) (e3:codeIn K Kv "law" = true) ..:∃ t,My.Txt K t
set_option maxRecDepth 100000 in
set_option maxHeartbeats 0 in
theorem PySem.Challenge.cw_LID_holds : PySem.Challenge.rw_LID.Holds := by
 w_on;o_law;k_head;(case hw=>w_witness2)
 k_fill
 refine L2.pk (l:=PySem.Challenge.rw_LID) (n:=63) (k:=40) (x:="script") (CX:=fun w=>..) (sp:=fun _=>My.sp_law) rfl (by decide) rfl ⟨rfl,by decide,by decide⟩ (fun w h Y=>PySem.W.kIn_of Y) ?F ?S ?C
 case F =>
  intro w mg fa h KX G hmg
  have T:∃ t,My.Txt (L2.KOf KX) t:=by
   dsimp only [L2.KOf]                          -- K must stand as «<heap const> w.params» for k_is
   refine' My.txt_mk ?e1 ?e2 ?e3 ..
   (case e1=>PySem.W.k_is)                    -- in the order: a name -> its address -> its object -> its parts
   (case e2=>PySem.W.k_is)
   ..
  obtain ⟨t,T⟩:=T
  have e0:=hmg.symm.trans (E6 KX G T.law)
  cases e0                                       -- fa is the law's own address
  exact ⟨_,fun s u=>.of_eq rfl,fun base kb nb=>My.law_fn T kb nb⟩     -- if «.of_eq rfl» comes too early: refine' ⟨_,?b,fun base kb nb=>My.law_fn T kb nb⟩;exact fun s u=>.of_eq rfl
 case S=>exact fun w H a ns hl hO hS=>..
 case C=>exact ..
(the tactic k_is has no namespace: write k_is) -/
namespace L2
open PySem PySem.Spec PyProof.Rows
def bM (s:Stmt):Arguments:=match s with
 | .FunctionDef _ a _ _ _ _ _ _ _ _=>a
 | _=>{ posonlyargs:=[],args:=[],vararg:=none,kwonlyargs:=[],kw_defaults:=[],kwarg:=none,defaults:=[] }
def br (s:Stmt):List Stmt:=match s with
 | .FunctionDef _ _ b _ _ _ _ _ _ _=>b
 | _=>[]
def aq (s:Stmt):Scope:=match s with
 | .FunctionDef _ _ _ _ _ _ sc _ _ _=>sc
 | _=>{ kind:=.function,names:=[],isGenerator:=false,isCoroutine:=false }
abbrev CX0:CXT:=fun _ _ _ _ _ _=>False
abbrev E0:XK:=fun _ _ _=>False
theorem BN {X:Cx}:jO CX0 X E0:=fun _ _ _ _ _ _ _ h=>h.elim
structure Fun (K:PySem.W.Frag) (x qual:Str) (st:Stmt) (f:Addr) (fd:FuncData):Prop where
 ex:∃ (oc:Value) (od:Option Addr) (kV doc pm:Value) (an:Option Addr) (Kv ct:Value) (K2:Array (Option Value)),
  fd=PySem.W.fnOf x qual (bM st) (br st) (aq st) .none kV doc pm an Kv ct∧K.lookup f=some ⟨oc,od,.func fd,K2⟩∧PySem.W.codeIn K Kv qual=true
 kp:PySem.W.keepIn K (.ref f)=true
section
variable {P:Program} {w:World} {K:PySem.W.Frag} {mg:Str→Option Value} {base:Heap}
theorem Fun.ok {x qual:Str}{st:Stmt}{f:Addr}{fd:FuncData}{N ps:List Str}{k:Nat}{sp:Sp}(F:Fun K x qual st f fd)(S:aC N ps (aq st))(len:∀ vs H Q E,sp vs H Q E→vs.length=ps.length)
  (KM:∀ (Kv:Value) (A:Around) (outer:List Env) (s:Shared) (H:Hp) (vs:List V) (Q:VK) (E:XK),eE k (A.deeper (envOfC qual (aq st) s.heap.objs.size f Kv))→sp vs H Q E →
   ∃ t,PSs (kR CX0 P w K mg base N qual (aq st) f Kv A outer s H E).nox (br st) t∧t { nx:=fun _ H'=>Q .non H',rt:=Q } (start N vs) H):jI P w K mg base CX0 (k+1) f fd ps sp:=by
 obtain ⟨oc,od,kV,doc,pm,an,Kv,ct,K2,rfl,lk,K0⟩:=F.ex
 refine zC lk K0 S len fun A outer s H vs Q E hr hsp=>?_
 obtain ⟨t,h,q⟩:=KM Kv A outer s H vs Q E hr hsp
 exact ⟨t,h.nox,q⟩
theorem Fun.binds {x qual:Str}{st:Stmt}{f:Addr}{fd:FuncData}{ps:List Str}(F:Fun K x qual st f fd)
  (h:∀ (kV doc pm:Value) (an:Option Addr) (Kv ct:Value) (us:List Value),us.length=ps.length→bindArgs (PySem.W.fnOf x qual (bM st) (br st) (aq st) .none kV doc pm an Kv ct) ⟨us,[]⟩=pure (ps.zip us)):eY K fd ps []:=by
 obtain ⟨oc,od,kV,doc,pm,an,Kv,ct,K2,rfl,lk,K0⟩:=F.ex
 exact .all (h kV doc pm an Kv ct)
theorem my {x qual:Str}{st:Stmt}{f:Addr}{oc:Value}{od an:Option Addr}{K2:Array (Option Value)}{kV doc pm Kv ct:Value}(l:K.lookup f=some ⟨oc,od,.func (PySem.W.fnOf x qual (bM st) (br st) (aq st) .none kV doc pm an Kv ct),K2⟩)
  (c:PySem.W.codeIn K Kv qual=true) (k:PySem.W.keepIn K (.ref f)=true):Fun K x qual st f (PySem.W.fnOf x qual (bM st) (br st) (aq st) .none kV doc pm an Kv ct):=⟨⟨oc,od,kV,doc,pm,an,Kv,ct,K2,rfl,l,c⟩,k⟩
end
theorem kX {A:Around}{k:Nat}(hr:eE k A):A.units+1 < cLine:=Nat.lt_of_le_of_lt (Nat.add_le_add_left (by decide:1≤64) _) hr.units
section
variable {X:Cx}
theorem pv (i:Nat){x:Str}{pos:Pos}(hN:X.N[i]? = some x:=by rfl)(hv:Vis X.env.scope x:=by first | exact Or.inl rfl | exact Or.inr (Or.inl rfl) | exact Or.inr (Or.inr rfl))(hd:(x == ("__debug__":Str))=false:=by decide)
  (K0:(x == ("__classdict__":Str))=false:=by decide):PE X (.Name x pos) (Bs i):=zj hN hv hd K0
end
theorem nJ {A B:Prop}(h:B):if false=true then A else B:=by
 rw [if_neg Ez]
 exact h
theorem pw {A B:Prop}(h:A):if true=true then A else B:=by
 rw [if_pos rfl]
 exact h
theorem iO {c A B:Prop}[Decidable c](h1:c→A)(h2:¬ c→B):if c then A else B:=by
 by_cases h:c
 ·rw [if_pos h]
  exact h1 h
 ·rw [if_neg h]
  exact h2 h
theorem BO {c A B:Prop}[Decidable c](hc:c)(h:B):if (!decide c)=true then A else B:=by
 rw [Eh hc]
 exact nJ h
def av (H H':Hp):Prop:=∀ b o,H b=some o→H' b=some o
theorem av.refl (H:Hp):av H H:=fun _ _ h=>h
theorem av.trans {H H1 H2:Hp}(a:av H H1)(b:av H1 H2):av H H2:=fun c o h=>b c o (a c o h)
theorem av.seq {K:PySem.W.Frag}{H H':Hp}{a:Addr}{xs:List V}(e:av H H')(h:SqL K H a xs):SqL K H' a xs:=by
 rcases h with (h | ⟨o,h⟩) | h
 ·exact .inl (.inl (e _ _ h))
 ·exact .inl (.inr ⟨o,e _ _ h⟩)
 ·exact .inr h
section
variable {κ:Type} [DecidableEq κ]
end
def mz (cells:List (Str × Addr)):List (Str × NameKind)→List (Str × Addr)→List (Str × Addr)
 | [],acc=>acc
 | (x,k)::r,acc=>if k == NameKind.free then mz cells r ((x,(cells.lookup x).getD 0)::acc) else mz cells r acc
theorem iP {cells:List (Str × Addr)}{p:Str × Addr}:∀ {names:List (Str × NameKind)} {acc:List (Str × Addr)},p∈mz cells names acc→p∈acc ∨ ((p.1,NameKind.free)∈names∧p.2=(cells.lookup p.1).getD 0)
 | [],_,h=>.inl h
 | (x,k)::r,acc,h=>by
  unfold mz at h
  by_cases hk:(k == NameKind.free)=true
  ·rw [if_pos hk] at h
   have ek:k=NameKind.free:=by simpa using hk
   subst ek
   rcases iP h with h | ⟨h,e⟩
   ·rcases Ei.mp h with h | h
    ·subst h
     exact .inr ⟨Ex,rfl⟩
    ·exact .inl h
   ·exact .inr ⟨Ej _ h,e⟩
  ·rw [if_neg hk] at h
   rcases iP h with h | ⟨h,e⟩
   ·exact .inl h
   ·exact .inr ⟨Ej _ h,e⟩
theorem iQ {cells:List (Str × Addr)}{p:Str × Addr}:∀ {names:List (Str × NameKind)} {acc:List (Str × Addr)},p∈acc→p∈mz cells names acc
 | [],_,h=>h
 | (x,k)::r,acc,h=>by
  unfold mz
  split
  ·exact iQ (Ej _ h)
  ·exact iQ h
theorem iR {cells:List (Str × Addr)}{x:Str}:∀ {names:List (Str × NameKind)} {acc:List (Str × Addr)},(x,NameKind.free)∈names→(x,(cells.lookup x).getD 0)∈mz cells names acc
 | [],_,h=>by simp at h
 | (y,k)::r,acc,h=>by
  unfold mz
  rcases Ei.mp h with h | h
  ·have e1:x=y:=EX Prod.fst h
   have e2:NameKind.free=k:=EX Prod.snd h
   subst e1 e2
   rw [if_pos (by simp)]
   exact iQ Ex
  ·split
   ·exact iR h
   ·exact iR h
theorem eM {x:Str}{c:Addr}:∀ {l:List (Str × Addr)},(x,c)∈l→∃ d,l.lookup x=some d
 | [],h=>by simp at h
 | (y,d)::r,h=>by
  rw [GD]
  by_cases e:(x == y)=true
  ·rw [e];exact ⟨d,rfl⟩
  ·have e':(x == y)=false:=by simpa using e
   rw [e']
   rcases Ei.mp h with h | h
   ·have:x=y:=EX Prod.fst h
    exact absurd (by simpa using this) e
   ·exact eM h
theorem iS {env:Env}{scope:Scope}(h:∀ y∈scope.names,y.2=NameKind.free→∃ c,env.cells.lookup y.1=some c):closureFor scope env=pure (mz env.cells scope.names []):=by
 have all:∀ (names:List (Str × NameKind)) (acc:List (Str × Addr)),(∀ y∈names,y.2=NameKind.free→∃ c,env.cells.lookup y.1=some c) →
   (forIn names acc (fun (p:Str × NameKind) (r:List (Str × Addr))=>(if (p.2 == NameKind.free)=true then (do let a ← cellOf env p.1;pure (ForInStep.yield ((p.1,a)::r))) else pure (ForInStep.yield r):Sem (ForInStep (List (Str × Addr))))))=(pure (mz env.cells names acc):Sem (List (Str × Addr))):=by
  intro names
  induction names with
  | nil=>intro acc _;rfl
  | cons p r ih =>
   intro acc hh
   obtain ⟨x,k⟩:=p
   have hr:∀ y∈r,y.2=NameKind.free→∃ c,env.cells.lookup y.1=some c:=fun y hy=>hh y (Ej _ hy)
   rw [Hs]
   unfold mz
   by_cases hk:(k == NameKind.free)=true
   ·obtain ⟨c,hc⟩:=hh (x,k) Ex (by simpa using hk)
    have hc:env.cells.lookup x=some c:=hc
    have ec:cellOf env x=pure c:=by
     unfold cellOf
     rw [hc]
    simp only [hk,Hg,ec,pure_bind,hc,Option.getD_some]
    exact ih _ hr
   ·simp only [hk,Jw,pure_bind]
    exact ih _ hr
 have e:=all scope.names [] h
 unfold closureFor
 simp only [bind_pure]
 exact e
def zR (scope sc:Scope)(NB own:List Str)(cap:List Nat)(N:List Str):Bool :=
 (scope.kind == .function) && (sc.kind == .function) &&
 (scope.names.all fun y=>match y.2 with
  | .cell=>false
  | .free=>sc.names.lookup y.1 == some NameKind.cell
  | .local=>scope.names.lookup y.1 == some NameKind.local
  | _=>true) &&
 (own.all fun x=>scope.names.lookup x == some NameKind.local && scope.names.all fun y=>!(y.1 == x) || y.2 == NameKind.local) &&
 (NB == own++cap.map fun i=>N.getD i "") && (cap.all fun i=>decide (i < N.length) && scope.names.lookup (N.getD i "") == some NameKind.free)
structure Blk (X:Cx) (scope:Scope) (NB own:List Str) (cap:List Nat):Prop where
 kind:scope.kind = .function
 outk:X.env.scope.kind = .function
 nocell:∀ y∈scope.names,y.2 ≠ .cell
 free:∀ y∈scope.names,y.2 = .free→X.env.kindOf y.1=some .cell
 names:∀ y∈scope.names,y.2 = .local→scope.names.lookup y.1=some .local
 owns:∀ x∈own,∀ y∈scope.names,y.1=x→y.2 = .local
 nb:NB=own++cap.map fun i=>X.N.getD i ""
 caps:∀ i∈cap,i < X.N.length∧scope.names.lookup (X.N.getD i "")=some .free
theorem bU {X:Cx}{scope sc:Scope}{NB own:List Str}{cap:List Nat}(hs:X.env.scope=sc)(h:zR scope sc NB own cap X.N=true):Blk X scope NB own cap:=by
 unfold zR at h
 simp only [EI] at h
 obtain ⟨⟨⟨⟨⟨h1,h2⟩,h3⟩,h4⟩,h5⟩,h6⟩:=h
 rw [FK] at h3 h4 h6
 subst hs
 refine ⟨by simpa using h1,by simpa using h2,fun y hy e=>?_,fun y hy e=>?_,fun y hy e=>?_,fun x hx y hy e=>?_,by simpa using h5,fun i hi=>?_⟩
 ·have:=h3 y hy
  rw [e] at this
  exact absurd this (by simp)
 ·have:=h3 y hy
  rw [e] at this
  show X.env.scope.names.lookup y.1=some .cell
  simpa using this
 ·have:=h3 y hy
  rw [e] at this
  simpa using this
 ·have:=h4 x hx
  simp only [EI,FK] at this
  have q:=this.2 y hy
  subst e
  simpa using q
 ·have:=h6 i hi
  simp only [EI] at this
  exact ⟨Fn this.1,by simpa using this.2⟩
def cxB (X:Cx)(NB own:List Str)(scope:Scope)(C:Addr)(fp:List Addr)(s₀:Shared)(H₀:Hp):Cx where
 prog:=X.prog
 w:=X.w
 K:=X.K
 mg:=X.mg
 base:=X.base
 A:=X.A
 N:=NB
 s₀:=s₀
 H₀:=H₀
 env:=compEnvC scope (mz X.env.cells scope.names []) C X.env
 outer:=X.stack
 stack:=X.stack
 ex:=fp
 fn:=fun x=>own.contains x
 calm:=X.calm
 pn:=[]
 xe:=fun _ _=>False
theorem dG {env:Env}{x:Str}{k:NameKind}(hk:k = .cell ∨ k = .free):∀ {names:List (Str × NameKind)},(∀ y∈names,y.2 ≠ .cell) →
  (names.map fun (n,k)=>if (k == NameKind.free && env.scope.kind == .function && env.kindOf n == some .cell) then (n,NameKind.cell) else (n,k)).lookup x=some k→(x,NameKind.free)∈names
 | [],_,h=>by simp at h
 | (n,q)::r,hn,h=>by
  have ih:=@dG env x k hk r fun y hy=>hn y (Ej _ hy)
  rw [EO,GD] at h
  have key:(if (q == NameKind.free && env.scope.kind == .function && env.kindOf n == some .cell)=true then (n,NameKind.cell) else (n,q)).1=n:=by split <;> rfl
  by_cases e:(x == n)=true
  ·have en:x=n:=by simpa using e
   subst en
   by_cases hq:q = .free
   ·subst hq;exact Ex
   ·have hqf:(q == NameKind.free)=false:=by simpa using hq
    simp only [hqf,FO,IR,Jw,GE] at h
    have h':q=k:=EE h
    rcases hk with z | z
    ·exact absurd (h'.trans z) (hn (x,q) Ex)
    ·exact absurd (h'.trans z) hq
  ·have e':(x == n)=false:=by simpa using e
   refine Ej _ (ih ?_)
   have e2:(x == (if (q == NameKind.free && env.scope.kind == .function && env.kindOf n == some .cell)=true then (n,NameKind.cell) else (n,q)).1)=false:=by rw [key];exact e'
   rw [e2] at h
   exact h
theorem gC {env:Env}{x:Str}(hk:env.scope.kind = .function)(hc:env.kindOf x=some .cell):∀ {names:List (Str × NameKind)},names.lookup x=some .free →
  (names.map fun (n,k)=>if (k == NameKind.free && env.scope.kind == .function && env.kindOf n == some .cell) then (n,NameKind.cell) else (n,k)).lookup x=some .cell
 | [],h=>by simp at h
 | (n,q)::r,h=>by
  have ih:=@gC env x hk hc r
  rw [GD] at h
  rw [EO,GD]
  by_cases e:(x == n)=true
  ·have en:x=n:=by simpa using e
   subst en
   rw [e] at h
   have hq:q = .free:=EE h
   subst hq
   simp [hk,hc]
  ·have e':(x == n)=false:=by simpa using e
   rw [e'] at h
   have key:(if (q == NameKind.free && env.scope.kind == .function && env.kindOf n == some .cell)=true then (n,NameKind.cell) else (n,q)).1=n:=by split <;> rfl
   have e2:(x == (if (q == NameKind.free && env.scope.kind == .function && env.kindOf n == some .cell)=true then (n,NameKind.cell) else (n,q)).1)=false:=by rw [key];exact e'
   rw [e2]
   exact ih h
def stB (own:List Str)(cap:List Nat)(σ:St):St:=(own.map fun _=>none)++cap.map fun i=>(σ[i]?).getD none
section
variable {X:Cx} {Ks:List (Addr × Obj)} {σ:St} {H:Hp} {s:Shared} {scope:Scope} {NB own:List Str} {cap:List Nat} {fp:List Addr} {C:Addr}
theorem Blk.cells (B:Blk X scope NB own cap)(ok:X.Ok){x:Str}{c:Addr}(h:(mz X.env.cells scope.names []).lookup x=some c):X.env.cells.lookup x=some c∧(x,NameKind.free)∈scope.names:=by
 rcases iP (FL h) with q | ⟨q,e⟩
 ·simp at q
 ·obtain ⟨d,hd⟩:=ok.has x (.inl (B.free (x,.free) q rfl))
  have e:c=(X.env.cells.lookup x).getD 0:=e
  rw [hd] at e
  refine ⟨?_,q⟩
  rw [hd,e];rfl
theorem Blk.cell (B:Blk X scope NB own cap)(ok:X.Ok){x:Str}(h:(x,NameKind.free)∈scope.names):∃ c,(mz X.env.cells scope.names []).lookup x=some c:=eM (iR h)
theorem Blk.start (B:Blk X scope NB own cap)(I:Inv X Ks σ H s)(hf:∀ b∈fp,mj X Ks H b)(hfs:∀ b∈fp,∃ o,s.heap.get? b=some o){h':Heap}{tk:Nat}{m:Str→Option Value}(hC:s.heap.objs.size≤C)
  (k:∀ b o,s.heap.get? b=some o→h'.get? b=some o) (hn:h'.Ns C m) :
  Inv (cxB X NB own scope C fp s H) [] (stB own cap σ) H { s with heap:=h',toks:=tk }:=by
 have hlen:NB.length=own.length+cap.length:=by rw [B.nb];simp
 have okB:(cxB X NB own scope C fp s H).Ok:=by
  refine ⟨I.ok.mod,B.kind,I.ok.glob,I.ok.blt,hC,fun x y c h1 h2=>I.ok.inj x y c (B.cells I.ok h1).1 (B.cells I.ok h2).1,fun x hx=>?_,fun x c h1 h2=>?_,I.ok.hd,I.ok.frames,.inl rfl,fun b hb=>⟨?_,fun x c h=>?_⟩,I.bs,EV I.ok.bsz I.sz,fun b o e hb=>?_,fun b hb z=>?_,I.stack,I.stkFree⟩
  ·have:(x,NameKind.free)∈scope.names:=by
    rcases hx with z | z
    ·exact dG (.inl rfl) B.nocell z
    ·exact dG (.inr rfl) B.nocell z
   exact B.cell I.ok this
  ·have hx:x∈own:=by simpa [cxB] using h1
   have q:=B.owns x hx _ (B.cells I.ok h2).2 rfl
   exact absurd q (by simp)
  ·obtain ⟨o,e⟩:=hfs b hb
   exact EK (Et (Em e) hC)
  ·exact (hf b hb).2.2.2.2.1 x c (B.cells I.ok h).1
  ·have hb:b∈fp:=hb
   rcases (hf b hb).2.2.2.1 with z | z
   ·exact I.ok.noex b o e z
   ·exact absurd (Et (Em e) (EV I.ok.bsz z)) (E9 _)
  ·rcases Ei.mp (I.stkSub b z) with z | z
   ·exact (hf b hb).2.1 z
   ·exact (hf b hb).2.2.1 z
 refine ⟨okB,rfl,I.bare,Un.kept k,⟨m,hn,fun i x v e1 e2 e3=>?_⟩,fun x c h=>?_,I.hok.fresh hC,fun x c h=>I.freeC x c (B.cells I.ok h).1,fun p hp=>absurd (show p∈([]:List (Addr × Obj)) from hp) (by simp),I.hok.kept k,?_⟩
 ·have e1:NB[i]? = some x:=e1
  have hi:¬ i < own.length:=fun hi=>by
   unfold stB at e2
   rw [FP (by simpa using hi),Er] at e2
   cases q:own[i]? <;> rw [q] at e2 <;> cases e2
  unfold stB at e2
  rw [E8 (by simpa using hi),Er] at e2
  rw [B.nb,E8 (by omega),Er] at e1
  simp only [Ea] at e2
  cases q:cap[i - own.length]? with
  | none=>rw [q] at e1;cases e1
  | some j =>
   rw [q] at e1 e2
   have ex:X.N.getD j "" = x:=EE e1
   have ev:(σ[j]?).getD none=some v:=EE e2
   obtain ⟨hj,hjf⟩:=B.caps j (Es q)
   rw [ex] at hjf
   have hN:X.N[j]? = some x:=by rw [← ex,Ew,Ee hj];rfl
   have hσ:σ[j]? = some (some v):=by
    cases z:σ[j]? with
    | none=>rw [z] at ev;cases ev
    | some u=>rw [z] at ev;exact EX some ev
   have hmem:(x,NameKind.free)∈scope.names:=FL hjf
   have hkc:=B.free _ hmem rfl
   obtain ⟨m0,hn0,hl⟩:=I.loc
   obtain ⟨u,r,l⟩:=hl j x v hN hσ (.inr (.inl hkc))
   refine ⟨u,r,.inr ⟨.inl (gC B.outk hkc hjf),?_⟩⟩
   obtain ⟨c,hc⟩:=B.cell I.ok hmem
   refine ⟨c,hc,?_⟩
   rcases l with ⟨z,_⟩ | ⟨_,c',hc',⟨oc,hoc,hd⟩⟩
   ·rw [show X.env.kindOf x=some .cell from hkc] at z;cases z
   ·have:=(B.cells I.ok hc).1
    rw [hc'] at this
    have:c'=c:=EE this
    subst this
    exact ⟨oc,k _ _ hoc,hd⟩
 ·obtain ⟨v,oc,hoc,hd⟩:=I.cell x c (B.cells I.ok h).1
  exact ⟨v,oc,k _ _ hoc,hd⟩
 ·show (stB own cap σ).length=NB.length
  unfold stB
  rw [hlen];simp
theorem Blk.done (B:Blk X scope NB own cap)(I:Inv X Ks σ H s)(hf:∀ b∈fp,mj X Ks H b){σB:St}{H':Hp}{s':Shared}{h'':Heap}{D:Addr}{ys:List V}{its:List Value}{n:Nat}(hC:s.heap.objs.size≤C)(hD:s.heap.objs.size≤D)(hDC:D≠C)
  (J:Inv (cxB X NB own scope C fp s H) [] σB H' s') (hn:H' D=none) (e:s'.heap.get? D=some { cls:=.type "list",data:=.seq its.toArray n }) (hv:a8 ys its) (hz:ys.length≤sizeLine)
  (sb:Heap.SameBut C s'.heap h''):Inv X Ks σ (upd H' D (.lst ys)) { s' with heap:=h'' }:=by
 have un:Un (frs X.stack) fp H H' s.heap s'.heap:=J.base
 have neC:∀ {b o},s.heap.get? b=some o→b≠C:=fun q=>EK (Et (Em q) hC)
 have neD:∀ {b o},s.heap.get? b=some o→b≠D:=fun q=>EK (Et (Em q) hD)
 have hCn:H' C=none:=J.free
 refine I.call' (s':={ s' with heap:=h'' }) (ch:=fp) J.os ⟨fun b o q n hb hx=>?_,fun b o q n hb hx=>?_,fun b o q n hx=>?_,fun b o q hx=>?_,fun b xs q=>?_,fun b o u q=>?_,fun b ps q=>?_⟩ (fun b u q=>?_) J.bare fun b hb=>?_
 ·exact (sb.2 b (neC q)).trans (un.keep b o q n hb hx)
 ·obtain ⟨sl,r⟩:=un.slot b o q n hb hx
  exact ⟨sl,(sb.2 b (neC q)).trans r⟩
 ·rw [ar (neD q)]
  exact un.free b o q n hx
 ·obtain ⟨o',r⟩:=un.there b o q hx
  exact ⟨o',(sb.2 b (neC q)).trans r⟩
 ·have r:=un.tups b xs q
  rw [ar (aw r hn)]
  exact r
 ·have r:=un.frzs b o u q
  rw [ar (aw r hn)]
  exact r
 ·obtain ⟨more,r⟩:=un.tbls b ps q
  exact ⟨more,by rw [ar (aw r hn)];exact r⟩
 ·by_cases hb:b=D
  ·subst hb
   rw [ag] at q
   cases q
   exact ⟨hz,its,n,hv,(sb.2 b hDC).trans e⟩
  ·rw [ar hb] at q
   refine (J.hok b u q).stay (fun c v hc r=>(sb.2 c ?_).trans r) (fun c r=>?_) fun c xs r=>?_
   ·rcases hc with z | z
    ·rw [z];exact aw q hCn
    ·exact aw z hCn
   ·rw [ar (aw r hn)];exact r
   ·rw [ar (aw r hn)];exact r
 ·obtain ⟨_,f1,_,f3,f4,f5⟩:=hf b hb
  exact ⟨f3,f1,f4,f5⟩
end
def PIf (X:Cx)(ifs:List Expr)(t:TT):Prop :=
 ∀ (Ks:List (Addr × Obj)) (s:Shared) (σ:St) (H:Hp) (Q:Bool→Hp→Prop),Inv X Ks σ H s→t σ H Q →
  wpAny (model X.prog X.w) X.A (forIn ifs true fun c r=>if r=true then do let ok ← isTrue c X.env (eval c X.env);pure (ForInStep.yield ok) else pure (ForInStep.yield r)) (TP X Ks σ Q) X.xe s
def DK:TT:=fun _ H Q=>Q true H
theorem bu {X:Cx}:PIf X [] DK:=fun _ _ _ H _ I h=>wpAny_tests_nil ⟨H,I,h⟩
theorem iT {X:Cx}{c:Expr}{t:TT}(h:PT X c t):PIf X [c] t:=fun Ks s σ H Q I q=>wpAny_tests_one (h Ks s σ H Q I q)
section
variable {prog:Program} {w:World} {A:Around} {R:Result→Shared→Prop} {s:Shared}
abbrev noE:Value→Shared→Prop:=fun _ _=>False
theorem px {elt tg iter:Expr}{ifs:List Expr}{scope:Scope}{pos:Pos}{it acc:Value}{env:Env}(I:Nat→Shared→Prop)
  (turn:∀ n s,I n s→wpAny (model prog w) A (pyNext it) (fun r s₁=>match r with
   | none=>R (.ok .next) s₁
   | some v=>wpAny (model prog w) A (letOwnedTupleGo tg it v) (fun _ s₀=>wpAny (model prog w) A (assign tg env v) (fun _ s₂ =>
     wpAny (model prog w) A (forIn ifs true fun c r=>if r=true then do let ok ← isTrue c env (eval c env);pure (ForInStep.yield ok) else pure (ForInStep.yield r)) (fun ok s₃ =>
      if ok=true then wpAny (model prog w) A (eval elt env) (fun x s₄=>wpAny (model prog w) A (call (.builtin "list.append") [acc,x]) (fun _ s₅=>∃ m,m < n∧I m s₅) noE s₄) noE s₃
      else ∃ m,m < n∧I m s₃) noE s₂) noE s₀) noE s₁) noE s)
  (n:Nat) (h:I n s):codeAny (model prog w) A (.compLoop (.ListComp elt [⟨tg,iter,ifs,0⟩] scope pos) 0 it acc env) R s:=by
 refine codeAny_loop rfl I (fun n s hI=>?_) n h
 show wpAny _ A ((compTurn (.ListComp elt [⟨tg,iter,ifs,0⟩] scope pos) 0 it acc env).onRaise (fun x=>do noteFrame x env;theTreesLotGoes x)) _ _ s
 refine wpAny_noted ?_
 rw [compTurn_list]
 refine fu (GZ (fu (Fm (turn n s hI) (fun r s₁ h₁=>?_) fun _ _ z=>False.elim z)))
 cases r with
 | none=>exact Eb h₁
 | some v =>
  refine fu (Fm h₁ (fun _ s₀ h₀=>fu (Fm h₀ (fun _ s₂ h₂=>fu (Fm h₂ (fun ok s₃ h₃=>?_) fun _ _ z=>False.elim z)) fun _ _ z=>False.elim z)) fun _ _ z=>False.elim z)
  cases ok with
  | false=>exact Eb ⟨rfl,h₃⟩
  | true=>exact fu (fu (Fm h₃ (fun x s₄ h₄=>fu (Fm h₄ (fun _ s₅ h₅=>Eb (Eb ⟨rfl,h₅⟩)) fun _ _ z=>False.elim z)) fun _ _ z=>False.elim z))
end
def tO (own:List Str)(cap:List Nat)(g:TG)(ti:TT)(te:TE)(Q:VK)(σ:St)(J:It)(H1:Hp):Prop:=∃ W:Nat→Nat→List V→St→Hp→Prop,(∃ m,W 0 m [] (stB own cap σ) H1)∧∀ i m ys σ H,W i m ys σ H →
 (J.stop i H∧ys.length≤sizeLine∧∀ D,H D=none→Q (.ref D) (upd H D (.lst ys))) ∨
 (J.go i H∧ys.length < sizeLine∧∀ x H',J.yld i H x H'→g x σ H' fun σ2 H2=>ti σ2 H2 fun b H3=>if b=true then te σ2 H3 fun y H4=>∃ m',m' < m∧W (i+1) m' (ys++[y]) σ2 H4 else ∃ m',m' < m∧W (i+1) m' ys σ2 H3)
def xy (own:List Str)(cap:List Nat)(wi:TI)(g:TG)(ti:TT)(te:TE):TE:=fun σ H Q=>wi σ H fun J H1=>tO own cap g ti te Q σ J H1
theorem mB {X:Cx}{pos2:Pos}{use:Option (Value→Sem Unit)}{QQ:Value→Shared→Prop}{Ks:List (Addr × Obj)}{s:Shared}{σ:St}{H:Hp}{Q:VK}{elt iter tg:Expr}{ifs:List Expr}{scope:Scope}{pos:Pos}{NB own:List Str}{cap:List Nat}{wi:TI}{g:TG}{ti:TT}{te:TE}(B:Blk X scope NB own cap)(hc:X.calm=true)(hi:PI X tg iter wi)
  (hg:∀ C fp s₀ H₀,PG (cxB X NB own scope C fp s₀ H₀) tg g) (ht:∀ C fp s₀ H₀,PIf (cxB X NB own scope C fp s₀ H₀) ifs ti) (he:∀ C fp s₀ H₀,PE (cxB X NB own scope C fp s₀ H₀) elt te)
  (hs:∀ x,foldedSetIterable iter X.env x=pure x) (I0:Inv X Ks σ H s) (h:xy own cap wi g ti te σ H Q)
  (fin:∀ (fp:List Addr) (C:Addr) (s2 s4:Shared) (H2 H3:Hp) (σ3:St) (its:List Value) (ys:List V) (k:Nat),Inv X Ks σ H2 s2→(∀ b∈fp,mj X Ks H2 b)→s2.heap.objs.size≤C→s2.heap.objs.size≠C→Inv (cxB X NB own scope C fp s2 H2) [] σ3 H3 s4→H3 s2.heap.objs.size=none→s4.heap.get? s2.heap.objs.size=some { cls:=.type "list",data:=.seq its.toArray k }→a8 ys its→ys.length≤sizeLine→Q (.ref s2.heap.objs.size) (upd H3 s2.heap.objs.size (.lst ys)) →
   compPost (model X.prog X.w) X.A X.xe use QQ (.ref s2.heap.objs.size) C (.ok .next) s4):wpAny (model X.prog X.w) X.A (comprehension (.ListComp elt [⟨tg,iter,ifs,0⟩] scope pos) scope X.env pos2 (newList []) false (eval iter X.env) use) QQ X.xe s:=by
 have hclos:=iS (env:=X.env) (scope:=scope) fun y hy e=>I0.ok.has y.1 (.inl (B.free y hy e))
 refine wpAny_comprehension_free (use:=use) rfl hs hclos B.kind B.names (thn (hi Ks s σ H _ I0 h) fun v s1 h1=>thn h1 fun itv s2 h2=>?_)
 obtain ⟨it,fp,tn,J,H2,rfl,I,T,st2,f2,W,⟨m0,w0⟩,turn⟩:=h2
 refine wpAny_newList ?_
 refine wpAny_newFunctionEnv B.nocell (by intro y hy;simp at hy) (fun h₁ hns₁ hsb₁=>?_) B.kind
 dsimp only at hns₁ hsb₁ ⊢
 generalize hP:s2.heap.push { cls:=.type "list",dict:=none,data:=.seq ([]:List Value).toArray }=P at hns₁ hsb₁ ⊢
 have hC:P.objs.size=s2.heap.objs.size+1:=by rw [← hP,Fw]
 have hDC:s2.heap.objs.size≠P.objs.size:=by rw [hC];exact EK (Nat.lt_succ_self _)
 have KZ:s2.heap.objs.size≤P.objs.size:=by rw [hC];exact Hh _
 have old:∀ b o,s2.heap.get? b=some o→h₁.get? b=some o:=fun b o e=>by
  refine (hsb₁.2 b ?_).trans (D_ _ (hP ▸ D_ _ e))
  exact EK (Et (Em e) KZ)
 have hD:h₁.get? s2.heap.objs.size=some { cls:=.type "list",data:=.seq ([]:List Value).toArray 0 }:=by
  refine (hsb₁.2 _ hDC).trans (D_ _ ?_)
  rw [← hP]
  exact El _ rfl
 have hfs:∀ b∈fp,∃ o,s2.heap.get? b=some o:=fun b hb=>let ⟨o,e,_⟩:=T.obj _ _ st2 b hb;⟨o,e⟩
 have st4:tn 0 h₁:=T.keep _ _ _ st2 fun b _ o e=>old b o e
 generalize htk:s2.toks+([]:List (Str × Value)).length=tk4
 have I4:=B.start (C:=P.objs.size) (tk:=tk4) I f2 hfs KZ old hns₁
 have fOk:∀ {H':Hp} {b:Addr} {ob:Obj},b∈fp→H' b=none→mj (cxB X NB own scope P.objs.size fp s2 H2) [(s2.heap.objs.size,ob)] H' b:=fun {H' b ob} hb hn=>by
  obtain ⟨o,e⟩:=hfs b hb
  refine ⟨hn,(I4.ok.exf b hb).1,I4.ok.exfs b hb,.inl hb,(I4.ok.exf b hb).2,fun p hp=>?_⟩
  have ep:p=(s2.heap.objs.size,ob):=Eu.mp (show p∈[(s2.heap.objs.size,ob)] from hp)
  rw [ep]
  exact fun z=>absurd (Em e) (by rw [← z];exact E9 _)
 have dnf:s2.heap.objs.size∉frs X.stack:=fun z=>by
  rcases Ei.mp (I.stkSub _ z) with z | z
  ·exact absurd I.lt (by rw [← z];exact E9 _)
  ·exact I.nofs (Eg _) z
 have I3D:∀ {σ3:St} {H3:Hp} {s3:Shared} {its:List Value} {k:Nat},Inv (cxB X NB own scope P.objs.size fp s2 H2) [] σ3 H3 s3→s3.heap.get? s2.heap.objs.size=some { cls:=.type "list",data:=.seq its.toArray k }→H3 s2.heap.objs.size=none →
   Inv (cxB X NB own scope P.objs.size fp s2 H2) [(s2.heap.objs.size,{ cls:=.type "list",data:=.seq its.toArray k })] σ3 H3 s3:=fun I3 e n=>I3.pins_of fun p hp=>by
  have ep:=Eu.mp hp
  subst ep
  exact ⟨e,n,hDC,dnf,fun v z=>by cases z⟩
 have ndf:s2.heap.objs.size∉fp:=fun z=>by
  obtain ⟨o,e⟩:=hfs _ z
  exact absurd (Em e) (E9 _)
 have nCD:∀ x c,(cxB X NB own scope P.objs.size fp s2 H2).env.cells.lookup x=some c→c≠s2.heap.objs.size:=fun x c e z=>by
  obtain ⟨v,o,ho,_⟩:=I.cell x c (B.cells I.ok e).1
  rw [z] at ho
  exact absurd (Em ho) (E9 _)
 have loop:∀ s₃:Shared,s₃ = { s2 with heap:=h₁,toks:=tk4 }→codeAny (model X.prog X.w) X.A (.compLoop (.ListComp elt [⟨tg,iter,ifs,0⟩] scope pos) 0 (.ref it) (.ref s2.heap.objs.size) (cxB X NB own scope P.objs.size fp s2 H2).env)
   (compPost (model X.prog X.w) X.A X.xe use QQ (.ref s2.heap.objs.size) P.objs.size) s₃:=by
  rintro s₃ rfl
  refine px (fun n s'=>∃ i σB H' ys its k,Inv (cxB X NB own scope P.objs.size fp s2 H2) [] σB H' s'∧tn i s'.heap∧(∀ b∈fp,H' b=none)∧s'.heap.get? s2.heap.objs.size=some { cls:=.type "list",data:=.seq (its:List Value).toArray k }∧a8 ys its∧H' s2.heap.objs.size=none∧W i n ys σB H') ?_ m0
   ⟨0,stB own cap σ,H2,[],[],0,I4,st4,fun b hb=>(f2 b hb).1,hD,.nil,I.hok.fresh (Eg _),w0⟩
  rintro n s3 ⟨i,σ3,H3,ys,its,k,I3,st3,fr3,hD3,rv,hn3,w3⟩
  rcases turn i n ys σ3 H3 w3 with ⟨stop,hz,q⟩ | ⟨go,hz,step⟩
  ·refine thn (T.done (cxB X NB own scope P.objs.size fp s2 H2) rfl rfl rfl hc i _ s3 σ3 H3 noE (I3D I3 hD3 hn3) (fun b hb=>fOk hb (fr3 b hb)) st3 stop) fun r s4 Lg=>?_
   obtain ⟨hr,I4'⟩:=Lg
   subst hr
   have hD4:s4.heap.get? s2.heap.objs.size=some { cls:=.type "list",data:=.seq (its:List Value).toArray k }:=(I4'.pin (s2.heap.objs.size,_) (Ey _ (Eu.mpr rfl))).1
   have I5:Inv (cxB X NB own scope P.objs.size fp s2 H2) [] σ3 H3 s4:=I4'.pins_of fun p hp=>absurd (show p∈([]:List (Addr × Obj)) from hp) (by simp)
   exact fin fp _ s2 s4 H2 H3 σ3 its ys k I f2 KZ hDC I5 hn3 hD4 rv hz (q _ hn3)
  ·refine thn (T.item (cxB X NB own scope P.objs.size fp s2 H2) rfl rfl rfl hc i _ s3 σ3 H3 noE (I3D I3 hD3 hn3) (fun b hb=>fOk hb (fr3 b hb)) st3 go) fun r s4 zq2=>?_
   obtain ⟨u,hr,h4⟩:=zq2
   subst hr
   refine thn h4 fun _ s5 zq3=>?_
   obtain ⟨x,H5,I5,r5,y5,st5,fr5⟩:=zq3
   have I5':=I5.pinned (fun b hb=>fOk hb (fr5 b hb)) (T.obj _ _ st5)
   refine thn (hg _ fp s2 H2 _ s5 σ3 H5 x u _ I5' r5 (step x H5 y5)) fun _ s6 zq4=>?_
   obtain ⟨σ6,H6,I6,q6⟩:=zq4
   refine thn (ht _ fp s2 H2 _ s6 σ6 H6 _ I6 q6) fun b s7 zq5=>?_
   obtain ⟨H7,I7,q7⟩:=zq5
   have pinned:∀ {σ8:St} {H8:Hp} {s8:Shared},Inv (cxB X NB own scope P.objs.size fp s2 H2) ([(s2.heap.objs.size,{ cls:=.type "list",data:=.seq (its:List Value).toArray k })]++jL fp s5.heap) σ8 H8 s8 →
     tn (i+1) s8.heap∧(∀ b∈fp,H8 b=none)∧s8.heap.get? s2.heap.objs.size=some { cls:=.type "list",data:=.seq (its:List Value).toArray k }∧H8 s2.heap.objs.size=none:=fun {σ8 H8 s8} I8=>by
    refine ⟨T.keep _ _ _ st5 fun b hb o e=>(I8.pin (b,o) (Ey _ (Ey _ (dP hb e)))).1,fun b hb=>?_,?_,?_⟩
    ·obtain ⟨o,e,d⟩:=T.obj _ _ st5 b hb
     exact (I8.pin (b,o) (Ey _ (Ey _ (dP hb e)))).2.1
    ·exact (I8.pin (s2.heap.objs.size,_) (Ey _ (E1 _ (Eu.mpr rfl)))).1
    ·exact (I8.pin (s2.heap.objs.size,_) (Ey _ (E1 _ (Eu.mpr rfl)))).2.1
   have nopin:∀ {pp:List (Addr × Obj)} {σ8:St} {H8:Hp} {s8:Shared},Inv (cxB X NB own scope P.objs.size fp s2 H2) pp σ8 H8 s8→Inv (cxB X NB own scope P.objs.size fp s2 H2) [] σ8 H8 s8:=fun I8=>I8.pins_of fun p hp=>absurd (show p∈([]:List (Addr × Obj)) from hp) (by simp)
   cases b with
   | false =>
    rw [if_neg Ez] at q7 ⊢
    obtain ⟨m',hm,w7⟩:=q7
    obtain ⟨p1,p2,p3,p4⟩:=pinned I7
    exact ⟨m',hm,i+1,σ6,H7,ys,its,k,nopin I7,p1,p2,p3,rv,p4,w7⟩
   | true =>
    rw [if_pos rfl] at q7 ⊢
    refine thn (he _ fp s2 H2 _ s7 σ6 H7 _ I7 q7) fun yv s8 zq6=>?_
    obtain ⟨y,H8,I8,r8,m',hm,w8⟩:=zq6
    obtain ⟨p1,p2,p3,p4⟩:=pinned I8
    refine HL F.slot_list_append ⟨_,p3,rfl⟩ F.entry_list_append (F.args_list_append_2 _ _) (PySem.list_append s2.heap.objs.size its.toArray k yv (by rw [Eo,← rv.length];omega)) ⟨p3,?_⟩
    have q:=PySem.IsL.update p3 fun a=>a.push yv
    have ea:its.toArray.push yv=(its++[yv]).toArray:=by simp
    rw [ea] at q
    have I9:Inv (cxB X NB own scope P.objs.size fp s2 H2) [] σ6 H8 { s8 with heap:=s8.heap.update s2.heap.objs.size (Obj.mapSeq fun a=>a.push yv),toks:=s8.toks } :=
     (nopin I8).turned (it:=s2.heap.objs.size) (fun b o hb e=>(EZ s8.heap _ (Ne.symm hb)).trans e) p4 hDC (.inr (Eg _)) (fun x c e=>nCD x c e) fun p hp=>absurd (show p∈([]:List (Addr × Obj)) from hp) (by simp)
    refine ⟨m',hm,i+1,σ6,H8,ys++[y],its++[yv],_,I9,?_,p2,q,rv.append (.cons r8 .nil),p4,w8⟩
    refine T.keep _ _ _ p1 fun b hb o e=>(EZ s8.heap _ ?_).trans e
    intro z
    rw [z] at ndf
    exact ndf hb
 exact codeAny_compStart_list (loop _ rfl) (T.self X.A 0 _ _ _ st4 (loop _ rfl))
theorem bH {X:Cx}{elt iter tg:Expr}{ifs:List Expr}{scope:Scope}{pos:Pos}{NB own:List Str}{cap:List Nat}{wi:TI}{g:TG}{ti:TT}{te:TE}(B:Blk X scope NB own cap)(hc:X.calm=true)(hi:PI X tg iter wi)
  (hg:∀ C fp s₀ H₀,PG (cxB X NB own scope C fp s₀ H₀) tg g) (ht:∀ C fp s₀ H₀,PIf (cxB X NB own scope C fp s₀ H₀) ifs ti) (he:∀ C fp s₀ H₀,PE (cxB X NB own scope C fp s₀ H₀) elt te)
  (hs:∀ x,foldedSetIterable iter X.env x=pure x:=by intro _;rfl):PE X (.ListComp elt [⟨tg,iter,ifs,0⟩] scope pos) (xy own cap wi g ti te):=by
 intro Ks s σ H Q I0 h
 rw [eval_ListComp]
 refine mB (use:=none) (QQ:=EP X Ks σ Q) B hc hi hg ht he hs I0 h fun fp C s2 s4 H2 H3 σ3 its ys k I f2 KZ hDC I5 hn3 hD4 rv hz q=>?_
 obtain ⟨mC,hnC,_⟩:=I5.loc
 exact ⟨mC,hnC,fun h'' sb=>⟨.ref s2.heap.objs.size,_,B.done I f2 KZ (Eg _) hDC I5 hn3 hD4 rv hz sb,rfl,q⟩⟩
theorem cT {own:List Str}{cap:List Nat}{J:It}{g:TG}{ti:TT}{te:TE}{σ:St}{H:Hp}{Q:VK}(n:Nat)(Pv:Nat→List V→St→Hp→Prop)(h0:Pv 0 [] (stB own cap σ) H)(hz:∀ i ys σ H,i≤n→Pv i ys σ H→ys.length≤i)(hn:n≤sizeLine)
  (hgo:∀ i ys σ H,i < n→Pv i ys σ H→J.go i H) (KP:∀ ys σ H,Pv n ys σ H→J.stop n H)
  (hs:∀ i ys σ H x H' (N:List V→St→Hp→Prop),i < n→Pv i ys σ H→J.yld i H x H'→(∀ ys' σ' H'',Pv (i+1) ys' σ' H''→N ys' σ' H'')→g x σ H' fun σ2 H2=>ti σ2 H2 fun b H3=>if b=true then te σ2 H3 fun y H4=>N (ys++[y]) σ2 H4 else N ys σ2 H3)
  (hd:∀ ys σ H D,Pv n ys σ H→H D=none→Q (.ref D) (upd H D (.lst ys))) :
  tO own cap g ti te Q σ J H:=by
 refine ⟨fun i m ys σ H=>m=n - i∧i≤n∧Pv i ys σ H,⟨n,by simp,E5 _,h0⟩,?_⟩
 rintro i m ys σ H ⟨rfl,hi,p⟩
 have hl:=hz i ys σ H hi p
 by_cases KB:i < n
 ·refine .inr ⟨hgo i ys σ H KB p,by omega,fun x H' y=>?_⟩
  exact hs i ys σ H x H' (fun ys' σ' H''=>∃ m',m' < n - i∧m'=n - (i+1)∧i+1≤n∧Pv (i+1) ys' σ' H'') KB p y fun ys' σ' H'' q=>⟨n - (i+1),by omega,rfl,KB,q⟩
 ·have e:i=n:=by omega
  subst e
  exact .inl ⟨KP ys σ H p,by omega,fun D hD=>hd ys σ H D p hD⟩
def Its (z:Str):It:=⟨fun i _=>i < z.cps.size,fun i H x H'=>H'=H∧∃ c,z.cps[i]? = some c∧x = .str ⟨#[c]⟩,fun i _=>i=z.cps.size⟩
theorem cU {P:Program}{w:World}{K:PySem.W.Frag}{tg:Expr}{it n:Nat}{Pv:Nat→Value→Prop}{st:Nat→Heap→Prop}{J:It}{T:String}{fl:Nat→Array Value}
  (W:∀ A:Around,A.handled=none→Walks P w A it [it] [it] n Pv st) (KP:∀ i h,st i h→∃ o,h.get? it=some o∧o.cls = .type T∧o.data = .fields (fl i))
  (hT:["enumerate","zip","dict_itemiterator","dict_reverseitemiterator","odict_iterator","itertools.zip_longest","itertools.pairwise"].contains T=false)
  (hgo:∀ i H,J.go i H→i < n) (hstop:∀ i H,J.stop i H→i=n) (hy:∀ i H u,J.go i H→Pv i u→∃ x,bq x u∧J.yld i H x H)
  (hself:∀ (A:Around) (i:Nat) (s:Shared) (Q:Value→Shared→Prop) (E:Value→Shared→Prop),st i s.heap→Q (.ref it) s→wpAny (model P w) A (pyIter (.ref it)) Q E s):sX P w K tg J [it] it st where
 mem:=by simp
 obj:=fun i h s b hb=>by
  have e:b=it:=by simpa using hb
  subst e
  obtain ⟨o,e,c,d⟩:=KP i h s
  exact ⟨o,e,fun v z=>by rw [d] at z;cases z⟩
 keep:=fun i h h' s k=>(W {} rfl).frame i h h' s k
 item:=by
  intro X hP hw hK hc i Ks s σ H E I hf s0 hg
  subst hP hw hK
  obtain ⟨f0,f1,f2,f3,f4,f5⟩:=hf it (by simp)
  refine (W X.A (I.ok.hd hc)).item i s _ _ (hgo i H hg) s0 fun v h' tk hv Lm kk=>?_
  have I1:Inv X Ks σ H { s with heap:=h',toks:=tk }:=I.turned (fun b o hb e=>kk b o (by simpa using hb) e) f0 f1 f3 f4 f5
  obtain ⟨o,e,c,d⟩:=KP _ _ Lm
  obtain ⟨x,rx,yx⟩:=hy i H v hg hv
  exact ⟨v,rfl,sY (s:={ s with heap:=h',toks:=tk }) e c d hT ⟨x,H,I1,rx,yx,Lm,fun b hb=>(hf b hb).1⟩⟩
 done:=by
  intro X hP hw hK hc i Ks s σ H E I hf s0 hg
  subst hP hw hK
  obtain ⟨f0,f1,f2,f3,f4,f5⟩:=hf it (by simp)
  have e:=hstop i H hg
  subst e
  exact (W X.A (I.ok.hd hc)).done s _ _ s0 fun h' tk kk=>⟨rfl,I.turned (fun b o hb e=>kk b o (by simpa using hb) e) f0 f1 f3 f4 f5⟩
 self:=hself
section
variable {X:Cx} {tg:Expr}
def DM (tl:TE):TI:=fun σ H R=>tl σ H fun x H1=>∃ z,x = .str z∧R (Its z) H1
theorem pz {z:Str}{i:Nat}{H:Hp}{u:Value}(h:SignAt z i u):∃ x,bq x u∧(Its z).yld i H x H:=by
 obtain ⟨c,t,e,rfl⟩:=h
 exact ⟨.str ⟨#[c]⟩,⟨t,rfl⟩,rfl,c,e,rfl⟩
theorem gD {l:Expr}{tl:TE}(hl:PE X l tl):PI X tg l (DM tl):=by
 intro Ks s σ H R I h
 refine thn (hl Ks s σ H _ I h) fun v s1 Lg=>?_
 obtain ⟨x,H1,I1,r1,q1⟩:=Lg
 obtain ⟨z,rfl,q⟩:=q1
 obtain ⟨t,rfl⟩:=r1
 have fp:∀ b∈[s1.heap.objs.size],mj X Ks H1 b:=fun b hb=>by
  have e:b=s1.heap.objs.size:=by simpa using hb
  subst e
  exact I1.fpOk (Eg _) (I1.hok.fresh (Eg _))
 cases ha:z.cps.all (· < 128)
 ·refine wpAny_pyIter_wide ha ⟨s1.heap.objs.size,[s1.heap.objs.size],_,Its z,H1,rfl,I1.kept (t':=s1.toks) fun b o e=>D_ _ e,
   cU (T:="str_iterator") (fl:=fun i=>#[.str z t,.int i 0]) (fun A hh=>Walks.strWide hh _ z t) (fun i h st=>st) (by decide) (fun i H g=>g) (fun i H g=>g) (fun i H u _ hu=>pz hu) (fun A i s Q E st h=>wpAny_pyIter_striter_wide st h),⟨_,El _ rfl,rfl,rfl⟩,fp,q⟩
 ·refine Ht ha ⟨s1.heap.objs.size,[s1.heap.objs.size],_,Its z,H1,rfl,I1.kept (t':=s1.toks) fun b o e=>D_ _ e,
   cU (T:="str_ascii_iterator") (fl:=fun i=>#[.str z t,.int i 0]) (fun A hh=>Walks.strAscii hh _ z t) (fun i h st=>st) (by decide) (fun i H g=>g) (fun i H g=>g) (fun i H u _ hu=>pz hu) (fun A i s Q E st h=>wpAny_pyIter_striter_ascii st h),⟨_,El _ rfl,rfl,rfl⟩,fp,q⟩
inductive Da (x:V)(lo:Option Int)(hi:Option Int)(H:Hp)(Q:VK):Prop
 | mk:∀ z,(x = .str z)→(z.length≤sizeLine)→(Q (.str (Txt.slice z lo hi)) H)→Da x lo hi H Q
theorem dm:SlR X Da:=by
 intro Ks s σ H x v vl vu lo hi sl Q I rx hs pl pu h
 obtain ⟨z,rfl,hz,q⟩:=h
 obtain ⟨t,rfl⟩:=rx
 have fin:∀ (lo hi:Option Int),Q (.str (Txt.slice z lo hi)) H→∀ t' k,EP X Ks σ Q (.str (Txt.slice z lo hi) t') { s with toks:=k }:=fun lo hi q t' k=>⟨.str _,H,I.tok _,⟨_,rfl⟩,q⟩
 refine ⟨"str",_,F.slot_str_getitem.lookup,GV _ _ _,?_⟩
 cases pl with
 | none =>
  cases pu with
  | none=>exact Gx (l:=none) (u:=none) (st:=none) hs rfl (IC ⟨EV (H_ z _ _) hz,fun t' k=>fin _ _ q t' k⟩)
  | int j uj=>exact Gx (l:=none) (u:=some (j,uj)) (st:=none) hs rfl (IC ⟨EV (H_ z _ _) hz,fun t' k=>fin _ _ q t' k⟩)
 | int i ui =>
  cases pu with
  | none=>exact Gx (l:=some (i,ui)) (u:=none) (st:=none) hs rfl (IC ⟨EV (H_ z _ _) hz,fun t' k=>fin _ _ q t' k⟩)
  | int j uj=>exact Gx (l:=some (i,ui)) (u:=some (j,uj)) (st:=none) hs rfl (IC ⟨EV (H_ z _ _) hz,fun t' k=>fin _ _ q t' k⟩)
inductive vS (x:V)(vs:List V)(H:Hp)(Q:VK):Prop
 | mk:∀ z,(x = .str z)→(vs=[])→(z.length≤5592405)→(Q (.str (Txt.upper z)) H)→vS x vs H Q
inductive vT (x:V)(vs:List V)(H:Hp)(Q:VK):Prop
 | mk:∀ z,(x = .str z)→(vs=[])→(z.length≤5592405)→(Q (.str (Txt.lower z)) H)→vT x vs H Q
theorem fX:MtR X "str.upper" vS:=by
 intro Ks s σ H x vs v us Q I rx rv h
 obtain ⟨z,rfl,rfl,hz,q⟩:=h
 obtain ⟨t,rfl⟩:=rx
 cases rv
 exact SCL.upper hz fun _=>⟨.str _,H,I.tok _,⟨_,rfl⟩,q⟩
theorem fY:MtR X "str.lower" vT:=by
 intro Ks s σ H x vs v us Q I rx rv h
 obtain ⟨z,rfl,rfl,hz,q⟩:=h
 obtain ⟨t,rfl⟩:=rx
 cases rv
 exact SCL.lower hz fun _=>⟨.str _,H,I.tok _,⟨_,rfl⟩,q⟩
theorem ff:∀ {ys:List Str} {us:List Value},a8 (ys.map V.str) us→StrsAre us ys
 | [],_,r=>by
  rw [Hl] at r
  cases r
  exact .nil
 | y::ys,us,r=>by
  rw [EO] at r
  cases r with
  | cons r1 r2 =>
   obtain ⟨t,e⟩:=r1
   subst e
   exact .cons y t (ff r2)
inductive zT (K:PySem.W.Frag)(x:V)(vs:List V)(H:Hp)(Q:VK):Prop
 | mk:∀ z p ys,(x = .str z)→(vs=[.ref p])→(SqL K H p (ys.map V.str))→((ys.map (·.length)).sum+ys.length*z.length≤16777216)→(Q (.str (Txt.join z ys)) H)→zT K x vs H Q
theorem iU:MtR X "str.join" (zT X.K):=by
 intro Ks s σ H x vs v us Q I rx rv h
 obtain ⟨z,p,ys,rfl,rfl,hq,hz,q⟩:=h
 obtain ⟨t,rfl⟩:=rx
 obtain ⟨u,rfl,ru⟩:=cJ rv
 cases ru
 obtain ⟨its,r,pl,_⟩:=I.list hq
 exact join_list pl.isList (by simpa using ff r) hz fun t' k=>⟨.str _,H,I.tok _,⟨_,rfl⟩,q⟩
end
theorem iV {z:Str}{g:TG}{tb:TS}{D:gW}{σ:St}{H:Hp}(Pv:Nat→St→Hp→Prop)(h0:Pv 0 σ H)
  (hs:∀ i c σ H,z.cps[i]? = some c→Pv i σ H→g (.str ⟨#[c]⟩) σ H fun σ2 H2=>tb { D with nx:=Pv (i+1),ct:=Pv (i+1),bk:=D.nx } σ2 H2) (hd:∀ σ H,Pv z.cps.size σ H→D.nx σ H) :
  ∃ W:Nat→Nat→St→Hp→Prop,(∃ m,W 0 m σ H)∧∀ i m σ H,W i m σ H →
   ((Its z).stop i H∧D.nx σ H) ∨ ((Its z).go i H∧∃ N:St→Hp→Prop,(∀ σ' H',N σ' H'→∃ m',m' < m∧W (i+1) m' σ' H')∧∀ x H',(Its z).yld i H x H'→g x σ H' fun σ2 H2=>tb { D with nx:=N,ct:=N,bk:=D.nx } σ2 H2):=by
 refine ⟨fun i m σ H=>m=z.cps.size - i∧i≤z.cps.size∧Pv i σ H,⟨z.cps.size,by simp,E5 _,h0⟩,?_⟩
 rintro i m σ H ⟨rfl,hi,p⟩
 by_cases KB:i < z.cps.size
 ·refine .inr ⟨KB,Pv (i+1),fun σ' H' p'=>⟨z.cps.size - (i+1),by omega,rfl,KB,p'⟩,fun x H' y=>?_⟩
  obtain ⟨e,c,hc,ex⟩:=y
  subst e ex
  exact hs i c σ _ hc p
 ·have e:i=z.cps.size:=by omega
  subst e
  exact .inl ⟨rfl,hd σ H p⟩
end L2
namespace PySem
open Sem (wp)
open Builtin Builtin.SmallTypes
namespace F
theorem lookup_str_reversed:typeLookup (.type "str") "__reversed__" = pure none:=by rw [ID,GQ]; kernel_rfl
theorem iW:Slot "reversed" "__init__" "object.__init__" :=
 .of (owner:="object") (n:="__init__") (by rw [ID,GQ];kernel_rfl) (by decide +kernel) (by decide +kernel) (by decide +kernel)
  (by first | exact .inl (by decide +kernel) | exact .inr (by decide +kernel)) (by rw [IW];kernel_rfl)
theorem called_rvs:TypeCalled "reversed" "reversed.__new__" "object.__init__" :=
 ⟨by decide +kernel,create_reversed,⟨_,_,mro_reversed⟩,made_reversed,plain_reversed_new,sub_reversed_self,iW⟩
end F
set_option maxHeartbeats 1000000 in
theorem pA (x:Str)(t:Tok):Meets (Builtin.«reversed.__new__» ⟨[.type "reversed",.str x t],[]⟩) (fun _ R s=>¬ (x.length:Int)≥2 ^ 63 ∧
   ∀ tk,R (.ok (.ret (.ref s.heap.objs.size))) { s with heap:=s.heap.push { cls:=.type "reversed",data:=.fields #[.str x t,rawInt ((x.length:Int) - 1)] },toks:=tk }) :=
 .of_wp fun prog w A R s h=>by
  obtain ⟨hx,h⟩:=h
  unfold Builtin.«reversed.__new__»
  refine fu (Hi (newClass_reversed _) ?_)
  try dsimp only
  refine fu (Hi (a:=()) (by first | rfl | kernel_rfl) ?_)
  refine fu (Hi (a:=()) (by first | rfl | kernel_rfl) ?_)
  try dsimp only
  refine fu (Jq (GV s x t) F.lookup_str_reversed ?_)
  try dsimp only
  refine fu ?_
  have hl:=F.slot_str_getitem.lookup
  have hT:=GV s x t
  have hD:isSubtype (.type "str") (.type "dict")=pure false:=by rw [IW];kernel_rfl
  repeat (any_goals (first | assumption | refine PySem.P.len_str hx ?_ | wp_step))
  exact ⟨_,rfl,h _⟩
def Heap.IsRvs (h:Heap)(a:Addr)(x:Str)(t:Tok)(i:Int):Prop:=∃ o,h.get? a=some o∧o.cls = .type "reversed"∧o.data = .fields #[.str x t,rawInt i]
theorem Heap.IsRvs.typeIs {s:Shared}{a:Addr}{x:Str}{t:Tok}{i:Int}(y:s.heap.IsRvs a x t i):s.TypeIs (.ref a) "reversed":=let ⟨o,ho,hc,_⟩:=y; ⟨o,ho,hc⟩
namespace F
theorem slot_rvs_next:Slot "reversed" "__next__" "reversed.__next__" :=
 .of (owner:="reversed") (n:="__next__") (by rw [ID,GQ];kernel_rfl) (by decide +kernel) (by decide +kernel) (by decide +kernel)
  (by first | exact .inl (by decide +kernel) | exact .inr (by decide +kernel)) (by rw [IW];kernel_rfl)
theorem entry_rvs_next:entryFor table "reversed.__next__" = some Builtin.«reversed.__next__»:=entryFor_of_tree (by kernel_rfl)
theorem args_rvs_next (a:Value):argsOk "reversed.__next__" ⟨[a],[]⟩:=by unfold argsOk; kernel_rfl
theorem slot_rvs_iter:Slot "reversed" "__iter__" "reversed.__iter__" :=
 .of (owner:="reversed") (n:="__iter__") (by rw [ID,GQ];kernel_rfl) (by decide +kernel) (by decide +kernel) (by decide +kernel)
  (by first | exact .inl (by decide +kernel) | exact .inr (by decide +kernel)) (by rw [IW];kernel_rfl)
theorem args_rvs_iter (a:Value):argsOk "reversed.__iter__" ⟨[a],[]⟩:=by unfold argsOk; kernel_rfl
theorem entry_rvs_iter:entryFor table "reversed.__iter__" = some Builtin.«dict_keyiterator.__iter__» :=
 entryFor_alias (id':="dict_keyiterator.__iter__") (by kernel_rfl) rfl (by decide +kernel) (by kernel_rfl)
end F
section
variable {prog:Program} {w:World} {A:Around} {E:Value→Shared→Prop} {s:Shared} {x:Str} {t:Tok}
theorem j4 {Q:Value→Shared→Prop}(hx:¬ (x.length:Int)≥2 ^ 63)
  (h:∀ tk,Q (.ref s.heap.objs.size) { s with heap:=s.heap.push { cls:=.type "reversed",data:=.fields #[.str x t,rawInt ((x.length:Int) - 1)] },toks:=tk }):wpAny (model prog w) A (call (.type "reversed") [.str x t]) Q E s :=
 Jr F.called_rvs (by decide) (F.typeCall_reversed_1 _) (F.newCall_reversed_1 _) (fun obj=>F.args_object_init_2 obj _) F.entry_reversed_new (pA x t) ⟨hx,fun tk=>⟨⟨_,El _ rfl,rfl⟩,h tk⟩⟩
theorem iY {it:Addr}{i:Int}{Q:Value→Shared→Prop}(hit:s.heap.IsRvs it x t i)(h:Q (.ref it) s):wpAny (model prog w) A (pyIter (.ref it)) Q E s:=by
 refine wpAny_pyIter_slot hit.typeIs F.slot_rvs_iter (Fe F.slot_rvs_iter hit.typeIs F.entry_rvs_iter ?_ (F.args_rvs_iter _))
 show wpAny _ _ (ret (.ref it)) _ _ s
 exact Eb ⟨_,rfl,"reversed",_,hit.typeIs,F.slot_rvs_next.lookup,h⟩
theorem iZ {it:Addr}{i:Nat}{c:Nat}{Q:Option Value→Shared→Prop}(hit:s.heap.IsRvs it x t (i:Int))(hx:x.cps[i]? = some c)(h63:(i:Int) < 2 ^ 63)
  (hQ:∀ h' tk u,h'.IsRvs it x t ((i:Int) - 1)→Heap.SameBut it s.heap h'→Q (some (.str ⟨#[c]⟩ u)) { s with heap:=h',toks:=tk }):wpAny (model prog w) A (pyNext (.ref it)) Q E s:=by
 obtain ⟨o,ho,hc,hd⟩:=id hit
 unfold pyNext
 refine fu (FV (ES (name:=Str.ofString "__next__") hit.typeIs F.slot_rvs_next
  (Fe F.slot_rvs_next hit.typeIs F.entry_rvs_next ?_ (F.args_rvs_next _))))
 unfold Builtin.«reversed.__next__»
 refine fu (Hi (a:=(Value.ref it,[])) rfl ?_)
 try dsimp only
 refine fu (EF ho hd (x:=.str x t) rfl ?_)
 refine fu (EF ho hd (x:=rawInt (i:Int)) rfl ?_)
 show wpAny _ _ (if (i:Int) < 0 then _ else _) _ _ s
 rw [if_neg (by omega)]
 refine fu (Jq (GV s x t) F.slot_str_getitem.lookup ?_)
 show wpAny _ _ (if (some (Value.builtin "str.__getitem__")).isNone=true then _ else _) _ _ s
 rw [if_neg (by decide)]
 refine fu (wpAny_mkInt ?_)
 have KB:i < x.length:=by
  have:=EM.mp hx
  exact this.1
 refine fu (FV (PySem.P.getItem_str (c:=c) ?_ ?_ ?_))
 ·have e1:decide ((i:Int) < -(2 ^ 63:Int))=false:=Ed (by omega)
  have e2:decide ((i:Int)≥2 ^ 63)=false:=Ed (by omega)
  rw [e1,e2,GW]
 ·rw [PySem.StrLaws.seqIndex_nonneg (by omega) (by omega)]
  simpa using hx
 try dsimp only
 refine fu (EF ho hd (x:=rawInt (i:Int)) rfl ?_)
 show wpAny _ _ (setField (.ref it) 1 (rawInt ((i:Int) - 1)) >>= _) _ _ _
 refine fu (FI ho hd (by simp) ?_)
 refine Eb ⟨_,rfl,Eb (hQ _ _ _ ?_ (Gy ..))⟩
 exact ⟨_,E_ _ ho (Ft (Fk hd _)),(G6 ..).trans hc,by
  rw [Fk hd];simp⟩
theorem j5 {it:Addr}{Q:Option Value→Shared→Prop}(hh:A.handled=none)(hit:s.heap.IsRvs it x t (-1))
  (hQ:∀ h',(∀ b o,b≠it→s.heap.get? b=some o→h'.get? b=some o)→Q none { s with heap:=h' }):wpAny (model prog w) A (pyNext (.ref it)) Q E s:=by
 obtain ⟨o,ho,hc,hd⟩:=id hit
 unfold pyNext
 refine fu (FV (ES (name:=Str.ofString "__next__") hit.typeIs F.slot_rvs_next
  (Fe F.slot_rvs_next hit.typeIs F.entry_rvs_next ?_ (F.args_rvs_next _))))
 unfold Builtin.«reversed.__next__»
 refine fu (Hi (a:=(Value.ref it,[])) rfl ?_)
 try dsimp only
 refine fu (EF ho hd (x:=.str x t) rfl ?_)
 refine fu (EF ho hd (x:=rawInt (-1)) rfl ?_)
 show wpAny _ _ (if (-1:Int) < 0 then _ else _) _ _ s
 rw [if_pos (by decide)]
 refine fu (G7 ?_)
 refine fu ?_
 show wpAny _ _ (setField (.ref it) 1 (rawInt (-1)) >>= fun _=>setField (.ref it) 0 .none) _ _ s
 refine fu (FI ho hd (by simp) ?_)
 have ho2:=E_ (Obj.mapFields fun a=>a.setIfInBounds 1 (rawInt (-1))) ho (Ft (Fk hd _))
 have hd2:=Fk hd fun a=>a.setIfInBounds 1 (rawInt (-1))
 refine FI ho2 hd2 (by simp) ?_
 generalize hh2:(s.heap.update it _).update it _=h2
 have kk:∀ b o,b≠it→s.heap.get? b=some o→h2.get? b=some o:=fun b o hb e=>by
  rw [← hh2]
  exact (EZ _ _ (Ne.symm hb)).trans ((EZ _ _ (Ne.symm hb)).trans e)
 have hz:A.in1.handled=none:=hh
 have sub:=IX
 repeat (any_goals (first | assumption | wp_step))
 unfold raiseNew
 refine fu (wpAny_handled ?_)
 rw [hz]
 refine fu (Eb (wpAny_throw ?_))
 refine fu (Ig (T:="StopIteration") (b:=true) ?_ sub (Eb (hQ _ fun b o hb e=>?_)))
 ·exact ⟨_,El _ rfl,rfl⟩
 exact D_ _ (D_ _ (kk b o hb e))
theorem pB (hh:A.handled=none)(it:Addr)(x:Str)(t:Tok)(h63:(x.cps.size:Int) < 2 ^ 63) :
  Walks prog w A it [it] [it] x.cps.size (fun i v=>∃ c u,x.cps[x.cps.size - 1 - i]? = some c∧v = .str ⟨#[c]⟩ u) (fun i h=>i≤x.cps.size∧h.IsRvs it x t ((x.cps.size:Int) - 1 - (i:Int))) where
 sub:=fun _ hb=>hb
 frame:=fun _ _ _ st hk=>let ⟨l,o,ho,r⟩:=st;⟨l,o,hk it (by simp) o ho,r⟩
 item:=fun i s Q E hi y hQ=>by
  have e:(x.cps.size:Int) - 1 - (i:Int)=((x.cps.size - 1 - i:Nat):Int):=by omega
  have hit:=y.2
  rw [e] at hit
  have hx:x.cps[x.cps.size - 1 - i]? = some (x.cps[x.cps.size - 1 - i]'(by omega)):=FD (by omega)
  refine iZ hit hx (by omega) fun h' tk u hit' hs'=>?_
  have e2:((x.cps.size - 1 - i:Nat):Int) - 1=(x.cps.size:Int) - 1 - ((i+1:Nat):Int):=by omega
  rw [e2] at hit'
  exact hQ _ h' tk ⟨_,u,hx,rfl⟩ ⟨hi,hit'⟩ fun b o hb eo=>hs'.extBut b o (fun h=>hb (by simp [h])) eo
 done:=fun s Q E y hQ=>by
  have e:(x.cps.size:Int) - 1 - (x.cps.size:Int) = -1:=by omega
  have hit:=y.2
  rw [e] at hit
  exact j5 hh hit fun h' he'=>hQ h' s.toks fun b o hb eo=>he' b o (fun h=>hb (by simp [h])) eo
 self:=fun _ _ _ _ y hQ=>iY y.2 hQ
end
end PySem
namespace L2
open PySem PySem.Spec PyProof.Rows
def BP (z:Str):It:=⟨fun i _=>i < z.cps.size,fun i H x H'=>H'=H∧∃ c,z.cps[z.cps.size - 1 - i]? = some c∧x = .str ⟨#[c]⟩,fun i _=>i=z.cps.size⟩
section
variable {X:Cx} {tg:Expr}
def BQ (ta:TA):TI:=fun σ H R=>ta σ H fun vs H1=>∃ z,vs=[.str z]∧z.length≤sizeLine∧R (BP z) H1
theorem xA {a:Expr}{ta:TA}{p pos:Pos}(hg:Gl X "reversed")(hm:X.mg "reversed" = none)(hb:bootBuiltins "reversed" = some (.type "reversed"))(ha:PA X [a] ta)(hs:starEach [a] X.env=[(false,eval a X.env)]:=by rfl) :
  PI X tg (.Call (.Name "reversed" p) [a] [] pos) (BQ ta):=by
 intro Ks s σ H R I h
 refine Call_ (eF I hg hm hb (Ff (thn (ha pos Ks s σ H _ I h) fun us s1 Lg=>?_) hs rfl))
 obtain ⟨vs,H1,I1,r1,q1⟩:=Lg
 obtain ⟨z,rfl,hz,q⟩:=q1
 obtain ⟨u,rfl,t,rfl⟩:=cJ r1
 have hn:=fG
 have hsz:z.cps.size=z.length:=rfl
 refine j4 (by omega) fun tk=>?_
 have hit:Heap.IsRvs (s1.heap.push { cls:=.type "reversed",data:=.fields #[.str z t,rawInt ((z.length:Int) - 1)] }) s1.heap.objs.size z t ((z.length:Int) - 1):=⟨_,El _ rfl,rfl,rfl⟩
 refine iY (s:={ s1 with heap:=s1.heap.push { cls:=.type "reversed",data:=.fields #[.str z t,rawInt ((z.length:Int) - 1)] },toks:=tk }) hit ?_
 refine ⟨s1.heap.objs.size,[s1.heap.objs.size],_,BP z,H1,rfl,I1.kept (t':=tk) fun b o e=>D_ _ e,
  cU (T:="reversed") (fl:=fun i=>#[.str z t,rawInt ((z.cps.size:Int) - 1 - (i:Int))]) (fun A hh=>pB hh _ z t (by omega)) (fun i h st=>st.2) (by decide) (fun i H g=>g) (fun i H g=>g)
   (fun i H u _ ⟨c,t',e,eu⟩=>⟨.str ⟨#[c]⟩,⟨t',eu⟩,rfl,c,e,rfl⟩) (fun A i s Q E st h=>iY st.2 h),⟨E5 _,by simpa [hsz] using hit⟩,fun b hb=>?_,q⟩
 have e:b=s1.heap.objs.size:=by simpa using hb
 subst e
 exact I1.fpOk (Eg _) (I1.hok.fresh (Eg _))
structure DTx (K:PySem.W.Frag) (w:World) (a:Addr):Prop where
 ob:∃ (es:Array DictEntry) (n:Nat),K.lookup a=some ⟨.type "dict",none,.dict es n,#[]⟩∧PySem.W.KeysLit w.params es.toList
theorem tP {a:Addr}(D:DTx X.K X.w a):IxR X (fun x y H Q=>∃ z z' t,x = .ref a∧y = .str z∧PySem.W.nsIn X.K a z=some (some (.str z' t))∧Q (.str z') H):=by
 intro value slice Ks s σ H x y v u Q I rx ry h hs
 obtain ⟨z,z',t',rfl,rfl,e,q⟩:=h
 cases rx
 obtain ⟨t,rfl⟩:=ry
 obtain ⟨es,n,hl,hk⟩:=D.ob
 obtain ⟨m,F⟩:=I.fr
 exact PySem.W.topItem_K F I.ok.mod.kin hl hk e ⟨.str z',H,I.tok _,⟨_,rfl⟩,q⟩ hs
def tQ (K:PySem.W.Frag)(a:Addr)(Q:VK):V→Hp→Prop:=fun y H1=>∃ z z' t,y = .str z∧PySem.W.nsIn K a z=some (some (.str z' t))∧Q (.str z') H1
def BR (K:PySem.W.Frag)(a:Addr)(ti:TE):TE:=fun σ H Q=>ti σ H (tQ K a Q)
theorem kY {K:PySem.W.Frag}{w:World}{a:Addr}{x:Str}{i:Expr}{ti:TE}{p pos:Pos}(D:DTx K w a)(hK:X.K=K)(hw:X.w=w)(hg:Gl X x)(hm:X.mg x=some (.ref a))(hi:PE X i ti)(hs:iL i)
  (hd:(x == ("__debug__":Str))=false:=by decide):PE X (.Subscript (.Name x p) i pos) (BR K a ti):=by
 subst hK hw
 intro Ks s σ H Q I h
 refine Iv (cC I hg hm (thn (hi Ks s σ H _ I h) fun u s2 zq2=>?_) hd)
 obtain ⟨y,H2,I2,ry,z,z',t',e1,e2,q⟩:=zq2
 exact tP D _ _ Ks s2 σ H2 (.ref a) y (.ref a) u Q I2 rfl ry ⟨z,z',t',rfl,e1,e2,q⟩ (hs _ _)
end
end L2
namespace Wd
abbrev L:=Fin 12
def inv (x:L):L:=if h:x.val < 6 then ⟨x.val+6,by omega⟩ else ⟨x.val - 6,by omega⟩
theorem bB:∀ x:L,inv (inv x)=x:=by decide
theorem mD:∀ x:L,inv x≠x:=by decide
def bk (w:List L):List L:=(w.map inv).reverse
theorem pD (u v:List L):bk (u++v)=bk v++bk u:=by simp [bk]
theorem BS (w:List L):bk (bk w)=w:=by
 unfold bk
 rw [List.map_reverse,Il,Fl]
 have:(inv ∘ inv)=id:=funext fun x=>bB x
 rw [this,List.map_id]
theorem cL (w:List L):(bk w).length=w.length:=by simp [bk]
theorem eO (x:L):bk [x]=[inv x]:=rfl
def push (st:List L)(x:L):List L:=match st with
 | []=>[x]
 | y::r=>if y=inv x then r else x::y::r
def act (w:List L)(st:List L):List L:=w.foldl push st
theorem mE (x:L)(w st:List L):act (x::w) st=act w (push st x):=rfl
theorem nK (u v st:List L):act (u++v) st=act v (act u st):=by simp [act,List.foldl_append]
theorem tR (u:List L)(x:L)(st:List L):act (u++[x]) st=push (act u st) x:=by rw [nK]; rfl
def Rd:List L→Prop
 | []=>True
 | [_]=>True
 | x::y::r=>y≠inv x∧Rd (y::r)
theorem Rd.tail:∀ {x:L} {r:List L},Rd (x::r)→Rd r
 | _,[],_=>trivial
 | _,_::_,h=>h.2
theorem pE {st:List L}(x:L)(h:Rd st):Rd (push st x):=by
 cases st with
 | nil=>trivial
 | cons y r =>
  show Rd (if y=inv x then r else x::y::r)
  split
  ·exact h.tail
  ·rename_i hn
   exact ⟨hn,h⟩
theorem vU:∀ (w:List L) {st:List L},Rd st→Rd (act w st)
 | [],_,h=>h
 | x::w,st,h=>vU w (pE x h)
def red (w:List L):List L:=(act w []).reverse
theorem zU:Rd []:=trivial
theorem kZ (st:List L)(x:L):(push st x).length≤st.length+1:=by
 cases st with
 | nil=>simp [push]
 | cons y r =>
  show (if y=inv x then r else x::y::r).length≤_
  split
  ·simp only [EA];omega
  ·simp
theorem fg:∀ (w st:List L),(act w st).length≤st.length+w.length
 | [],_=>by simp [act]
 | x::w,st=>by
  have:=fg w (push st x)
  have:=kZ st x
  rw [mE,EA]
  omega
theorem nM (w:List L):(red w).length≤w.length:=by
 have:=fg w []
 simpa [red] using this
def rep:Nat→List L→List L
 | 0,_=>[]
 | n+1,w=>rep n w++w
def BU (k:Nat)(w:List L):Prop:=∀ i x y,i+1 < k→w[i]? = some x→w[i+1]? = some y→y≠inv x
theorem xB:∀ {w:List L} {k:Nat},w.length≤k→BU k w→act w []=w.reverse:=by
 have all:∀ (u st:List L),Rd st→(∀ x y,st.head? = some x→u.head? = some y→y≠inv x)→BU u.length u→act u st=u.reverse++st:=by
  intro u
  induction u with
  | nil=>intro st _ _ _;rfl
  | cons x u ih =>
   intro st h hd hr
   have e:push st x=x::st:=by
    cases st with
    | nil=>rfl
    | cons y r =>
     show (if y=inv x then r else _)=_
     rw [if_neg]
     intro e
     have:=hd y x rfl rfl
     rw [e,bB] at this
     exact this rfl
   rw [mE,e,ih (x::st),GX,HK]
   ·rfl
   ·rw [← e];exact pE x h
   ·intro a b ha hb
    have ea:a=x:=(EE ha).symm
    subst ea
    cases u with
    | nil=>cases hb
    | cons c u =>
     have eb:b=c:=(EE hb).symm
     subst eb
     exact hr 0 a b (by simp) rfl rfl
   ·intro i a b hi ha hb
    exact hr (i+1) a b (by simp only [EA];omega) ha hb
 intro w k hk h
 have:=all w [] zU (fun x y hx=>by cases hx) (fun i x y hi=>h i x y (by omega))
 simpa using this
theorem k7 {w:List L}{k:Nat}(hk:w.length≤k)(h:BU k w):red w=w:=by
 unfold red
 rw [xB hk h,Il]
end Wd
namespace L2
open PySem PySem.Spec PyProof.Rows Wd
def cp (x:L):Nat:=if x.val < 6 then 97+x.val else 59+x.val
theorem xD:∀ x:L,cp x < 128:=by decide
theorem vV:∀ x y:L,cp x=cp y→x=y:=by decide
def toS (w:List L):Str:=⟨(w.map cp).toArray⟩
def tx (w:List L):V:=.str (toS w)
theorem bt (w:List L):(toS w).cps.toList=w.map cp:=by simp [toS]
theorem ah (w:List L):(toS w).length=w.length:=by simp [toS,Str.length]
theorem bw (w:List L):(toS w).cps.size=w.length:=by simp [toS]
theorem aN (u v:List L):toS u++toS v=toS (u++v):=by
 apply Str.ext'
 rw [Str.cps_append]
 simp [toS]
theorem fh:∀ {u v:List L},u.map cp=v.map cp→u=v
 | [],[],_=>rfl
 | [],_::_,h=>by simp at h
 | _::_,[],h=>by simp at h
 | x::u,y::v,h=>by
  simp only [EO,List.cons.injEq] at h
  rw [vV x y h.1,fh h.2]
theorem fi {u v:List L}(h:toS u=toS v):u=v:=by
 have:(toS u).cps.toList=(toS v).cps.toList:=by rw [h]
 rw [bt,bt] at this
 exact fh this
theorem ie {u v:List L}(h:tx u=tx v):u=v:=fi (V.str.inj h)
theorem xE:toS []=("":Str):=by decide +kernel
theorem mF:tx []=V.str ("":Str):=EX V.str xE
theorem j6 (u v:List L):decide (tx u=tx v)=decide (u=v):=by
 by_cases h:u=v
 ·subst h;simp
 ·rw [Ed h,Ed fun e=>h (ie e)]
theorem tT:toS [0,1,2,3,4,5]=("abcdef":Str):=by decide +kernel
theorem big:toS [6,7,8,9,10,11]=("ABCDEF":Str):=by decide +kernel
theorem cV {w:List L}{i c:Nat}(h:(toS w).cps[i]? = some c):∃ x,w[i]? = some x∧(⟨#[c]⟩:Str)=toS [x]:=by
 have h:((w.map cp).toArray)[i]? = some c:=h
 rw [List.getElem?_toArray,Er] at h
 cases e:w[i]? with
 | none=>rw [e] at h;cases h
 | some x =>
  rw [e] at h
  have:cp x=c:=EE h
  exact ⟨x,rfl,by rw [← this];rfl⟩
theorem cW {w:List L}{k:Nat}{x:L}{i:Int}(hk:i=(k:Int))(h:w[k]? = some x):atI (toS w).cps.toList i=some (cp x):=by
 subst hk
 rw [bt]
 obtain ⟨hl,e⟩:=Ef.mp h
 unfold atI ixN
 rw [if_pos (by omega),if_pos (by rw [Ea];omega)]
 show (w.map cp)[((k:Nat):Int).toNat]? = _
 rw [EH,Er,h]
 rfl
theorem ig (x:L):(⟨#[cp x]⟩:Str)=toS [x]:=rfl
def tU (w:List L)(lo hi:Option Int):List L:=(w.drop (HT.sIx w.length 0 lo)).take (HT.sIx w.length w.length hi - HT.sIx w.length 0 lo)
theorem xF (lo hi:Option Int)(n:Nat):Builtin.Str.strSliceIndices lo hi 1 n=(List.range (HT.sIx n n hi - HT.sIx n 0 lo)).map (fun k=>HT.sIx n 0 lo+k):=by
 have cl:∀ v:Int,max (0:Int) (min (if v < 0 then v+(n:Int) else v) (n:Int))=(((if v < 0 then (v+(n:Int)).toNat else min v.toNat n):Nat):Int):=fun v=>by
  by_cases hv:v < 0
  ·simp only [if_pos hv];omega
  ·simp only [if_neg hv];omega
 have fin:∀ a b:Nat,sliceRange (a:Int) (b:Int) 1=(List.range (b - a)).map (fun k=>a+k):=fun a b=>by
  unfold sliceRange
  simp only [show ((1:Int) > 0)=True from by simp,Hg]
  by_cases KB:(a:Int) < b
  ·have e3:(((b:Int) - a+1 - 1) / 1).toNat=b - a:=by first | omega | (simp;done) | (simp;omega)
   simp only [KB,Hg,e3]
   exact List.map_congr_left fun k _=>by omega
  ·have:b - a=0:=by omega
   simp [KB,this]
 unfold Builtin.Str.strSliceIndices
 simp only [show ((1:Int) > 0)=True from by simp,Hg]
 cases lo with
 | none =>
  cases hi with
  | none=>exact fin 0 n
  | some j=>simp only [cl];exact fin 0 _
 | some i =>
  cases hi with
  | none=>simp only [cl];exact fin _ n
  | some j=>simp only [cl];exact fin _ _
theorem a7 (w:List L)(lo hi:Option Int):Txt.slice (toS w) lo hi=toS (tU w lo hi):=by
 have h1:=HT.oY w.length 0 (E5 _) lo
 have h2:=HT.oY w.length w.length (Eg _) hi
 unfold Txt.slice
 rw [xF,ah]
 split
 ·rename_i h
  have hl:HT.sIx w.length w.length hi - HT.sIx w.length 0 lo=w.length:=by simpa using h
  have e:tU w lo hi=w:=by
   unfold tU
   rw [hl]
   have ha:HT.sIx w.length 0 lo=0 ∨ w.length=0:=by omega
   rcases ha with ha | ha
   ·rw [ha,HV,Fx]
   ·have:w=[]:=GF ha
    subst this
    simp
  rw [e]
 ·apply Str.ext'
  show (List.filterMap _ _).toArray=_
  have e:=StrLaws.picks (w.map cp) (HT.sIx w.length w.length hi - HT.sIx w.length 0 lo) (HT.sIx w.length 0 lo)
  by_cases hle:HT.sIx w.length 0 lo≤HT.sIx w.length w.length hi
  ·have e:=e (by rw [Ea];omega)
   have e2:(fun k:Nat=>(toS w).cps[k]?)=fun k:Nat=>(w.map cp)[k]?:=funext fun k=>by simp [toS]
   rw [e2,e]
   simp [toS,tU,JA,List.map_drop]
  ·have z:HT.sIx w.length w.length hi - HT.sIx w.length 0 lo=0:=by omega
   rw [z]
   simp [toS,tU,z]
theorem gE (w:List L){n:Int}(h:0≤n):tU w none (some n)=w.take n.toNat:=by
 obtain ⟨k,rfl⟩:=ET h
 unfold tU
 rw [HT.eJ,HT.e9,HV,Js,EH]
 by_cases hk:k≤w.length
 ·rw [IE hk]
 ·rw [Hc (by omega),Fx,ER (by omega)]
theorem cX (w:List L){n:Int}(h:0≤n):tU w (some n) none=w.drop n.toNat:=by
 obtain ⟨k,rfl⟩:=ET h
 unfold tU
 rw [HT.eJ,HT.e9,EH]
 by_cases hk:k≤w.length
 ·rw [IE hk,ER (by rw [Fv];omega)]
 ·rw [Hc (by omega),Ih,Jm (by omega)]
  simp
theorem pF (w:List L):Txt.upper (toS w)=⟨((w.map cp).map up1).toArray⟩:=by
 rw [upper_ascii fun c hc=>by rw [bt] at hc;obtain ⟨x,_,rfl⟩:=ED.mp hc;exact xD x]
 simp [toS]
theorem gF (w:List L):Txt.lower (toS w)=⟨((w.map cp).map lo1).toArray⟩:=by
 rw [lower_ascii fun c hc=>by rw [bt] at hc;obtain ⟨x,_,rfl⟩:=ED.mp hc;exact xD x]
 simp [toS]
theorem BV:∀ x:L,x.val < 6→up1 (cp x)=cp (inv x):=by decide
theorem BW:∀ x:L,¬ x.val < 6→lo1 (cp x)=cp (inv x):=by decide
theorem gG {x:L}(h:x.val < 6):Txt.upper (toS [x])=toS [inv x]:=by
 rw [pF]
 show (⟨#[up1 (cp x)]⟩:Str)=⟨#[cp (inv x)]⟩
 rw [BV x h]
theorem j7 {x:L}(h:¬ x.val < 6):Txt.lower (toS [x])=toS [inv x]:=by
 rw [gF]
 show (⟨#[lo1 (cp x)]⟩:Str)=⟨#[cp (inv x)]⟩
 rw [BW x h]
theorem ex1:∀ x:L,cp x∈List.map cp [0,1,2,3,4,5]→x.val < 6:=by decide
theorem ex2:∀ x:L,x.val < 6→(List.map cp [0,1,2,3,4,5])[x.val]? = some (cp x):=by decide
theorem mG (x:L):(!(Builtin.Str.occurrences ("abcdef":Str) (toS [x]) 0 ("abcdef":Str).length 1).isEmpty)=decide (x.val < 6):=by
 have h:=StrLaws.found_iff ("abcdef":Str) (toS [x])
 have e:(∃ i,i+(toS [x]).length≤("abcdef":Str).length∧Builtin.Str.subAt ("abcdef":Str) (toS [x]) i=true) ↔ x.val < 6:=by
  have e2:∀ i,(i+(toS [x]).length≤("abcdef":Str).length∧Builtin.Str.subAt ("abcdef":Str) (toS [x]) i=true) ↔ ("abcdef":Str).cps.toList[i]? = some (cp x):=fun i=>StrLaws.subAt_one _ _ _
  rw [show (("abcdef":Str))=toS [0,1,2,3,4,5] from tT.symm] at e2 ⊢
  constructor
  ·rintro ⟨i,hi⟩
   have hi:=(e2 i).mp hi
   rw [bt] at hi
   exact ex1 x (Es hi)
  ·intro hx
   refine ⟨x.val,(e2 x.val).mpr ?_⟩
   rw [bt]
   exact ex2 x hx
 rw [Fp,h,e,Gj]
theorem tV:∀ w:List L,Txt.join ("":Str) (w.map fun x=>toS [x])=toS w:=by
 intro w
 have e0:("":Str)=Str.empty:=by decide +kernel
 unfold Txt.join
 rw [StrLaws.glued_eq_join,e0]
 induction w with
 | nil=>rfl
 | cons x r ih =>
  cases r with
  | nil=>rfl
  | cons y r =>
   show toS [x]++Str.empty++Str.join Str.empty ((y::r).map fun x=>toS [x])=_
   rw [ih,Str.append_empty,aN]
   rfl
theorem xG (w:List L):((w.map fun x=>toS [x]).map (·.length)).sum=w.length:=by
 induction w with
 | nil=>rfl
 | cons x r ih =>
  simp only [EO,List.sum_cons,EA]
  rw [ih,ah]
  simp only [En]
  omega
structure Fnc (P:Program) (w:World) (K:PySem.W.Frag) (mg:Str→Option Value) (base:Heap) (x:Str) (ps:List Str) (k:Nat) (sp:Sp):Prop where
 ex:∃ (f:Addr) (fd:FuncData),mg x=some (.ref f)∧PySem.W.keepIn K (.ref f)=true∧eY K fd ps []∧jI P w K mg base CX0 k f fd ps sp
theorem aH {X:Cx}{x:Str}{ps:List Str}{k j:Nat}{sp:Sp}{e:Expr}{es:List Expr}{t:TA}{p pos:Pos}(F:Fnc X.prog X.w X.K X.mg X.base x ps j sp)(hr:eE k X.A)(hj:j≤k)(hg:Gl X x)(ha:PA X (e::es) t)
  (Lh:(x == ("__debug__":Str))=false:=by decide) (he:starEach (e::es) X.env=(false,eval e X.env)::starEach es X.env:=by rfl) (KW:(backTo pos (starEach es X.env)).any (·.1)=false:=by rfl) :
  PE X (.Call (.Name x p) (e::es) [] pos) (tD sp [] E0 t):=by
 obtain ⟨f,fd,hm,hk,hb,F⟩:=F.ex
 exact oX F (hr.mono hj) hg hm hk hb .nil BN ha Lh he KW
structure Df (K:PySem.W.Frag) (mg:Str→Option Value) (x:Str) (st:Stmt):Prop where
 ex:∃ (f:Addr) (fd:FuncData),mg x=some (.ref f)∧Fun K x x st f fd
theorem Df.ok {P:Program}{w:World}{K:PySem.W.Frag}{mg:Str→Option Value}{base:Heap}{x:Str}{st:Stmt}{N ps:List Str}{k:Nat}{sp:Sp}(D:Df K mg x st)(S:aC N ps (aq st))
  (hb:∀ (kV doc pm:Value) (an:Option Addr) (Kv ct:Value) (us:List Value),us.length=ps.length→bindArgs (PySem.W.fnOf x x (bM st) (br st) (aq st) .none kV doc pm an Kv ct) ⟨us,[]⟩=pure (ps.zip us))
  (len:∀ vs H Q E,sp vs H Q E→vs.length=ps.length)
  (KM:∀ (f:Addr) (Kv:Value) (A:Around) (outer:List Env) (s:Shared) (H:Hp) (vs:List V) (Q:VK) (E:XK),eE k (A.deeper (envOfC x (aq st) s.heap.objs.size f Kv))→sp vs H Q E →
   ∃ t,PSs (kR CX0 P w K mg base N x (aq st) f Kv A outer s H E).nox (br st) t∧t { nx:=fun _ H'=>Q .non H',rt:=Q } (start N vs) H):Fnc P w K mg base x ps (k+1) sp:=by
 obtain ⟨f,fd,hm,F⟩:=D.ex
 exact ⟨f,fd,hm,F.kp,F.binds hb,F.ok S len fun Kv A outer s H vs Q E hr h=>KM f Kv A outer s H vs Q E hr h⟩
def a_ (d:Addr)(H H':Hp):Prop:=∀ b o,b≠d→H b=some o→H' b=some o
theorem a_.refl (d:Addr)(H:Hp):a_ d H H:=fun _ _ _ h=>h
theorem a_.trans {d:Addr}{H H1 H2:Hp}(a:a_ d H H1)(b:a_ d H1 H2):a_ d H H2:=fun c o n h=>b c o n (a c o n h)
theorem av.b {d:Addr}{H H':Hp}(a:av H H'):a_ d H H':=fun b o _ h=>a b o h
theorem av.new {H:Hp}{a:Addr}{o:HO}(h:H a=none):av H (upd H a o):=fun b u e=>by rw [ar (aw e h)]; exact e
theorem a_.upd {d:Addr}{H:Hp}{o:HO}:a_ d H (upd H d o):=fun b u n e=>by rw [ar n]; exact e
theorem av.then {H H1:Hp}{a:Addr}{o:HO}(s:av H H1)(h:H1 a=none):av H (L2.upd H1 a o):=s.trans (av.new h)
def kS (x:Str):Key:=.inr x
def fkv (c:Addr)(i l t:Int):List (Key × V):=[(kS "cells",.ref c),(kS "at",.int i),(kS "left",.int l),(kS "turn",.int t)]
theorem BX:¬ (kS "cells" = kS "at"):=by decide +kernel
theorem BY:¬ (kS "cells" = kS "left"):=by decide +kernel
theorem BZ:¬ (kS "cells" = kS "turn"):=by decide +kernel
theorem Bm:¬ (kS "at" = kS "left"):=by decide +kernel
theorem Bn:¬ (kS "at" = kS "turn"):=by decide +kernel
theorem Bo:¬ (kS "left" = kS "turn"):=by decide +kernel
theorem fZ {κ:Type}[DecidableEq κ]{k:κ}{v:V}{r:List (κ × V)}:dQ ((k,v)::r) k=some v:=by unfold dQ; simp
theorem cM {κ:Type}[DecidableEq κ]{k k':κ}{v:V}{r:List (κ × V)}(h:¬ k'=k):dQ ((k',v)::r) k=dQ r k:=by unfold dQ; simp [h]
theorem pG (c:Addr)(i l t:Int):dQ (fkv c i l t) (kS "cells")=some (.ref c):=fZ
theorem Dc (c:Addr)(i l t:Int):dQ (fkv c i l t) (kS "at")=some (.int i):=(cM BX).trans fZ
theorem j8 (c:Addr)(i l t:Int):dQ (fkv c i l t) (kS "left")=some (.int l):=(cM BY).trans ((cM Bm).trans fZ)
theorem pH (c:Addr)(i l t:Int):dQ (fkv c i l t) (kS "turn")=some (.int t):=(cM BZ).trans ((cM Bn).trans ((cM Bo).trans fZ))
theorem DN:¬ (kS "turn" = kS "at"):=fun e=>Bn e.symm
theorem DO:¬ (kS "left" = kS "at"):=fun e=>Bm e.symm
theorem DP:¬ (kS "turn" = kS "left"):=fun e=>Bo e.symm
theorem DQ (c:Addr)(i l t z:Int):dX (fkv c i l t) (kS "at") (.int z)=fkv c z l t:=by simp [dX,fkv,BX,DO,DN]
theorem pI (c:Addr)(i l t z:Int):dX (fkv c i l t) (kS "left") (.int z)=fkv c i z t:=by simp [dX,fkv,BY,Bm,DP]
theorem zW (c:Addr)(i l t z:Int):dX (fkv c i l t) (kS "turn") (.int z)=fkv c i l z:=by simp [dX,fkv,BZ,Bn,Bo]
theorem gH (c:Addr)(i l t:Int):(fkv c i l t).length < sizeLine:=by show 4 < sizeLine; decide
theorem B4 (c:Addr)(i l t:Int):gx [] (fkv c i l t)=fkv c i l t:=by simp [gx,dX,fkv,BX,BY,BZ,Bm,Bn,Bo]
structure Fd (H:Hp) (d:Addr):Prop where
 ex:∃ (c:Addr) (i l t:Int) (ns:List Int),H d=some (.dK (fkv c i l t))∧H c=some (.lst (ns.map V.int))∧ns≠[]∧ns.length≤64
theorem Fd.same {H H':Hp}{d:Addr}(F:Fd H d)(s:av H H'):Fd H' d:=by
 obtain ⟨c,i,l,t,ns,h1,h2,h3,h4⟩:=F.ex
 exact ⟨c,i,l,t,ns,s _ _ h1,s _ _ h2,h3,h4⟩
theorem Fd.new {H:Hp}{d a:Addr}{o:HO}(F:Fd H d)(h:H a=none):Fd (upd H a o) d:=F.same (av.new h)
theorem Fd.ne {H:Hp}{d a:Addr}(F:Fd H d)(h:H a=none):a≠d:=by
 obtain ⟨c,i,l,t,ns,h1,h2,h3,h4⟩:=F.ex
 exact (aw h1 h).symm
theorem Fd.nl {H:Hp}{d a:Addr}{xs:List V}(F:Fd H d)(h:H a=some (.lst xs)):a≠d:=by
 obtain ⟨c,i,l,t,ns,h1,h2,h3,h4⟩:=F.ex
 exact gX h h1 (by intro z;cases z)
inductive dH (vs:List V)(H:Hp)(Q:VK)(KC:XK):Prop
 | mk:∀ (d:Addr) (m:Int),(vs=[.ref d,.int m])→(Fd H d)→(0 < m)→(m < 1000000)→(∀ (r:Int) (H':Hp),0≤r→r < m→Fd H' d→a_ d H H'→Q (.int r) H')→dH vs H Q KC
inductive pJ (K:PySem.W.Frag)(vs:List V)(H:Hp)(Q:VK)(KC:XK):Prop
 | mk:∀ (a:Addr) (ns:List Int),(vs=[.ref a])→(SqL K H a (ns.map V.int))→(ns.length≤63)→(∀ (d:Addr) (H':Hp),H d=none→Fd H' d→av H H'→Q (.ref d) H')→pJ K vs H Q KC
theorem xH {ns:List Int}(h:ns≠[])(i:Int):∃ n:Int,atI (ns.map V.int) (i % ((ns.map V.int).length:Int))=some (.int n):=by
 have hl:0 < ns.length:=FM.mpr h
 rw [Ea]
 have h0:=Gq i (show (ns.length:Int)≠0 by omega)
 have h1:=GN i (show (0:Int) < ns.length by omega)
 obtain ⟨k,hk⟩:=ET h0
 rw [hk] at h1 ⊢
 have hk':k < ns.length:=by omega
 refine ⟨ns[k],?_⟩
 unfold atI ixN
 rw [if_pos (by omega),if_pos (by rw [Ea];omega)]
 show (ns.map V.int)[((k:Nat):Int).toNat]? = _
 rw [EH,Er,Ee hk']
 rfl
mutual
inductive Dt (H:Hp):V→PyData→Prop where
 | non:Dt H .non .none
 | bl (b:Bool):Dt H (.bl b) (.bool b)
 | int (i:Int):Dt H (.int i) (.int i)
 | str (x:Str):Dt H (.str x) (.str x)
 | lst {a:Addr} {xs:List V} {ds:List PyData}:H a=some (.lst xs)→Dts H xs ds→Dt H (.ref a) (.list ds)
 | tup {a:Addr} {xs:List V} {ds:List PyData}:H a=some (.tup xs)→Dts H xs ds→Dt H (.ref a) (.tuple ds)
inductive Dts (H:Hp):List V→List PyData→Prop where
 | nil:Dts H [] []
 | cons {v:V} {d:PyData} {vs:List V} {ds:List PyData}:Dt H v d→Dts H vs ds→Dts H (v::vs) (d::ds)
end
section
variable {P:Program} {w:World} {H:Hp} {h:Heap}
mutual
theorem Dt.reads (ok:HOk P w H h):∀ {v:V} {d:PyData},Dt H v d→∀ {u:Value},bq v u→∃ as,Reads h u d as
 | _,_,.non,u,r=>by cases r;exact ⟨_,.none⟩
 | _,_,.bl b,u,r=>by cases r;exact ⟨_,.bool b⟩
 | _,_,.int i,u,r=>by obtain ⟨t,rfl⟩:=r;exact ⟨_,.int i t⟩
 | _,_,.str x,u,r=>by obtain ⟨t,rfl⟩:=r;exact ⟨_,.str x t⟩
 | _,_,.lst e q,u,r=>by
  cases r
  obtain ⟨_,its,n,rv,g⟩:=ok _ _ e
  obtain ⟨as,ra⟩:=Dts.reads ok q rv
  exact ⟨_,.list g rfl rfl (by simpa using ra)⟩
 | _,_,.tup e q,u,r=>by
  cases r
  obtain ⟨_,its,rv,⟨ob,g,c,n,d⟩,_⟩:=ok _ _ e
  obtain ⟨as,ra⟩:=Dts.reads ok q rv
  exact ⟨_,.tuple g c d (by simpa using ra)⟩
theorem Dts.reads (ok:HOk P w H h):∀ {vs:List V} {ds:List PyData},Dts H vs ds→∀ {us:List Value},a8 vs us→∃ as,ReadsAll h us ds as
 | _,_,.nil,_,r=>by cases r;exact ⟨_,.nil⟩
 | _,_,.cons q qs,_,r=>by
  cases r with
  | cons r rs =>
   obtain ⟨as,a1⟩:=Dt.reads ok q r
   obtain ⟨bs,a2⟩:=Dts.reads ok qs rs
   exact ⟨_,.cons a1 a2⟩
end
end
structure Sh (d:PyData):Prop where
 sh:d.showable=true
 nd:d.hasDict=false
 dp:d.depth≤10
 sz:d.shown.length≤sizeLine
section
variable {X:Cx}
end
def B5 (m:Str)(ys:List Str):Prop:=m∈ys∧∀ y∈ys,m.cps.toList≤y.cps.toList
theorem fL:∀ (r:List Str) (x:Str),risingS x r=true→B5 x (x::r)
 | [],x,_=>⟨by simp,fun y hy=>by rw [Eu.mp hy];exact List.le_refl _⟩
 | z::r,x,h=>by
  unfold risingS at h
  rw [EI] at h
  have h1:x.cps.toList≤z.cps.toList:=by
   have:=h.1
   rw [ltCps_eq] at this
   exact List.not_lt.mp (by simpa using this)
  have ih:=fL r z h.2
  refine ⟨by simp,fun y hy=>?_⟩
  rcases Ei.mp hy with e | hy
  ·rw [e];exact List.le_refl _
  ·exact List.le_trans h1 (ih.2 y hy)
theorem fM:∀ {us:List Value} {ys:List Str},StrsAre us ys→a8 (ys.map V.str) us
 | _,_,.nil=>.nil
 | _,_,.cons y t r=>.cons ⟨t,rfl⟩ (fM r)
section
variable {X:Cx}
end
end L2
namespace Kx
open PySem PySem.Spec PyProof.Rows L2 Wd
theorem fN:bootBuiltins "list" = some (.type "list"):=by kernel_rfl
theorem pK:bootBuiltins "int" = some (.type "int"):=by kernel_rfl
theorem mH:bootBuiltins "repr" = some (.builtin "repr"):=by kernel_rfl
theorem tW:bootBuiltins "sorted" = some (.builtin "sorted"):=by kernel_rfl
theorem bN:bootBuiltins "tuple" = some (.type "tuple"):=by kernel_rfl
theorem aA:bootBuiltins "isinstance" = some (.builtin "isinstance"):=by kernel_rfl
theorem nN:bootBuiltins "all" = some (.builtin "all"):=by kernel_rfl
theorem tX:bootBuiltins "str" = some (.type "str"):=by kernel_rfl
theorem zX:bootBuiltins "zip" = some (.type "zip"):=by kernel_rfl
theorem nO:bootBuiltins "reversed" = some (.type "reversed"):=by kernel_rfl
structure Bt (K:PySem.W.Frag) (w:World) (mg:Str→Option Value) (aB:Addr):Prop where
 len:mg "len" = none
 repr:mg "repr" = none
 abs:mg "abs" = none
 max:mg "max" = none
 int:mg "int" = none
 list:mg "list" = none
 range:mg "range" = none
 reversed:mg "reversed" = none
 min:mg "min" = none
 sorted:mg "sorted" = none
 tuple:mg "tuple" = none
 isinstance:mg "isinstance" = none
 all:mg "all" = none
 str:mg "str" = none
 zip:mg "zip" = none
 mgB:mg "BACKS" = some (.ref aB)
 dB:DTx K w aB
 gB:∀ x:L,∃ t,PySem.W.nsIn K aB (toS [x])=some (some (.str (toS [inv x]) t))
theorem dg {H:Hp}{d:Addr}{Kt:List (Key × V)}{k:Str}{v:V}(h:H d=some (.dK Kt))(e:dQ Kt (kS k)=some v):oy H d (.str k) (some v):=by
 have q:=oy.k (k:=kS k) h
 rw [e] at q
 exact q
theorem dp {H:Hp}{d:Addr}{Kt kvs':List (Key × V)}{k:Str}{v:V}(h:H d=some (.dK Kt))(hl:Kt.length < sizeLine)(e:dX Kt (kS k) v=kvs'):vQ H d (.str k) v (upd H d (.dK kvs')):=by
 have q:=vQ.k (k:=kS k) (v:=v) h hl
 rw [e] at q
 exact q
theorem B6 {ns:List Int}(h:ns.length≤63):iJ (ns.map V.int) none (some 63)=ns.map V.int:=by
 unfold iJ
 have e:HT.sIx (ns.map V.int).length (ns.map V.int).length (some 63)=(ns.map V.int).length:=by
  have:=HT.e9 (ns.map V.int).length (ns.map V.int).length 63
  rw [show ((63:Nat):Int)=63 from rfl] at this
  rw [this,Ea]
  omega
 rw [e,HT.eJ,HV,Js,Fx]
def dq (w:List L):List V:=w.map fun x=>tx [x]
theorem mI (w:List L):dq w=(w.map fun x=>toS [x]).map V.str:=by unfold dq; rw [Fl]; rfl
theorem gI (w:List L)(x:L):dq w++[tx [x]]=dq (w++[x]):=by unfold dq; rw [EG]; rfl
theorem bb (w:List L):(dq w).length=w.length:=by unfold dq; rw [Ea]
theorem j9 (w:List L):V.str (Txt.join ("":Str) (w.map fun x=>toS [x]))=tx w:=EX V.str (tV w)
theorem j_ (w:List L)(h:w.length≤1000000):((w.map fun x=>toS [x]).map (·.length)).sum+(w.map fun x=>toS [x]).length*("":Str).length≤16777216:=by
 have e:("":Str).length=0:=by decide +kernel
 rw [e,xG]
 omega
theorem aT:sizeLine=16777216:=F0
inductive sN (vs:List V)(H:Hp)(Q:VK)(KC:XK):Prop
 | mk:∀ w,(vs=[tx w])→(w.length≤5000)→(∀ H',av H H'→Q (tx (bk w)) H')→sN vs H Q KC
inductive xI (vs:List V)(H:Hp)(Q:VK)(KC:XK):Prop
 | mk:∀ w,(vs=[tx w])→(w.length≤5000)→(∀ H',av H H'→Q (tx (red w)) H')→xI vs H Q KC
theorem mJ (u v:List L):V.str (toS u++toS v)=tx (u++v):=EX V.str (aN u v)
def sg (m:Int):List L:=([0,1,2,3,4,5]:List L).take m.toNat++([6,7,8,9,10,11]:List L).take m.toNat
theorem ka {m:Int}(h1:1≤m)(h2:m≤6):(sg m).length=2*m.toNat:=by
 unfold sg
 rw [Ec,EB,EB]
 simp only [EA,Hr]
 omega
theorem tY {m:Int}(h1:1≤m):V.str (Txt.slice ("abcdef":Str) none (some m)++Txt.slice ("ABCDEF":Str) none (some m))=tx (sg m):=by
 rw [← tT,← big,a7,a7,gE _ (by omega),gE _ (by omega),mJ]
 rfl
theorem mK:("abcdef":Str).length=6:=by decide +kernel
theorem vW:("ABCDEF":Str).length=6:=by decide +kernel
theorem zY (u:List L){i:Nat}{y:L}(hi:i < u.length)(h:u[u.length - 1 - i]? = some y):(bk u)[i]? = some (inv y):=by
 unfold bk
 rw [GR (by rw [Ea];exact hi),Ea,Er,h]
 rfl
theorem b_ {u:List L}{i:Nat}{x:L}(h:u[i]? = some x):u.take (i+1)=u.take i++[x]:=by
 obtain ⟨hl,e⟩:=Ef.mp h
 rw [Gr,h]
 rfl
theorem jJ {c:Bool}{A B:Prop}(hc:c=true)(h:A):if c=true then A else B:=by rw [if_pos hc]; exact h
theorem k8 {c:Bool}{A B:Prop}(hc:c=false)(h:B):if c=true then A else B:=by rw [hc]; exact nJ h
theorem sm6:∀ j:Fin 6,([0,1,2,3,4,5]:List L)[j.val]? = some ⟨j.val,Nat.lt_trans j.isLt (by decide)⟩:=by decide
end Kx
namespace L2
open PySem PySem.Spec PyProof.Rows Wd
section
variable {X:Cx} {tg:Expr}
end
section
variable {X:Cx} {o e:Expr} {es:List Expr} {to:TE} {t:TA} {name:Str} {apos KO:Pos} {T id:String} {r:V→List V→Hp→VK→Prop} {K:PySem.W.Frag}
theorem pL (hK:X.K=K)(pa:PlainAttrs T)(slot:Slot T name id)(hty:typeOf (.builtin id)=pure (.type "method_descriptor"))(hm:MtR X id r)(ho:PE X o to)
  (K7:attributeBase o name X.env (eval o X.env)=eval o X.env:=by rfl) (K5:(apos.endLine == KO.line)=true:=by rfl):PE X (.Call (.Attribute o name apos) [] [] KO) (C6 K T r to):=by
 subst hK
 exact fK pa slot hty hm ho K7 K5
end
theorem mL:∀ {bs:List Bool} {us:List Value} {i:Nat} {v:Value},a8 (bs.map V.bl) us→us[i]? = some v→∃ b,bs[i]? = some b∧v = .bool b
 | [],us,i,v,r,h=>by
  rw [Hl] at r
  cases r
  simp at h
 | b::bs,us,i,v,r,h=>by
  rw [EO] at r
  cases r with
  | cons r1 r2 =>
   cases i with
   | zero =>
    simp at h
    subst h
    exact ⟨b,rfl,r1⟩
   | succ i =>
    obtain ⟨b',e1,e2⟩:=mL (i:=i) r2 (by simpa using h)
    exact ⟨b',by simpa using e1,e2⟩
theorem mM:∀ bs:List Bool,((List.range bs.length).all fun i=>bs.getD i true)=bs.all id
 | []=>rfl
 | b::bs=>by
  rw [EA,Jn,FU,IS,FU]
  have ih:=mM bs
  show (b && (List.range bs.length).all fun i=>(b::bs).getD (i+1) true)=_
  have e:(fun i=>(b::bs).getD (i+1) true)=fun i=>bs.getD i true:=by funext i;simp
  rw [e,ih]
  rfl
section
variable {X:Cx}
inductive Dd (K:PySem.W.Frag)(xs:List V)(H:Hp)(Q:VK):Prop
 | mk:∀ (l:Addr) (bs:List Bool),(xs=[.ref l])→(SqL K H l (bs.map V.bl))→(Q (.bl (bs.all id)) H)→Dd K xs H Q
theorem bj (hc:X.calm=true):cI X (.builtin "all") (Dd X.K):=by
 intro Ks s σ H xs us Q I r h
 obtain ⟨l,bs,rfl,hq,q⟩:=h
 obtain ⟨u,rfl,ru⟩:=cJ r
 cases ru
 obtain ⟨its,rv,pl,_⟩:=I.list hq
 have hl:=pl.isList
 have hlen:its.length=bs.length:=by rw [← rv.length,Ea]
 have KB:l < s.heap.objs.size:=by obtain ⟨_,e,_⟩:=hl;exact Em e
 refine call_all_walk (Ja hl ?_)
 refine ⟨_,_,_,_,_,_,fun i=>bs.getD i true,rfl,Walks.list (A:=X.A.in1) (I.ok.hd hc) _ l (EK KB) its.toArray,⟨⟨_,El _ rfl,rfl,rfl⟩,hl.push _⟩,?_,fun h' tk hk=>?_⟩
 ·intro i v s' Q' E' hP hQ'
  have hP:its[i]? = some v:=by simpa using hP
  obtain ⟨b,hb,e⟩:=mL rv hP
  subst e
  have:bs.getD i true=b:=by rw [Ew,hb];rfl
  have hQ':Q' (bs.getD i true) s':=hQ'
  rw [this] at hQ'
  exact FF hQ'
 ·have old:∀ b o,s.heap.get? b=some o→h'.get? b=some o:=fun b o e=>hk b o (fun z=>by rw [Eu.mp z] at e;exact absurd (Em e) (E9 _)) (D_ _ e)
  refine ⟨.bl _,H,I.kept old,rfl,?_⟩
  have e:((List.range its.toArray.size).all fun i=>bs.getD i true)=bs.all id:=by
   rw [Eo,hlen]
   exact mM bs
  rw [e]
  exact q
inductive cY (K:PySem.W.Frag)(xs:List V)(H:Hp)(Q:VK):Prop
 | mk:∀ x t b n,(xs=[x,.ty n])→(fU K H x t)→(PySem.W.kitOne K t (.type n)=some b)→(Q (.bl b) H)→cY K xs H Q
theorem k9:cI X (.builtin "isinstance") (cY X.K):=by
 intro Ks s σ H xs us Q I r h
 obtain ⟨x,t,b,n,rfl,ty,e,q⟩:=h
 obtain ⟨u,u2,rfl,rx,r2⟩:=tj r
 cases r2
 exact oW I rx ty e fun tk=>⟨.bl b,H,I.tok _,rfl,q⟩
def DR (K:PySem.W.Frag)(a:Addr)(to:TE):TE:=fun σ H Q=>to σ H fun y H1=>∃ (z:Str) (r:Option Value),y = .str z∧PySem.W.nsIn K a z=some r∧Q (.bl r.isSome) H1
theorem zZ {K:PySem.W.Frag}{w:World}{a:Addr}{x:Str}{o:Expr}{to:TE}{p pos:Pos}(D:DTx K w a)(hK:X.K=K)(hw:X.w=w)(hlo:(a == sysModules)=false)(hg:Gl X x)(hm:X.mg x=some (.ref a))(ho:PE X o to)
  (hd:(x == ("__debug__":Str))=false:=by decide):PE X (.Compare o [.In] [.Name x p] pos) (DR K a to):=by
 subst hK hw
 intro Ks s σ H Q I h
 refine wpAny_Compare1 (thn (ho Ks s σ H _ I h) fun v s1 ⟨y,H1,I1,ry,z,r,e1,e2,q⟩=>cC I1 hg hm ?_ hd) rfl
 subst e1
 obtain ⟨t,rfl⟩:=ry
 obtain ⟨es,n,hl,hk⟩:=D.ob
 obtain ⟨m,F⟩:=I1.fr
 exact PySem.W.topIn_K F I1.ok.mod.kin hl hk e2 hlo ⟨.bl _,H1,I1.tok _,rfl,q⟩
inductive vX (x:V)(vs:List V)(H:Hp)(Q:VK):Prop
 | mk:∀ z y i rest,(x = .str z)→(vs=[.str y])→(Builtin.Str.occurrences z y 0 z.length 1=i::rest)→(Q (.int (i:Nat)) H)→vX x vs H Q
theorem i3:MtR X "str.index" vX:=by
 intro Ks s σ H x vs v us Q I rx rv h
 obtain ⟨z,y,i,rest,rfl,rfl,ho,q⟩:=h
 obtain ⟨t,rfl⟩:=rx
 obtain ⟨u1,rfl,⟨t1,rfl⟩⟩:=cJ rv
 exact SC.index ho ⟨.int _,H,I.tok _,⟨_,rfl⟩,q⟩
def dI (z:Str):List V:=z.cps.toList.map fun c=>.str ⟨#[c]⟩
theorem ij {z:Str}{acc:Array Value}(h:ItemsOf (SignAt z) acc z.cps.size):a8 (dI z) acc.toList:=by
 have all:∀ (cs:List Nat) (us:List Value),cs.length=us.length→(∀ (j:Nat) (v:Value),us[j]? = some v→∃ c u,cs[j]? = some c∧v = .str ⟨#[c]⟩ u)→a8 (cs.map fun c=>V.str ⟨#[c]⟩) us:=by
  intro cs
  induction cs with
  | nil =>
   intro us hl _
   cases us with
   | nil=>exact .nil
   | cons _ _=>simp at hl
  | cons c cs ih =>
   intro us hl hh
   cases us with
   | nil=>simp at hl
   | cons u us =>
    obtain ⟨c',t,e1,e2⟩:=hh 0 u rfl
    have:c=c':=EE e1
    subst this
    exact .cons ⟨t,e2⟩ (ih us (by simpa using hl) fun j v hj=>hh (j+1) v (by simpa using hj))
 refine all _ _ (by rw [E4,E4];exact h.1.symm) fun j v hj=>?_
 obtain ⟨c,u,e1,e2⟩:=h.2 j v (by simpa using hj)
 exact ⟨c,u,by simpa using e1,e2⟩
inductive cN  (xs:List V)(H:Hp)(Q:VK):Prop
 | mk:∀ z,(xs=[.str z])→(z.length≤sizeLine)→(∀ p,H p=none→Q (.ref p) (upd H p (.lst (dI z))))→cN xs H Q
theorem bI (hc:X.calm=true):cI X (.type "list") cN:=by
 intro Ks s σ H xs us Q I r h
 obtain ⟨z,rfl,hz,q⟩:=h
 obtain ⟨u,rfl,t,rfl⟩:=cJ r
 refine call_list_str (I.ok.hd hc) z t (fun h' tk acc' c' kp e hI=>?_) hz
 have hl:(dI z).length≤sizeLine:=by unfold dI;rw [Ea,E4];exact hz
 exact ⟨.ref s.heap.objs.size,_,I.laid kp (Eg _) (show bz X.prog X.w _ h' _ (.lst (dI z)) from ⟨hl,acc'.toList,c',ij hI,by simpa using e⟩),rfl,q _ (I.hok.fresh (Eg _))⟩
theorem ik {K:PySem.W.Frag}(hK:X.K=K):OpR X (compareOp .NotIn) (rIn K true):=by
 subst hK
 exact fJ
end
end L2
namespace PySem
open Sem (wp)
structure Ap5 (z TI TO i1 i2:Addr):Prop where
 TIz:TI≠z
 TOz:TO≠z
 i1z:i1≠z
 i2z:i2≠z
 TITO:TI≠TO
 TIi1:TI≠i1
 TIi2:TI≠i2
 TOi1:TO≠i1
 TOi2:TO≠i2
 i12:i1≠i2
abbrev gY (h:Heap)(i:Addr)(x:Str)(t:Tok)(k:Nat):Prop:=h.IsStrIter i "str_ascii_iterator" x t k
section
variable {prog:Program} {w:World} {A:Around} {E:Value→Shared→Prop} {s:Shared} {z TI TO i1 i2:Addr} {x y:Str} {t u:Tok} {k c d:Nat} {a b:Value}
theorem pM {Q:Value→Shared→Prop}(D:Ap5 z TI TO i1 i2)
  (hz:IsZip s.heap z TI TO .none) (hTI:IsPair s.heap TI (.ref i1) (.ref i2)) (Lj:IsPair s.heap TO a b) (h1:gY s.heap i1 x t k) (h2:gY s.heap i2 y u k) (hx:x.cps[k]? = some c) (hy:y.cps[k]? = some d)
  (hQ:∀ h' tk t1 t2,IsZip h' z TI TO (rawInt s.heap.objs.size)→IsPair h' TO (.str ⟨#[c]⟩ t1) (.str ⟨#[d]⟩ t2)→gY h' i1 x t (k+1)→gY h' i2 y u (k+1)→IsPair h' s.heap.objs.size (.str ⟨#[c]⟩ t1) (.str ⟨#[d]⟩ t2) →
   (∀ e o,e≠z→e≠TO→e≠i1→e≠i2→s.heap.get? e=some o→h'.get? e=some o)→Q (.ref s.heap.objs.size) { s with heap:=h',toks:=tk }) :
  wpAny (model prog w) A (Builtin.«zip.__next__» ⟨[.ref z],[]⟩) (fun fin s'=>∃ v,fin = .done (.ret v)∧Q v s') E s:=by
 show wpAny _ _ (field (.ref z) 2 >>= _) _ _ _
 refine fu (EF hz rfl (x:=.bool false) rfl ?_)
 show wpAny _ _ (field (.ref z) 3 >>= _) _ _ _
 refine fu (EF hz rfl (x:=.ref TI) rfl (fu (Fo hTI rfl ?_)))
 show wpAny _ _ (Builtin.SmallTypes.ownedTupleIsFree (.ref z) >>= _) _ _ _
 refine fu ?_
 unfold Builtin.SmallTypes.ownedTupleIsFree
 refine fu (EF hz rfl (x:=.none) rfl (Eb ?_))
 simp only [Hg]
 refine fu (G7 (fu (EF hz rfl (x:=.ref TO) rfl (fu (Fb hz (by simp) fun g1 hz1 e1=>?_)))))
 have hz1:IsZip g1 z TI TO .ellipsis:=hz1
 refine fu ?_
 simp only [Ii,IF,Hs,IY]
 refine fu (fu (Gk ?_))
 show wpAny _ _ (Builtin.SmallTypes.nextOf (.ref i1) >>= _) _ _ _
 refine fu (Hu (h1.extBut e1.extBut D.i1z) hx fun g2 j1 e2=>Eb ?_)
 have o2:IsPair g2 TO a b:=e2.extBut _ _ D.TOi1 (e1.extBut _ _ D.TOz Lj)
 refine fu (Fo o2 rfl (fu (FT o2 fun g3 o3 e3=>fu (HN (Eb ?_)))))
 have o3:IsPair g3 TO (.str ⟨#[c]⟩ s.toks) b:=o3
 refine fu (fu (Gk ?_))
 show wpAny _ _ (Builtin.SmallTypes.nextOf (.ref i2) >>= _) _ _ _
 refine fu (Hu (((h2.extBut e1.extBut D.i2z).extBut e2.extBut D.i12.symm).extBut e3.extBut D.TOi2.symm) hy fun g4 j2 e4=>Eb ?_)
 have o4:IsPair g4 TO (.str ⟨#[c]⟩ s.toks) b:=e4.extBut _ _ D.TOi2 o3
 refine fu (Fo o4 rfl (fu (FT o4 fun g5 o5 e5=>fu (HN (Eb (Eb ?_))))))
 have o5:IsPair g5 TO (.str ⟨#[c]⟩ s.toks) (.str ⟨#[d]⟩ (s.toks+1)):=o5
 refine fu (Fo o5 rfl (fu (wpAny_newTuple ?_)))
 have hsz:g5.objs.size=s.heap.objs.size:=by rw [e5.1,e4.1,e3.1,e2.1,e1.1]
 have z5:IsZip g5 z TI TO .ellipsis:=e5.extBut _ _ D.TOz.symm (e4.extBut _ _ D.i2z.symm (e3.extBut _ _ D.TOz.symm (e2.extBut _ _ D.i1z.symm hz1)))
 have kk:∀ e o,e≠z→e≠TO→e≠i1→e≠i2→s.heap.get? e=some o→g5.get? e=some o:=fun e o n1 n2 n3 n4 q=>e5.extBut _ _ n2 (e4.extBut _ _ n4 (e3.extBut _ _ n2 (e2.extBut _ _ n3 (e1.extBut _ _ n1 q))))
 have j1':gY g5 i1 x t (k+1):=((j1.extBut e3.extBut D.TOi1.symm).extBut e4.extBut D.i12).extBut e5.extBut D.TOi1.symm
 have j2':gY g5 i2 y u (k+1):=j2.extBut e5.extBut D.TOi2.symm
 have zlt:z < g5.objs.size:=Em z5
 show wpAny _ _ (Builtin.SmallTypes.ownedTupleHandOut (.ref z) (.ref g5.objs.size) >>= _) _ _ _
 refine fu ?_
 unfold Builtin.SmallTypes.ownedTupleHandOut
 have z6:IsZip (g5.push { cls:=.type "tuple",data:=.seq #[.str ⟨#[c]⟩ s.toks,.str ⟨#[d]⟩ (s.toks+1)] }) z TI TO .ellipsis:=D_ _ z5
 refine fu (Fb z6 (by simp) fun g7 z7 e7=>?_)
 have z7:IsZip g7 z TI TO (rawInt g5.objs.size):=z7
 refine Fb z7 (by simp) fun g8 z8 e8=>?_
 have z8:IsZip g8 z TI TO (rawInt g5.objs.size):=z8
 have up:∀ e o,e≠z→g5.get? e=some o→g8.get? e=some o:=fun e o n1 q=>e8.extBut _ _ n1 (e7.extBut _ _ n1 (D_ _ q))
 have T8:IsPair g8 g5.objs.size (.str ⟨#[c]⟩ s.toks) (.str ⟨#[d]⟩ (s.toks+1)):=e8.extBut _ _ (Gh zlt) (e7.extBut _ _ (Gh zlt) (El _ rfl))
 rw [hsz] at z8 T8
 refine Eb ⟨_,rfl,?_⟩
 show Q (.ref g5.objs.size) _
 rw [hsz]
 exact hQ g8 _ _ _ z8 (up _ _ D.TOz o5) (let ⟨o,ho,r⟩:=j1';⟨o,up _ o D.i1z ho,r⟩) (let ⟨o,ho,r⟩:=j2';⟨o,up _ o D.i2z ho,r⟩) T8 fun e o n1 n2 n3 n4 q=>up e o n1 (kk e o n1 n2 n3 n4 q)
theorem tZ {Q:Fin→Shared→Prop}(hh:A.handled=none)(D:Ap5 z TI TO i1 i2)
  (hz:IsZip s.heap z TI TO .none) (hTI:IsPair s.heap TI (.ref i1) (.ref i2)) (Lj:IsPair s.heap TO a b) (h1:gY s.heap i1 x t k) (h2:gY s.heap i2 y u k) (hend:x.cps[k]? = none ∨ y.cps[k]? = none)
  (hE:∀ h' tk e,(∀ c o,c≠z→c≠TO→c≠i1→c≠i2→s.heap.get? c=some o→h'.get? c=some o)→(∃ o,h'.get? e=some o∧o.cls = .type "StopIteration")→E (.ref e) { s with heap:=h',toks:=tk }) :
  wpAny (model prog w) A (Builtin.«zip.__next__» ⟨[.ref z],[]⟩) Q E s:=by
 show wpAny _ _ (field (.ref z) 2 >>= _) _ _ _
 refine fu (EF hz rfl (x:=.bool false) rfl ?_)
 show wpAny _ _ (field (.ref z) 3 >>= _) _ _ _
 refine fu (EF hz rfl (x:=.ref TI) rfl (fu (Fo hTI rfl ?_)))
 show wpAny _ _ (Builtin.SmallTypes.ownedTupleIsFree (.ref z) >>= _) _ _ _
 refine fu ?_
 unfold Builtin.SmallTypes.ownedTupleIsFree
 refine fu (EF hz rfl (x:=.none) rfl (Eb ?_))
 simp only [Hg]
 refine fu (G7 (fu (EF hz rfl (x:=.ref TO) rfl (fu (Fb hz (by simp) fun g1 hz1 e1=>?_)))))
 have hz1:IsZip g1 z TI TO .ellipsis:=hz1
 refine fu ?_
 simp only [Ii,IF,Hs,IY]
 refine fu (fu (Gk ?_))
 show wpAny _ _ (Builtin.SmallTypes.nextOf (.ref i1) >>= _) _ _ _
 cases hx:x.cps[k]? with
 | none =>
  refine fu (wpAny_nextOf_ascii_end hh (h1.extBut e1.extBut D.i1z) hx fun g2 e e2 he=>?_)
  obtain ⟨oe,hoe,hce⟩:=he
  have z2:IsZip g2 z TI TO .ellipsis:=e2 _ _ D.i1z.symm hz1
  have hez:e≠z:=fun q=>by subst q;rw [z2] at hoe;cases hoe;simp at hce
  exact Fb z2 (by simp) fun g3 _ e3=>hE g3 _ e (fun c o n1 _ n3 _ q=>e3.extBut _ _ n1 (e2 _ _ n3 (e1.extBut _ _ n1 q))) ⟨oe,e3.extBut _ _ hez hoe,hce⟩
 | some c =>
  have hy:y.cps[k]? = none:=by
   rcases hend with h | h
   ·rw [hx] at h;cases h
   ·exact h
  refine fu (Hu (h1.extBut e1.extBut D.i1z) hx fun g2 j1 e2=>Eb ?_)
  have o2:IsPair g2 TO a b:=e2.extBut _ _ D.TOi1 (e1.extBut _ _ D.TOz Lj)
  refine fu (Fo o2 rfl (fu (FT o2 fun g3 o3 e3=>fu (HN (Eb ?_)))))
  refine fu (fu (Gk ?_))
  show wpAny _ _ (Builtin.SmallTypes.nextOf (.ref i2) >>= _) _ _ _
  refine fu (wpAny_nextOf_ascii_end hh (((h2.extBut e1.extBut D.i2z).extBut e2.extBut D.i12.symm).extBut e3.extBut D.TOi2.symm) hy fun g4 e e4 he=>?_)
  obtain ⟨oe,hoe,hce⟩:=he
  have z4:IsZip g4 z TI TO .ellipsis:=e4 _ _ D.i2z.symm (e3.extBut _ _ D.TOz.symm (e2.extBut _ _ D.i1z.symm hz1))
  have hez:e≠z:=fun q=>by subst q;rw [z4] at hoe;cases hoe;simp at hce
  exact Fb z4 (by simp) fun g5 _ e5=>hE g5 _ e (fun c o n1 n2 n3 n4 q=>e5.extBut _ _ n1 (e4 _ _ n4 (e3.extBut _ _ n2 (e2.extBut _ _ n3 (e1.extBut _ _ n1 q))))) ⟨oe,e5.extBut _ _ hez hoe,hce⟩
theorem nP {Q:Option Value→Shared→Prop}(D:Ap5 z TI TO i1 i2)
  (hz:IsZip s.heap z TI TO .none) (hTI:IsPair s.heap TI (.ref i1) (.ref i2)) (Lj:IsPair s.heap TO a b) (h1:gY s.heap i1 x t k) (h2:gY s.heap i2 y u k) (hx:x.cps[k]? = some c) (hy:y.cps[k]? = some d)
  (hQ:∀ h' tk t1 t2,IsZip h' z TI TO (rawInt s.heap.objs.size)→IsPair h' TO (.str ⟨#[c]⟩ t1) (.str ⟨#[d]⟩ t2)→gY h' i1 x t (k+1)→gY h' i2 y u (k+1)→IsPair h' s.heap.objs.size (.str ⟨#[c]⟩ t1) (.str ⟨#[d]⟩ t2) →
   (∀ e o,e≠z→e≠TO→e≠i1→e≠i2→s.heap.get? e=some o→h'.get? e=some o)→Q (some (.ref s.heap.objs.size)) { s with heap:=h',toks:=tk }) :
  wpAny (model prog w) A (pyNext (.ref z)) Q E s:=by
 have hT:s.TypeIs (.ref z) "zip":=⟨_,hz,rfl⟩
 unfold pyNext
 exact fu (FV (ES (name:=Str.ofString "__next__") hT F_ (Fe F_ hT Ij
  (pM D hz hTI Lj h1 h2 hx hy fun h' tk t1 t2 b1 b2 b3 b4 b5 b6=>Eb (hQ h' tk t1 t2 b1 b2 b3 b4 b5 b6)) (HP _))))
theorem pN {Q:Option Value→Shared→Prop}(hh:A.handled=none)(D:Ap5 z TI TO i1 i2)
  (hz:IsZip s.heap z TI TO .none) (hTI:IsPair s.heap TI (.ref i1) (.ref i2)) (Lj:IsPair s.heap TO a b) (h1:gY s.heap i1 x t k) (h2:gY s.heap i2 y u k) (hend:x.cps[k]? = none ∨ y.cps[k]? = none)
  (hQ:∀ h' tk,(∀ c o,c≠z→c≠TO→c≠i1→c≠i2→s.heap.get? c=some o→h'.get? c=some o)→Q none { s with heap:=h',toks:=tk }):wpAny (model prog w) A (pyNext (.ref z)) Q E s:=by
 have hT:s.TypeIs (.ref z) "zip":=⟨_,hz,rfl⟩
 unfold pyNext
 refine fu (FV (ES (name:=Str.ofString "__next__") hT F_ (Fe F_ hT Ij
  (tZ hh D hz hTI Lj h1 h2 hend fun h' tk e hk he=>?_) (HP _))))
 obtain ⟨o,ho,hc⟩:=he
 refine fu (Ig (T:="StopIteration") (b:=true) ⟨o,ho,hc⟩ IX ?_)
 exact Eb (hQ _ _ hk)
end
abbrev zs1 (h:Heap)(x:Str)(t:Tok):Heap:=h.push { cls:=.type "str_ascii_iterator",data:=.fields #[.str x t,.int 0 0] }
abbrev zs2 (h:Heap)(x y:Str)(t u:Tok):Heap:=(zs1 h x t).push { cls:=.type "str_ascii_iterator",data:=.fields #[.str y u,.int 0 0] }
abbrev zs3 (h:Heap)(x y:Str)(t u:Tok):Heap:=(zs2 h x y t u).push { cls:=.type "tuple",data:=.seq #[.ref h.objs.size,.ref (zs1 h x t).objs.size] }
abbrev zs4 (h:Heap)(x y:Str)(t u:Tok):Heap:=(zs3 h x y t u).push { cls:=.type "tuple",data:=.seq #[.none,.none] }
abbrev zs5 (h:Heap)(x y:Str)(t u:Tok):Heap:=(zs4 h x y t u).push { cls:=.type "zip",data:=.fields #[.none,.bool false,.bool false,.ref (zs2 h x y t u).objs.size,.ref (zs3 h x y t u).objs.size] }
set_option maxHeartbeats 2000000 in
theorem nQ (x y:Str)(t u:Tok)(hx:x.cps.all (· < 128)=true)(hy:y.cps.all (· < 128)=true) :
  Meets (Builtin.«zip.__new__» ⟨[.type "zip",.str x t,.str y u],[]⟩) (fun _ R s=>R (.ok (.ret (.ref (zs4 s.heap x y t u).objs.size))) { s with heap:=zs5 s.heap x y t u }) :=
 .of_wp fun prog w A R s h=>by
  obtain ⟨hp,g,d,tk,os⟩:=s
  have hsub:=sub_zip
  wp_walk using Ht hx,Ht hy
  exact ⟨_,rfl,h⟩
end PySem
namespace PySem
theorem pO {prog:Program}{w:World}{A:Around}{E:Value→Shared→Prop}{s:Shared}{x y:Str}{t u:Tok}{Q:Value→Shared→Prop}(hx:x.cps.all (· < 128)=true)(hy:y.cps.all (· < 128)=true)
  (h:∀ h',IsZip h' (s.heap.objs.size+4) (s.heap.objs.size+2) (s.heap.objs.size+3) .none→IsPair h' (s.heap.objs.size+2) (.ref s.heap.objs.size) (.ref (s.heap.objs.size+1))→IsPair h' (s.heap.objs.size+3) .none .none →
   gY h' s.heap.objs.size x t 0→gY h' (s.heap.objs.size+1) y u 0→(∀ c o,s.heap.get? c=some o→h'.get? c=some o)→Q (.ref (s.heap.objs.size+4)) { s with heap:=h' }) :
  wpAny (model prog w) A (call (.type "zip") [.str x t,.str y u]) Q E s:=by
 refine Jr F.called_zip (by decide) (F.typeCall_zip_2 _ _) (F.newCall_zip_2 _ _) (fun obj=>F.args_object_init_3 obj _ _) F.entry_zip_new (nQ x y t u hx hy) ?_
 have n1:(zs1 s.heap x t).objs.size=s.heap.objs.size+1:=Fw ..
 have n2:(zs2 s.heap x y t u).objs.size=s.heap.objs.size+2:=by rw [Fw,n1]
 have n3:(zs3 s.heap x y t u).objs.size=s.heap.objs.size+3:=by rw [Fw,n2]
 have n4:(zs4 s.heap x y t u).objs.size=s.heap.objs.size+4:=by rw [Fw,n3]
 have g5:(zs5 s.heap x y t u).get? (zs4 s.heap x y t u).objs.size=some _:=El _ rfl
 have g4:(zs5 s.heap x y t u).get? (zs3 s.heap x y t u).objs.size=some _:=D_ _ (El _ rfl)
 have g3:(zs5 s.heap x y t u).get? (zs2 s.heap x y t u).objs.size=some _:=D_ _ (D_ _ (El _ rfl))
 have g2:(zs5 s.heap x y t u).get? (zs1 s.heap x t).objs.size=some _:=D_ _ (D_ _ (D_ _ (El _ rfl)))
 have g1:(zs5 s.heap x y t u).get? s.heap.objs.size=some _:=D_ _ (D_ _ (D_ _ (D_ _ (El _ rfl))))
 show _∧_
 rw [n2,n3,n4] at g5
 rw [n1,n2] at g3
 rw [n3] at g4
 rw [n1] at g2
 rw [n4]
 exact ⟨⟨_,g5,rfl⟩,h _ g5 g3 g4 ⟨_,g1,rfl,rfl⟩ ⟨_,g2,rfl,rfl⟩ fun c o q=>D_ _ (D_ _ (D_ _ (D_ _ (D_ _ q))))⟩
end PySem
namespace L2
open PySem PySem.Spec PyProof.Rows
def Itz (x y:Str):It:=⟨fun i _=>i < min x.cps.size y.cps.size,
 fun i H v H'=>∃ (T:Addr) (c d:Nat),H T=none∧v = .ref T∧x.cps[i]? = some c∧y.cps[i]? = some d∧H'=upd H T (.tup [.str ⟨#[c]⟩,.str ⟨#[d]⟩]),
 fun i _=>i=min x.cps.size y.cps.size⟩
theorem Inv.stepT {X:Cx}{Ks:List (Addr × Obj)}{σ:St}{H:Hp}{s:Shared}{h':Heap}{t':Nat}{ch:List Addr}{T:Addr}{xs:List V}{its:List Value}(I:Inv X Ks σ H s)(hf:∀ b∈ch,mj X Ks H b)
  (k:∀ b o,b∉ch→s.heap.get? b=some o→h'.get? b=some o) (hT:s.heap.objs.size≤T) (hz:xs.length≤sizeLine) (rv:a8 xs its) (ht:IsTup h' T its.toArray) (hnd:NoD h' T) (there:∀ b∈ch,∃ o,s.heap.get? b=some o):Inv X Ks σ (upd H T (.tup xs)) { s with heap:=h',toks:=t' }:=by
 have hn:H T=none:=I.hok.fresh hT
 have ne:∀ {b o},s.heap.get? b=some o→b≠T:=fun e=>EK (Et (Em e) hT)
 have nch:∀ {b u},H b=some u→b∉ch:=fun e z=>by rw [(hf _ z).1] at e;cases e
 refine I.step (g':=s.gens) (d':=s.drawn) (ch:=ch) (fun b hb=>?_) (fun b o _ _ hc e _=>k b o hc e) (fun b o _ _ hc e _=>⟨o.slots,k b o hc e⟩) (fun b o _ e n=>by rw [ar (ne e)];exact n) (fun b o hc e=>⟨o,k b o hc e⟩)
  (fun b ys e=>by rw [ar (aw e hn)];exact e) (fun b o u e=>by rw [ar (aw e hn)];exact e) (fun b ps e=>⟨#[],by rw [ar (aw e hn),e];simp⟩) (fun m hm=>?_) (fun b u e=>?_) I.bare
 ·obtain ⟨_,f1,_,f3,f4,f5⟩:=hf b hb
  exact ⟨f3,f1,f4,f5⟩
 ·obtain ⟨o,es,ep,ho,r⟩:=hm
  exact ⟨o,es,ep,k _ o (fun z=>(hf _ z).2.1 rfl) ho,r⟩
 ·by_cases hb:b=T
  ·subst hb
   rw [ag] at e
   cases e
   exact ⟨hz,its,rv,ht,hnd⟩
  ·rw [ar hb] at e
   refine (I.hok b u e).stay (fun c v hc q=>k c v ?_ q) (fun c q=>by rw [ar (aw q hn)];exact q) fun c ys q=>by rw [ar (aw q hn)];exact q
   rcases hc with z | z
   ·rw [z];exact nch e
   ·exact nch z
theorem t_ {P:Program}{w:World}{K:PySem.W.Frag}{elts:List Expr}{k:Nat}{pos:Pos}{z TI TO i1 i2:Addr}(x y:Str)(t u:Tok)(D:Ap5 z TI TO i1 i2) :
  sX P w K (.Tuple elts k pos) (Itz x y) [z,TI,TO,i1,i2] z (fun i h=>IsZip h z TI TO .none∧IsPair h TI (.ref i1) (.ref i2)∧(∃ a b,IsPair h TO a b)∧gY h i1 x t i∧gY h i2 y u i) where
 mem:=by simp
 obj:=fun i h st b hb=>by
  obtain ⟨s1,s2,⟨a,c,s3⟩,⟨o1,s4,_,d4⟩,⟨o2,s5,_,d5⟩⟩:=st
  simp only [Ei,Ek,EW] at hb
  rcases hb with rfl | rfl | rfl | rfl | rfl
  ·exact ⟨_,s1,fun v q=>by cases q⟩
  ·exact ⟨_,s2,fun v q=>by cases q⟩
  ·exact ⟨_,s3,fun v q=>by cases q⟩
  ·exact ⟨_,s4,fun v q=>by rw [d4] at q;cases q⟩
  ·exact ⟨_,s5,fun v q=>by rw [d5] at q;cases q⟩
 keep:=fun i h h' st kk=>by
  obtain ⟨s1,s2,⟨a,c,s3⟩,⟨o1,s4,r4⟩,⟨o2,s5,r5⟩⟩:=st
  exact ⟨kk z (by simp) _ s1,kk TI (by simp) _ s2,⟨a,c,kk TO (by simp) _ s3⟩,⟨o1,kk i1 (by simp) _ s4,r4⟩,⟨o2,kk i2 (by simp) _ s5,r5⟩⟩
 item:=by
  intro X hP hw hK hc i Ks s σ H E I hf st hg
  subst hP hw hK
  have hg:i < min x.cps.size y.cps.size:=hg
  obtain ⟨s1,s2,⟨a,c,s3⟩,s4,s5⟩:=st
  have hx:x.cps[i]? = some (x.cps[i]'(by omega)):=FD (by omega)
  have hy:y.cps[i]? = some (y.cps[i]'(by omega)):=FD (by omega)
  generalize x.cps[i]'(by omega)=c1 at hx
  generalize y.cps[i]'(by omega)=c2 at hy
  refine nP D s1 s2 s3 s4 s5 hx hy fun h' tk t1 t2 b1 b2 b3 b4 b5 b6=>⟨_,rfl,?_⟩
  refine IZ b1 fun h2 c1' e2=>?_
  have kk:∀ b o,b∉[z,TI,TO,i1,i2]→s.heap.get? b=some o→h2.get? b=some o:=fun b o hb e=>by
   simp only [Ei,Ek,EW,not_or] at hb
   exact e2.extBut _ _ hb.1 (b6 b o hb.1 hb.2.2.1 hb.2.2.2.1 hb.2.2.2.2 e)
  have hTz:s.heap.objs.size≠z:=Gh (Em s1)
  have I2:Inv X Ks σ (upd H s.heap.objs.size (.tup [.str ⟨#[c1]⟩,.str ⟨#[c2]⟩])) { s with heap:=h2,toks:=tk } :=
   I.stepT (ch:=[z,TI,TO,i1,i2]) (its:=[.str ⟨#[c1]⟩ t1,.str ⟨#[c2]⟩ t2]) hf kk (Eg _) (by show 2≤sizeLine;decide) (.cons ⟨_,rfl⟩ (.cons ⟨_,rfl⟩ .nil)) ⟨_,e2.extBut _ _ hTz b5,rfl,_,rfl⟩ ⟨_,e2.extBut _ _ hTz b5,rfl⟩ (fun b hb=>by
    obtain ⟨o1,q4,_⟩:=s4
    obtain ⟨o2,q5,_⟩:=s5
    simp only [Ei,Ek,EW] at hb
    rcases hb with rfl | rfl | rfl | rfl | rfl
    ·exact ⟨_,s1⟩
    ·exact ⟨_,s2⟩
    ·exact ⟨_,s3⟩
    ·exact ⟨_,q4⟩
    ·exact ⟨_,q5⟩)
  have hnT:H s.heap.objs.size=none:=I.hok.fresh (Eg _)
  have sTI:IsPair h2 TI (.ref i1) (.ref i2):=e2.extBut _ _ D.TIz (b6 _ _ D.TIz D.TITO D.TIi1 D.TIi2 s2)
  refine ⟨.ref s.heap.objs.size,_,I2,rfl,⟨s.heap.objs.size,c1,c2,hnT,rfl,hx,hy,rfl⟩,⟨c1',sTI,⟨_,_,e2.extBut _ _ D.TOz b2⟩,b3.extBut e2.extBut D.i1z,b4.extBut e2.extBut D.i2z⟩,fun b hb=>?_⟩
  have KB:∃ o,s.heap.get? b=some o:=by
   obtain ⟨o1,q4,_⟩:=s4
   obtain ⟨o2,q5,_⟩:=s5
   simp only [Ei,Ek,EW] at hb
   rcases hb with rfl | rfl | rfl | rfl | rfl
   ·exact ⟨_,s1⟩
   ·exact ⟨_,s2⟩
   ·exact ⟨_,s3⟩
   ·exact ⟨_,q4⟩
   ·exact ⟨_,q5⟩
  obtain ⟨o,q⟩:=KB
  rw [ar (EK (Em q))]
  exact (hf b hb).1
 done:=by
  intro X hP hw hK hc i Ks s σ H E I hf st hg
  subst hP hw hK
  have hg:i=min x.cps.size y.cps.size:=hg
  obtain ⟨s1,s2,⟨a,c,s3⟩,s4,s5⟩:=st
  refine pN (I.ok.hd hc) D s1 s2 s3 s4 s5 ?_ fun h' tk kk=>⟨rfl,?_⟩
  ·by_cases hle:x.cps.size≤y.cps.size
   ·exact .inl (HD (by omega))
   ·exact .inr (HD (by omega))
  ·have nch:∀ {b u},H b=some u→b∉[z,TI,TO,i1,i2]:=fun e q=>by rw [(hf _ q).1] at e;cases e
   have k2:∀ b o,b∉[z,TI,TO,i1,i2]→s.heap.get? b=some o→h'.get? b=some o:=fun b o hb e=>by
    simp only [Ei,Ek,EW,not_or] at hb
    exact kk b o hb.1 hb.2.2.1 hb.2.2.2.1 hb.2.2.2.2 e
   refine I.step (g':=s.gens) (d':=s.drawn) (ch:=[z,TI,TO,i1,i2]) (fun b hb=>?_) (fun b o _ _ hc e _=>k2 b o hc e) (fun b o _ _ hc e _=>⟨o.slots,k2 b o hc e⟩) (fun _ _ _ _ n=>n) (fun b o hc e=>⟨o,k2 b o hc e⟩)
    (fun _ _ e=>e) (fun _ _ _ e=>e) (fun b ps e=>⟨#[],by rw [e];simp⟩) (fun m hm=>?_) (fun b u e=>?_) I.bare
   ·obtain ⟨_,f1,_,f3,f4,f5⟩:=hf b hb
    exact ⟨f3,f1,f4,f5⟩
   ·obtain ⟨o,es,ep,ho,r⟩:=hm
    exact ⟨o,es,ep,k2 _ o (fun q=>(hf _ q).2.1 rfl) ho,r⟩
   ·refine (I.hok b u e).stay (fun c v hc q=>k2 c v ?_ q) (fun _ q=>q) fun _ _ q=>q
    rcases hc with q | q
    ·rw [q];exact nch e
    ·exact nch q
 self:=fun _ _ _ _ _ st h=>Ik st.1 h
section
variable {X:Cx}
theorem vY (n:Nat):Ap5 (n+4) (n+2) (n+3) n (n+1):=by
 constructor <;> (intro h;have h:(_:Nat)=_:=h;omega)
def DS (ta:TA):TI:=fun σ H R=>ta σ H fun vs H1=>∃ x y,vs=[.str x,.str y]∧x.cps.all (· < 128)=true∧y.cps.all (· < 128)=true∧R (Itz x y) H1
theorem z9 {a b:Expr}{ta:TA}{p pos tp:Pos}{elts:List Expr}{k:Nat}(hg:Gl X "zip")(hm:X.mg "zip" = none)(hb:bootBuiltins "zip" = some (.type "zip"))(ha:PA X [a,b] ta)(hs:starEach [a,b] X.env=(false,eval a X.env)::starEach [b] X.env:=by rfl)(hs2:(backTo pos (starEach [b] X.env)).any (·.1)=false:=by rfl) :
  PI X (.Tuple elts k tp) (.Call (.Name "zip" p) [a,b] [] pos) (DS ta):=by
 intro Ks s σ H R I h
 refine Call_ (eF I hg hm hb (Ff (thn (ha pos Ks s σ H _ I h) fun us s1 Lg=>?_) hs hs2))
 obtain ⟨vs,H1,I1,r1,q1⟩:=Lg
 obtain ⟨x,y,rfl,hx,hy,q⟩:=q1
 obtain ⟨u1,u2,rfl,⟨t,rfl⟩,⟨u,rfl⟩⟩:=tj r1
 refine pO hx hy fun h' b1 b2 b3 b4 b5 b6=>?_
 have I2:Inv X Ks σ H1 { s1 with heap:=h',toks:=s1.toks }:=I1.kept b6
 refine Ik (s:={ s1 with heap:=h',toks:=s1.toks }) b1 ?_
 refine ⟨s1.heap.objs.size+4,[s1.heap.objs.size+4,s1.heap.objs.size+2,s1.heap.objs.size+3,s1.heap.objs.size,s1.heap.objs.size+1],_,Itz x y,H1,rfl,I2,
  t_ x y t u (vY s1.heap.objs.size),⟨b1,b2,⟨_,_,b3⟩,b4,b5⟩,fun b hb=>?_,q⟩
 have hge:s1.heap.objs.size≤b:=by
  simp only [Ei,Ek,EW] at hb
  rcases hb with rfl | rfl | rfl | rfl | rfl <;> omega
 exact I1.fpOk hge (I1.hok.fresh hge)
theorem xJ {K:PySem.W.Frag}{es:List Expr}{k:Nat}{t:TGs}{n:Nat}{pos:Pos}(hK:X.K=K)(hc:X.calm=true)(h:PGs X es t)
  (hn:(assignEach es X.env).length=n:=by rfl) (KP:(assignEach es X.env).findIdx? (·.1)=none:=by rfl):PG X (.Tuple es k pos) (CY K n t):=by
 subst hK
 exact gm hc h hn KP
end
end L2
namespace L2
open PySem PySem.Spec PyProof.Rows Wd
def pP:Expr→Bool
 | .Starred _ _=>false
 | _=>true
theorem xK {e:Expr}(h:pP e=true)(es:List Expr)(env:Env):starEach (e::es) env=(false,eval e env)::starEach es env:=by
 cases e <;> first | rfl | cases h
theorem bT {X:Cx}{e:Expr}{es:List Expr}{te:TE}{t:TA}(ha:PE X e te)(hr:PA X es t)(h:pP e=true:=by rfl):PA X (e::es) (zA te t):=aa ha hr (xK h _ _)
theorem ba {X:Cx}{K:PySem.W.Frag}(hK:X.K=K):cI X (.builtin "isinstance") (cY K):=by
 subst hK
 exact k9
def ltr (c:Nat):Option L:=([0,1,2,3,4,5,6,7,8,9,10,11]:List L).find? fun x=>cp x == c
theorem mN:∀ x:L,ltr (cp x)=some x:=by decide
theorem f_ {c:Nat}{x:L}(h:ltr c=some x):cp x=c:=by
 have:=List.find?_some h
 simpa using this
def ua (z:Str):Bool:=match z.cps.toList with
 | [c]=>(ltr c).isSome
 | _=>false
def okC (m:Int)(c:Nat):Bool:=match ltr c with
 | some x=>decide (((x.val % 6:Nat):Int) < m)
 | none=>false
def isW (m:Int)(z:Str):Bool:=z.cps.toList.all (okC m)
def De:V→Bool
 | .str z=>ua z
 | _=>false
def wdV (m:Int):V→Bool
 | .str z=>isW m z
 | _=>false
inductive Th (K:PySem.W.Frag)(H:Hp):V→Prop
 | str (z:Str) (h:z.length≤500):Th K H (.str z)
 | oth {x:V} {n:String} (ty:fU K H x (.type n)) (e:PySem.W.kitOne K (.type n) (.type "str")=some false) (ns:∀ z,x ≠ .str z):Th K H x
theorem ub {x:V}(ns:∀ z,x ≠ .str z):De x=false:=by
 cases x with
 | str z=>exact absurd rfl (ns z)
 | _=>rfl
theorem pQ {m:Int}{x:V}(ns:∀ z,x ≠ .str z):wdV m x=false:=by
 cases x with
 | str z=>exact absurd rfl (ns z)
 | _=>rfl
theorem fU.same {K:PySem.W.Frag}{H H':Hp}{x:V}{t:Value}(s:av H H')(h:fU K H x t)(hc:∀ C,t ≠ .ref C):fU K H' x t:=by
 cases h with
 | non=>exact .non
 | bl x=>exact .bl x
 | int x=>exact .int x
 | str x=>exact .str x
 | flt x=>exact .flt x
 | lst e=>exact .lst (s _ _ e)
 | frz e=>exact .frz (s _ _ e)
 | tup e=>exact .tup (s _ _ e)
 | dK e=>exact .dK (s _ _ e)
 | dT e=>exact .dT (s _ _ e)
 | _=>exact absurd rfl (hc _)
theorem i4 {K:PySem.W.Frag}:PySem.W.kitOne K (.type "str") (.type "str")=some true:=by unfold PySem.W.kitOne; rw [if_pos (by rfl)]
theorem Th.same {K:PySem.W.Frag}{H H':Hp}{x:V}(s:av H H')(h:Th K H x):Th K H' x:=by
 cases h with
 | str z h=>exact .str z h
 | oth ty e ns=>exact .oth (ty.same s fun C=>by intro z;cases z) e ns
structure Bk (K:PySem.W.Frag) (a:Addr):Prop where
 lo:(a == sysModules)=false
 all:∀ z:Str,∃ r,PySem.W.nsIn K a z=some r∧r.isSome=ua z
def Bp (e:DictEntry):Str:=match e.key with
 | .str x _=>x
 | _=>""
def i5:List Str:=([0,1,2,3,4,5,6,7,8,9,10,11]:List L).map fun x=>toS [x]
theorem B7:∀ x:L,x∈([0,1,2,3,4,5,6,7,8,9,10,11]:List L):=by decide
theorem uc (z:Str):ua z=i5.any (fun y=>y == z):=by
 have key:∀ c:Nat,(ltr c).isSome=i5.any (fun y=>y == (⟨#[c]⟩:Str)):=by
  intro c
  rw [Fp]
  constructor
  ·intro h
   obtain ⟨x,hx⟩:=FR.mp h
   have e:=f_ hx
   rw [Gf]
   refine ⟨toS [x],ED.mpr ⟨x,B7 x,rfl⟩,?_⟩
   rw [← e]
   exact FQ.mpr rfl
  ·intro h
   obtain ⟨y,hy,e⟩:=Gf.mp h
   obtain ⟨x,_,rfl⟩:=ED.mp hy
   have e:=FQ.mp e
   have e2:[cp x]=[c]:=EX (fun s:Str=>s.cps.toList) e
   have e3:cp x=c:=by simpa using e2
   rw [← e3,mN]
   rfl
 obtain ⟨⟨l⟩⟩:=z
 match l with
 | [c]=>exact key c
 | [] =>
  symm
  show _=false
  rw [GU]
  intro y hy e
  obtain ⟨x,_,rfl⟩:=ED.mp hy
  have e:=EX (fun s:Str=>s.cps.toList.length) (FQ.mp e)
  cases e
 | a::b::r =>
  symm
  show _=false
  rw [GU]
  intro y hy e
  obtain ⟨x,_,rfl⟩:=ED.mp hy
  have e:=EX (fun s:Str=>s.cps.toList.length) (FQ.mp e)
  cases e
theorem B8 {K:PySem.W.Frag}{w:World}{a:Addr}{es:Array DictEntry}{n:Nat}(lo:(a == sysModules)=false)(hl:K.lookup a=some ⟨.type "dict",none,.dict es n,#[]⟩)(hk:PySem.W.KeysLit w.params es.toList)(hn:es.toList.map Bp=i5):Bk K a:=by
 refine ⟨lo,fun z=>?_⟩
 have hs:∀ e∈es.toList,e.key.isStr z=(Bp e == z)∧e.refKey=false:=by
  intro e he
  obtain ⟨x,t,e1,_⟩:=hk.all e he
  unfold Bp DictEntry.refKey
  rw [e1]
  exact ⟨rfl,rfl⟩
 have ha:es.toList.any (fun e=>e.key.isStr z)=ua z:=by
  rw [uc,← hn,List.any_map]
  rw [Fp,Gf,Gf]
  constructor
  ·rintro ⟨e,he,q⟩
   exact ⟨e,he,by rw [(hs e he).1] at q;exact q⟩
  ·rintro ⟨e,he,q⟩
   exact ⟨e,he,by rw [(hs e he).1];exact q⟩
 have hr:es.toList.any (fun e=>e.refKey)=false:=by
  rw [GU]
  intro e he
  rw [(hs e he).2]
  decide
 unfold PySem.W.nsIn
 rw [hl]
 dsimp only
 cases hf:es.toList.find? (fun e=>e.key.isStr z) with
 | some e =>
  refine ⟨some e.val,rfl,?_⟩
  rw [← ha]
  symm
  exact Gf.mpr ⟨e,List.mem_of_find?_eq_some hf,by have:=List.find?_some hf;exact this⟩
 | none =>
  refine ⟨none,?_,?_⟩
  ·dsimp only
   rw [hr]
   rfl
  ·rw [← ha]
   symm
   show _=false
   rw [GU]
   intro e he q
   exact List.find?_eq_none.mp hf e he q
end L2
namespace Kx
open PySem PySem.Spec PyProof.Rows L2 Wd
inductive i7 (K:PySem.W.Frag)(vs:List V)(H:Hp)(Q:VK)(KC:XK):Prop
 | mk:∀ x,(vs=[x])→(Th K H x)→(Q (.bl (De x)) H)→i7 K vs H Q KC
inductive ud (vs:List V)(H:Hp)(Q:VK)(KC:XK):Prop
 | mk:∀ (x:L),(vs=[tx [x]])→(Q (.int ((x.val % 6:Nat):Int)) H)→ud vs H Q KC
inductive xM (K:PySem.W.Frag)(vs:List V)(H:Hp)(Q:VK)(KC:XK):Prop
 | mk:∀ (m:Int) (x:V),(vs=[.int m,x])→(1≤m)→(m≤6)→(Th K H x)→(∀ H',av H H'→Q (.bl (wdV m x)) H')→xM K vs H Q KC
inductive k_ (vs:List V)(H:Hp)(Q:VK)(KC:XK):Prop
 | mk:∀ u,(vs=[tx u])→(u.length≤500)→(∀ H',av H H'→Q (.bl (decide (red u=u))) H')→k_ vs H Q KC
theorem asc (u:List L):(toS u).cps.all (· < 128)=true:=by
 rw [← Array.all_toList,bt,FK]
 intro c hc
 obtain ⟨x,_,rfl⟩:=ED.mp hc
 exact Eh (xD x)
theorem z_:∀ {st:List L},Rd st→∀ i x y,st[i]? = some x→st[i+1]? = some y→y≠inv x
 | [],_,i,x,y,h,_=>by simp at h
 | [a],_,i,x,y,_,h=>by simp at h
 | a::b::r,h,i,x,y,h1,h2=>by
  cases i with
  | zero =>
   simp at h1 h2
   subst h1 h2
   exact fun e=>h.1 (by first | exact e | rw [e,bB] | exact e.symm)
  | succ i=>exact z_ h.tail i x y (by simpa using h1) (by simpa using h2)
def chk (u:List L):List Bool:=List.zipWith (fun x y=>!decide (tx [inv x]=tx [y])) u (u.drop 1)
theorem pR {u:List L}{i:Nat}{x y:L}(h1:u[i]? = some x)(h2:(u.drop 1)[i]? = some y):(chk u)[i]? = some (!decide (tx [inv x]=tx [y])):=by
 unfold chk
 rw [List.getElem?_zipWith,h1,h2]
theorem il (u:List L):(chk u).length=u.length - 1:=by unfold chk; rw [List.length_zipWith,Fv]; omega
theorem Aa {x y:L}:tx [x]=tx [y] ↔ x=y:=⟨fun e=>by have:=ie e; simpa using this,fun e=>by rw [e]⟩
theorem xN (u:List L):(chk u).all id=decide (red u=u):=by
 rw [Fp,Gj,FK]
 constructor
 ·intro h
  refine k7 (k:=u.length) (Eg _) fun i x y hi h1 h2 e=>?_
  have q:=pR h1 (show (u.drop 1)[i]? = some y by rw [List.getElem?_drop,JD];exact h2)
  have q2:=h _ (Es q)
  rw [e] at q2
  simp at q2
 ·intro h b hb
  obtain ⟨i,hi⟩:=List.mem_iff_getElem?.mp hb
  have KB:i < u.length - 1:=by rw [← il];exact (Ef.mp hi).1
  have h1:u[i]? = some (u[i]'(by omega)):=Ee (by omega)
  have h2:u[i+1]? = some (u[i+1]'(by omega)):=Ee (by omega)
  generalize u[i]'(by omega)=x at h1
  generalize u[i+1]'(by omega)=y at h2
  have q:=pR h1 (show (u.drop 1)[i]? = some y by rw [List.getElem?_drop,JD];exact h2)
  rw [q] at hi
  have hi:=EE hi
  rw [← hi]
  have ha:act u []=u.reverse:=by
   have:=EX List.reverse h
   unfold red at this
   rwa [Il] at this
  have hr:Rd u.reverse:=by rw [← ha];exact vU u trivial
  have n:=z_ hr (u.length - 1 - (i+1)) y x (by rw [GR (by omega),show u.length - 1 - (u.length - 1 - (i+1))=i+1 by omega];exact h2)
   (by rw [GR (by omega),show u.length - 1 - (u.length - 1 - (i+1)+1)=i by omega];exact h1)
  have:¬ (tx [inv x]=tx [y]):=fun e=>n (by rw [← Aa.mp e,bB])
  rw [Ed this]
  rfl
theorem Ab:∀ x:L,Builtin.Str.occurrences ("abcdef":Str) (Txt.lower (toS [x])) 0 ("abcdef":Str).length 1=[x.val % 6]:=by
 have q:∀ x:L,Builtin.Str.occurrences ("abcdef":Str) (⟨(([x].map cp).map lo1).toArray⟩:Str) 0 ("abcdef":Str).length 1=[x.val % 6]:=by decide +kernel
 intro x
 rw [gF]
 exact q x
theorem Ac (m:Int)(x:L):okC m (cp x)=decide (((x.val % 6:Nat):Int) < m):=by unfold okC; rw [mN]
theorem pS {c:Nat}(h:(ltr c).isSome=true):∃ x:L,(⟨#[c]⟩:Str)=toS [x]∧c=cp x:=by
 obtain ⟨x,hx⟩:=FR.mp h
 exact ⟨x,by rw [← f_ hx];rfl,(f_ hx).symm⟩
theorem Ad {m:Int}{c:Nat}(h:(ltr c).isSome=false):okC m c=false:=by
 unfold okC
 cases e:ltr c with
 | none=>rfl
 | some x=>rw [e] at h;cases h
theorem nS (z:Str):(L2.dI z).all iN=true:=by
 rw [FK]
 intro v hv
 obtain ⟨c,_,rfl⟩:=ED.mp hv
 rfl
theorem Dg (c:Nat):okC 6 c=(ltr c).isSome:=by
 unfold okC
 cases ltr c with
 | none=>rfl
 | some x=>exact Eh (by have:=Nat.mod_lt x.val (show 0 < 6 by decide);omega)
theorem ue {K:PySem.W.Frag}{H:Hp}{m:Int}{x:V}(h:Th K H x)(e:wdV m x=true):∃ z,x = .str z∧z.length≤500:=by
 cases h with
 | str z hz=>exact ⟨z,rfl,hz⟩
 | oth ty q ns=>rw [pQ ns] at e;cases e
end Kx
namespace L2
open PySem PySem.Spec PyProof.Rows Wd
section
variable {X:Cx}
inductive vZ (x:V)(y:V)(H:Hp)(Q:VK):Prop
 | mk:∀ a b xs,(x = .ref a)→(y = .ref b)→(H a=some (.lst xs))→(H b=some (.lst []))→(Q (.bl (!xs.isEmpty)) H)→vZ x y H Q
theorem kc (hu:X.A.units+64 < cLine):OpR X (compareOp .NotEq) vZ:=by
 intro Ks s σ H x y v u Q I rx ry h
 obtain ⟨a,b,xs,rfl,rfl,ha,hb,q⟩:=h
 cases rx
 cases ry
 obtain ⟨its,n,rv,ea,_⟩:=I.lst ha
 obtain ⟨KL,n2,rv2,eb,_⟩:=I.lst hb
 cases rv2
 have hla:s.heap.IsList a its.toArray:=⟨_,ea,rfl,_,rfl⟩
 have hlb:s.heap.IsList b ([]:List Value).toArray:=⟨_,eb,rfl,_,rfl⟩
 cases xs with
 | nil =>
  cases rv
  refine HQ (SeqAt.RcNeAt.lists (e:=fun _=>true) hla hlb rfl (by omega) (fun j hj=>by simp at hj)) ?_
  exact ⟨.bl false,H,I,rfl,q⟩
 | cons z r =>
  cases rv with
  | cons r1 r2 =>
   refine HQ (SeqAt.RcNeAt.lists_lengths hla hlb (by simp) (by omega)) ?_
   exact ⟨.bl true,H,I,rfl,q⟩
end
theorem bV {K:PySem.W.Frag}:PySem.W.kitOne K (.type "tuple") (.type "tuple")=some true:=by unfold PySem.W.kitOne; rw [if_pos (by rfl)]
theorem uf {K:PySem.W.Frag}:PySem.W.kitOne K (.type "NoneType") (.type "tuple")=some false:=by kernel_rfl
theorem pT {K:PySem.W.Frag}:PySem.W.kitOne K (.type "bool") (.type "tuple")=some false:=by kernel_rfl
theorem ug {K:PySem.W.Frag}:PySem.W.kitOne K (.type "int") (.type "tuple")=some false:=by kernel_rfl
theorem pU {K:PySem.W.Frag}:PySem.W.kitOne K (.type "list") (.type "tuple")=some false:=by kernel_rfl
theorem uh {K:PySem.W.Frag}:PySem.W.kitOne K (.type "str") (.type "tuple")=some false:=by kernel_rfl
theorem pV {K:PySem.W.Frag}:PySem.W.kitOne K (.type "dict") (.type "tuple")=some false:=by kernel_rfl
theorem ip {xs:List V}{q:Int}(h0:0≤q)(h1:q < xs.length):∃ y,atI xs q=some y∧y∈xs:=by
 obtain ⟨k,rfl⟩:=ET h0
 have hk:k < xs.length:=by omega
 refine ⟨xs[k],?_,Gg hk⟩
 unfold atI ixN
 rw [if_pos (by omega),if_pos (by omega)]
 show xs[((k:Nat):Int).toNat]? = _
 rw [EH,Ee hk]
end L2
namespace Kx
open PySem PySem.Spec PyProof.Rows L2 Wd
def ofS (z:Str):Option (List L):=z.cps.toList.mapM ltr
theorem mO:∀ {l:List Nat} {u:List L},l.mapM ltr=some u→l=u.map cp
 | [],u,h=>by simp at h;subst h;rfl
 | c::r,u,h=>by
  rw [Jy] at h
  cases hc:ltr c with
  | none=>rw [hc] at h;cases h
  | some x =>
   cases hr:r.mapM ltr with
   | none=>rw [hc,hr] at h;cases h
   | some v =>
    rw [hc,hr] at h
    cases h
    rw [EO,← f_ hc,← mO hr]
theorem pX:∀ u:List L,(u.map cp).mapM ltr=some u
 | []=>rfl
 | x::r=>by rw [EO,Jy,mN,pX r];rfl
theorem uk {z:Str}{u:List L}(h:ofS z=some u):z=toS u:=by
 have e:=mO h
 unfold toS
 rw [← e]
theorem xO (u:List L):ofS (toS u)=some u:=by unfold ofS; rw [bt]; exact pX u
theorem mP:∀ l:List Nat,l.all (okC 6)=(l.mapM ltr).isSome
 | []=>rfl
 | c::r=>by
  rw [FU,Jy,Dg,mP r]
  cases ltr c <;> cases r.mapM ltr <;> rfl
theorem DT (z:Str):isW 6 z=(ofS z).isSome:=mP _
theorem s12:toS [0,1,2,3,4,5,6,7,8,9,10,11]=("abcdefABCDEF":Str):=by decide +kernel
end Kx
namespace L2
open PySem PySem.Spec PyProof.Rows Wd
theorem cy {K:PySem.W.Frag}{a:Addr}{xs:List V}{own:List Str}{cap:List Nat}{g:TG}{ti:TT}{te:TE}{σ:St}{H:Hp}{Q:VK}(Pv:Nat→List V→St→Hp→Prop)(h0:Pv 0 [] (stB own cap σ) H)(hz:∀ i ys σ H,i≤xs.length→Pv i ys σ H→ys.length≤i)(hn:xs.length≤sizeLine)
  (hl:∀ i ys σ H,Pv i ys σ H→SqT K H a xs)
  (hs:∀ i ys σ H x (N:List V→St→Hp→Prop),xs[i]? = some x→Pv i ys σ H→(∀ ys' σ' H'',Pv (i+1) ys' σ' H''→N ys' σ' H'')→g x σ H fun σ2 H2=>ti σ2 H2 fun b H3=>if b=true then te σ2 H3 fun y H4=>N (ys++[y]) σ2 H4 else N ys σ2 H3)
  (hd:∀ ys σ H D,Pv xs.length ys σ H→H D=none→Q (.ref D) (upd H D (.lst ys))) :
  tO own cap g ti te Q σ (Itt K a) H:=by
 refine cT (J:=Itt K a) xs.length Pv h0 hz hn (fun i ys σ H hi p=>⟨xs,xs[i],hl i ys σ H p,Ee hi⟩) (fun ys σ H p=>⟨xs,hl _ ys σ H p,Eg _⟩) ?_ hd
 rintro i ys σ H x H' N hi p ⟨rfl,hx⟩ hN
 exact hs i ys σ _ x N (hx xs (hl i ys σ _ p)) p hN
theorem pY {K:PySem.W.Frag}{a:Addr}{xs:List V}{own:List Str}{cap:List Nat}{g:TG}{ti:TT}{te:TE}{σ:St}{H:Hp}{Q:VK}(Pv:Nat→List V→St→Hp→Prop)(h0:Pv 0 [] (stB own cap σ) H)(hz:∀ i ys σ H,i≤xs.length→Pv i ys σ H→ys.length≤i)(hn:xs.length≤sizeLine)
  (hl:∀ i ys σ H,Pv i ys σ H→SqL K H a xs)
  (hs:∀ i ys σ H x (N:List V→St→Hp→Prop),xs[i]? = some x→Pv i ys σ H→(∀ ys' σ' H'',Pv (i+1) ys' σ' H''→N ys' σ' H'')→g x σ H fun σ2 H2=>ti σ2 H2 fun b H3=>if b=true then te σ2 H3 fun y H4=>N (ys++[y]) σ2 H4 else N ys σ2 H3)
  (hd:∀ ys σ H D,Pv xs.length ys σ H→H D=none→Q (.ref D) (upd H D (.lst ys))) :
  tO own cap g ti te Q σ (Itl K a) H:=by
 refine cT (J:=Itl K a) xs.length Pv h0 hz hn (fun i ys σ H hi p=>⟨xs,xs[i],hl i ys σ H p,Ee hi⟩) (fun ys σ H p=>⟨xs,hl _ ys σ H p,Eg _⟩) ?_ hd
 rintro i ys σ H x H' N hi p ⟨rfl,hx⟩ hN
 exact hs i ys σ _ x N (hx xs (hl i ys σ _ p)) p hN
theorem i8 {α β:Type}{xs:List α}{i:Nat}{x:α}(f:α→β)(h:xs[i]? = some x):(xs.take (i+1)).map f=(xs.take i).map f++[f x]:=by
 rw [Gr,h,EG]
 rfl
theorem xP {X:Cx}{a:Expr}{ta:TE}(ha:PE X a ta)(he:∀ whole,isTrue a X.env whole=(do let v ← whole; standAt a.pos; holding [v] (truthy v))):PT X a (wZ ta):=by
 intro Ks s σ H Q I h
 refine isTrue_plain (thn (ha Ks s σ H _ I h) fun v s1 ⟨x,H1,I1,r1,q1⟩=>vM Ks s1 σ H1 x v Q I1 r1 ?_) (he _)
 obtain ⟨k,e,q⟩:=q1
 subst e
 exact ⟨k,rfl,q⟩
theorem Fd.neT {H:Hp}{d a:Addr}{xs:List V}(F:Fd H d)(h:H a=some (.tup xs)):a≠d:=by
 obtain ⟨c,i,l,t,ns,h1,h2,h3,h4⟩:=F.ex
 exact gX h h1 (by intro z;cases z)
theorem none_of {H H1:Hp}{a:Addr}(s:av H H1)(h:H1 a=none):H a=none:=by
 cases e:H a with
 | none=>rfl
 | some o=>rw [s _ _ e] at h;cases h
end L2
namespace L2
open PySem PySem.Spec PyProof.Rows
theorem pZ {X:Cx}{i:Nat}{y:Str}{py spos:Pos}{elt iter tg:Expr}{ifs:List Expr}{scope:Scope}{pos:Pos}{NB own:List Str}{cap:List Nat}{wi:TI}{g:TG}{ti:TT}{te:TE}(hN:X.N.Nodup)(hi0:X.N[i]? = some y)(hx:Loc X.env.scope y)(B:Blk X scope NB own cap)(hc:X.calm=true)(hi:PI X tg iter wi)
  (hg:∀ C fp s₀ H₀,PG (cxB X NB own scope C fp s₀ H₀) tg g) (ht:∀ C fp s₀ H₀,PIf (cxB X NB own scope C fp s₀ H₀) ifs ti) (he:∀ C fp s₀ H₀,PE (cxB X NB own scope C fp s₀ H₀) elt te)
  (hs:∀ x,foldedSetIterable iter X.env x=pure x:=by intro _;rfl) (hsw:swapsWith (.ListComp elt [⟨tg,iter,ifs,0⟩] scope pos) (some (.Name y py)) spos.line X.env=pure true:=by rfl) (hf:X.fn y=true ∨ X.env.scope.names.lookup y=some .local:=by first | exact .inl rfl | exact .inr rfl | assumption):PS X (.Assign [.Name y py] (.ListComp elt [⟨tg,iter,ifs,0⟩] scope pos) spos) (Bl (xy own cap wi g ti te) (sW i)):=by
 intro Ks s σ H DD I0 h
 rw [exec_Assign_Name_used _ _ _ _ hsw]
 refine fu (GZ (fu ?_))
 show wpAny _ X.A (do let _ ← comprehension (.ListComp elt [⟨tg,iter,ifs,0⟩] scope pos) scope X.env _ (newList []) false (eval iter X.env) (some (assign (.Name y py) X.env))) _ _ s
 refine fu (Fm (mB (use:=some (assign (.Name y py) X.env)) (QQ:=fun _ s'=>SP X Ks DD .next s') (pos:=pos) B hc hi hg ht he hs I0 h fun fp C s2 s4 H2 H3 σ3 its ys k I f2 KZ hDC I5 hn3 hD4 rv hz q=>?_) (fun _ s' hq=>Eb (Eb hq)) fun _ _ e=>e)
 obtain ⟨mC,hnC,_⟩:=I5.loc
 have I6:Inv X Ks σ (upd H3 s2.heap.objs.size (.lst ys)) s4:=B.done (h'':=s4.heap) I f2 KZ (Eg _) hDC I5 hn3 hD4 rv hz ⟨rfl,fun _ _=>rfl⟩
 obtain ⟨oC,es,ep,hoC,hdC,rC⟩:=hnC
 have hCn:(upd H3 s2.heap.objs.size (.lst ys)) C=none:=by rw [ar hDC.symm];exact I5.free
 have nL:C≠X.env.locals:=fun z=>absurd I.lt (by rw [← z];exact Jx.mpr KZ)
 have I7:Inv X (Ks++[(C,oC)]) σ (upd H3 s2.heap.objs.size (.lst ys)) s4:=I6.pins_of fun p hp=>by
  rcases EL.mp hp with z | z
  ·exact I6.pin p (Ey _ z)
  ·have ep:=Eu.mp z
   subst ep
   exact ⟨hoC,hCn,nL,I.nofs KZ,fun v z=>by rw [hdC] at z;cases z⟩
 refine thn (aF (pos:=py) hN hi0 hx hf (Ks++[(C,oC)]) s4 σ _ (.ref s2.heap.objs.size) (.ref s2.heap.objs.size) (fun σ' H'=>DD.nx σ' H'∧H'=upd H3 s2.heap.objs.size (.lst ys)) I7 rfl ⟨q,rfl⟩) fun _ s5 zq2=>?_
 obtain ⟨σ5,H5,I8,q5,e5⟩:=zq2
 subst e5
 have pC:=(I8.pin (C,oC) (Ey _ (Ey _ (Eu.mpr rfl)))).1
 refine ⟨mC,⟨oC,es,ep,pC,hdC,rC⟩,fun h'' sb=>⟨σ5,_,?_,q5⟩⟩
 have I9:Inv X Ks σ5 (upd H3 s2.heap.objs.size (.lst ys)) s5:=I8.pins_of fun p hp=>I8.pin p (Ey _ (E1 _ hp))
 refine I9.turned (t':=s5.toks) (it:=C) (fun b o hb e=>(sb.2 b hb).trans e) hCn nL (.inr (EV I.sz KZ)) (fun x c e z=>?_) fun p hp z=>?_
 ·obtain ⟨v,o,ho,_⟩:=I.cell x c e
  exact absurd (Em ho) (by rw [z];exact Jx.mpr KZ)
 ·exact absurd (Em (I.pin p hp).1) (by rw [z];exact Jx.mpr KZ)
end L2
namespace L2
open PySem PySem.Spec PyProof.Rows Wd
theorem Fd.upd {H:Hp}{d l p:Addr}{o:HO}{xs:List V}(F:Fd H d)(h:H l=some (.lst xs))(n:l≠d)(hx:.ref p∈xs):Fd (L2.upd H l o) d:=by
 obtain ⟨c,i,ll,t,ns,h1,h2,h3,h4⟩:=F.ex
 have hc:c≠l:=fun e=>by
  subst e
  rw [h2] at h
  have h:=HO.lst.inj (EE h)
  rw [← h] at hx
  obtain ⟨k,_,e⟩:=ED.mp hx
  cases e
 exact ⟨c,i,ll,t,ns,by rw [ar n.symm];exact h1,by rw [ar hc];exact h2,h3,h4⟩
end L2
namespace PySem
open Sem (wp)
open AutoSeq1 (wpAny_loadPart')
set_option maxHeartbeats 1000000 in
theorem p_ (tp:Addr)(its:Array Value)(m:Nat)(dc:Option Addr)(sls:Array (Option Value)) :
  Meets (Builtin.«enumerate.__new__» ⟨[.type "enumerate",.ref tp],[]⟩) (fun _ R s=>s.heap.get? tp=some { cls:=.type "tuple",dict:=dc,data:=.seq its m,slots:=sls } ∧
   R (.ok (.ret (.ref (s.heap.push { cls:=.type "tuple_iterator",data:=.fields #[.ref tp,.int 0 0] }).objs.size)))
    { s with heap:=(s.heap.push { cls:=.type "tuple_iterator",data:=.fields #[.ref tp,.int 0 0] }).push { cls:=.type "enumerate",data:=.fields #[.none,.bool false,.ref s.heap.objs.size,rawInt 0,.none,.none] } }) :=
 .of_wp fun prog w A R s h=>by
  obtain ⟨hp,gg,dd,tk,os⟩:=s;obtain ⟨ht,h⟩:=h
  have hsub:=sub_enumerate
  have hT:Heap.IsTuple (Shared.heap ⟨hp,gg,dd,tk,os⟩) tp its:=⟨_,ht,rfl,m,rfl⟩
  wp_walk using wpAny_loadPart' ht
  refine wpAny_stack_any fun stk=>Eb ?_
  split
  ·rename_i cc _ _ _ _ _
   cases (cc == Value.type "enumerate")
   ·(wp_walk using wpAny_loadPart' ht,GM hT);exact ⟨_,rfl,h⟩
   ·(wp_walk using wpAny_loadPart' ht,GM hT);exact ⟨_,rfl,h⟩
  ·(wp_walk using wpAny_loadPart' ht,GM hT);exact ⟨_,rfl,h⟩
section
variable {prog:Program} {w:World} {A:Around} {E:Value→Shared→Prop} {s:Shared}
theorem um {tp:Addr}{its:Array Value}{Q:Value→Shared→Prop}(hT:s.heap.IsTuple tp its)
  (h:∀ h',IsEnum h' (s.heap.objs.size+1) s.heap.objs.size 0 .none→h'.IsTupleIter s.heap.objs.size tp 0→(∀ b o,s.heap.get? b=some o→h'.get? b=some o)→Q (.ref (s.heap.objs.size+1)) { s with heap:=h' }) :
  wpAny (model prog w) A (call (.type "enumerate") [.ref tp]) Q E s:=by
 obtain ⟨⟨c,dc,dt,sls⟩,ht,hc,m,hd⟩:=hT
 obtain rfl:c = .type "tuple":=hc
 obtain rfl:dt = .seq its m:=hd
 refine Jr F.called_enumerate (by decide) (F.typeCall_enumerate_1 _) (F.newCall_enumerate_1 _) (fun ob=>F.args_object_init_2 ob _) F.entry_enumerate_new (p_ tp its m dc sls) ⟨ht,?_⟩
 have hz:(s.heap.push { cls:=.type "tuple_iterator",data:=.fields #[.ref tp,.int 0 0] }).objs.size=s.heap.objs.size+1:=Fw ..
 show _∧_
 rw [hz]
 have he:=El (s.heap.push { cls:=.type "tuple_iterator",data:=.fields #[.ref tp,.int 0 0] }) (o:={ cls:=.type "enumerate",data:=.fields #[.none,.bool false,.ref s.heap.objs.size,rawInt 0,.none,.none] }) rfl
 rw [hz] at he
 exact ⟨⟨_,he,rfl⟩,h _ he ⟨_,D_ _ (El _ rfl),rfl,rfl⟩ fun b o q=>D_ _ (D_ _ q)⟩
theorem nU {it tp:Addr}{k:Nat}{its:Array Value}{v:Value}{Q:Value→Shared→Prop}(hit:s.heap.IsTupleIter it tp k)(ht:s.heap.IsTuple tp its)(hv:its[k]? = some v)
  (hQ:∀ h',h'.IsTupleIter it tp (k+1)→Heap.SameBut it s.heap h'→Q v { s with heap:=h' }):wpAny (model prog w) A (Builtin.SmallTypes.nextOf (.ref it)) Q E s:=by
 obtain ⟨oi,gi,ci,di⟩:=id hit
 obtain ⟨ot,gt,_,nt,dt⟩:=ht
 unfold Builtin.SmallTypes.nextOf
 refine fu (ES (name:=Str.ofString "__next__") hit.typeIs Ge (Fe Ge hit.typeIs IG ?_ (Ir _)))
 show wpAny _ _ (field (.ref it) 0 >>= _) _ _ s
 refine fu (EF gi di (x:=.ref tp) rfl ?_)
 show wpAny _ _ (if (Value.ref tp == Value.none)=true then _ else _) _ _ s
 rw [if_neg (show ¬ ((Value.ref tp == Value.none)=true) from Ez)]
 show wpAny _ _ (field (.ref it) 1 >>= _) _ _ s
 refine fu (EF gi di (x:=.int k 0) rfl ?_)
 show wpAny _ _ (seqItems? (.ref tp) >>= _) _ _ s
 refine fu (Fo gt dt ?_)
 simp only [EH,hv]
 refine fu (FI gi di (by simp) (Eb ⟨v,rfl,Eb (hQ _ ?_ (Gy ..))⟩))
 exact ⟨_,E_ _ gi (Ft (Fk di _)),(G6 ..).trans ci,by rw [Fk di];simp [rawInt]⟩
theorem ke {it tp:Addr}{k:Nat}{its:Array Value}{Q:Value→Shared→Prop}(hh:A.handled=none)(hit:s.heap.IsTupleIter it tp k)(ht:s.heap.IsTuple tp its)(hv:its[k]? = none)
  (hE:∀ h' e,Heap.ExtBut it s.heap h'→(∃ o,h'.get? e=some o∧o.cls = .type "StopIteration")→E (.ref e) { s with heap:=h' }):wpAny (model prog w) A (Builtin.SmallTypes.nextOf (.ref it)) Q E s:=by
 obtain ⟨oi,gi,ci,di⟩:=id hit
 obtain ⟨ot,gt,_,nt,dt⟩:=ht
 unfold Builtin.SmallTypes.nextOf
 refine fu (ES (name:=Str.ofString "__next__") hit.typeIs Ge (Fe Ge hit.typeIs IG ?_ (Ir _)))
 show wpAny _ _ (field (.ref it) 0 >>= _) _ _ s
 refine fu (EF gi di (x:=.ref tp) rfl ?_)
 show wpAny _ _ (if (Value.ref tp == Value.none)=true then _ else _) _ _ s
 rw [if_neg (show ¬ ((Value.ref tp == Value.none)=true) from Ez)]
 show wpAny _ _ (field (.ref it) 1 >>= _) _ _ s
 refine fu (EF gi di (x:=.int k 0) rfl ?_)
 show wpAny _ _ (seqItems? (.ref tp) >>= _) _ _ s
 refine fu (Fo gt dt ?_)
 simp only [EH,hv]
 refine fu (G7 (fu (FI gi di (by simp) ?_)))
 show wpAny _ _ (newExc (.type "StopIteration") [] >>= _) _ _ _
 refine fu ?_
 simp only [newExc,newTuple]
 refine fu (Fh ?_ (by size_fits))
 refine fu (m:=firstArgMember _ _) (Hi (a:=Value.none) (by first | rfl | (simp only [firstArgMember];rfl)) (Fh ?_ (by size_fits)))
 simp only [raiseNew]
 refine fu (wpAny_handled ?_)
 first | rw [show A.in1.handled=none from hh] | rw [hh]
 exact fu (Eb (wpAny_throw (hE _ _ (((Gy ..).extBut.push _).push _) ⟨_,El _ rfl,rfl⟩)))
theorem qa {prog:Program}{w:World}{A:Around}(hh:A.handled=none)(it tp:Addr)(KN:tp≠it)(its:Array Value) :
  Draws prog w A it [it,tp] its.size (fun i x=>its[i]? = some x) (fun i h=>h.IsTupleIter it tp i∧h.IsTuple tp its) where
 live:=fun i h st=>let ⟨⟨o,e,_⟩,_⟩:=st;⟨o,e⟩
 frame:=fun i h h' st kk=>⟨st.1.at fun o e=>kk it (by simp) o e,let ⟨o,e,r⟩:=st.2;⟨o,kk tp (by simp) o e,r⟩⟩
 item:=fun i s Q E hi st hQ=>nU st.1 st.2 (FD hi) fun h' Lm sb=>hQ _ h' s.toks (FD hi) ⟨Lm,let ⟨o,e,r⟩:=st.2;⟨o,(sb.2 tp KN).trans e,r⟩⟩ sb
 done:=fun s Q E st hE=>ke hh st.1 st.2 (HD (Eg _)) hE
end
end PySem
namespace L2
open PySem PySem.Spec PyProof.Rows Wd
def zc (K:PySem.W.Frag)(a:Addr):It:=⟨fun i H=>∃ xs x,SqL K H a xs∧xs[i]? = some x,
 fun i H v H'=>∃ (T:Addr) (x:V),H T=none∧v = .ref T∧(∀ xs,SqL K H a xs→xs[i]? = some x)∧H'=upd H T (.tup [.int i,x]),fun i H=>∃ xs,SqL K H a xs∧xs.length≤i⟩
def zd (K:PySem.W.Frag)(a:Addr):It:=⟨fun i H=>∃ xs x,SqT K H a xs∧xs[i]? = some x,
 fun i H v H'=>∃ (T:Addr) (x:V),H T=none∧v = .ref T∧(∀ xs,SqT K H a xs→xs[i]? = some x)∧H'=upd H T (.tup [.int i,x]),fun i H=>∃ xs,SqT K H a xs∧xs.length≤i⟩
theorem kf {X:Cx}{Ks:List (Addr × Obj)}{σ:St}{H:Hp}{s:Shared}{E:Value→Shared→Prop}{elts:List Expr}{k:Nat}{pos:Pos}{e it:Addr}{fp:List Addr}{n i:Nat}{Pv:Nat→Value→Prop}{St':Nat→Heap→Prop}{old:Value}{tn:Nat→Heap→Prop}{Y:V→Hp→Prop}{x:V}
  (D:Draws X.prog X.w X.A.in1 it fp n Pv St') (I:Inv X Ks σ H s) (hf:∀ b∈[e,it],mj X Ks H b) (he:IsEnum s.heap e it i old) (KP:St' i s.heap) (hi:i < n) (KN:e≠it) (hef:e∉fp) (hrel:∀ u,Pv i u→bq x u) (hit:∃ o,s.heap.get? it=some o)
  (hY:∀ T,H T=none→Y (.ref T) (upd H T (.tup [.int i,x]))) (htn:∀ h',St' (i+1) h'→(∃ old,IsEnum h' e it ((i:Int)+1) old)→tn (i+1) h') :
  wpAny (model X.prog X.w) X.A (pyNext (.ref e)) (fun r s1=>∃ u,r=some u ∧
   wpAny (model X.prog X.w) X.A (letOwnedTupleGo (.Tuple elts k pos) (.ref e) u) (fun _ s2=>∃ y H',Inv X Ks σ H' s2∧bq y u∧Y y H'∧tn (i+1) s2.heap∧∀ b∈[e,it],H' b=none) E s1) E s:=by
 refine wpAny_pyNext_enum_itemD D he KP hi KN hef fun u h' tk hu b1 b2 b3 b4 b5=>⟨_,rfl,wpAny_letOwnedTupleGo_enum b1 fun h2 c1 e2=>?_⟩
 have hTe:s.heap.objs.size≠e:=Gh (Em he)
 have kk:∀ b o,b∉[e,it]→s.heap.get? b=some o→h2.get? b=some o:=fun b o hb q=>by
  simp only [Ei,Ek,EW,not_or] at hb
  exact e2.extBut _ _ hb.1 (b5 b o hb.1 hb.2 q)
 have there:∀ b∈[e,it],∃ o,s.heap.get? b=some o:=fun b hb=>by
  simp only [Ei,Ek,EW] at hb
  rcases hb with rfl | rfl
  ·exact ⟨_,he⟩
  ·exact hit
 have I2:Inv X Ks σ (upd H s.heap.objs.size (.tup [.int i,x])) { s with heap:=h2,toks:=tk+1 } :=
  I.stepT (ch:=[e,it]) (its:=[.int i tk,u]) hf kk (Eg _) (by show 2≤sizeLine;decide) (.cons ⟨_,rfl⟩ (.cons (hrel u hu) .nil)) ⟨_,e2.extBut _ _ hTe b3,rfl,_,rfl⟩ ⟨_,e2.extBut _ _ hTe b3,rfl⟩ there
 have hn:H s.heap.objs.size=none:=I.hok.fresh (Eg _)
 refine ⟨.ref s.heap.objs.size,_,I2,rfl,hY _ hn,htn h2 (D.frame _ _ _ b2 fun b hb o q=>e2.extBut _ _ (fun z=>hef (z ▸ hb)) q) ⟨_,c1⟩,fun b hb=>?_⟩
 obtain ⟨o,q⟩:=there b hb
 rw [ar (EK (Em q))]
 exact (hf b hb).1
theorem uo {P:Program}{w:World}{K:PySem.W.Frag}{elts:List Expr}{k:Nat}{pos:Pos}{e it a:Addr}(KN:e≠it) :
  sX P w K (.Tuple elts k pos) (zc K a) [e,it] e (fun i h=>(∃ old,IsEnum h e it i old)∧h.IsListIter it a i) where
 mem:=by simp
 obj:=fun i h st b hb=>by
  obtain ⟨⟨old,s1⟩,⟨o,s2,_,d2⟩⟩:=st
  simp only [Ei,Ek,EW] at hb
  rcases hb with rfl | rfl
  ·exact ⟨_,s1,fun v q=>by cases q⟩
  ·exact ⟨_,s2,fun v q=>by rw [d2] at q;cases q⟩
 keep:=fun i h h' st kk=>by
  obtain ⟨⟨old,s1⟩,s2⟩:=st
  exact ⟨⟨old,kk e (by simp) _ s1⟩,s2.at fun o q=>kk it (by simp) o q⟩
 item:=by
  intro X hP hw hK hc i Ks s σ H E I hf st hg
  subst hP hw hK
  obtain ⟨xs,x,hq,hx⟩:=hg
  obtain ⟨its,rv,p,hz⟩:=I.list hq
  obtain ⟨u,hu,ru⟩:=rv.get hx
  obtain ⟨⟨old,s1⟩,s2⟩:=st
  have hu':its.toArray[i]? = some u:=by simpa using hu
  have ha:a≠e:=fun z=>by obtain ⟨o,q,c,_⟩:=p.isList;rw [z,s1] at q;cases q;simp at c
  have hb:a≠it:=fun z=>by obtain ⟨o,q,c,_⟩:=p.isList;obtain ⟨o2,q2,c2,_⟩:=s2;rw [z,q2] at q;cases q;rw [c2] at c;simp at c
  refine kf (tn:=fun i h=>(∃ old,IsEnum h e it i old)∧h.IsListIter it a i) (Draws.list (by exact I.ok.hd hc) it a hb its.toArray) I hf s1 ⟨s2,p.isList⟩ (EM.mp hu').1 KN (by simp only [Ei,Ek,EW,not_or];exact ⟨KN,fun z=>ha z.symm⟩)
   (fun u2 h2=>by rw [show its.toArray[i]? = some u2 from h2] at hu';cases hu';exact ru) (let ⟨o,q,_⟩:=s2;⟨o,q⟩) (fun T hT=>⟨T,x,hT,rfl,fun ys hy=>by rw [I.list_inj hy hq];exact hx,rfl⟩) fun h' Lm ho=>⟨by simpa using ho,Lm.1⟩
 done:=by
  intro X hP hw hK hc i Ks s σ H E I hf st hg
  subst hP hw hK
  obtain ⟨xs,hq,hx⟩:=hg
  obtain ⟨its,rv,p,hz⟩:=I.list hq
  obtain ⟨⟨old,s1⟩,s2⟩:=st
  obtain ⟨f0,f1,f2,f3,f4,f5⟩:=hf it (by simp)
  have hl:=rv.length
  exact wpAny_pyNext_enum_end (I.ok.hd hc) s1 s2 p.isList (by simp;omega) fun h' eb=>⟨rfl,I.turned (t':=s.toks) (fun b o hb q=>eb b o hb q) f0 f1 f3 f4 f5⟩
 self:=fun _ _ _ _ _ st h=>let ⟨⟨_,s1⟩,_⟩:=st;HR s1 h
theorem uq {P:Program}{w:World}{K:PySem.W.Frag}{elts:List Expr}{k:Nat}{pos:Pos}{e it a:Addr}(KN:e≠it) :
  sX P w K (.Tuple elts k pos) (zd K a) [e,it] e (fun i h=>(∃ old,IsEnum h e it i old)∧h.IsTupleIter it a i) where
 mem:=by simp
 obj:=fun i h st b hb=>by
  obtain ⟨⟨old,s1⟩,⟨o,s2,_,d2⟩⟩:=st
  simp only [Ei,Ek,EW] at hb
  rcases hb with rfl | rfl
  ·exact ⟨_,s1,fun v q=>by cases q⟩
  ·exact ⟨_,s2,fun v q=>by rw [d2] at q;cases q⟩
 keep:=fun i h h' st kk=>by
  obtain ⟨⟨old,s1⟩,s2⟩:=st
  exact ⟨⟨old,kk e (by simp) _ s1⟩,s2.at fun o q=>kk it (by simp) o q⟩
 item:=by
  intro X hP hw hK hc i Ks s σ H E I hf st hg
  subst hP hw hK
  obtain ⟨xs,x,hq,hx⟩:=hg
  obtain ⟨its,rv,p,hz⟩:=I.tuple hq
  obtain ⟨u,hu,ru⟩:=rv.get hx
  obtain ⟨⟨old,s1⟩,s2⟩:=st
  have hu':its.toArray[i]? = some u:=by simpa using hu
  have ha:a≠e:=fun z=>by obtain ⟨o,q,c,_⟩:=p;rw [z,s1] at q;cases q;simp at c
  have hb:a≠it:=fun z=>by obtain ⟨o,q,c,_⟩:=p;obtain ⟨o2,q2,c2,_⟩:=s2;rw [z,q2] at q;cases q;rw [c2] at c;simp at c
  refine kf (tn:=fun i h=>(∃ old,IsEnum h e it i old)∧h.IsTupleIter it a i) (qa (by exact I.ok.hd hc) it a hb its.toArray) I hf s1 ⟨s2,p⟩ (EM.mp hu').1 KN (by simp only [Ei,Ek,EW,not_or];exact ⟨KN,fun z=>ha z.symm⟩)
   (fun u2 h2=>by rw [show its.toArray[i]? = some u2 from h2] at hu';cases hu';exact ru) (let ⟨o,q,_⟩:=s2;⟨o,q⟩) (fun T hT=>⟨T,x,hT,rfl,fun ys hy=>by rw [I.tuple_inj hy hq];exact hx,rfl⟩) fun h' Lm ho=>⟨by simpa using ho,Lm.1⟩
 done:=by
  intro X hP hw hK hc i Ks s σ H E I hf st hg
  subst hP hw hK
  obtain ⟨xs,hq,hx⟩:=hg
  obtain ⟨its,rv,p,hz⟩:=I.tuple hq
  obtain ⟨⟨old,s1⟩,s2⟩:=st
  obtain ⟨f0,f1,f2,f3,f4,f5⟩:=hf it (by simp)
  have hl:=rv.length
  have hb:a≠it:=fun z=>by obtain ⟨o,q,c,_⟩:=p;obtain ⟨o2,q2,c2,_⟩:=s2;rw [z,q2] at q;cases q;rw [c2] at c;simp at c
  have T:wpAny (model X.prog X.w) X.A (pyNext (.ref e)) (fun r s1=>r=none∧Inv X Ks σ H s1) E s:=by
   have hT:s.TypeIs (.ref e) "enumerate":=⟨_,s1,rfl⟩
   unfold pyNext
   refine fu (FV (ES (name:=Str.ofString "__next__") hT F.slot_enumerate_next (Fe F.slot_enumerate_next hT F.entry_enumerate_next ?_ (F.args_enumerate_next_1 _))))
   show wpAny _ _ (field (.ref e) 2 >>= _) _ _ _
   refine fu (EF s1 rfl (x:=.ref it) rfl (fu (ke (by exact I.ok.hd hc) s2 p (by simp;omega) fun h' ex eb hx'=>?_)))
   obtain ⟨o,ho,hcl⟩:=hx'
   exact fu (Ig (T:="StopIteration") (b:=true) ⟨o,ho,hcl⟩ IX (Eb ⟨rfl,I.turned (t':=s.toks) (fun b o hb q=>eb b o hb q) f0 f1 f3 f4 f5⟩))
  exact T
 self:=fun _ _ _ _ _ st h=>let ⟨⟨_,s1⟩,_⟩:=st;HR s1 h
section
variable {X:Cx}
def DU (K:PySem.W.Frag)(ta:TA):TI:=fun σ H R=>ta σ H fun vs H1=>∃ a,vs=[.ref a]∧(∃ xs,SqL K H1 a xs)∧R (zc K a) H1
def DV (K:PySem.W.Frag)(ta:TA):TI:=fun σ H R=>ta σ H fun vs H1=>∃ a,vs=[.ref a]∧(∃ xs,SqT K H1 a xs)∧R (zd K a) H1
theorem fp2 {Ks:List (Addr × Obj)}{σ:St}{H:Hp}{s:Shared}(I:Inv X Ks σ H s):∀ b∈[s.heap.objs.size+1,s.heap.objs.size],mj X Ks H b:=fun b hb=>by
 have hge:s.heap.objs.size≤b:=by
  simp only [Ei,Ek,EW] at hb
  rcases hb with rfl | rfl <;> omega
 exact I.fpOk hge (I.hok.fresh hge)
theorem Ae {K:PySem.W.Frag}(hK:X.K=K){a:Expr}{ta:TA}{p pos tp:Pos}{elts:List Expr}{k:Nat}(hg:Gl X "enumerate")(hm:X.mg "enumerate" = none)(hb:bootBuiltins "enumerate" = some (.type "enumerate"))(ha:PA X [a] ta)(hs:starEach [a] X.env=[(false,eval a X.env)]:=by rfl) :
  PI X (.Tuple elts k tp) (.Call (.Name "enumerate" p) [a] [] pos) (DU K ta):=by
 subst hK
 intro Ks s σ H R I h
 refine Call_ (eF I hg hm hb (Ff (thn (ha pos Ks s σ H _ I h) fun us s1 Lg=>?_) hs rfl))
 obtain ⟨vs,H1,I1,r1,q1⟩:=Lg
 obtain ⟨l,rfl,⟨xs,hq⟩,q⟩:=q1
 obtain ⟨u1,rfl,ru⟩:=cJ r1
 cases ru
 obtain ⟨its,rv,pl,hz⟩:=I1.list hq
 refine call_enumerate_list pl.isList fun h' b1 b2 b3 b4=>?_
 have I2:Inv X Ks σ H1 { s1 with heap:=h',toks:=s1.toks }:=I1.kept b4
 exact HR (s:={ s1 with heap:=h',toks:=s1.toks }) b1 ⟨s1.heap.objs.size+1,[s1.heap.objs.size+1,s1.heap.objs.size],_,zc X.K l,H1,rfl,I2,uo (Nat.succ_ne_self _),⟨⟨_,b1⟩,b2⟩,fp2 I1,q⟩
theorem v9 {K:PySem.W.Frag}(hK:X.K=K){a:Expr}{ta:TA}{p pos tp:Pos}{elts:List Expr}{k:Nat}(hg:Gl X "enumerate")(hm:X.mg "enumerate" = none)(hb:bootBuiltins "enumerate" = some (.type "enumerate"))(ha:PA X [a] ta)(hs:starEach [a] X.env=[(false,eval a X.env)]:=by rfl) :
  PI X (.Tuple elts k tp) (.Call (.Name "enumerate" p) [a] [] pos) (DV K ta):=by
 subst hK
 intro Ks s σ H R I h
 refine Call_ (eF I hg hm hb (Ff (thn (ha pos Ks s σ H _ I h) fun us s1 zq2=>?_) hs rfl))
 obtain ⟨vs,H1,I1,r1,q1⟩:=zq2
 obtain ⟨l,rfl,⟨xs,hq⟩,q⟩:=q1
 obtain ⟨u1,rfl,ru⟩:=cJ r1
 cases ru
 obtain ⟨its,rv,pl,hz⟩:=I1.tuple hq
 refine um pl fun h' b1 b2 b4=>?_
 have I2:Inv X Ks σ H1 { s1 with heap:=h',toks:=s1.toks }:=I1.kept b4
 exact HR (s:={ s1 with heap:=h',toks:=s1.toks }) b1 ⟨s1.heap.objs.size+1,[s1.heap.objs.size+1,s1.heap.objs.size],_,zd X.K l,H1,rfl,I2,uq (Nat.succ_ne_self _),⟨⟨_,b1⟩,b2⟩,fp2 I1,q⟩
end
theorem xQ {K:PySem.W.Frag}{a:Addr}{xs:List V}{g:TG}{tb:TS}{D:gW}{σ:St}{H:Hp}(Pv:Nat→St→Hp→Prop)(h0:Pv 0 σ H)(hl:∀ i σ H,i≤xs.length→Pv i σ H→SqL K H a xs)
  (hs:∀ i x σ H T,xs[i]? = some x→Pv i σ H→H T=none→g (.ref T) σ (upd H T (.tup [.int i,x])) fun σ2 H2=>tb { D with nx:=Pv (i+1),ct:=Pv (i+1),bk:=D.nx } σ2 H2) (hd:∀ σ H,Pv xs.length σ H→D.nx σ H) :
  ∃ W:Nat→Nat→St→Hp→Prop,(∃ m,W 0 m σ H)∧∀ i m σ H,W i m σ H →
   ((zc K a).stop i H∧D.nx σ H) ∨ ((zc K a).go i H∧∃ N:St→Hp→Prop,(∀ σ' H',N σ' H'→∃ m',m' < m∧W (i+1) m' σ' H')∧∀ x H',(zc K a).yld i H x H'→g x σ H' fun σ2 H2=>tb { D with nx:=N,ct:=N,bk:=D.nx } σ2 H2):=by
 refine ⟨fun i m σ H=>m=xs.length - i∧i≤xs.length∧Pv i σ H,⟨xs.length,by simp,E5 _,h0⟩,?_⟩
 rintro i m σ H ⟨rfl,hi,p⟩
 have q:=hl i σ H hi p
 by_cases KB:i < xs.length
 ·refine .inr ⟨⟨xs,xs[i],q,by simp [KB]⟩,Pv (i+1),fun σ' H' p'=>⟨xs.length - (i+1),by omega,rfl,KB,p'⟩,?_⟩
  rintro v H' ⟨T,x,hT,rfl,hx,rfl⟩
  exact hs i x σ _ T (hx xs q) p hT
 ·obtain rfl:i=xs.length:=by omega
  exact .inl ⟨⟨xs,q,Eg _⟩,hd σ H p⟩
theorem qe {K:PySem.W.Frag}{a:Addr}{xs:List V}{g:TG}{tb:TS}{D:gW}{σ:St}{H:Hp}(Pv:Nat→St→Hp→Prop)(h0:Pv 0 σ H)(hl:∀ i σ H,i≤xs.length→Pv i σ H→SqT K H a xs)
  (hs:∀ i x σ H T,xs[i]? = some x→Pv i σ H→H T=none→g (.ref T) σ (upd H T (.tup [.int i,x])) fun σ2 H2=>tb { D with nx:=Pv (i+1),ct:=Pv (i+1),bk:=D.nx } σ2 H2) (hd:∀ σ H,Pv xs.length σ H→D.nx σ H) :
  ∃ W:Nat→Nat→St→Hp→Prop,(∃ m,W 0 m σ H)∧∀ i m σ H,W i m σ H →
   ((zd K a).stop i H∧D.nx σ H) ∨ ((zd K a).go i H∧∃ N:St→Hp→Prop,(∀ σ' H',N σ' H'→∃ m',m' < m∧W (i+1) m' σ' H')∧∀ x H',(zd K a).yld i H x H'→g x σ H' fun σ2 H2=>tb { D with nx:=N,ct:=N,bk:=D.nx } σ2 H2):=by
 refine ⟨fun i m σ H=>m=xs.length - i∧i≤xs.length∧Pv i σ H,⟨xs.length,by simp,E5 _,h0⟩,?_⟩
 rintro i m σ H ⟨rfl,hi,p⟩
 have q:=hl i σ H hi p
 by_cases KB:i < xs.length
 ·refine .inr ⟨⟨xs,xs[i],q,by simp [KB]⟩,Pv (i+1),fun σ' H' p'=>⟨xs.length - (i+1),by omega,rfl,KB,p'⟩,?_⟩
  rintro v H' ⟨T,x,hT,rfl,hx,rfl⟩
  exact hs i x σ _ T (hx xs q) p hT
 ·obtain rfl:i=xs.length:=by omega
  exact .inl ⟨⟨xs,q,Eg _⟩,hd σ H p⟩
end L2
namespace PySem
open Sem (wp)
structure Ap2 (z TO i1 i2:Addr) (fp1 fp2:List Addr):Prop where
 z1:z∉fp1
 z2:z∉fp2
 o1:TO∉fp1
 o2:TO∉fp2
 i12:i1∉fp2
 i21:i2∉fp1
section
variable {prog:Program} {w:World} {A:Around} {E:Value→Shared→Prop} {s:Shared} {z TI TO i1 i2:Addr} {k n1 n2:Nat} {a b:Value} {fp1 fp2:List Addr} {P1 P2:Nat→Value→Prop} {S1 S2:Nat→Heap→Prop}
theorem qf {Q:Value→Shared→Prop}(D1:Draws prog w A i1 fp1 n1 P1 S1)(D2:Draws prog w A i2 fp2 n2 P2 S2)(D:Ap5 z TI TO i1 i2)
  (B:Ap2 z TO i1 i2 fp1 fp2) (hz:IsZip s.heap z TI TO .none) (hTI:IsPair s.heap TI (.ref i1) (.ref i2)) (Lj:IsPair s.heap TO a b) (h1:S1 k s.heap) (h2:S2 k s.heap) (hx:k < n1) (hy:k < n2)
  (hQ:∀ h' tk v1 v2,P1 k v1→P2 k v2→IsZip h' z TI TO (rawInt s.heap.objs.size)→IsPair h' TO v1 v2→S1 (k+1) h'→S2 (k+1) h'→IsPair h' s.heap.objs.size v1 v2 →
   (∀ e o,e≠z→e≠TO→e≠i1→e≠i2→s.heap.get? e=some o→h'.get? e=some o)→Q (.ref s.heap.objs.size) { s with heap:=h',toks:=tk }) :
  wpAny (model prog w) A (Builtin.«zip.__next__» ⟨[.ref z],[]⟩) (fun fin s'=>∃ v,fin = .done (.ret v)∧Q v s') E s:=by
 show wpAny _ _ (field (.ref z) 2 >>= _) _ _ _
 refine fu (EF hz rfl (x:=.bool false) rfl ?_)
 show wpAny _ _ (field (.ref z) 3 >>= _) _ _ _
 refine fu (EF hz rfl (x:=.ref TI) rfl (fu (Fo hTI rfl ?_)))
 show wpAny _ _ (Builtin.SmallTypes.ownedTupleIsFree (.ref z) >>= _) _ _ _
 refine fu ?_
 unfold Builtin.SmallTypes.ownedTupleIsFree
 refine fu (EF hz rfl (x:=.none) rfl (Eb ?_))
 simp only [Hg]
 refine fu (G7 (fu (EF hz rfl (x:=.ref TO) rfl (fu (Fb hz (by simp) fun g1 hz1 e1=>?_)))))
 have hz1:IsZip g1 z TI TO .ellipsis:=hz1
 refine fu ?_
 simp only [Ii,IF,Hs,IY]
 refine fu (fu (Gk ?_))
 show wpAny _ _ (Builtin.SmallTypes.nextOf (.ref i1) >>= _) _ _ _
 refine fu (D1.item k _ _ _ hx (D1.frame _ _ _ h1 fun q hq o eq=>e1.extBut _ _ (fun zz=>B.z1 (zz ▸ hq)) eq) fun v1 g2 tk2 p1 j1 e2=>Eb ?_)
 have o2:IsPair g2 TO a b:=e2.extBut _ _ D.TOi1 (e1.extBut _ _ D.TOz Lj)
 refine fu (Fo o2 rfl (fu (FT o2 fun g3 o3 e3=>fu (HN (Eb ?_)))))
 have o3:IsPair g3 TO v1 b:=o3
 refine fu (fu (Gk ?_))
 show wpAny _ _ (Builtin.SmallTypes.nextOf (.ref i2) >>= _) _ _ _
 refine fu (D2.item k _ _ _ hy (D2.frame _ _ _ h2 fun q hq o eq=>e3.extBut _ _ (fun zz=>B.o2 (zz ▸ hq)) (e2.extBut _ _ (fun zz=>B.i12 (zz ▸ hq)) (e1.extBut _ _ (fun zz=>B.z2 (zz ▸ hq)) eq))) fun v2 g4 tk4 p2 j2 e4=>Eb ?_)
 have o4:IsPair g4 TO v1 b:=e4.extBut _ _ D.TOi2 o3
 refine fu (Fo o4 rfl (fu (FT o4 fun g5 o5 e5=>fu (HN (Eb (Eb ?_))))))
 have o5:IsPair g5 TO v1 v2:=o5
 refine fu (Fo o5 rfl (fu (wpAny_newTuple ?_)))
 have hsz:g5.objs.size=s.heap.objs.size:=by rw [e5.1,e4.1,e3.1,e2.1,e1.1]
 have z5:IsZip g5 z TI TO .ellipsis:=e5.extBut _ _ D.TOz.symm (e4.extBut _ _ D.i2z.symm (e3.extBut _ _ D.TOz.symm (e2.extBut _ _ D.i1z.symm hz1)))
 have kk:∀ e o,e≠z→e≠TO→e≠i1→e≠i2→s.heap.get? e=some o→g5.get? e=some o:=fun e o n1 n2 n3 n4 q=>e5.extBut _ _ n2 (e4.extBut _ _ n4 (e3.extBut _ _ n2 (e2.extBut _ _ n3 (e1.extBut _ _ n1 q))))
 have j1':S1 (k+1) g5:=D1.frame _ _ _ j1 fun q hq o eq=>e5.extBut _ _ (fun zz=>B.o1 (zz ▸ hq)) (e4.extBut _ _ (fun zz=>B.i21 (zz ▸ hq)) (e3.extBut _ _ (fun zz=>B.o1 (zz ▸ hq)) eq))
 have j2':S2 (k+1) g5:=D2.frame _ _ _ j2 fun q hq o eq=>e5.extBut _ _ (fun zz=>B.o2 (zz ▸ hq)) eq
 have zlt:z < g5.objs.size:=Em z5
 show wpAny _ _ (Builtin.SmallTypes.ownedTupleHandOut (.ref z) (.ref g5.objs.size) >>= _) _ _ _
 refine fu ?_
 unfold Builtin.SmallTypes.ownedTupleHandOut
 have z6:IsZip (g5.push { cls:=.type "tuple",data:=.seq #[v1,v2] }) z TI TO .ellipsis:=D_ _ z5
 refine fu (Fb z6 (by simp) fun g7 z7 e7=>?_)
 have z7:IsZip g7 z TI TO (rawInt g5.objs.size):=z7
 refine Fb z7 (by simp) fun g8 z8 e8=>?_
 have z8:IsZip g8 z TI TO (rawInt g5.objs.size):=z8
 have up:∀ e o,e≠z→g5.get? e=some o→g8.get? e=some o:=fun e o n1 q=>e8.extBut _ _ n1 (e7.extBut _ _ n1 (D_ _ q))
 have T8:IsPair g8 g5.objs.size v1 v2:=e8.extBut _ _ (Gh zlt) (e7.extBut _ _ (Gh zlt) (El _ rfl))
 rw [hsz] at z8 T8
 refine Eb ⟨_,rfl,?_⟩
 show Q (.ref g5.objs.size) _
 rw [hsz]
 exact hQ g8 _ v1 v2 p1 p2 z8 (up _ _ D.TOz o5) (D1.frame _ _ _ j1' fun q hq o eq=>up q o (fun zz=>B.z1 (zz ▸ hq)) eq) (D2.frame _ _ _ j2' fun q hq o eq=>up q o (fun zz=>B.z2 (zz ▸ hq)) eq) T8 fun e o n1 n2 n3 n4 q=>up e o n1 (kk e o n1 n2 n3 n4 q)
theorem ur {Q:Fin→Shared→Prop}(D1:Draws prog w A i1 fp1 n1 P1 S1)(D2:Draws prog w A i2 fp2 n2 P2 S2)(D:Ap5 z TI TO i1 i2)
  (B:Ap2 z TO i1 i2 fp1 fp2) (hz:IsZip s.heap z TI TO .none) (hTI:IsPair s.heap TI (.ref i1) (.ref i2)) (Lj:IsPair s.heap TO a b) (h1:S1 k s.heap) (h2:S2 k s.heap) (hend:k=n1 ∨ (k < n1∧k=n2))
  (hE:∀ h' tk e,(∀ c o,c≠z→c≠TO→c≠i1→c≠i2→s.heap.get? c=some o→h'.get? c=some o)→(∃ o,h'.get? e=some o∧o.cls = .type "StopIteration")→E (.ref e) { s with heap:=h',toks:=tk }) :
  wpAny (model prog w) A (Builtin.«zip.__next__» ⟨[.ref z],[]⟩) Q E s:=by
 show wpAny _ _ (field (.ref z) 2 >>= _) _ _ _
 refine fu (EF hz rfl (x:=.bool false) rfl ?_)
 show wpAny _ _ (field (.ref z) 3 >>= _) _ _ _
 refine fu (EF hz rfl (x:=.ref TI) rfl (fu (Fo hTI rfl ?_)))
 show wpAny _ _ (Builtin.SmallTypes.ownedTupleIsFree (.ref z) >>= _) _ _ _
 refine fu ?_
 unfold Builtin.SmallTypes.ownedTupleIsFree
 refine fu (EF hz rfl (x:=.none) rfl (Eb ?_))
 simp only [Hg]
 refine fu (G7 (fu (EF hz rfl (x:=.ref TO) rfl (fu (Fb hz (by simp) fun g1 hz1 e1=>?_)))))
 have hz1:IsZip g1 z TI TO .ellipsis:=hz1
 refine fu ?_
 simp only [Ii,IF,Hs,IY]
 refine fu (fu (Gk ?_))
 show wpAny _ _ (Builtin.SmallTypes.nextOf (.ref i1) >>= _) _ _ _
 rcases hend with hk | ⟨hk,hk2⟩
 ·subst hk
  refine fu (D1.done _ _ _ (D1.frame _ _ _ h1 fun q hq o eq=>e1.extBut _ _ (fun zz=>B.z1 (zz ▸ hq)) eq) fun g2 ev e2 he=>?_)
  obtain ⟨oe,hoe,hce⟩:=he
  have z2:IsZip g2 z TI TO .ellipsis:=e2 _ _ D.i1z.symm hz1
  have hez:ev≠z:=fun q=>by subst q;rw [z2] at hoe;cases hoe;simp at hce
  exact Fb z2 (by simp) fun g3 _ e3=>hE g3 _ ev (fun c o n1 _ n3 _ q=>e3.extBut _ _ n1 (e2 _ _ n3 (e1.extBut _ _ n1 q))) ⟨oe,e3.extBut _ _ hez hoe,hce⟩
 ·refine fu (D1.item k _ _ _ hk (D1.frame _ _ _ h1 fun q hq o eq=>e1.extBut _ _ (fun zz=>B.z1 (zz ▸ hq)) eq) fun v1 g2 tk2 p1 j1 e2=>Eb ?_)
  have o2:IsPair g2 TO a b:=e2.extBut _ _ D.TOi1 (e1.extBut _ _ D.TOz Lj)
  refine fu (Fo o2 rfl (fu (FT o2 fun g3 o3 e3=>fu (HN (Eb ?_)))))
  refine fu (fu (Gk ?_))
  show wpAny _ _ (Builtin.SmallTypes.nextOf (.ref i2) >>= _) _ _ _
  have h2':=D2.frame _ _ _ h2 fun q hq o eq=>e3.extBut _ _ (fun zz=>B.o2 (zz ▸ hq)) (e2.extBut _ _ (fun zz=>B.i12 (zz ▸ hq)) (e1.extBut _ _ (fun zz=>B.z2 (zz ▸ hq)) eq))
  rw [hk2] at h2'
  refine fu (D2.done _ _ _ h2' fun g4 ev e4 he=>?_)
  obtain ⟨oe,hoe,hce⟩:=he
  have z4:IsZip g4 z TI TO .ellipsis:=e4 _ _ D.i2z.symm (e3.extBut _ _ D.TOz.symm (e2.extBut _ _ D.i1z.symm hz1))
  have hez:ev≠z:=fun q=>by subst q;rw [z4] at hoe;cases hoe;simp at hce
  exact Fb z4 (by simp) fun g5 _ e5=>hE g5 _ ev (fun c o n1 n2 n3 n4 q=>e5.extBut _ _ n1 (e4 _ _ n4 (e3.extBut _ _ n2 (e2.extBut _ _ n3 (e1.extBut _ _ n1 q))))) ⟨oe,e5.extBut _ _ hez hoe,hce⟩
theorem nX {Q:Option Value→Shared→Prop}(D1:Draws prog w A.in1 i1 fp1 n1 P1 S1)(D2:Draws prog w A.in1 i2 fp2 n2 P2 S2)(D:Ap5 z TI TO i1 i2)
  (B:Ap2 z TO i1 i2 fp1 fp2) (hz:IsZip s.heap z TI TO .none) (hTI:IsPair s.heap TI (.ref i1) (.ref i2)) (Lj:IsPair s.heap TO a b) (h1:S1 k s.heap) (h2:S2 k s.heap) (hx:k < n1) (hy:k < n2)
  (hQ:∀ h' tk v1 v2,P1 k v1→P2 k v2→IsZip h' z TI TO (rawInt s.heap.objs.size)→IsPair h' TO v1 v2→S1 (k+1) h'→S2 (k+1) h'→IsPair h' s.heap.objs.size v1 v2 →
   (∀ e o,e≠z→e≠TO→e≠i1→e≠i2→s.heap.get? e=some o→h'.get? e=some o)→Q (some (.ref s.heap.objs.size)) { s with heap:=h',toks:=tk }) :
  wpAny (model prog w) A (pyNext (.ref z)) Q E s:=by
 have hT:s.TypeIs (.ref z) "zip":=⟨_,hz,rfl⟩
 unfold pyNext
 exact fu (FV (ES (name:=Str.ofString "__next__") hT F_ (Fe F_ hT Ij
  (qf D1 D2 D B hz hTI Lj h1 h2 hx hy fun h' tk v1 v2 q1 q2 b1 b2 b3 b4 b5 b6=>Eb (hQ h' tk v1 v2 q1 q2 b1 b2 b3 b4 b5 b6)) (HP _))))
theorem qg {Q:Option Value→Shared→Prop}(D1:Draws prog w A.in1 i1 fp1 n1 P1 S1)(D2:Draws prog w A.in1 i2 fp2 n2 P2 S2)(D:Ap5 z TI TO i1 i2)
  (B:Ap2 z TO i1 i2 fp1 fp2) (hz:IsZip s.heap z TI TO .none) (hTI:IsPair s.heap TI (.ref i1) (.ref i2)) (Lj:IsPair s.heap TO a b) (h1:S1 k s.heap) (h2:S2 k s.heap) (hend:k=n1 ∨ (k < n1∧k=n2))
  (hQ:∀ h' tk,(∀ c o,c≠z→c≠TO→c≠i1→c≠i2→s.heap.get? c=some o→h'.get? c=some o)→Q none { s with heap:=h',toks:=tk }):wpAny (model prog w) A (pyNext (.ref z)) Q E s:=by
 have hT:s.TypeIs (.ref z) "zip":=⟨_,hz,rfl⟩
 unfold pyNext
 refine fu (FV (ES (name:=Str.ofString "__next__") hT F_ (Fe F_ hT Ij
  (ur D1 D2 D B hz hTI Lj h1 h2 hend fun h' tk e hk he=>?_) (HP _))))
 obtain ⟨o,ho,hc⟩:=he
 refine fu (Ig (T:="StopIteration") (b:=true) ⟨o,ho,hc⟩ IX ?_)
 exact Eb (hQ _ _ hk)
end
end PySem
namespace PySem
end PySem
namespace L2
open PySem PySem.Spec PyProof.Rows Wd
section
variable {X:Cx}
end
end L2
namespace Kx
open PySem PySem.Spec PyProof.Rows L2 Wd
end Kx
namespace L2
open PySem PySem.Spec PyProof.Rows Wd
section
variable {X:Cx} {tg:Expr}
inductive Af (x:V)(y:V)(H:Hp)(Q:VK):Prop
 | mk:∀ (a b:Addr) (ys zs:List Str),(x = .ref a)→(y = .ref b)→(H a=some (.lst (ys.map V.str)))→(H b=some (.lst (zs.map V.str)))→(ys.length=zs.length)→(Q (.bl (decide (ys=zs))) H)→Af x y H Q
theorem i9:∀ {ys:List Str} {us:List Value} {i:Nat} {v:Value},a8 (ys.map V.str) us→us[i]? = some v→∃ y t,ys[i]? = some y∧v = .str y t
 | [],us,i,v,r,h=>by rw [Hl] at r;cases r;simp at h
 | y::ys,us,i,v,r,h=>by
  rw [EO] at r
  cases r with
  | cons r1 r2 =>
   cases i with
   | zero=>simp at h;subst h;obtain ⟨t,e⟩:=r1;exact ⟨y,t,rfl,e⟩
   | succ i=>obtain ⟨y',t,e1,e2⟩:=i9 (i:=i) r2 (by simpa using h);exact ⟨y',t,by simpa using e1,e2⟩
theorem v_:∀ (ys zs:List Str),ys.length=zs.length→((List.range ys.length).all fun j=>ys.getD j Str.empty == zs.getD j Str.empty)=decide (ys=zs)
 | [],[],_=>rfl
 | [],_::_,h=>by cases h
 | _::_,[],h=>by cases h
 | y::ys,z::zs,h=>by
  have ih:=v_ ys zs (by simpa using h)
  rw [EA,Jn,FU,IS]
  have e:((fun j=>(y::ys).getD j Str.empty == (z::zs).getD j Str.empty) ∘ Nat.succ)=fun j=>ys.getD j Str.empty == zs.getD j Str.empty:=by funext j;simp
  rw [e,ih]
  show ((y == z) && _)=_
  by_cases hyz:y=z <;> by_cases hs:ys=zs <;> simp [hyz,hs]
theorem uv (hu:X.A.units+64 < cLine):OpR X (compareOp .Eq) Af:=by
 intro Ks s σ H x y v u Q I rx ry h
 obtain ⟨a,b,ys,zs,rfl,rfl,ha,hb,hl,q⟩:=h
 cases rx
 cases ry
 obtain ⟨its,n,rv,ea,_⟩:=I.lst ha
 obtain ⟨KL,n2,rv2,eb,_⟩:=I.lst hb
 have l1:=rv.length
 have l2:=rv2.length
 rw [Ea] at l1 l2
 refine EqBoolInt.of_rc (SeqAt.RcAt.lists (e:=fun j=>ys.getD j Str.empty == zs.getD j Str.empty) (⟨_,ea,rfl,_,rfl⟩:s.heap.IsList a its.toArray) (⟨_,eb,rfl,_,rfl⟩:s.heap.IsList b KL.toArray) (by simp;omega) (by omega) (fun j h1 h2=>?_)) ?_
 ·have g1:its[j]? = some its.toArray[j]:=by simp
  have g2:KL[j]? = some KL.toArray[j]:=by simp
  obtain ⟨y1,t1,e1,e2⟩:=i9 rv g1
  obtain ⟨y2,t2,e3,e4⟩:=i9 rv2 g2
  rw [e2,e4]
  have e5:ys.getD j Str.empty=y1:=by rw [Ew,e1];rfl
  have e6:zs.getD j Str.empty=y2:=by rw [Ew,e3];rfl
  show SeqAt.EqAt _ _ _ _ (ys.getD j Str.empty == zs.getD j Str.empty)
  rw [e5,e6]
  exact SeqAt.EqAt.str_str y1 t1 y2 t2
 ·have e:((List.range its.toArray.size).all fun j=>ys.getD j Str.empty == zs.getD j Str.empty)=decide (ys=zs):=by
   rw [Eo,← l1]
   exact v_ ys zs hl
  rw [e]
  exact ⟨.bl _,H,I,rfl,q⟩
end
end L2
namespace Kx
open PySem PySem.Spec PyProof.Rows L2 Wd
def dV:V→PyData
 | .int i=>.int i
 | .str z=>.str z
 | _=>.none
end Kx
namespace HT
open PySem PySem.Spec PyProof.Rows
section
variable {prog:Program} {w:World} {A:Around} {E:Value→Shared→Prop} {s:Shared}
theorem qh {t sl:Addr}{its:Array Value}{vl vu:Value}{lo hi:Option Int}{Q:Value→Shared→Prop}(ht:IsTup s.heap t its)(hs:s.heap.IsSliceOf sl vl vu .none)(pl:IsPart vl lo)(pu:IsPart vu hi)
  (hw:sIx its.size 0 lo=0∧sIx its.size its.size hi=its.size) (h:Q (.ref t) s):wpAny (model prog w) A (getItem (.ref t) (.ref sl)) Q E s:=by
 obtain ⟨os,hos,hcs,hds⟩:=id hs
 have hTs:s.TypeIs (.ref sl) "slice":=⟨os,hos,hcs⟩
 unfold getItem
 try with_reducible refine FE ?_
 first | refine fu (Eb ?_) | skip
 refine fu (Jc ht.typeIs (by decide) ?_)
 refine fu (ES (name:=Str.ofString "__getitem__") ht.typeIs Fg (Fe Fg ht.typeIs IB ?_ (IM _ _)))
 show wpAny _ _ (Builtin.Tuple.tupleItemsOf (.ref t) >>= _) _ _ s
 refine fu (tupleItemsOf_ ht (fu (Jp hTs ?_)))
 rw [if_pos (by decide)]
 refine fu (dj hs pl pu ?_)
 show wpAny _ _ (if (((sIx its.size 0 lo:Nat):Int) == 0 && (1:Int) == 1 && (sIx its.size its.size hi - sIx its.size 0 lo) == its.size)=true then _ else _) _ _ s
 rw [if_pos (by rw [hw.1,hw.2];simp)]
 refine fu ?_
 unfold Builtin.Tuple.tupleIsExact
 refine fu (Jp ht.typeIs (Eb ?_))
 rw [if_pos (by decide)]
 refine fu (G7 ?_)
 first
  | exact Eb ⟨_,rfl,Eb h⟩
  | exact fu (Eb (Eb ⟨_,rfl,Eb h⟩))
end
end HT
namespace L2
open PySem PySem.Spec PyProof.Rows Wd
inductive Ag (K:PySem.W.Frag)(x:V)(lo:Option Int)(hi:Option Int)(H:Hp)(Q:VK):Prop
 | mk:∀ a xs,(x = .ref a)→(SqT K H a xs)→((iJ xs lo hi=xs→Q (.ref a) H))→(∀ p,H p=none→Q (.ref p) (upd H p (.tup (iJ xs lo hi))))→Ag K x lo hi H Q
theorem xS {X:Cx}:SlR X (Ag X.K):=by
 intro Ks s σ H x v vl vu lo hi sl Q I rx hs pl pu h
 obtain ⟨a,xs,rfl,hx,hw,q⟩:=h
 by_cases hh:HT.sIx xs.length 0 lo=0∧HT.sIx xs.length xs.length hi=xs.length
 ·cases rx
  obtain ⟨its,r,ht,hz⟩:=I.tuple hx
  have hlen:its.toArray.size=xs.length:=by rw [Eo];exact r.length.symm
  have e:iJ xs lo hi=xs:=by unfold iJ;rw [hh.1,hh.2,HV,Js,Fx]
  exact ⟨"tuple",_,Fg.lookup,ht.typeIs,HT.qh ht hs pl pu (by rw [hlen];exact hh) ⟨.ref a,H,I,rfl,hw e⟩⟩
 ·exact zI Ks s σ H (.ref a) v vl vu lo hi sl Q I rx hs pl pu ⟨a,xs,rfl,hx,hh,q⟩
end L2
namespace PySem
open Sem (wp)
section
variable {prog:Program} {w:World} {A:Around} {E:Value→Shared→Prop} {s:Shared}
section
variable {R:Result→Shared→Prop} {I:Addr} {fp wr:List Addr} {G:Array GenState→Array GenState→Prop} {n:Nat} {P:Nat→Value→Prop} {St:Nat→Shared→Prop}
end
abbrev sob (led:Bool):Obj:={ cls:=.type "set",dict:=none,data:=.set #[] 0 (.fresh 0 0 led) }
end
end PySem
namespace L2
open PySem PySem.Spec PyProof.Rows
theorem i_ {h:Heap}{T:Addr}{o:Obj}{f:Obj→Obj}(ho:h.get? T=some o)(hf:f o=o)(b:Addr):(h.update T f).get? b=h.get? b:=by
 by_cases e:T=b
 ·subst e
  have:=E_ f ho (by rw [hf];exact (Heap.get?_some_iff.mp ho).2)
  rw [this,hf,ho]
 ·exact EZ _ _ e
theorem ja {oT:Obj}{ts:Array Value}{i:Nat}{v:Value}(hd:oT.data = .fields ts)(h3:ts[i]? = some v):Obj.mapFields (·.setIfInBounds i v) oT=oT:=by
 obtain ⟨c,d,dt,sl⟩:=oT
 simp only at hd
 subst hd
 obtain ⟨hi,hv⟩:=EM.mp h3
 have:ts.setIfInBounds i v=ts:=by
  apply Array.ext
  ·simp
  ·intro j h1 h2
   by_cases hj:i=j
   ·subst hj;simp [hv]
   ·rw [Array.getElem_setIfInBounds_ne _ hj]
 simp only [Obj.mapFields,this]
def qi (T:Addr)(h:Heap)(a:Addr)(fl:Value):Prop :=
 ∃ oe vs oT ts,h.get? a=some oe∧oe.data = .fields vs∧vs[1]? = some (.ref T)∧T≠a∧h.get? T=some oT∧oT.data = .fields ts∧ts[3]? = some fl
def Flt (h:Heap)(a:Addr)(fl:Value):Prop:=∃ T,qi T h a fl
structure Nts (fs:List Addr) (a:Addr) (fl:Value) (h h':Heap):Prop where
 keep:∀ b o,b∉fs→b≠a→h.get? b=some o→h'.get? b=some o
 slot:∀ b o,b∈fs→h.get? b=some o→∃ sl,h'.get? b=some { o with slots:=sl }
 exc:∀ oe vs,h.get? a=some oe→oe.data = .fields vs→∃ oe' vs',h'.get? a=some oe'∧oe'.cls=oe.cls∧oe'.dict=oe.dict∧oe'.data = .fields vs'∧vs'.size=vs.size∧vs'[2]? = vs[2]?
 fly:∃ T,h.objs.size≤T∧qi T h' a fl
section
variable {M:Model} {A:Around} {E:Value→Shared→Prop} {s:Shared}
set_option maxHeartbeats 1600000 in
theorem wa {base:Heap}{env:Env}{outer:List Env}{L e:Addr}{oe:Obj}{vs:Array Value}{head:Value}{hadNext:Bool}{Q:Unit→Shared→Prop}
  (KY:A.frames=some (env::outer)) (hl:s.heap.FunFrames base (env::outer)) (hf:env.frame=some L)
  (he:s.heap.get? e=some oe) (hd:oe.data = .fields vs) (hsz:1 < vs.size)
  (h:∀ h',Nts (frs (env::outer)) e (rawInt L) s.heap h'→Q () { s with heap:=h' }) :
  wpAny M A (do let a ← frameOf env;let pl ← entryPlaceOf L hadNext;let b ← EntryCells.newEntry head a .none (rawInt L) .none pl;setField (.ref e) 1 b) Q E s:=by
 have hene:e∉frs (env::outer):=fun hm=>by
  obtain ⟨_,o,ho,hnf⟩:=hl.mem hm
  rw [he] at ho;injection ho with ho;subst ho;exact hnf vs hd
 refine fu (wpAny_frameOf_fun KY hl hf fun h₁ hs₁=>?_)
 refine fu (wpAny_entryPlaceOf fun pl KW=>?_)
 unfold EntryCells.newEntry newFields
 refine fu (Fh ?_ (KW.sizeOk5 _ _ _ _ _))
 generalize hN:({ cls:=.type "traceback",dict:=none,data:=.fields ([head,.ref L,.none,rawInt L,.none]++(if pl.isEmpty then List.replicate 6 Value.none else pl)).toArray }:Obj)=oN
 have hNd:oN.data = .fields ([head,.ref L,.none,rawInt L,.none]++(if pl.isEmpty then List.replicate 6 Value.none else pl)).toArray:=by rw [← hN]
 have hNf:oN.isFreed=false:=by rw [← hN];rfl
 have he₁:h₁.get? e=some oe:=(hs₁.2.1 e hene).trans he
 have he₂:=D_ (h:=h₁) oN he₁
 refine FI he₂ hd hsz (h _ ?_)
 have hTe:h₁.objs.size≠e:=Gh (Em he₁)
 have hd₃:=Fk hd (·.setIfInBounds 1 (Value.ref h₁.objs.size))
 have he₃:=E_ (Obj.mapFields (·.setIfInBounds 1 (Value.ref h₁.objs.size))) he₂ (Ft hd₃)
 have hT₃:=(EZ (h₁.push oN) (Obj.mapFields (·.setIfInBounds 1 (Value.ref h₁.objs.size))) (Ne.symm hTe)).trans (El h₁ hNf)
 have keep:∀ b o,b≠e→h₁.get? b=some o→((h₁.push oN).update e (Obj.mapFields (·.setIfInBounds 1 (Value.ref h₁.objs.size)))).get? b=some o:=fun b o hbe hb=>by
  rw [EZ _ _ (Ne.symm hbe)]
  exact D_ _ hb
 refine ⟨fun b o hb hbe q=>keep b o hbe ((hs₁.2.1 b hb).trans q),fun b o hb q=>?_,fun oe' vs' q qd=>?_,?_⟩
 ·obtain ⟨sl,q'⟩:=hs₁.2.2 b o q
  exact ⟨sl,keep b _ (fun z=>hene (z ▸ hb)) q'⟩
 ·rw [he] at q;cases q
  rw [hd] at qd;cases qd
  refine ⟨_,_,he₃,G6 _ _,?_,hd₃,by simp,Fy (by decide)⟩
  obtain ⟨c,d,dt,sl⟩:=oe
  cases dt <;> rfl
 ·refine ⟨h₁.objs.size,IQ hs₁.1.symm,_,_,oN,_,he₃,hd₃,by simp [hsz],hTe,hT₃,hNd,?_⟩
  first | (simp;done) | (rcases KW with rfl | ⟨_,_,_,_,_,_,_,rfl⟩ <;> simp)
theorem xU {base:Heap}{env:Env}{outer:List Env}{L e:Addr}{oe:Obj}{vs:Array Value}{Q:Unit→Shared→Prop}
  (KY:A.frames=some (env::outer)) (hl:s.heap.FunFrames base (env::outer)) (hf:env.frame=some L)
  (he:s.heap.get? e=some oe) (hd:oe.data = .fields vs) (h1:vs[1]? = some .none ∨ Flt s.heap e .none)
  (h:∀ h',Nts (frs (env::outer)) e (rawInt L) s.heap h'→Q () { s with heap:=h' }):wpAny M A (noteFrame (.ref e) env) Q E s:=by
 unfold noteFrame
 simp only [hf]
 rcases h1 with h1 | ⟨T,oe',vs',oT,ts,he',hd',h1,hTe,hT,hdT,h3⟩
 ·refine fu (EF he hd h1 ?_)
  rw [if_neg (by decide)]
  exact wa KY hl hf he hd (EM.mp h1).1 h
 ·rw [he] at he';cases he'
  rw [hd] at hd';cases hd'
  refine fu (EF he hd h1 ?_)
  rw [if_pos (show (Value.ref T != Value.none)=true from by simp)]
  refine fu (EF hT hdT h3 ?_)
  rw [if_neg (show ¬ ((Value.none == rawInt L)=true) from by simp [rawInt])]
  refine fu (FI hT hdT (EM.mp h3).1 ?_)
  have idle:=i_ (f:=Obj.mapFields (·.setIfInBounds 3 Value.none)) hT (ja hdT h3)
  refine wa KY (hl.of_keeps fun b o hb _=>⟨o,(idle b).trans hb,rfl⟩) hf ((idle e).trans he) hd (EM.mp h1).1 fun h' N=>h h' ?_
  obtain ⟨k1,k2,k3,k4⟩:=N
  refine ⟨fun b o hb hbe q=>k1 b o hb hbe ((idle b).trans q),fun b o hb q=>k2 b o hb ((idle b).trans q),fun o v q d=>k3 o v ((idle e).trans q) d,?_⟩
  obtain ⟨T',b1,b2⟩:=k4
  exact ⟨T',EV (IQ (Heap.size_after_update ..).symm) b1,b2⟩
theorem gJ {T e:Addr}{fl:Value}{Q:Unit→Shared→Prop}(hF:qi T s.heap e fl)
  (h:∀ h',qi T h' e .none→(∀ b o,b≠T→s.heap.get? b=some o→h'.get? b=some o)→(∀ b,(∃ o,s.heap.get? b=some o)→∃ o,h'.get? b=some o)→(fl = .none→∀ b,h'.get? b=s.heap.get? b)→Q () { s with heap:=h' }) :
  wpAny M A (setFlight (.ref e) none) Q E s:=by
 obtain ⟨oe,vs,oT,ts,he,hd,h1,hTe,hT,hdT,h3⟩:=hF
 have hsz3:3 < ts.size:=(EM.mp h3).1
 have other:∀ b,b≠T→(s.heap.update T (Obj.mapFields (·.setIfInBounds 3 ((none:Option Addr).elim Value.none fun f=>rawInt f)))).get? b=s.heap.get? b :=
  fun b hb=>EZ _ _ (Ne.symm hb)
 have hT':=E_ (Obj.mapFields (·.setIfInBounds 3 ((none:Option Addr).elim Value.none fun f=>rawInt f))) hT (Ft (Fk hdT _))
 unfold setFlight
 refine fu (EF he hd h1 ?_)
 rw [if_pos (show (Value.ref T != Value.none)=true from by simp)]
 refine FI hT hdT hsz3 (h _ ⟨oe,vs,_,_,(other e (Ne.symm hTe)).trans he,hd,h1,hTe,hT',Fk hdT _,by simp [hsz3]⟩ (fun b o hb q=>(other b hb).trans q) (fun b ⟨o,q⟩=>?_) fun z b=>?_)
 ·by_cases z:b=T
  ·subst z;exact ⟨_,hT'⟩
  ·exact ⟨o,(other b z).trans q⟩
 ·subst z
  exact i_ hT (ja hdT h3) b
theorem Ah {base:Heap}{env:Env}{outer:List Env}{L e:Addr}{oe:Obj}{vs:Array Value}{Q:Unit→Shared→Prop}
  (KY:A.frames=some (env::outer)) (hl:s.heap.FunFrames base (env::outer)) (hf:env.frame=some L)
  (he:s.heap.get? e=some oe) (hd:oe.data = .fields vs) (h1:vs[1]? = some .none ∨ Flt s.heap e .none)
  (h:∀ h',Nts (frs (env::outer)) e .none s.heap h'→Q () { s with heap:=h' }):wpAny M A (leaving env (.ref e)) Q E s:=by
 unfold leaving
 refine fu (xU KY hl hf he hd h1 fun h₁ N=>?_)
 obtain ⟨k1,k2,k3,T,hT,k4⟩:=N
 refine gJ (s:={ s with heap:=h₁ }) k4 fun h₂ f1 f2 f3 _=>h h₂ ⟨fun b o hb hbe q=>f2 b o (fun z=>?_) (k1 b o hb hbe q),fun b o hb q=>?_,fun oe vs q qd=>?_,T,hT,f1⟩
 ·exact absurd (Et (Em q) (z ▸ hT)) (E9 _)
 ·obtain ⟨sl,q'⟩:=k2 b o hb q
  exact ⟨sl,f2 b _ (fun z=>absurd (Et (Em q) (z ▸ hT)) (E9 _)) q'⟩
 ·obtain ⟨oe',vs',q1,q2⟩:=k3 oe vs q qd
  exact ⟨oe',vs',f2 e _ (fun z=>absurd (Et (Em q) (z ▸ hT)) (E9 _)) q1,q2⟩
end
def exo (a C:Addr)(d:Option Addr)(b c:Bool):Heap→Prop:=fun h =>
 ∃ oe vs,h.get? a=some oe∧oe.cls = .ref C∧oe.dict=d∧oe.data = .fields vs∧vs.size=6∧(b=true→vs[1]? = some .none)∧(c=true→vs[2]? = some .none)
abbrev Exo (a C:Addr)(d:Option Addr)(b:Bool)(c:Bool:=false):HO:=.ext (exo a C d b c)
theorem ux {a C:Addr}{d:Option Addr}{b c:Bool}{h1 h2:Heap}(x:exo a C d b c h1)(k:∀ o,h1.get? a=some o→h2.get? a=some o):exo a C d b c h2 :=
 let ⟨oe,vs,q,r⟩:=x;⟨oe,vs,k _ q,r⟩
theorem kg {P:Program}{w:World}{H:Hp}{h:Heap}{a C:Addr}{d:Option Addr}{b c:Bool}(x:exo a C d b c h):bz P w H h a (Exo a C d b c) :=
 ⟨x,let ⟨oe,_,q,_⟩:=x;⟨oe,q⟩,fun _ _ y k=>ux y k⟩
theorem dS {H:Hp}{a:Addr}{o:HO}(h:H a=some o):upd H a o=H:=by
 funext b
 by_cases e:b=a
 ·subst e;rw [ag,h]
 ·rw [ar e]
def CXe (P:Program)(w:World):CXT:=fun outer H s E e s' =>
 ∃ a C d c H',e = .ref a∧s'.os=s.os∧AllBare s'.gens∧Un (frs outer) [] H H' s.heap s'.heap∧HOk P w H' s'.heap∧H' a=some (Exo a C d false c)∧Flt s'.heap a .none∧E (.ref a) none H'
section
variable {P:Program} {w:World} {H:Hp} {h h':Heap} {fs:List Addr} {e C:Addr} {d:Option Addr} {b cx:Bool} {fl:Value}
theorem mQ (ok:HOk P w H h)(he:H e=some (Exo e C d b cx))(hfs:∀ c∈fs,H c=none)(N:Nts fs e fl h h') :
  Un fs [] H (upd H e (Exo e C d false cx)) h h'∧HOk P w (upd H e (Exo e C d false cx)) h':=by
 obtain ⟨⟨oe,vs,g1,g2,g3,g4,g5,g6,g7⟩,_,_⟩:=ok e _ he
 obtain ⟨oe',vs',n1,n2,n3,n4,n5,n6⟩:=N.exc oe vs g1 g4
 have hx:exo e C d false cx h':=⟨oe',vs',n1,n2.trans g2,n3.trans g3,n4,n5.trans g5,(fun z=>by cases z),fun z=>n6.trans (g7 z)⟩
 have ne:∀ c,H c=none→c≠e:=fun c n z=>by rw [z,he] at n;cases n
 have ne':∀ c u,H c=some u→u≠Exo e C d b cx→c≠e:=fun c u q n z=>by rw [z,he] at q;cases q;exact n rfl
 refine ⟨⟨fun c o q n hc _=>N.keep c o hc (ne c n) q,fun c o q n hc _=>N.slot c o hc q,fun c o q n _=>by rw [ar (ne c n)];exact n,fun c o q _=>?_,
  fun c xs q=>by rw [ar (ne' c _ q (by intro z;cases z))];exact q,fun c o u q=>by rw [ar (ne' c _ q (by intro z;cases z))];exact q,fun c ps q=>⟨#[],by rw [ar (ne' c _ q (by intro z;cases z)),q];simp⟩⟩,fun c u q=>?_⟩
 ·by_cases z:c=e
  ·subst z;exact ⟨_,n1⟩
  ·by_cases y:c∈fs
   ·obtain ⟨sl,r⟩:=N.slot c o y q
    exact ⟨_,r⟩
   ·exact ⟨o,N.keep c o y z q⟩
 ·by_cases z:c=e
  ·subst z;rw [ag] at q;cases q;exact kg hx
  ·rw [ar z] at q
   refine (ok c u q).stay (fun x v hx q'=>?_) (fun x hx=>by rw [ar (ne' x _ hx (by intro z;cases z))];exact hx) fun x xs hx=>by rw [ar (ne' x _ hx (by intro z;cases z))];exact hx
   have nx:x≠e:=by
    rcases hx with rfl | hx
    ·exact z
    ·exact ne' x _ hx (by intro z;cases z)
   refine N.keep x v (fun y=>?_) nx q'
   have:=hfs x y
   rcases hx with rfl | hx
   ·rw [this] at q;cases q
   ·rw [this] at hx;cases hx
end
def wb (X:Cx)(E:XK):Prop:=∀ (Ks:List (Addr × Obj)) (σ:St) (H:Hp) (s:Shared) (a C:Addr) (d:Option Addr) (c:Bool),Inv X Ks σ H s→H a=some (Exo a C d true c)→E (.ref a) none (upd H a (Exo a C d false c))→X.xe (.ref a) s
section
variable {P:Program} {w:World} {K:PySem.W.Frag} {mg:Str→Option Value} {base:Heap} {N:List Str} {qual:Str} {scope:Scope} {f:Addr} {cd:Value} {A:Around} {outer:List Env} {s:Shared} {H:Hp} {E:XK}
theorem kh {Ks:List (Addr × Obj)}{σ:St}{H1:Hp}{s1:Shared}{a C:Addr}{d:Option Addr}{b c:Bool}(I:Inv (kR (CXe P w) P w K mg base N qual scope f cd A outer s H E) Ks σ H1 s1)
  (ha:H1 a=some (Exo a C d b c)) (hf:b=true ∨ Flt s1.heap a .none) (hE:E (.ref a) none (upd H1 a (Exo a C d false c))):(kR (CXe P w) P w K mg base N qual scope f cd A outer s H E).xe (.ref a) s1:=by
 obtain ⟨⟨oe,vs,g1,g2,g3,g4,g5,g6,_⟩,_,_⟩:=I.hok a _ ha
 refine Ah (base:=base) (outer:=outer) I.ok.frames I.stack rfl g1 g4 (hf.imp (fun z=>g6 z) id) fun h' Nt=>?_
 obtain ⟨un,hok⟩:=mQ I.hok ha I.stkFree Nt
 have J:=I.call' (s':={ s1 with heap:=h' }) rfl un hok I.bare (fun b z=>absurd z (by simp))
 obtain ⟨T,_,hT⟩:=Nt.fly
 exact ⟨a,C,d,c,_,rfl,J.os,J.bare,J.base,J.hok,ag ..,⟨T,hT⟩,hE⟩
theorem bX:wb (kR (CXe P w) P w K mg base N qual scope f cd A outer s H E) E:=fun Ks σ H1 s1 a C d c I ha hE=>kh I ha (.inl rfl) hE
theorem fj:jO (CXe P w) (kR (CXe P w) P w K mg base N qual scope f cd A outer s H E) E:=by
 intro Ks σ H1 s1 e s' I ⟨a,C,d,c,H',he,os,bare,un,hok,ha,hf,hE⟩
 subst he
 have J:=I.call' os un hok bare (fun b z=>absurd z (by simp))
 exact kh J ha (.inr hf) (by rw [dS ha];exact hE)
end
abbrev bmV:List Value:=[.type "ValueError",.type "Exception",.type "BaseException",.type "object"]
structure XCl (K:PySem.W.Frag) (C:Addr) (bm:List Value):Prop where
 obj:∃ dd cd k0 k1 k2 k3 k5,K.lookup C=some ⟨.type "type",dd,.cls cd,#[k0,k1,k2,k3,some (.builtin "ValueError.__new__"),k5]⟩∧cd.mro = .ref C::bm∧cd.hasDel=false∧cd.hasDict=true
 tl:PySem.W.tailIn K bmV bm=true
 kp:PySem.W.keepIn K (.ref C)=true
abbrev lg (us:List Value):Obj:={ cls:=.type "tuple",data:=.seq us.toArray }
abbrev qj (C t:Addr):Obj:={ cls:=.ref C,data:=.fields #[.ref t,.none,.none,.none,.bool false,.none] }
theorem XCl.at {K:PySem.W.Frag}{C:Addr}{bm:List Value}{h:Heap}(x:XCl K C bm)(X:K.In h):OwnTail h bmV bm∧∃ nm q N bs sn sub ab col dd k0 k1 k2 k3 k5,h.get? C=some (excClassObj nm q C N bs bm true sn sub ab col dd k0 k1 k2 k3 k5 "ValueError.__new__"):=by
 refine ⟨PySem.W.tail_of_in X x.tl,?_⟩
 obtain ⟨dd,cd,k0,k1,k2,k3,k5,hl,hm,hd,hh⟩:=x.obj
 obtain ⟨nm,bs,mro,ns,qn,hdc,sn,sub,ab,col,del⟩:=cd
 dsimp only at hm hd hh
 subst hm hd hh
 exact ⟨nm,qn,ns,bs,sn,sub,ab,col,dd,k0,k1,k2,k3,k5,X _ _ hl⟩
section
variable {prog:Program} {w:World} {A:Around} {E:Value→Shared→Prop} {h:Heap} {g:Array GenState} {d:Drawn} {t:Nat} {os:OsState} {K:PySem.W.Frag} {C fI:Addr} {bm:List Value}
set_option maxHeartbeats 1600000 in
theorem lh {rest:List Value}{Q:Fin→Shared→Prop}(X:K.In h)(x:XCl K C bm)(hi:PySem.W.findIn K (.ref C) "__init__" = some (some (.ref fI)))(hf:PySem.W.isFn K (.ref fI)=true)
  (hq:wpAny (model prog w) A (call (.ref fI) (.ref (h.objs.size+1)::rest)) (fun r s'=>r = .none∧Q (.done (.ret (.ref (h.objs.size+1)))) s') E ⟨(h.push (lg rest)).push (qj C h.objs.size),g,d,t,os⟩) (hrest:rest.length≤sizeLine) :
  wpAny (model prog w) A (Builtin.«type.__call__» ⟨.ref C::rest,[]⟩) Q E ⟨h,g,d,t,os⟩:=by
 obtain ⟨T,nm,q,N,bs,sn,sub,ab,col,dd,k0,k1,k2,k3,k5,hC⟩:=x.at X
 have F:=IK
 repeat (first | with_reducible refine E2 hC ?_ | with_reducible refine wpAny_madeBy_exc hC ?_ | wp_step)
 refine codeAny_call_builtin_code (IT _ F.quiet) (wpAny_check_new_subT F T hC ?_)
 refine codeAny_exc_new_subT F T hC ?_ hrest
 show wpAny _ _ _ _ _ _
 have k1:∀ b o,h.get? b=some o→((h.push (lg rest)).push (qj C h.objs.size)).get? b=some o:=fun b o e=>D_ _ (D_ _ e)
 have hC₁:=k1 _ _ hC
 have X₁:K.In ((h.push (lg rest)).push (qj C h.objs.size)):=fun b o e=>k1 b o (X b o e)
 have hget:((h.push (lg rest)).push (qj C h.objs.size)).get? (h.objs.size+1)=some (qj C h.objs.size):=by heap_get
 have hcC:(Value.ref C::bm).contains (.ref C)=true:=by simp
 unfold isInstance
 repeat (first | with_reducible refine E2 hget ?_ | (with_reducible refine FN hC₁ ?_;rw [hcC]) | wp_step)
 show wpAny _ _ (typeLookup (.ref C) _) _ _ _
 refine (G9 (M:=model prog w) X₁ hi).at ?_
 refine FE (fu ?_)
 unfold bindSpecial
 have L:=PySem.W.looks_typeIn (M:=model prog w) X₁ (FQ.mp hf)
 refine fu (L.at ?_)
 rw [if_pos (by decide)]
 refine Eb (fu (Fm hq (fun r s' hr=>?_) fun _ _ x=>x))
 obtain ⟨rfl,hQ⟩:=hr
 wp_walk
 exact hQ
theorem wc {rest:List Value}{Q:Value→Shared→Prop}(X:K.In h)(x:XCl K C bm)(hi:PySem.W.findIn K (.ref C) "__init__" = some (some (.ref fI)))(hf:PySem.W.isFn K (.ref fI)=true)
  (hq:wpAny (model prog w) (A.under (.builtin "type.__call__" ⟨.ref C::rest,[]⟩)) (call (.ref fI) (.ref (h.objs.size+1)::rest)) (fun r s'=>r = .none∧Q (.ref (h.objs.size+1)) s') E ⟨(h.push (lg rest)).push (qj C h.objs.size),g,d,t,os⟩) (hrest:rest.length≤sizeLine) :
  wpAny (model prog w) A (call (.ref C) rest) Q E ⟨h,g,d,t,os⟩:=by
 obtain ⟨T,nm,q,N,bs,sn,sub,ab,col,dd,k0,k1,k2,k3,k5,hC⟩:=x.at X
 have f1:=tc_lookup
 have f2:=tc_bind (.ref C)
 have hT:(⟨h,g,d,t,os⟩:Shared).TypeIs (.ref C) "type":=⟨_,hC,rfl⟩
 refine Hj (Jt ?_)
 show wpAny _ _ (callAny (.ref C) _) _ _ _
 repeat (any_goals (first | assumption | with_reducible refine E2 hC ?_ | wp_step))
 refine ⟨rfl,?_⟩
 exact codeAny_call_builtin_at (IT _ (by decide +kernel)) entry_typeCall (wpAny_check_type_call_sub hC (lh X x hi hf hq hrest))
end
section
variable {X:Cx} {k:Nat} {f C:Addr} {fd:FuncData} {ps:List Str} {sp:Sp} {x:Str} {p pos:Pos} {e:Expr} {es:List Expr} {t:TA} {bm:List Value}
theorem Inv.madeX {Ks:List (Addr × Obj)}{σ:St}{H:Hp}{s:Shared}(I:Inv X Ks σ H s)(us:List Value):Inv X Ks σ (upd H (s.heap.objs.size+1) (Exo (s.heap.objs.size+1) C none true true)) { s with heap:=(s.heap.push (lg us)).push (qj C s.heap.objs.size) }:=by
 have I1:=I.kept (h':=s.heap.push (lg us)) (t':=s.toks) (fun b u q=>D_ _ q)
 refine I1.laid (a:=s.heap.objs.size+1) (t':=s.toks) (fun b u q=>D_ _ q) (IQ (Fw _ _)) (kg ⟨qj C s.heap.objs.size,_,?_,rfl,rfl,rfl,rfl,(fun _=>rfl),fun _=>rfl⟩)
 have:=El (s.heap.push (lg us)) (o:=qj C s.heap.objs.size) rfl
 rwa [Fw] at this
theorem qk {Ks:List (Addr × Obj)}{σ:St}{H:Hp}{s:Shared}{Q:VK}{us:List Value}{vs:List V}(M:XCl X.K C bm)(hi:PySem.W.findIn X.K (.ref C) "__init__" = some (some (.ref f)))(hf:PySem.W.isFn X.K (.ref f)=true)
  (F:jI X.prog X.w X.K X.mg X.base CX0 k f fd ps sp) (hr:eE (k+1) X.A) (hb:eY X.K fd ps []) (I:Inv X Ks σ H s) (r:a8 vs us)
  (h:vs.length≤1000∧∀ x,H x=none→sp (.ref x::vs) (upd H x (Exo x C none true true)) (fun v H2=>v = .non∧Q (.ref x) H2) E0):wpAny (model X.prog X.w) X.A (call (.ref C) us) (EP X Ks σ Q) X.xe s:=by
 obtain ⟨hl0,h⟩:=h
 have hq:=h (s.heap.objs.size+1) (I.hok.fresh (Hh _))
 have I2:=Inv.madeX (C:=C) I us
 have r2:a8 (V.ref (s.heap.objs.size+1)::vs) (Value.ref (s.heap.objs.size+1)::us):=.cons rfl r
 have hl:(Value.ref (s.heap.objs.size+1)::us++[]).length=ps.length:=by
  have e:=r2.length
  rw [F.len _ _ _ _ hq] at e
  rw [Fs]
  exact e.symm
 obtain ⟨hh,g,d,tk,os⟩:=s
 refine wc I.kIn M hi hf (Hj ?_) (by rw [← r.length,F0];omega)
 have K3:=hb ⟨(hh.push (lg us)).push (qj C hh.objs.size),g,d,tk,os⟩ (Value.ref (hh.objs.size+1)::us) I2.kIn hl
 rw [Fs] at K3
 refine Gv (F.run _ X.stack _ _ ⟨Value.ref (hh.objs.size+1)::us,[]⟩ (Value.ref (hh.objs.size+1)::us) _ _ E0 (hr.make C us []) (I2.env0.make C us []) K3 r2 hq) fun r s' hq'=>?_
 cases r with
 | error e=>exact hq'.elim
 | ok fl =>
  cases fl with
  | ret u =>
   obtain ⟨v,H',I3,rv,ev,q3⟩:=I2.after hq'
   subst ev
   exact ⟨rv,⟨V.ref (hh.objs.size+1),H',I3,rfl,q3⟩⟩
  | next=>exact False.elim hq'
  | brk=>exact False.elim hq'
  | cont=>exact False.elim hq'
end
end L2
namespace L2
open PySem PySem.Spec PyProof.Rows Builtin Builtin.ObjectAttr
section
variable {prog:Program} {w:World} {A:Around} {E:Value→Shared→Prop} {h:Heap} {g:Array GenState} {d:Drawn} {t:Nat} {os:OsState} {K:PySem.W.Frag} {C e:Addr} {bm:List Value} {oe:Obj} {vs:Array Value}
theorem Ai {rest:List Value}{R:Result→Shared→Prop}(X:K.In h)(x:XCl K C bm)(he:h.get? e=some oe)(Lo:oe.cls = .ref C)(hd:oe.data = .fields vs)(hsz:vs.size=6)(hrest:rest.length≤sizeLine)
  (hq:R (.ok (.ret .none)) ⟨(h.push (lg rest)).update e (Obj.mapFields (·.setIfInBounds 0 (.ref h.objs.size))),g,d,t,os⟩) :
  codeAny (model prog w) A (.call (.builtin "ValueError.__init__") ⟨.ref e::rest,[]⟩) R ⟨h,g,d,t,os⟩:=by
 obtain ⟨T,nm,q,N,bs,sn,sub,ab,col,dd,k0,k1,k2,k3,k5,hC⟩:=x.at X
 have F:=IK
 refine G_ F.init.plain F.initEntry (wpAny_check_init_subT F T hC he Lo ?_)
 unfold Builtin.«BaseException.__init__»
 refine fu (m:=newTuple rest) ?_
 unfold newTuple
 refine Fh ?_ (by show rest.toArray.size≤sizeLine;rw [Eo];exact hrest)
 have he₁:=D_ (h:=h) (lg rest) he
 have h0:∃ a0,vs[0]? = some a0:=⟨vs[0],FD (by omega)⟩
 obtain ⟨a0,h0⟩:=h0
 unfold BaseException.bexcPut
 refine fu (fu (EF he₁ hd h0 (fu (FI he₁ hd (by omega) ?_))))
 cases a0 <;> first | exact HN (Eb hq) | exact Eb (Eb hq)
theorem lp {bm:List Value}{self:Value}(T:OwnTail h bmV bm):refuseLoop self "__setattr__" bm=pure ():=by
 induction T with
 | base=>exact Jd.passes self
 | own _ _ _ _ ih=>rw [refuseLoop_ref];exact ih
structure Dh (h h':Heap) (e:Addr) (oe:Obj) (name:Str) (v:Value) (mA:Str→Option Value) (dx:Addr):Prop where
 ns:h'.Ns1 dx fun y=>if y=name then some v else mA y
 exc:h'.get? e=some { oe with dict:=some dx }
 keep:∀ b o,b≠e→b≠dx→h.get? b=some o→h'.get? b=some o
section
variable {name:Str} {v:Value} {mA:Str→Option Value}
set_option maxHeartbeats 1600000 in
theorem nY {tk:Tok}{Q:Fin→Shared→Prop}{ns:List Str}(X:K.In h)(x:XCl K C bm)(hna:PySem.W.findIn K (.ref C) name=some none)
  (hx:h.get? e=some oe) (hc:oe.cls = .ref C) (hnc:oe.data = .fields vs) (hd:(oe.dict=none∧∀ n,mA n=none) ∨ ∃ dx,oe.dict=some dx∧dx≠e∧h.Ns1 dx mA)
  (hq:∀ h' tk' dx,Dh h h' e oe name v mA dx→(oe.dict=none→dx=h.objs.size)→(∀ dy,oe.dict=some dy→dx=dy)→Q (.done (.ret .none)) ⟨h',g,d,tk',os⟩) (hw:Within mA ns) (hsz:ns.length≤1000) :
  wpAny (model prog w) A (Builtin.«object.__setattr__» ⟨[.ref e,.str name tk,v],[]⟩) Q E ⟨h,g,d,t,os⟩:=by
 obtain ⟨T,nm,q,N,bs,sn,sub,ab,col,dd,k0,k1,k2,k3,k5,hC⟩:=x.at X
 have hpass:=lp (self:=.ref e) T
 have L:=G9 (M:=model prog w) X hna
 unfold Builtin.«object.__setattr__»
 repeat (first | rw [refuse_eq] | (rw [refuseLoop_ref,hpass]) | (with_reducible refine E2 hx ?_;rw [hc]) | with_reducible refine wpAny_mroOf_exc hC ?_ | with_reducible refine L.at ?_ | wp_step)
 rcases hd with ⟨hdn,hmA⟩ | ⟨dx,hdx,KN,hns⟩
 ·rw [hdn,if_neg (by simp [typeHasDict])]
  split
  ·rename_i K0
   cases K0
  split
  ·rename_i c K0
   rw [hnc] at K0;cases K0
  ·have hx₁:(h.push { cls:=.type "dict",data:=.dict #[] }).get? e=some oe:=D_ _ hx
   have hxs:e≠h.objs.size:=EK (Em hx)
   refine fu (wpAny_alloc' ?_)
   refine fu (wpAny_update' hx₁ ?_)
   refine Eb ?_
   have hgd:((h.push { cls:=.type "dict",data:=.dict #[] }).update e fun o=>{ cls:=o.cls,dict:=some h.objs.size,data:=o.data,slots:=o.slots }).get? h.objs.size
     = some { cls:=.type "dict",data:=.dict #[] } :=
    (Heap.get?_update_ne _ _ _ _ hxs.symm).trans (Heap.get?_push_at rfl rfl)
   have hnd:((h.push { cls:=.type "dict",data:=.dict #[] }).update e fun o=>{ cls:=o.cls,dict:=some h.objs.size,data:=o.data,slots:=o.slots }).Ns h.objs.size (fun _=>none) :=
    ⟨_,#[],_,hgd,rfl,fun e he=>absurd he (by simp),fun _=>rfl⟩
   show wpAny _ _ (storeInDict h.objs.size (.str name tk) name v) _ _ _
   unfold storeInDict newKeyGuard
   refine fu (Eb (fu (wpAny_nsSet1 (Heap.Ns1.of_empty hnd) fun h' hn' hs=>?_)))
   obtain ⟨oD,esD,epD,hoD,hdD,hcD⟩:=hn'.count (Within.cons name v Within.nil)
   refine fu (wpAny_lookBehind hoD (by rw [hdD];exact pastItsLine_dict (EV hcD (by rw [EA,Hr,F0];omega))) ?_)
   wp_walk
   refine hq h' _ h.objs.size ⟨?_,?_,fun b o hbx _ hb=>?_⟩ (fun _=>rfl) fun dy q=>by rw [hdn] at q;cases q
   ·obtain ⟨o',es,ep,e1,e2,e3,eu,e4⟩:=hn'
    exact ⟨o',es,ep,e1,e2,e3,eu,fun y=>by rw [e4 y];by_cases hy:y=name <;> simp [hy,hmA]⟩
   ·exact (hs.2 e hxs).trans (E_ _ hx₁ (Ft hnc))
   ·exact (hs.2 b (EK (Em hb))).trans ((Heap.get?_update_ne _ _ _ _ hbx).trans (D_ _ hb))
 ·rw [hdx]
  refine Eb ?_
  show wpAny _ _ (storeInDict dx (.str name tk) name v) _ _ _
  unfold storeInDict newKeyGuard
  refine fu (Eb (fu (wpAny_nsSet1 hns fun h' hn' hs=>?_)))
  obtain ⟨oD,esD,epD,hoD,hdD,hcD⟩:=hn'.count (Within.cons name v hw)
  refine fu (wpAny_lookBehind hoD (by rw [hdD];exact pastItsLine_dict (EV hcD (by rw [EA,F0];omega))) ?_)
  wp_walk
  refine hq h' _ dx ⟨hn',?_,fun b ob _ hbd hb=>(hs.2 b hbd).trans hb⟩ (fun q=>by rw [hdx] at q;cases q) fun dy q=>by rw [hdx] at q;cases q;rfl
  rw [(hs.2 e KN.symm).trans hx]
  obtain ⟨c,dd,dt,sl⟩:=oe
  simp only at hdx
  subst hdx
  rfl
theorem ql {M:Model}{nameV:Value}{Q:Unit→Shared→Prop}(X:K.In h)(x:XCl K C bm)(hx:h.get? e=some oe)(hc:oe.cls = .ref C)(hq:Q () ⟨h,g,d,t,os⟩) :
  wpAny M A (checkBuiltinCall "object.__setattr__" ⟨[.ref e,nameV,v],[]⟩) Q E ⟨h,g,d,t,os⟩:=by
 obtain ⟨T,nm,q,N,bs,sn,sub,ab,col,dd,k0,k1,k2,k3,k5,hC⟩:=x.at X
 have SF:=Jd
 have hcB:(Value.ref C::bm).contains (.type "object")=true:=by rw [GO,T.hasType SF.hasOwner,IU]
 have ha:=SF.args (.ref e) nameV v
 simp only [checkBuiltinCall,SF.kind,SF.split]
 refine fu ?_
 unfold isInstance
 repeat (first | (with_reducible refine E2 hx ?_;rw [hc]) | (with_reducible refine FN hC ?_;rw [hcB]) | wp_step)
 exact hq
theorem Aj {Q:Unit→Shared→Prop}{ns:List Str}(X:K.In h)(x:XCl K C bm)(hsa:PySem.W.findIn K (.ref C) "__setattr__" = some (some (.builtin "object.__setattr__")))(hna:PySem.W.findIn K (.ref C) name=some none)
  (hx:h.get? e=some oe) (hc:oe.cls = .ref C) (hnc:oe.data = .fields vs) (hd:(oe.dict=none∧∀ n,mA n=none) ∨ ∃ dx,oe.dict=some dx∧dx≠e∧h.Ns1 dx mA)
  (hq:∀ h' tk' dx,Dh h h' e oe name v mA dx→(oe.dict=none→dx=h.objs.size)→(∀ dy,oe.dict=some dy→dx=dy)→Q () ⟨h',g,d,tk',os⟩) (hw:Within mA ns) (hsz:ns.length≤1000) :
  wpAny (model prog w) A (setAttr (.ref e) name v) Q E ⟨h,g,d,t,os⟩:=by
 obtain ⟨T,nm,q,N,bs,sn,sub,ab,col,dd,k0,k1,k2,k3,k5,hC⟩:=id (x.at X)
 have SF:=Jd
 have f3:=SF.slot.bind (.ref e)
 have L:=G9 (M:=model prog w) X hsa
 unfold setAttr callSpecial? specialOf
 repeat (any_goals (first | assumption | (with_reducible refine E2 hx ?_;rw [hc]) | with_reducible refine L.at ?_ | wp_step))
 refine G_ SF.slot.plain SF.entry (ql X x hx hc (nY X x hna hx hc hnc hd (fun h' tk' dx a b c=>?_) hw hsz))
 repeat (any_goals (first | assumption | wp_step))
 exact hq h' tk' dx a b c
end
end
end L2
namespace L2
open PySem PySem.Spec PyProof.Rows
def xdt (d:Addr)(fs:List (Str × V)):Heap→Prop:=fun h=>∃ mA,h.Ns1 d mA∧(∀ f,kK (fs.lookup f) (mA f))∧PySem.Within mA (fs.map (·.1))
abbrev Xdt (d:Addr)(fs:List (Str × V)):HO:=.ext (xdt d fs)
theorem wd {P:Program}{w:World}{H:Hp}{h:Heap}{d:Addr}{fs:List (Str × V)}(x:xdt d fs h):bz P w H h d (Xdt d fs) :=
 ⟨x,let ⟨_,⟨o,_,_,q,_⟩,_⟩:=x;⟨o,q⟩,fun _ _ y k=>let ⟨mA,n,r⟩:=y;⟨mA,n.at k,r⟩⟩
structure XAt (K:PySem.W.Frag) (C:Addr):Prop where
 cl:∃ bm,XCl K C bm
 sa:PySem.W.findIn K (.ref C) "__setattr__" = some (some (.builtin "object.__setattr__"))
 ga:PySem.W.findIn K (.ref C) "__getattribute__" = some (some (.builtin "BaseException.__getattribute__"))
 gn:PySem.W.findIn K (.ref C) "__getattr__" = some none
section
variable {X:Cx} {Ks:List (Addr × Obj)} {σ:St} {H:Hp} {s:Shared} {A:Around} {E:Value→Shared→Prop} {a C:Addr} {b cx:Bool} {f:Str} {y:V} {u:Value} {Q:Unit→Shared→Prop}
theorem bp {P:Program}{w:World}{h:Heap}{d:Option Addr}(ok:HOk P w H h)(e:H a=some (Exo a C d b cx)):exo a C d b cx h:=(ok a _ e).1
theorem qm {P:Program}{w:World}{h:Heap}{d:Addr}{fs:List (Str × V)}(ok:HOk P w H h)(e:H d=some (Xdt d fs)):xdt d fs h:=(ok d _ e).1
theorem uy (I:Inv X Ks σ H s)(ea:H a=some (Exo a C none b cx))(x:XAt X.K C)(hna:PySem.W.findIn X.K (.ref C) f=some none)(ry:bq y u)
  (h:∀ s' dx,H dx=none→dx≠a→Inv X Ks σ (upd (upd H a (Exo a C (some dx) b cx)) dx (Xdt dx [(f,y)])) s'→Q () s'):wpAny (model X.prog X.w) A (setAttr (.ref a) f u) Q E s:=by
 obtain ⟨oe,vs,g1,g2,g3,g4,g5,g6⟩:=bp I.hok ea
 obtain ⟨bm,xc⟩:=x.cl
 obtain ⟨hh,g,dr,tk,os⟩:=s
 refine Aj (mA:=fun _=>none) (ns:=[]) I.kIn xc x.sa hna g1 g2 g4 (.inl ⟨g3,fun _=>rfl⟩) (fun h' tk' dx S d1 _=>?_) (fun n hn=>absurd rfl hn) (by simp)
 have hdx:dx=hh.objs.size:=d1 g3
 have KY:H dx=none:=I.hok.fresh (IQ hdx.symm)
 have nea:dx≠a:=fun z=>by rw [z,ea] at KY;cases KY
 have nin:∀ c o,hh.get? c=some o→c≠dx:=fun c o q z=>absurd (Em q) (by rw [z,hdx];exact E9 _)
 have neA:∀ c,H c=none→c≠a:=fun c n z=>by rw [z,ea] at n;cases n
 have neA':∀ c v,H c=some v→v≠Exo a C none b cx→c≠a:=fun c v q n z=>by rw [z,ea] at q;cases q;exact n rfl
 have neD:∀ c v,H c=some v→c≠dx:=fun c v q z=>by rw [z,KY] at q;cases q
 have same:∀ c v,H c=some v→v≠Exo a C none b cx→upd (upd H a (Exo a C (some dx) b cx)) dx (Xdt dx [(f,y)]) c=some v:=fun c v q n=>by rw [ar (neD c v q),ar (neA' c v q n)];exact q
 refine h _ dx KY nea (I.un (t':=tk') ⟨fun c o q n _ _=>S.keep c o (neA c n) (nin c o q) q,fun c o q n _ _=>⟨o.slots,S.keep c o (neA c n) (nin c o q) q⟩,
  fun c o q n _=>by rw [ar (nin c o q),ar (neA c n)];exact n,fun c o q _=>?_,fun c xs q=>same c _ q (by intro z;cases z),fun c o v q=>same c _ q (by intro z;cases z),fun c ps q=>⟨#[],by rw [same c _ q (by intro z;cases z)];simp⟩⟩ fun c v q=>?_)
 ·by_cases z:c=a
  ·subst z;exact ⟨_,S.exc⟩
  ·exact ⟨o,S.keep c o z (nin c o q) q⟩
 ·by_cases z:c=dx
  ·subst z
   rw [ag] at q;cases q
   refine wd ⟨_,S.ns,fun n=>?_,fun n hn=>?_⟩
   ·show kK (List.lookup n [(f,y)]) (if n=f then some u else none)
    by_cases z:n=f
    ·subst z;rw [if_pos rfl,GD,GE];exact ry
    ·rw [if_neg z,GD,FZ.mpr z];exact True.intro
   ·by_cases z:n=f
    ·subst z;exact Ex
    ·exact absurd (show (if n=f then some u else none)=none by rw [if_neg z]) hn
  ·rw [ar z] at q
   by_cases y':c=a
   ·subst y'
    rw [ag] at q;cases q
    exact kg ⟨_,vs,S.exc,g2,rfl,g4,g5,g6⟩
   ·rw [ar y'] at q
    have hc:=I.hok c v q
    refine hc.stay (fun p o hp r=>S.keep p o ?_ (nin p o r) r) (fun p hp=>same p _ hp (by intro z;cases z)) fun p xs hp=>same p _ hp (by intro z;cases z)
    rcases hp with rfl | hp
    ·exact y'
    ·exact neA' p _ hp (by intro z;cases z)
theorem uA {dx:Addr}{fs:List (Str × V)}(I:Inv X Ks σ H s)(ea:H a=some (Exo a C (some dx) b cx))(ed:H dx=some (Xdt dx fs))(hl:fs.length≤900)(x:XAt X.K C)(hna:PySem.W.findIn X.K (.ref C) f=some none)(ry:bq y u)(hda:dx≠a)
  (h:∀ s',Inv X Ks σ (upd H dx (Xdt dx (nD f y fs))) s'→Q () s'):wpAny (model X.prog X.w) A (setAttr (.ref a) f u) Q E s:=by
 obtain ⟨oe,vs,g1,g2,g3,g4,g5,g6⟩:=bp I.hok ea
 obtain ⟨mA,n1,n2,n3⟩:=qm I.hok ed
 obtain ⟨bm,xc⟩:=x.cl
 obtain ⟨hh,g,dr,tk,os⟩:=s
 refine Aj (mA:=mA) (ns:=fs.map (·.1)) I.kIn xc x.sa hna g1 g2 g4 (.inr ⟨dx,g3,hda,n1⟩) (fun h' tk' dy S _ d2=>?_) n3 (by rw [Ea];omega)
 obtain rfl:dy=dx:=d2 dx g3
 refine h _ (I.write (t':=tk') (x:=dy) (e:=dy) (by rw [ed];exact True.intro) (.inl rfl) (fun c o hc q=>?_) ?_ (wd ⟨_,S.ns,fun n=>?_,fun n hn=>?_⟩))
 ·by_cases z:c=a
  ·subst z
   rw [g1] at q;cases q
   rw [S.exc]
   obtain ⟨c1,c2,c3,c4⟩:=oe
   simp only at g3
   subst g3
   rfl
  ·exact S.keep c o z hc q
 ·obtain ⟨o,_,_,e,_⟩:=S.ns;exact ⟨o,e⟩
 ·show kK ((nD f y fs).lookup n) (if n=f then some u else mA n)
  rw [gr]
  by_cases z:n=f
  ·rw [if_pos z,if_pos z];exact ry
  ·rw [if_neg z,if_neg z];exact n2 n
 ·by_cases z:n=f
  ·rw [z];exact (gu f y fs).1
  ·refine (gu f y fs).2 n (n3 n fun w=>hn ?_)
   show (if n=f then some u else mA n)=none
   rw [if_neg z];exact w
end
def DW (K:PySem.W.Frag)(ta tv:TE)(f:Str):TS:=fun D σ H=>tv σ H fun y H1=>ta σ H1 fun x H2=>∃ a C b cx,x = .ref a∧H2 a=some (Exo a C none b cx)∧XAt K C∧PySem.W.findIn K (.ref C) f=some none ∧
 ∀ dx,H2 dx=none→dx≠a→D.nx σ (upd (upd H2 a (Exo a C (some dx) b cx)) dx (Xdt dx [(f,y)]))
def DX (K:PySem.W.Frag)(ta tv:TE)(f:Str):TS:=fun D σ H=>tv σ H fun y H1=>ta σ H1 fun x H2=>∃ a C b cx dx fs,x = .ref a∧H2 a=some (Exo a C (some dx) b cx)∧H2 dx=some (Xdt dx fs)∧fs.length≤900∧XAt K C∧PySem.W.findIn K (.ref C) f=some none∧dx≠a ∧
 D.nx σ (upd H2 dx (Xdt dx (nD f y fs)))
section
variable {X:Cx} {o e value:Expr} {es:List Expr} {f x:Str} {p pos pos' apos:Pos} {ta tv te:TE} {t:TA} {R:Addr} {E:XK}
theorem we (ha:PE X o ta)(hv:PE X value tv)(hs:swapsWith value (some (.Attribute o f pos')) pos.line X.env=pure false):PS X (.Assign [.Attribute o f pos'] value pos) (DW X.K ta tv f):=by
 intro Ks s σ H D I h
 refine HS (thn (hv Ks s σ H _ I h) fun u s1 ⟨y,H1,I1,ry,q⟩=>thn (ha Ks s1 σ H1 _ I1 q) fun ov s2 Lg=>?_) hs
 obtain ⟨z,H2,I2,rx,a,C,b,cx,ex,ea,c,n,q2⟩:=Lg
 subst ex
 obtain rfl:ov=Value.ref a:=rx
 exact uy I2 ea c n ry fun s3 dx h1 h2 I3=>⟨σ,_,I3,q2 dx h1 h2⟩
theorem Ak (ha:PE X o ta)(hv:PE X value tv)(hs:swapsWith value (some (.Attribute o f pos')) pos.line X.env=pure false):PS X (.Assign [.Attribute o f pos'] value pos) (DX X.K ta tv f):=by
 intro Ks s σ H D I h
 refine HS (thn (hv Ks s σ H _ I h) fun u s1 ⟨y,H1,I1,ry,q⟩=>thn (ha Ks s1 σ H1 _ I1 q) fun ov s2 zq2=>?_) hs
 obtain ⟨z,H2,I2,rx,a,C,b,cx,dx,fs,ex,ea,ed,l,c,n,da,q2⟩:=zq2
 subst ex
 obtain rfl:ov=Value.ref a:=rx
 exact uA I2 ea ed l c n ry da fun s3 I3=>⟨σ,_,I3,q2⟩
def Al (K:PySem.W.Frag)(t:TA):TE:=fun σ H Q=>t σ H fun vs H1=>∃ a C d b cx rest,vs = .ref a::rest∧rest.length≤1000∧H1 a=some (Exo a C d b cx)∧XAt K C∧Q .non H1
structure uB (K:PySem.W.Frag) (R:Addr):Prop where
 rd:PySem.W.readsIn K R (.type "type")=true
 at_:PySem.W.findCls K (.ref R) (.type "type") "__init__" = some (.val (.builtin "ValueError.__init__"))
 ga:PySem.W.specialIn K (.ref R) "__getattribute__" = some (some (.builtin "type.__getattribute__"))
 hd:PySem.W.handedIn (.builtin "ValueError.__init__")=true
theorem uC {Ks:List (Addr × Obj)}{σ:St}{H:Hp}{s:Shared}{A:Around}{F:Value→Shared→Prop}{Q:Value→Shared→Prop}{a C:Addr}{d:Option Addr}{b cx:Bool}{rest:List Value}(I:Inv X Ks σ H s)(ea:H a=some (Exo a C d b cx))(x:XAt X.K C)(hl:rest.length≤1000)
  (h:∀ s',Inv X Ks σ H s'→Q .none s'):wpAny (model X.prog X.w) A (call (.builtin "ValueError.__init__") (.ref a::rest)) Q F s:=by
 obtain ⟨oe,vs,g1,g2,g3,g4,g5,g6⟩:=bp I.hok ea
 obtain ⟨bm,xc⟩:=x.cl
 obtain ⟨hh,g,dr,tk,os⟩:=s
 refine Hj (Ai I.kIn xc g1 g2 g4 g5 (by rw [F0];omega) (h _ ?_))
 have I1:=I.kept (h':=hh.push (lg rest)) (t':=tk) (fun b u q=>D_ _ q)
 have g1':=D_ (h:=hh) (lg rest) g1
 have hd':=Fk g4 (·.setIfInBounds 0 (Value.ref hh.objs.size))
 have e':=E_ (Obj.mapFields (·.setIfInBounds 0 (Value.ref hh.objs.size))) g1' (Ft hd')
 have I2:=I1.write (t':=tk) (x:=a) (e:=a) (h':=(hh.push (lg rest)).update a (Obj.mapFields (·.setIfInBounds 0 (Value.ref hh.objs.size)))) (o:=Exo a C d b cx) (by rw [ea];exact True.intro) (.inl rfl) (fun c o hc q=>(EZ _ _ (Ne.symm hc)).trans q) ⟨_,e'⟩
  (kg ⟨_,_,e',(G6 _ _).trans g2,by
   rw [← g3]
   obtain ⟨c1,c2,c3,c4⟩:=oe
   cases c3 <;> rfl,hd',by rw [Je];exact g5,(fun z=>by rw [Fy (by decide)];exact g6.1 z),fun z=>by rw [Fy (by decide)];exact g6.2 z⟩)
 rwa [dS ea] at I2
theorem mR {pl:Sem Bool}(B:uB X.K R)(hg:Gl X x)(hm:X.mg x=some (.ref R))(ha:PA X (e::es) t)(Lh:(x == ("__debug__":Str))=false:=by decide)
  (KP:starEach (e::es) X.env=(false,eval e X.env)::starEach es X.env:=by rfl) (KW:(backTo pos (starEach es X.env)).any (·.1)=false:=by rfl)
  (ht:eval (.Call (.Attribute (.Name x p) "__init__" apos) (e::es) [] pos) X.env=(do
   let ov ← eval (.Name x p) X.env
   standAt apos.atName
   let (f,first) ← holding [ov] (getMethod ov "__init__" pl)
   callWith pos f first (backTo pos (starEach (e::es) X.env)) (backToKw pos (keywordEach [] X.env))):=by rfl) :
  PE X (.Call (.Attribute (.Name x p) "__init__" apos) (e::es) [] pos) (Al X.K t):=by
 intro Ks s σ H Q I h
 refine PySem.W.methodCall_KW (pl:=pl) (cC I hg hm ?_ Lh) ht
 refine PySem.W.method_cls I.kIn B.ga (PySem.W.cls_value I.kIn B.rd B.at_ B.hd ?_)
 refine HZ (thn (ha pos Ks _ σ H _ (I.tok _) h) fun us s2 zq3=>?_) KP KW
 obtain ⟨vs,H2,I2,r,a,C,d,b,cx,rest,ev,hl,ea,xa,q2⟩:=zq3
 subst ev
 cases r with
 | cons r1 r2 =>
  obtain rfl:_=Value.ref a:=r1
  exact uC I2 ea xa (by rw [← r2.length];exact hl) fun s3 I3=>⟨.non,H2,I3,rfl,q2⟩
def Am (K:PySem.W.Frag)(te:TE)(E:XK):TS:=fun D σ H=>te σ H fun v H1=>∃ a C d cx,v = .ref a∧H1 a=some (Exo a C d true cx)∧XAt K C∧E (.ref a) none (upd H1 a (Exo a C d false cx))
theorem cO (hx:wb X E)(hc:X.calm=true)(he:PE X e te):PS X (.Raise (some e) none pos) (Am X.K te E):=by
 intro Ks s σ H D I h
 rw [arm_exec_Raise]
 refine fu (GZ ?_)
 unfold raiseStmt
 refine fu (fu (thn (he Ks s σ H _ I h) fun v s1 ⟨y,H1,I1,ry,a,C,d,cx,ey,ea,xa,q⟩=>fu (GZ (Eb ?_))))
 subst ey
 obtain rfl:v=Value.ref a:=ry
 have fin:=hx Ks σ H1 s1 a C d cx I1 ea q
 obtain ⟨⟨oc,od,odt,K2⟩,vs,g1,g2,g3,g4,g5,g6⟩:=bp I1.hok ea
 simp only at g2 g3 g4
 subst g2 g3 g4
 obtain ⟨bm,xc⟩:=xa.cl
 obtain ⟨T,nm,q,N,bs,sn,sub,ab,col,dd,k0,k1,k2,k3,k5,hC⟩:=xc.at I1.kIn
 have hcB:(Value.ref C::bm).contains (.type "BaseException")=true:=by rw [GO,T.hasType IK.hasBase,IU]
 have hh:=I1.ok.hd hc
 obtain ⟨hp,g,dr,tk,os⟩:=s1
 repeat (first | with_reducible refine E2 g1 ?_ | with_reducible refine E2 hC ?_ | (with_reducible refine FN hC ?_;rw [hcB]) | wp_step)
 rw [g6.1 rfl]
 refine Eb ?_
 rw [if_neg (by decide)]
 exact Eb (wpAny_raiseNew_none hh fin)
end
theorem XCl.mro {K:PySem.W.Frag}{C:Addr}{bm:List Value}{h:Heap}(x:XCl K C bm)(X:K.In h){T:String}{b:Bool}(hb:bmV.contains (.type T)=b):PySem.W.mroIn K C (.type T)=some b:=by
 have T':=PySem.W.tail_of_in X x.tl
 obtain ⟨dd,cd,k0,k1,k2,k3,k5,hl,hm,hd,hh⟩:=x.obj
 unfold PySem.W.mroIn PySem.W.clsIn
 rw [hl,Option.bind_some,hm,if_neg (by simp),GO,T'.hasType hb]
 rfl
theorem XCl.cls {K:PySem.W.Frag}{C:Addr}{bm:List Value}(x:XCl K C bm):∃ cd,PySem.W.clsIn K C=some cd∧cd.hasDict=true:=by
 obtain ⟨dd,cd,k0,k1,k2,k3,k5,hl,hm,hd,hh⟩:=x.obj
 exact ⟨cd,by unfold PySem.W.clsIn;rw [hl],hh⟩
section
variable {prog:Program} {w:World} {A:Around} {E:Value→Shared→Prop} {s:Shared} {K:PySem.W.Frag} {C a:Addr} {bm:List Value} {oe:Obj} {od:Option Obj} {name:Str} {fill expr:Bool} {tk:Tok}
theorem mS {Q:Value→Shared→Prop}(X:K.In s.heap)(I:PySem.W.InstAt s.heap a oe C od)(x:XAt K C)
  (h:wpAny (model prog w) A.in1 (Builtin.«object.__getattribute__» ⟨[.ref a,.str name tk],[]⟩) (fun fin s'=>match fin with | .done (.ret v)=>wpAny (model prog w) A (handedOut v) Q E s' | _=>False) (fun _ _=>False) s) :
  wpAny (model prog w) A (getAttrBy (.ref a) (.str name tk) fill expr) Q E s:=by
 obtain ⟨bm,xc⟩:=x.cl
 have hmB:=xc.mro X (T:="BaseException") (b:=true) IK.hasBase
 have L0:=I.type (M:=model prog w)
 unfold getAttrBy
 refine FE (fu (L0.here (fu ((G9 X x.ga).here ?_))))
 dsimp only
 rw [show (onTheHeap (Value.ref C) && Value.builtin "BaseException.__getattribute__" == Value.builtin "object.__getattribute__")=false from by rw [show (Value.builtin "BaseException.__getattribute__" == Value.builtin "object.__getattribute__")=false from by decide +kernel,Jz],if_neg (by decide)]
 unfold getAttrByItsOwn
 refine fu ((PySem.W.looks_hook (mc:=.ref C) (r:=none) X (by rw [if_pos (show onTheHeap (Value.ref C)=true from rfl)];exact x.gn)).here (fu (FV (FE ?_))))
 unfold callGetattribute
 rw [show (expr && onTheHeap (Value.builtin "BaseException.__getattribute__"))=false from Jz _,if_neg (by decide)]
 unfold boundAndCalled
 rw [PySem.F.attr_ValueError.ga.bind]
 refine fu (Eb ?_)
 show wpAny _ _ (call (.builtin "BaseException.__getattribute__") [.ref a,.str name tk]) _ _ _
 refine Hj (G_ PySem.F.attr_ValueError.ga.plain PySem.F.entry_bexc_ga ?_)
 have hk:builtinKind "BaseException.__getattribute__" = some .slot:=by decide +kernel
 have hsp:splitId "BaseException.__getattribute__" = some ("BaseException","__getattribute__"):=by decide +kernel
 have LI:PySem.W.Looks (model prog w) s.heap (isInstance (.ref a) (.type "BaseException")) true:=L0.andThen (PySem.W.looks_mroIn X hmB)
 refine @PySem.W.check_slot (model prog w) _ _ s "BaseException.__getattribute__" "BaseException" "__getattribute__" (.ref a) [.str name tk] [] _ hk hsp LI (PySem.F.args_bexc_ga (.ref a) (.str name tk)) ?_
 refine Fm h (fun fin s' z=>?_) fun _ _ z=>z.elim
 rcases fin with (_ | _ | _ | _) | _ <;> first | exact z | exact z.elim
theorem uD {v:Value}{Q:Fin→Shared→Prop}(X:K.In s.heap)(I:PySem.W.InstAt s.heap a oe C od)(hf:PySem.W.findObj K C od name=some (.value v))(h:Q (.done (.ret v)) s) :
  wpAny (model prog w) A (Builtin.«object.__getattribute__» ⟨[.ref a,.str name tk],[]⟩) Q E s:=by
 have L0:=I.type (M:=model prog w)
 have L1:=PySem.W.looks_find (M:=model prog w) X I hf
 refine fu (Eb (fu (Eb (fu (L0.here (fu (L1.here ?_)))))))
 exact Eb h
theorem xV {g b:Value}{Q:Fin→Shared→Prop}(X:K.In s.heap)(I:PySem.W.InstAt s.heap a oe C od)(hf:PySem.W.findObj K C od name=some (.bind g b))
  (h:wpAny (model prog w) A (call g [b,.ref a,.ref C]) (fun v s'=>Q (.done (.ret v)) s') E s) :
  wpAny (model prog w) A (Builtin.«object.__getattribute__» ⟨[.ref a,.str name tk],[]⟩) Q E s:=by
 have L0:=I.type (M:=model prog w)
 have L1:=PySem.W.looks_find (M:=model prog w) X I hf
 refine fu (Eb (fu (Eb (fu (L0.here (fu (L1.here ?_)))))))
 show wpAny _ _ (holding [b] (call g [b,.ref a,.ref C]) >>= ret) _ _ _
 exact fu (FE (Fm h (fun v s' z=>Eb z) fun _ _ z=>z))
end
theorem XCl.hasDict {K:PySem.W.Frag}{C:Addr}{bm:List Value}(x:XCl K C bm):PySem.W.hasDictIn K C=true:=by
 obtain ⟨cd,h1,h2⟩:=x.cls
 unfold PySem.W.hasDictIn
 rw [h1]
 exact h2
structure XCa (K:PySem.W.Frag) (C:Addr):Prop where
 at_:XAt K C
 ca:PySem.W.findIn K (.ref C) "__class__" = some (some (.builtin "object.__class__"))
 gt:PySem.W.specialIn K (.builtin "object.__class__") "__get__" = some (some (.builtin "getset_descriptor.__get__"))
 tk:PySem.W.takesIn K (.builtin "object.__class__")=some true
theorem uE {K:PySem.W.Frag}{C a:Addr}(x:XCa K C):PySem.W.KitX K (.ref a) (.ref C) (fun h=>∃ oe od,PySem.W.InstAt h a oe C (some od)) where
 ty:=fun _ _ _ Lg=>(by obtain ⟨_,_,I⟩:=Lg;exact I.type)
 it:=fun _ _ X _=>by
  obtain ⟨bm,xc⟩:=x.at_.cl
  obtain ⟨dd,cd,k0,k1,k2,k3,k5,ho,_⟩:=xc.obj
  intro A' Q' E' s' k q
  unfold isType loadHead
  exact fu (wpAny_loadPart (k _ _ (X _ _ ho)) (Eb q))
 ne:=fun h tp dd its n sl X htp=>by
  obtain ⟨bm,xc⟩:=x.at_.cl
  obtain ⟨dd,cd,k0,k1,k2,k3,k5,ho,_⟩:=xc.obj
  refine Bool.eq_false_iff.mpr fun q=>?_
  have e:C=tp:=Value.ref.inj (FQ.mp q)
  subst e
  have z:=EX Obj.data (EE ((X _ _ ho).symm.trans htp))
  cases z
 ca:=fun {prog w A E Q s} X ⟨oe,od,I⟩ k=>by
  obtain ⟨bm,xc⟩:=x.at_.cl
  obtain ⟨cd,hc,_⟩:=xc.cls
  have hf:PySem.W.findObj K C (some od) "__class__" = some (.bind (.builtin "getset_descriptor.__get__") (.builtin "object.__class__")):=PySem.W.findObj_data (by rw [hc];rfl) x.ca x.gt x.tk
  refine fu (wpAny_mkText ?_)
  unfold getAttrBy?
  refine fu (FV ?_)
  refine mS (s:={ s with toks:=s.toks+1 }) X I x.at_ (xV (s:={ s with toks:=s.toks+1 }) X I hf (Hj ?_))
  exact PySem.W.class_get (s:={ s with toks:=s.toks+1 }) (ox:=oe) (od:=some od) X I (xc.mro X Jd.hasOwner) (PySem.W.handed_on rfl (Eb k))
section
variable {X:Cx} {Ks:List (Addr × Obj)} {σ:St} {H:Hp} {s:Shared} {A:Around} {E:Value→Shared→Prop} {a C dx:Addr} {b cx:Bool} {fs:List (Str × V)} {f:Str} {v:V}
theorem mT (I:Inv X Ks σ H s)(ea:H a=some (Exo a C (some dx) b cx))(ed:H dx=some (Xdt dx fs)):∃ oe od,PySem.W.InstAt s.heap a oe C (some od)∧∃ mA:Str→Option Value,(∀ n,PySem.W.lookIn n od=some (mA n))∧∀ n,kK (fs.lookup n) (mA n):=by
 obtain ⟨oe,vs,g1,g2,g3,g4,g5,g6⟩:=bp I.hok ea
 obtain ⟨mA,n1,n2,n3⟩:=qm I.hok ed
 obtain ⟨od,ho,hl⟩:=jN n1
 exact ⟨oe,od,⟨g1,g2,by unfold PySem.W.notCls;rw [g4],by rw [g3];exact ho⟩,mA,hl,n2⟩
theorem xW {ex:Bool}{Q:Value→Shared→Prop}(I:Inv X Ks σ H s)(ea:H a=some (Exo a C (some dx) b cx))(ed:H dx=some (Xdt dx fs))(x:XAt X.K C)(hna:PySem.W.findIn X.K (.ref C) f=some none)(l:fs.lookup f=some v)
  (h:∀ u s',Inv X Ks σ H s'→bq v u→Q u s'):wpAny (model X.prog X.w) A (getAttr (.ref a) f ex) Q E s:=by
 obtain ⟨oe,od,J,mA,hl,r⟩:=mT I ea ed
 obtain ⟨bm,xc⟩:=x.cl
 obtain ⟨u,hu,ru⟩:=kK.some_of (v:=v) (o:=mA f) (by rw [← l];exact r f)
 have hf:PySem.W.findObj X.K C (some od) f=some (.value u):=PySem.W.findObj_own xc.hasDict hna rfl (by rw [hl,hu])
 refine fu (wpAny_mkText ?_)
 refine mS (s:={ s with toks:=s.toks+1 }) I.kIn J x (uD (s:={ s with toks:=s.toks+1 }) I.kIn J hf ?_)
 exact PySem.W.handed_on (oV ru) (h u _ (I.tok _) ru)
end
def tFx (K:PySem.W.Frag)(ta:TE)(f:Str):TE:=fun σ H Q=>ta σ H fun x H1=>∃ a C b cx dx fs v,x = .ref a∧H1 a=some (Exo a C (some dx) b cx)∧H1 dx=some (Xdt dx fs)∧XAt K C∧PySem.W.findIn K (.ref C) f=some none∧fs.lookup f=some v∧Q v H1
inductive B9 (K:PySem.W.Frag)(xs:List V)(H:Hp)(Q:VK):Prop
 | mk:∀ a C b cx dx fs c t r,(xs=[.ref a,c])→(H a=some (Exo a C (some dx) b cx))→(H dx=some (Xdt dx fs))→(XCa K C)→((∀ u,bq c u→u=t))→(PySem.W.kitOne K (.ref C) t=some r)→(Q (.bl r) H)→B9 K xs H Q
section
variable {X:Cx} {e:Expr} {f:Str} {pos:Pos} {ta:TE}
theorem B_ (he:PE X e ta)(hb:attributeBase e f X.env (eval e X.env)=eval e X.env):PE X (.Attribute e f pos) (tFx X.K ta f):=by
 intro Ks s σ H Q I h
 refine xh hb (thn (he Ks s σ H _ I h) fun u s1 zq2=>?_)
 obtain ⟨x,H1,I1,rx,a,C,b,cx,dx,fs,v,ex,ea,ed,c,n,l,q⟩:=zq2
 subst ex
 obtain rfl:u=Value.ref a:=rx
 exact xW I1 ea ed c n l fun u' s2 I2 ru=>⟨v,H1,I2,ru,q⟩
theorem uF:cI X (.builtin "isinstance") (B9 X.K):=by
 intro Ks s σ H xs us Q I r h
 obtain ⟨a,C,b,cx,dx,fs,c,t,rr,rfl,ea,ed,x,hc,e,q⟩:=h
 obtain ⟨u,u2,rfl,rx,r2⟩:=tj r
 obtain rfl:=hc _ r2
 obtain rfl:u=Value.ref a:=rx
 obtain ⟨oe,od,J,_⟩:=mT I ea ed
 exact Fq (uE x) I.kIn ⟨oe,_,J⟩ e (fun z=>nomatch z) fun tk=>⟨.bl rr,H,I.tok _,rfl,q⟩
end
abbrev Hd (X:Cx)(v:Value):Cx:={ X with A:=X.A.mark (some v),calm:=false,xe:=fun _ _=>False }
theorem Inv.hold {X:Cx}{Ks:List (Addr × Obj)}{σ:St}{H:Hp}{s:Shared}(I:Inv X Ks σ H s)(v:Value):Inv (Hd X v) Ks σ H s :=
 ⟨⟨I.ok.mod,I.ok.kind,I.ok.glob,I.ok.blt,I.ok.above,I.ok.inj,I.ok.has,I.ok.cab,(fun z=>by cases z),I.ok.frames,I.ok.stk,I.ok.exf,I.ok.bs,I.ok.bsz,I.ok.noex,I.ok.exfs,I.ok.funs,I.ok.frf⟩,I.os,I.bare,I.base,I.loc,I.cell,I.free,I.freeC,I.pin,I.hok,I.len⟩
theorem Inv.offHold {X:Cx}{Ks:List (Addr × Obj)}{σ:St}{H:Hp}{s:Shared}{v:Value}(ok:X.Ok)(I:Inv (Hd X v) Ks σ H s):Inv X Ks σ H s :=
 ⟨ok,I.os,I.bare,I.base,I.loc,I.cell,I.free,I.freeC,I.pin,I.hok,I.len⟩
def XE (X:Cx)(Ks:List (Addr × Obj))(σ:St)(E:XK)(e:Value)(s':Shared):Prop :=
 ∃ a C d c H',e = .ref a∧Inv X Ks σ H' s'∧H' a=some (Exo a C d false c)∧Flt s'.heap a .none∧E (.ref a) none H'
def PEE (X:Cx)(E:XK)(e:Expr)(t:TE):Prop :=
 ∀ (Ks:List (Addr × Obj)) (s:Shared) (σ:St) (H:Hp) (Q:VK),Inv X Ks σ H s→t σ H Q→wpAny (model X.prog X.w) X.A (eval e X.env) (EP X Ks σ Q) (XE X Ks σ E) s
section
variable {X:Cx} {Ks:List (Addr × Obj)} {σ:St} {H:Hp} {s:Shared}
theorem XE.of {E:XK}{e:Value}{s':Shared}(I:Inv X Ks σ H s)(h:CXe X.prog X.w X.stack H s E e s'):XE X Ks σ E e s':=by
 obtain ⟨a,C,d,c,H',he,os,bare,un,hok,ha,hf,hE⟩:=h
 exact ⟨a,C,d,c,H',he,I.call' os un hok bare (fun b z=>absurd z (by simp)),ha,hf,hE⟩
theorem jb {M:Model}{A:Around}{E:Value→Shared→Prop}{i:Nat}{x:Str}{pos:Pos}{Q:Unit→Shared→Prop}(I:Inv X Ks σ H s)(hN:X.N.Nodup)(hi:X.N[i]? = some x)(hx:X.env.scope.names.lookup x=some .local)
  (h:∀ s',Inv X Ks (σ.set i none) H s'→Q () s'):wpAny M A (do bindName X.env x .none;unbindBehindTheSuite X.env x pos) Q E s:=by
 have Lo:(X.env.scope.kind == .class || (X.env.scope.kind == .module && X.env.locals != X.env.globals))=false:=by rw [I.ok.kind];rfl
 have hiσ:i < σ.length:=by rw [I.len];exact (Ef.mp hi).1
 have hk:X.env.kindOf x=some .local:=hx
 refine fu (wpAny_bindName (cQ (v:=.non) (u:=.none) I hN hi (.inl hx) rfl (fun s₁ J=>?_) (.inr hx)))
 obtain ⟨m,hn,hl⟩:=id J.loc
 have hm:(m x).isSome=true:=by
  obtain ⟨u,_,q⟩:=hl i x .non hi (by rw [Gb hiσ]) (.inl hx)
  rcases q with ⟨_,e⟩ | ⟨e,_⟩
  ·rw [e];rfl
  ·rcases e with e | e <;> (rw [hk] at e;cases e)
 unfold unbindBehindTheSuite
 refine Gk ?_
 unfold unbindName
 refine fu (wpAny_point (fu ?_))
 unfold deleteName
 simp only [hk,Lo]
 rw [if_neg (by decide)]
 refine fu (wpAny_nsDel_keeps hn fun h₂ v hn₂ hs₂=>?_)
 simp only [hm,Hg,Option.isSome_some,Bool.not_true,IR,Jw]
 refine Eb (wpAny_point (h _ ?_))
 have I:=J
 have cne:=I.cne
 obtain ⟨oL,_,_,hoL,_⟩:=id hn
 have ne:∀ b o,X.s₀.heap.get? b=some o→b≠X.env.locals:=fun b o e=>EK (Et (Em e) I.ok.above)
 refine ⟨I.ok,I.os,I.bare,⟨fun b o e n hb hx=>(hs₂.2 b (ne b o e)).trans (I.base.keep b o e n hb hx),fun b o e n hb hx=>?_,I.base.free,fun b o e hx=>?_,I.base.tups,I.base.frzs,I.base.tbls⟩,⟨_,hn₂,fun j y v' e1 e2 e3=>?_⟩,fun y c e=>?_,I.free,I.freeC,fun p hp=>?_,fun b ob e=>?_,by simpa using I.len⟩
 ·obtain ⟨sl,e1⟩:=I.base.slot b o e n hb hx
  exact ⟨sl,(hs₂.2 b (ne b o e)).trans e1⟩
 ·obtain ⟨o',e1⟩:=I.base.there b o e hx
  exact ⟨o',(hs₂.2 b (ne b o e)).trans e1⟩
 ·by_cases hj:j=i
  ·subst hj
   rw [Gb (by exact hiσ)] at e2
   cases e2
  ·rw [FS (Ne.symm hj)] at e2
   obtain ⟨u',r',q⟩:=hl j y v' e1 (by rw [FS (Ne.symm hj)];exact e2) e3
   refine ⟨u',r',?_⟩
   rcases q with ⟨k,e⟩ | ⟨k,c,e,z⟩
   ·refine .inl ⟨k,?_⟩
    have:y≠x:=fun e=>hj (fS hN e1 (e ▸ hi))
    simp [this,e]
   ·exact .inr ⟨k,c,e,z.sameBut hs₂ (cne y c e)⟩
 ·obtain ⟨w',z⟩:=I.cell y c e
  exact ⟨w',z.sameBut hs₂ (cne y c e)⟩
 ·obtain ⟨e,n,ne,nf,d⟩:=I.pin p hp
  exact ⟨(hs₂.2 p.1 ne).trans e,n,ne,nf,d⟩
 ·refine (I.hok b ob e).stay (fun c w' hc q=>(hs₂.2 c ?_).trans q) (fun _ q=>q) fun _ _ q=>q
  rintro rfl
  rcases hc with rfl | hc
  ·rw [I.free] at e;cases e
  ·rw [I.free] at hc;cases hc
end
section
variable {M:Model} {A:Around} {E:Value→Shared→Prop} {s:Shared}
theorem qo {base:Heap}{env:Env}{outer:List Env}{L e:Addr}{oe:Obj}{vs:Array Value}{Q:Unit→Shared→Prop}
  (KY:A.frames=some (env::outer)) (hl:s.heap.FunFrames base (env::outer)) (hf:env.frame=some L)
  (he:s.heap.get? e=some oe) (hd:oe.data = .fields vs) (h1:vs[1]? = some .none ∨ Flt s.heap e .none)
  (h:∀ h',Nts (frs (env::outer)) e .none s.heap h'→Q () { s with heap:=h' }):wpAny M A (noteFrame (.ref e) env) (fun _ s₂=>wpAny M A (setFlight (.ref e) none) Q E s₂) E s:=by
 refine xU KY hl hf he hd h1 fun h₁ N=>?_
 obtain ⟨k1,k2,k3,T,hT,k4⟩:=N
 refine gJ (s:={ s with heap:=h₁ }) k4 fun h₂ f1 f2 f3 _=>h h₂ ⟨fun b o hb hbe q=>f2 b o (fun z=>?_) (k1 b o hb hbe q),fun b o hb q=>?_,fun oe vs q qd=>?_,T,hT,f1⟩
 ·exact absurd (Et (Em q) (z ▸ hT)) (E9 _)
 ·obtain ⟨sl,q'⟩:=k2 b o hb q
  exact ⟨sl,f2 b _ (fun z=>absurd (Et (Em q) (z ▸ hT)) (E9 _)) q'⟩
 ·obtain ⟨oe',vs',q1,q2⟩:=k3 oe vs q qd
  exact ⟨oe',vs',f2 e _ (fun z=>absurd (Et (Em q) (z ▸ hT)) (E9 _)) q1,q2⟩
theorem wg {K:PySem.W.Frag}{C R e:Addr}{bm bm':List Value}{oe:Obj}{h:Heap}{g:Array GenState}{d:Drawn}{t:Nat}{os:OsState}{Q:Bool→Shared→Prop}(X:K.In h)(xC:XCl K C bm)(xR:XCl K R bm')(he:h.get? e=some oe)(Lo:oe.cls = .ref C)
  (hq:Q ((Value.ref C::bm).contains (.ref R)) ⟨h,g,d,t,os⟩):wpAny M A (excMatches (.ref e) (.ref R)) Q E ⟨h,g,d,t,os⟩:=by
 obtain ⟨T,nm,q,N,bs,sn,sub,ab,col,dd,k0,k1,k2,k3,k5,hC⟩:=xC.at X
 obtain ⟨T',nm',q',N',bs',sn',sub',ab',col',dd',k0',k1',k2',k3',k5',hR⟩:=xR.at X
 have hcB:(Value.ref R::bm').contains (.type "BaseException")=true:=by rw [GO,T'.hasType IK.hasBase,IU]
 have f:=tc_notTuple
 generalize hb:(Value.ref C::bm).contains (.ref R)=b at hq
 unfold excMatches
 repeat (first | (with_reducible refine E2 he ?_;rw [Lo]) | with_reducible refine E2 hR ?_ | (with_reducible refine FN hR ?_;rw [hcB]) | (with_reducible refine FN hC ?_;rw [hb]) | wp_step)
 cases b <;> (wp_walk;exact hq)
end
structure nZ (P:Program) (w:World) (K:PySem.W.Frag) (mg:Str→Option Value) (base:Heap) (x:Str) (ps:List Str) (k:Nat) (sp:Sp):Prop where
 ex:∃ (f:Addr) (fd:FuncData),mg x=some (.ref f)∧PySem.W.keepIn K (.ref f)=true∧eY K fd ps []∧jI P w K mg base (CXe P w) k f fd ps sp
theorem Df.okX {P:Program}{w:World}{K:PySem.W.Frag}{mg:Str→Option Value}{base:Heap}{x:Str}{st:Stmt}{N ps:List Str}{k:Nat}{sp:Sp}(D:Df K mg x st)(S:aC N ps (aq st))
  (hb:∀ (kV doc pm:Value) (an:Option Addr) (Kv ct:Value) (us:List Value),us.length=ps.length→bindArgs (PySem.W.fnOf x x (bM st) (br st) (aq st) .none kV doc pm an Kv ct) ⟨us,[]⟩=pure (ps.zip us))
  (len:∀ vs H Q E,sp vs H Q E→vs.length=ps.length)
  (KM:∀ (f:Addr) (Kv:Value) (A:Around) (outer:List Env) (s:Shared) (H:Hp) (vs:List V) (Q:VK) (E:XK),eE k (A.deeper (envOfC x (aq st) s.heap.objs.size f Kv))→sp vs H Q E →
   ∃ t,PSs (kR (CXe P w) P w K mg base N x (aq st) f Kv A outer s H E) (br st) t∧t { nx:=fun _ H'=>Q .non H',rt:=Q } (start N vs) H):nZ P w K mg base x ps (k+1) sp:=by
 obtain ⟨f,fd,hm,F⟩:=D.ex
 refine ⟨f,fd,hm,F.kp,F.binds hb,?_⟩
 obtain ⟨oc,od,kV,doc,pm,an,Kv,ct,K2,rfl,lk,K0⟩:=F.ex
 exact zC lk K0 S len fun A outer s H vs Q E hr hsp=>KM f Kv A outer s H vs Q E hr hsp
section
variable {X:Cx} {E:XK} {x:Str} {ps:List Str} {k j:Nat} {sp:Sp} {e a b:Expr} {es:List Expr} {t:TA} {te tb:TE} {tt:TT} {p pos pos':Pos}
theorem qp (F:nZ X.prog X.w X.K X.mg X.base x ps j sp)(hr:eE k X.A)(hj:j≤k)(hx:jO (CXe X.prog X.w) X E)(hg:Gl X x)(ha:PA X (e::es) t)
  (Lh:(x == ("__debug__":Str))=false:=by decide) (he:starEach (e::es) X.env=(false,eval e X.env)::starEach es X.env:=by rfl) (KW:(backTo pos (starEach es X.env)).any (·.1)=false:=by rfl) :
  PE X (.Call (.Name x p) (e::es) [] pos) (tD sp [] E t):=by
 obtain ⟨f,fd,hm,hk,hb,F⟩:=F.ex
 exact oX F (hr.mono hj) hg hm hk hb .nil hx ha Lh he KW
theorem wj (F:nZ X.prog X.w X.K X.mg X.base x ps j sp)(hr:eE k X.A)(hj:j≤k)(hg:Gl X x)(ha:PA X.nox (e::es) t)
  (Lh:(x == ("__debug__":Str))=false:=by decide) (he:starEach (e::es) X.env=(false,eval e X.env)::starEach es X.env:=by rfl) (KW:(backTo pos (starEach es X.env)).any (·.1)=false:=by rfl) :
  PEE X E (.Call (.Name x p) (e::es) [] pos) (tD sp [] E t):=by
 obtain ⟨f,fd,hm,hk,hb,F⟩:=F.ex
 intro Ks s σ H Q I h
 refine Gi (cC I hg hm ?_ Lh)
 refine Hm (h₀:=X.base) I.ok.mod.kin hk (Fm (ha pos Ks s σ H _ (I.wish _) h) (fun us s1 ⟨vs,H1,I0,r,q⟩=>⟨I0.kIn,?_⟩) fun _ _ z=>False.elim z) he KW
 have I1:Inv X Ks σ H1 s1:=I0.unwish
 have r2:a8 (vs++[]) (us++[]):=r.append .nil
 have hl:(us++[]).length=ps.length:=by rw [← r2.length];exact F.len _ _ _ _ q
 refine Hj (Gv ((F.mono hj).run X.A X.stack s1 H1 ⟨us,[]⟩ (us++[]) (vs++[]) Q E hr I1.env0 (hb s1 us I1.kIn hl) r2 q) fun r s' hq=>?_)
 cases r with
 | error e=>exact XE.of I1 hq
 | ok fl =>
  cases fl with
  | ret u=>exact I1.after hq
  | next=>exact False.elim hq
  | brk=>exact False.elim hq
  | cont=>exact False.elim hq
def PSE (X:Cx)(E:XK)(st:List Stmt)(t:TS):Prop :=
 ∀ (Ks:List (Addr × Obj)) (s:Shared) (σ:St) (H:Hp) (D:gW),Inv X Ks σ H s→t D σ H→wpAny (model X.prog X.w) X.A (execs st X.env) (SP X Ks D) (XE X Ks σ E) s
theorem qq {i:Nat}(hN:X.N.Nodup)(hi:X.N[i]? = some x)(hx:Loc X.env.scope x)(he:PEE X E e te)(hs:swapsWith e (some (.Name x pos')) pos.line X.env=pure false:=by rfl)(hf:X.fn x=true ∨ X.env.scope.names.lookup x=some .local:=by first | exact .inl rfl | exact .inr rfl | assumption) :
  PSE X E [.Assign [.Name x pos'] e pos] (Bl te (sW i)):=by
 intro Ks s σ H D I h
 refine GC (HJ (thn (he Ks s σ H _ I h) fun v s1 Lg=>?_) hs)
 obtain ⟨y,H1,I1,r1,q1⟩:=Lg
 exact cQ I1 hN hi hx r1 (fun s2 I2=>Gn ⟨_,H1,I2,q1⟩) hf
def gW.gone (D:gW)(i:Nat):gW:={ nx:=fun σ H=>D.nx (σ.set i none) H,rt:=D.rt,bk:=fun σ H=>D.bk (σ.set i none) H,ct:=fun σ H=>D.ct (σ.set i none) H }
def DY (K:PySem.W.Frag)(R:Addr)(i:Nat)(tb:XK→TS)(ts:TS):TS:=fun D σ H =>
 tb (fun v _ H'=>∃ a C d c bm,v = .ref a∧H' a=some (Exo a C d false c)∧XCl K C bm∧(Value.ref C::bm).contains (.ref R)=true∧ts (D.gone i) (σ.set i (some (.ref a))) H') D σ H
set_option maxHeartbeats 800000 in
theorem An {n r:Str}{i:Nat}{R:Addr}{bmR:List Value}{body suite:List Stmt}{b₀:Stmt}{np hpos:Pos}{tb:XK→TS}{ts:TS}(KP:X.stack=X.env::X.outer)(KY:X.env.frame=some X.env.locals)(hN:X.N.Nodup)(hi:X.N[i]? = some n)(hloc:X.env.scope.names.lookup n=some .local)
  (hg:Gl X r) (hm:X.mg r=some (.ref R)) (xR:XCl X.K R bmR) (hb:∀ E,PSE X E body (tb E)) (hs:∀ v,PSs (Hd X v) (b₀ :: suite) ts) (Lh:(r == ("__debug__":Str))=false:=by decide) :
  PS X (.Try body [.ExceptHandler (some (.Name r np)) (some n) (b₀ :: suite) hpos] [] [] pos) (DY X.K R i tb ts):=by
 intro Ks s σ H D I h
 refine wpAny_Try_except (Fm (hb _ Ks s σ H D I h) (fun f s₁ hf=>?_) fun e s₁ he=>?_)
 ·cases f with
  | next=>exact Gn hf
  | brk=>exact hf
  | cont=>exact hf
  | ret u=>exact hf
 ·obtain ⟨a,C,d,cx,H',rfl,I1,ha,hF,a',C',d',cx',bm,ea',ha',xC,hc,ht⟩:=he
  cases ea'
  have hCC:C=C':=by
   obtain ⟨oe,vs,g1,g2,_⟩:=bp I1.hok ha
   obtain ⟨oe',vs',g1',g2',_⟩:=bp I1.hok ha'
   rw [g1] at g1';cases g1'
   rw [g2] at g2';cases g2';rfl
  subst hCC
  obtain ⟨oe,vs,g1,g2,g3,g4,g5,g6⟩:=bp I1.hok ha
  refine qo (base:=X.base) (env:=X.env) (outer:=X.outer) (L:=X.env.locals) (by rw [I.ok.frames,KP]) (by rw [← KP];exact I1.stack) KY g1 g4 (.inr hF) fun h' Nt=>?_
  obtain ⟨un,hok⟩:=mQ I1.hok ha (by rw [← KP];exact I1.stkFree) Nt
  have J:=I1.call' (s':={ s₁ with heap:=h' }) rfl (by rw [KP];exact un) hok I1.bare (fun b z=>absurd z (by simp))
  rw [dS ha] at J
  obtain ⟨T,_,hT⟩:=Nt.fly
  have JH:=J.hold (.ref a)
  refine wpAny_handleBy_cons (codeAny_handlers_test ?_) (by intro q;cases q)
  refine cC (X:=Hd X (.ref a)) JH hg hm ?_ Lh
  obtain ⟨oe2,vs2,k1,k2,_⟩:=bp J.hok ha
  refine wg J.kIn xC xR k1 k2 ?_
  rw [hc]
  refine codeAny_handlers_suite_as ?_
  refine gJ (s:={ s₁ with heap:=h' }) hT fun h2 _ _ _ same=>?_
  have J2:Inv (Hd X (.ref a)) Ks σ H' { s₁ with heap:=h2 }:=JH.kept (t':=s₁.toks) (fun b u q=>(same rfl b).trans q)
  refine cQ (X:=Hd X (.ref a)) J2 hN hi (.inl hloc) (v:=.ref a) rfl (fun s₃ J3=>?_) (.inr hloc)
  refine Fm (hs (.ref a) Ks s₃ _ H' (D.gone i) J3 ht) (fun f s₄ hf=>?_) fun _ _ z=>False.elim z
  cases f with
  | next=>obtain ⟨σ',H2,J4,q⟩:=hf;exact jb (J4.offHold I.ok) hN hi hloc fun s' K'=>⟨_,H2,K',q⟩
  | brk=>obtain ⟨σ',H2,J4,q⟩:=hf;exact jb (J4.offHold I.ok) hN hi hloc fun s' K'=>⟨_,H2,K',q⟩
  | cont=>obtain ⟨σ',H2,J4,q⟩:=hf;exact jb (J4.offHold I.ok) hN hi hloc fun s' K'=>⟨_,H2,K',q⟩
  | ret u=>obtain ⟨v,σ',H2,J4,rv,q⟩:=hf;exact jb (J4.offHold I.ok) hN hi hloc fun s' K'=>⟨v,_,H2,K',rv,q⟩
end
section
variable {K:PySem.W.Frag} {C R N:Addr} {dd d0:Option Addr} {c0 oc:Value} {cd cdR:ClassData} {k0 k1 k2 k3 k5:Option Value} {sl sl':Array (Option Value)} {es:Array DictEntry} {n:Nat} {bm bm':List Value}
theorem gK:PySem.W.tailIn K bmV bmV=true:=by
 unfold PySem.W.tailIn
 rw [GE];rfl
theorem qt (l:K.lookup N=some ⟨oc,d0,.dict es n,sl'⟩)(h:(es.toList.all fun e=>match e.key with | .str _ _=>true | _=>false)=true):PySem.W.nsOkIn K N=true:=by
 unfold PySem.W.nsOkIn;rw [l];dsimp only;rw [← Array.all_toList];exact h
theorem mU (l:K.lookup R=some ⟨c0,d0,.cls cdR,sl⟩)(ok:PySem.W.nsOkIn K cdR.ns=true)(ni:PySem.W.nsIn K cdR.ns "__init__" = some none)(t:PySem.W.tailIn K bmV bm=true):PySem.W.tailIn K bmV (.ref R::bm)=true:=by
 unfold PySem.W.tailIn
 simp only [l,ok,ni,t,GE,Bool.and_self,IU]
theorem qu (l:K.lookup C=some ⟨.type "type",dd,.cls cd,#[k0,k1,k2,k3,some (.builtin "ValueError.__new__"),k5]⟩)(m:cd.mro = .ref C::bm)(h1:cd.hasDel=false)(h2:cd.hasDict=true)(t:PySem.W.tailIn K bmV bm=true)(kp:PySem.W.keepIn K (.ref C)=true):XCl K C bm :=
 ⟨⟨dd,cd,k0,k1,k2,k3,k5,l,m,h1,h2⟩,t,kp⟩
theorem Ao {h:Heap}{T:String}{b:Bool}(X:K.In h)(xC:XCl K C bm)(hk:PySem.W.kitMeta T=true)(hb:bmV.contains (.type T)=b):PySem.W.kitOne K (.ref C) (.type T)=some b:=by
 unfold PySem.W.kitOne
 rw [if_neg (show ¬ (Value.ref C == Value.type T)=true from by simp)]
 unfold PySem.W.kitCls
 simp only [hk,Hg]
 exact xC.mro X hb
end
def uG:List (Str × V)→List (Str × V)→List (Str × V)
 | acc,[]=>acc
 | acc,(f,y)::r=>uG (nD f y acc) r
inductive ki (names:List Str)(C:Addr)(vs:List V)(H:Hp)(Q:VK)(E:XK):Prop
 | mk:∀ a ys b cx,(vs = .ref a::ys)→(ys.length=names.length)→(H a=some (Exo a C none b cx))→(∀ dx,H dx=none→dx≠a→Q .non (upd (upd H a (Exo a C (some dx) b cx)) dx (Xdt dx (uG [] (names.zip ys)))))→ki names C vs H Q E
structure XMk (P:Program) (w:World) (K:PySem.W.Frag) (mg:Str→Option Value) (base:Heap) (x:Str) (C:Addr) (names:List Str) (k:Nat):Prop where
 at_:mg x=some (.ref C)
 ca:XCa K C
 no:∀ f∈names,PySem.W.findIn K (.ref C) f=some none
 ex:∃ (f:Addr) (fd:FuncData) (bm:List Value),XCl K C bm∧PySem.W.findIn K (.ref C) "__init__" = some (some (.ref f))∧PySem.W.isFn K (.ref f)=true∧eY K fd ("self" :: names) []∧jI P w K mg base CX0 k f fd ("self" :: names) (ki names C)
def Ap (C:Addr)(names:List Str)(t:TA):TE:=fun σ H Q=>t σ H fun ys H1=>ys.length=names.length∧names.length≤900∧∀ a dx,H1 a=none→H1 dx=none→dx≠a →
 Q (.ref a) (upd (upd H1 a (Exo a C (some dx) true true)) dx (Xdt dx (uG [] (names.zip ys))))
section
variable {X:Cx} {x:Str} {C:Addr} {names:List Str} {k j:Nat} {e:Expr} {es:List Expr} {t:TA} {p pos:Pos}
theorem n8 (M:XMk X.prog X.w X.K X.mg X.base x C names j)(hr:eE k X.A)(hj:j+1≤k)(hg:Gl X x)(ha:PA X (e::es) t)
  (Lh:(x == ("__debug__":Str))=false:=by decide) (he:starEach (e::es) X.env=(false,eval e X.env)::starEach es X.env:=by rfl) (KW:(backTo pos (starEach es X.env)).any (·.1)=false:=by rfl) :
  PE X (.Call (.Name x p) (e::es) [] pos) (Ap C names t):=by
 obtain ⟨f,fd,bm,xc,hi,hf,hb,F⟩:=M.ex
 intro Ks s σ H Q I h
 refine Gi (cC I hg M.at_ ?_ Lh)
 refine Hm (h₀:=X.base) I.ok.mod.kin xc.kp (thn (ha pos Ks s σ H _ I h) fun us s1 ⟨vs,H1,I1,r,hl,hn,q⟩=>⟨I1.kIn,?_⟩) he KW
 refine qk (k:=j) xc hi hf F (hr.mono hj) hb I1 r ⟨by omega,fun a h0=>⟨a,vs,true,true,rfl,hl,ag ..,fun dx hdx ne=>⟨rfl,?_⟩⟩⟩
 rw [dv]
 exact q a dx h0 (by rw [ar ne] at hdx;exact hdx) ne
end
section
variable {K:PySem.W.Frag} {C dx a:Addr} {b:Bool} {H:Hp}
end
section
variable {X:Cx} {K:PySem.W.Frag} {e:Expr} {f:Str} {pos:Pos} {ta:TE}
theorem bR (hK:X.K=K):cI X (.builtin "isinstance") (B9 K):=by subst hK; exact uF
theorem wm (hK:X.K=K)(he:PE X e ta)(hb:attributeBase e f X.env (eval e X.env)=eval e X.env):PE X (.Attribute e f pos) (tFx K ta f):=by subst hK; exact B_ he hb
end
section
variable {X:Cx} {E:XK} {e a b c:Expr} {te ta tb:TE} {tA:TT} {pos:Pos}
end
structure cP (k:Nat) (A:Around):Prop where
 dp:A.depth+3*k+5 < recursionLimit
 un:A.units+16*k+200 < cLine
 gd:A.guards=some []
theorem eE.h {k:Nat}{A:Around}(r:eE k A):cP k A:=⟨r.dp,r.un,r.gd⟩
theorem cP.mark {k:Nat}{A:Around}{v:Option Value}(r:cP k A):cP k (A.mark v):=⟨r.dp,r.un,r.gd⟩
theorem cP.mono {j k:Nat}{A:Around}(r:cP k A)(h:j≤k):cP j A:=⟨by have:=r.dp; omega,by have:=r.un; omega,r.gd⟩
theorem cP.deeper {k:Nat}{A:Around}(r:cP (k+1) A)(env:Env):cP k (A.deeper env) :=
 ⟨by have:=r.dp;show A.depth+1+3*k+5 < _;omega,by have:=r.un;show A.units+3+16*k+200 < _;omega,r.gd⟩
theorem cP.depth {k:Nat}{A:Around}(r:cP k A):A.depth < recursionLimit:=by have:=r.dp; omega
abbrev cxH (P:Program)(w:World)(K:PySem.W.Frag)(mg:Str→Option Value)(base:Heap)(N:List Str)(qual:Str)(scope:Scope)(f:Addr)(cd:Value)(A:Around)(outer:List Env)(s:Shared)(H:Hp):Cx :=
 { kR CX0 P w K mg base N qual scope f cd A outer s H E0 with calm:=false,xe:=fun _ _=>False }
theorem n9 {P:Program}{w:World}{K:PySem.W.Frag}{mg:Str→Option Value}{base:Heap}{N ps:List Str}{qual:Str}{scope:Scope}{f:Addr}{cd:Value}{A:Around}{outer:List Env}{s s1:Shared}{H:Hp}{us:List Value}{vs:List V}
  (S:aC N ps scope) (e0:sM P w K mg base A outer s H) (hl:vs.length=ps.length) (r:a8 vs us)
  (x:InCallC s s.heap.objs.size (bindL (envOfC qual scope s.heap.objs.size f cd).kindOf (ps.zip us) fun _=>none) (cellsFrom (s.heap.objs.size+1) scope.names []) (bindC (envOfC qual scope s.heap.objs.size f cd).kindOf (ps.zip us) fun _=>none) s1) :
  Inv (cxH P w K mg base N qual scope f cd A outer s H) [] (start N vs) H s1:=by
 have e1:sM P w K mg base { A with handled:=none } outer s H:=⟨e0.frames,e0.mod,e0.bs,e0.bsz,e0.funs,e0.frf,e0.hok,e0.bare⟩
 have I:=jT (CX:=CX0) (E:=E0) (cd:=cd) (f:=f) S rfl e1 hl r x
 exact ⟨⟨I.ok.mod,I.ok.kind,I.ok.glob,I.ok.blt,I.ok.above,I.ok.inj,I.ok.has,I.ok.cab,(fun z=>by cases z),I.ok.frames,I.ok.stk,I.ok.exf,I.ok.bs,I.ok.bsz,I.ok.noex,I.ok.exfs,I.ok.funs,I.ok.frf⟩,I.os,I.bare,I.base,I.loc,I.cell,I.free,I.freeC,I.pin,I.hok,I.len⟩
section
variable {X:Cx} {x:Str} {ps:List Str} {k j:Nat} {sp:Sp} {e:Expr} {es:List Expr} {t:TA} {p pos:Pos}
end
section
variable {prog:Program} {w:World} {A:Around} {E:Value→Shared→Prop} {h:Heap} {g:Array GenState} {d:Drawn} {t:Nat} {os:OsState} {K:PySem.W.Frag} {C:Addr} {bm:List Value}
end
section
variable {CX:CXT} {P:Program} {w:World} {K:PySem.W.Frag} {mg:Str→Option Value} {base:Heap} {p fr qual:Str} {scope:Scope} {f c c':Addr} {cd:Value} {A:Around} {outer:List Env} {s:Shared} {H:Hp} {E:XK}
end
section
variable {X:Cx} {Ks:List (Addr × Obj)} {σ:St} {H:Hp} {s:Shared}
end
end L2
namespace PySem
abbrev zu1 (h:Heap)(x:Str)(t:Tok):Heap:=h.push { cls:=.type "str_ascii_iterator",data:=.fields #[.str x t,.int 0 0] }
abbrev zu2 (h:Heap)(x:Str)(t:Tok)(q:Addr):Heap:=(zu1 h x t).push { cls:=.type "tuple_iterator",data:=.fields #[.ref q,.int 0 0] }
abbrev zu3 (h:Heap)(x:Str)(t:Tok)(q:Addr):Heap:=(zu2 h x t q).push { cls:=.type "tuple",data:=.seq #[.ref h.objs.size,.ref (zu1 h x t).objs.size] }
abbrev zu4 (h:Heap)(x:Str)(t:Tok)(q:Addr):Heap:=(zu3 h x t q).push { cls:=.type "tuple",data:=.seq #[.none,.none] }
abbrev zu5 (h:Heap)(x:Str)(t:Tok)(q:Addr):Heap:=(zu4 h x t q).push { cls:=.type "zip",data:=.fields #[.none,.bool false,.bool false,.ref (zu2 h x t q).objs.size,.ref (zu3 h x t q).objs.size] }
set_option maxHeartbeats 2000000 in
theorem lq (x:Str)(t:Tok)(q:Addr)(ys:Array Value)(hx:x.cps.all (· < 128)=true):Meets (Builtin.«zip.__new__» ⟨[.type "zip",.str x t,.ref q],[]⟩) (fun _ R s=>s.heap.IsTuple q ys∧R (.ok (.ret (.ref (zu4 s.heap x t q).objs.size))) { s with heap:=zu5 s.heap x t q }) :=
 .of_wp fun prog w A R s h=>by
  obtain ⟨hp,gg,dd,tk,os⟩:=s
  obtain ⟨t2,h⟩:=h
  have hsub:=sub_zip
  have T2:Heap.IsTuple (Shared.heap ⟨hp.push { cls:=.type "str_ascii_iterator",data:=.fields #[.str x t,.int 0 0] },gg,dd,tk,os⟩) q ys:=by
   obtain ⟨o,e,r⟩:=t2
   exact ⟨o,D_ _ e,r⟩
  wp_walk using Ht hx,GM T2
  exact ⟨_,rfl,h⟩
theorem n_ {prog:Program}{w:World}{A:Around}{E:Value→Shared→Prop}{s:Shared}{x:Str}{t:Tok}{q:Addr}{ys:Array Value}{Q:Value→Shared→Prop}(hx:x.cps.all (· < 128)=true)(hy:s.heap.IsTuple q ys)
  (h:∀ h',IsZip h' (s.heap.objs.size+4) (s.heap.objs.size+2) (s.heap.objs.size+3) .none→IsPair h' (s.heap.objs.size+2) (.ref s.heap.objs.size) (.ref (s.heap.objs.size+1))→IsPair h' (s.heap.objs.size+3) .none .none →
   gY h' s.heap.objs.size x t 0→h'.IsTupleIter (s.heap.objs.size+1) q 0→(∀ c o,s.heap.get? c=some o→h'.get? c=some o)→Q (.ref (s.heap.objs.size+4)) { s with heap:=h' }) :
  wpAny (model prog w) A (call (.type "zip") [.str x t,.ref q]) Q E s:=by
 refine Jr F.called_zip (by decide) (F.typeCall_zip_2 _ _) (F.newCall_zip_2 _ _) (fun obj=>F.args_object_init_3 obj _ _) F.entry_zip_new (lq x t q ys hx) ⟨hy,?_⟩
 have n1:(zu1 s.heap x t).objs.size=s.heap.objs.size+1:=Fw ..
 have n2:(zu2 s.heap x t q).objs.size=s.heap.objs.size+2:=by rw [Fw,n1]
 have n3:(zu3 s.heap x t q).objs.size=s.heap.objs.size+3:=by rw [Fw,n2]
 have n4:(zu4 s.heap x t q).objs.size=s.heap.objs.size+4:=by rw [Fw,n3]
 have g5:(zu5 s.heap x t q).get? (zu4 s.heap x t q).objs.size=some _:=El _ rfl
 have g4:(zu5 s.heap x t q).get? (zu3 s.heap x t q).objs.size=some _:=D_ _ (El _ rfl)
 have g3:(zu5 s.heap x t q).get? (zu2 s.heap x t q).objs.size=some _:=D_ _ (D_ _ (El _ rfl))
 have g2:(zu5 s.heap x t q).get? (zu1 s.heap x t).objs.size=some _:=D_ _ (D_ _ (D_ _ (El _ rfl)))
 have g1:(zu5 s.heap x t q).get? s.heap.objs.size=some _:=D_ _ (D_ _ (D_ _ (D_ _ (El _ rfl))))
 show _∧_
 rw [n2,n3,n4] at g5
 rw [n1,n2] at g3
 rw [n3] at g4
 rw [n1] at g2
 rw [n4]
 exact ⟨⟨_,g5,rfl⟩,h _ g5 g3 g4 ⟨_,g1,rfl,rfl⟩ ⟨_,g2,rfl,rfl⟩ fun c o q=>D_ _ (D_ _ (D_ _ (D_ _ (D_ _ q))))⟩
end PySem
namespace L2
open PySem PySem.Spec PyProof.Rows Wd
def ze (K:PySem.W.Frag)(x:Str)(q:Addr):It:=⟨fun i H=>∃ ys y,SqT K H q ys∧i < x.cps.size∧ys[i]? = some y,
 fun i H v H'=>∃ (T:Addr) (c:Nat) (y:V),H T=none∧v = .ref T∧x.cps[i]? = some c∧(∀ ys,SqT K H q ys→ys[i]? = some y)∧H'=upd H T (.tup [.str ⟨#[c]⟩,y]),
 fun i H=>∃ ys,SqT K H q ys∧i=min x.cps.size ys.length⟩
theorem Aq {s:Shared}{z TI TO i1 i2 q:Addr}{a c:Value}{i:Nat}{x:Str}{t:Tok}{ys:Array Value}(D:Ap5 z TI TO i1 i2)(s1:IsZip s.heap z TI TO .none)(s3:IsPair s.heap TO a c)(s4:gY s.heap i1 x t i)(s5:s.heap.IsTupleIter i2 q i)
  (p2:IsTup s.heap q ys) (Lj:q≠TO):q≠i2∧Ap2 z TO i1 i2 [i1] [i2,q]:=by
 obtain ⟨o1,g1,c1,_⟩:=s4
 obtain ⟨o2,g2,c2,_⟩:=s5
 obtain ⟨o4,g4,c4,_⟩:=p2
 have n2:q≠i2:=fun e=>by rw [e,g2] at g4;cases g4;rw [c2] at c4;simp at c4
 have n4:q≠z:=fun e=>by rw [e,s1] at g4;cases g4;simp at c4
 have n6:q≠i1:=fun e=>by rw [e,g1] at g4;cases g4;rw [c1] at c4;simp at c4
 refine ⟨n2,?_,?_,?_,?_,?_,?_⟩ <;> simp only [Ei,Ek,EW,not_or]
 ·exact D.i1z.symm
 ·exact ⟨D.i2z.symm,n4.symm⟩
 ·exact D.TOi1
 ·exact ⟨D.TOi2,Lj.symm⟩
 ·exact ⟨D.i12,n6.symm⟩
 ·exact D.i12.symm
theorem oa {P:Program}{w:World}{K:PySem.W.Frag}{elts:List Expr}{k:Nat}{pos:Pos}{z TI TO i1 i2:Addr}{x:Str}{t:Tok}{q:Addr}(D:Ap5 z TI TO i1 i2)(Lj:q≠TO) :
  sX P w K (.Tuple elts k pos) (ze K x q) [z,TI,TO,i1,i2] z (fun i h=>IsZip h z TI TO .none∧IsPair h TI (.ref i1) (.ref i2)∧(∃ a b,IsPair h TO a b)∧gY h i1 x t i∧h.IsTupleIter i2 q i) where
 mem:=by simp
 obj:=fun i h st b hb=>by
  obtain ⟨s1,s2,⟨a,c,s3⟩,⟨o1,s4,_,d4⟩,⟨o2,s5,_,d5⟩⟩:=st
  simp only [Ei,Ek,EW] at hb
  rcases hb with rfl | rfl | rfl | rfl | rfl
  ·exact ⟨_,s1,fun v q=>by cases q⟩
  ·exact ⟨_,s2,fun v q=>by cases q⟩
  ·exact ⟨_,s3,fun v q=>by cases q⟩
  ·exact ⟨_,s4,fun v q=>by rw [d4] at q;cases q⟩
  ·exact ⟨_,s5,fun v q=>by rw [d5] at q;cases q⟩
 keep:=fun i h h' st kk=>by
  obtain ⟨s1,s2,⟨a,c,s3⟩,⟨o1,s4,r4⟩,⟨o2,s5,r5⟩⟩:=st
  exact ⟨kk z (by simp) _ s1,kk TI (by simp) _ s2,⟨a,c,kk TO (by simp) _ s3⟩,⟨o1,kk i1 (by simp) _ s4,r4⟩,⟨o2,kk i2 (by simp) _ s5,r5⟩⟩
 item:=by
  intro X hP hw hK hc i Ks s σ H E I hf st hg
  subst hP hw hK
  obtain ⟨ys,vy,hq2,hx,hy⟩:=hg
  obtain ⟨KL,rv2,p2,hz2⟩:=I.tuple hq2
  obtain ⟨u2,hu2,ru2⟩:=rv2.get hy
  obtain ⟨s1,s2,⟨a,c,s3⟩,s4,s5⟩:=st
  have hu2':KL.toArray[i]? = some u2:=by simpa using hu2
  obtain ⟨np1,np2⟩:=Aq D s1 s3 s4 s5 p2 Lj
  refine nX (Draws.strAscii (by exact I.ok.hd hc) i1 x t) (qa (by exact I.ok.hd hc) i2 q np1 KL.toArray) D np2 s1 s2 s3 s4 ⟨s5,p2⟩ hx (EM.mp hu2').1 fun h' tk v1 v2 w1 w2 b1 b2 b3 b4 b5 b6=>⟨_,rfl,?_⟩
  obtain ⟨cc,uu,hcc,rfl⟩:=w1
  obtain rfl:u2=v2:=by rw [show KL.toArray[i]? = some v2 from w2] at hu2';exact (EE hu2').symm
  refine IZ b1 fun h2 c1' e2=>?_
  have there:∀ b∈[z,TI,TO,i1,i2],∃ o,s.heap.get? b=some o:=fun b hb=>by
   obtain ⟨o1,q4,_⟩:=s4
   obtain ⟨o2,q5,_⟩:=s5
   simp only [Ei,Ek,EW] at hb
   rcases hb with rfl | rfl | rfl | rfl | rfl
   ·exact ⟨_,s1⟩
   ·exact ⟨_,s2⟩
   ·exact ⟨_,s3⟩
   ·exact ⟨_,q4⟩
   ·exact ⟨_,q5⟩
  have kk:∀ b o,b∉[z,TI,TO,i1,i2]→s.heap.get? b=some o→h2.get? b=some o:=fun b o hb e=>by
   simp only [Ei,Ek,EW,not_or] at hb
   exact e2.extBut _ _ hb.1 (b6 b o hb.1 hb.2.2.1 hb.2.2.2.1 hb.2.2.2.2 e)
  have hTz:s.heap.objs.size≠z:=Gh (Em s1)
  have I2:Inv X Ks σ (upd H s.heap.objs.size (.tup [.str ⟨#[cc]⟩,vy])) { s with heap:=h2,toks:=tk } :=
   I.stepT (ch:=[z,TI,TO,i1,i2]) (its:=[.str ⟨#[cc]⟩ uu,u2]) hf kk (Eg _) (by show 2≤sizeLine;decide) (.cons ⟨_,rfl⟩ (.cons ru2 .nil)) ⟨_,e2.extBut _ _ hTz b5,rfl,_,rfl⟩ ⟨_,e2.extBut _ _ hTz b5,rfl⟩ there
  have hnT:H s.heap.objs.size=none:=I.hok.fresh (Eg _)
  have sTI:IsPair h2 TI (.ref i1) (.ref i2):=e2.extBut _ _ D.TIz (b6 _ _ D.TIz D.TITO D.TIi1 D.TIi2 s2)
  refine ⟨.ref s.heap.objs.size,_,I2,rfl,⟨s.heap.objs.size,cc,vy,hnT,rfl,hcc,fun zs hz=>by rw [I.tuple_inj hz hq2];exact hy,rfl⟩,
   ⟨c1',sTI,⟨_,_,e2.extBut _ _ D.TOz b2⟩,b3.extBut e2.extBut D.i1z,b4.1.at fun o q=>e2.extBut _ _ D.i2z q⟩,fun b hb=>?_⟩
  obtain ⟨o,q⟩:=there b hb
  rw [ar (EK (Em q))]
  exact (hf b hb).1
 done:=by
  intro X hP hw hK hc i Ks s σ H E I hf st hg
  subst hP hw hK
  obtain ⟨ys,hq2,hi⟩:=hg
  obtain ⟨KL,rv2,p2,hz2⟩:=I.tuple hq2
  have KS:=rv2.length
  obtain ⟨s1,s2,⟨a,c,s3⟩,s4,s5⟩:=st
  obtain ⟨np1,np2⟩:=Aq D s1 s3 s4 s5 p2 Lj
  refine qg (Draws.strAscii (by exact I.ok.hd hc) i1 x t) (qa (by exact I.ok.hd hc) i2 q np1 KL.toArray) D np2 s1 s2 s3 s4 ⟨s5,p2⟩ ?_ fun h' tk kk=>⟨rfl,?_⟩
  ·simp only [Eo]
   omega
  ·have nch:∀ {b u},H b=some u→b∉[z,TI,TO,i1,i2]:=fun e q=>by rw [(hf _ q).1] at e;cases e
   have k2:∀ b o,b∉[z,TI,TO,i1,i2]→s.heap.get? b=some o→h'.get? b=some o:=fun b o hb e=>by
    simp only [Ei,Ek,EW,not_or] at hb
    exact kk b o hb.1 hb.2.2.1 hb.2.2.2.1 hb.2.2.2.2 e
   refine I.step (g':=s.gens) (d':=s.drawn) (ch:=[z,TI,TO,i1,i2]) (fun b hb=>?_) (fun b o _ _ hc e _=>k2 b o hc e) (fun b o _ _ hc e _=>⟨o.slots,k2 b o hc e⟩) (fun _ _ _ _ n=>n) (fun b o hc e=>⟨o,k2 b o hc e⟩)
    (fun _ _ e=>e) (fun _ _ _ e=>e) (fun b ps e=>⟨#[],by rw [e];simp⟩) (fun m hm=>?_) (fun b u e=>?_) I.bare
   ·obtain ⟨_,f1,_,f3,f4,f5⟩:=hf b hb
    exact ⟨f3,f1,f4,f5⟩
   ·obtain ⟨o,es,ep,ho,r⟩:=hm
    exact ⟨o,es,ep,k2 _ o (fun q=>(hf _ q).2.1 rfl) ho,r⟩
   ·refine (I.hok b u e).stay (fun c v hc q=>k2 c v ?_ q) (fun _ q=>q) fun _ _ q=>q
    rcases hc with q | q
    ·rw [q];exact nch e
    ·exact nch q
 self:=fun _ _ _ _ _ st h=>Ik st.1 h
section
variable {X:Cx}
def Ar (K:PySem.W.Frag)(ta:TA):TI:=fun σ H R=>ta σ H fun vs H1=>∃ x q,vs=[.str x,.ref q]∧x.cps.all (· < 128)=true∧(∃ ys,SqT K H1 q ys)∧R (ze K x q) H1
theorem uH {K:PySem.W.Frag}(hK:X.K=K){a b:Expr}{ta:TA}{p pos tp:Pos}{elts:List Expr}{k:Nat}(hg:Gl X "zip")(hm:X.mg "zip" = none)(hb:bootBuiltins "zip" = some (.type "zip"))(ha:PA X [a,b] ta)(hs:starEach [a,b] X.env=(false,eval a X.env)::starEach [b] X.env:=by rfl)(hs2:(backTo pos (starEach [b] X.env)).any (·.1)=false:=by rfl) :
  PI X (.Tuple elts k tp) (.Call (.Name "zip" p) [a,b] [] pos) (Ar K ta):=by
 subst hK
 intro Ks s σ H R I h
 refine Call_ (eF I hg hm hb (Ff (thn (ha pos Ks s σ H _ I h) fun us s1 Lg=>?_) hs hs2))
 obtain ⟨vs,H1,I1,r1,q1⟩:=Lg
 obtain ⟨x,l2,rfl,hx,⟨ys,hy⟩,q⟩:=q1
 obtain ⟨u1,u2,rfl,r3,r4⟩:=tj r1
 obtain ⟨tt,rfl⟩:=r3
 cases r4
 obtain ⟨KL,rv2,p2,hz2⟩:=I1.tuple hy
 refine n_ hx p2 fun h' b1 b2 b3 b4 b5 b6=>?_
 have I2:Inv X Ks σ H1 { s1 with heap:=h',toks:=s1.toks }:=I1.kept b6
 have KB:l2 < s1.heap.objs.size:=by obtain ⟨o,e,_⟩:=p2;exact Em e
 refine Ik (s:={ s1 with heap:=h',toks:=s1.toks }) b1 ?_
 refine ⟨s1.heap.objs.size+4,[s1.heap.objs.size+4,s1.heap.objs.size+2,s1.heap.objs.size+3,s1.heap.objs.size,s1.heap.objs.size+1],_,ze X.K x l2,H1,rfl,I2,
  oa (t:=tt) (vY s1.heap.objs.size) (EK (Et KB (Nat.le_add_right _ _))),⟨b1,b2,⟨_,_,b3⟩,b4,b5⟩,fun b hb=>?_,q⟩
 have hge:s1.heap.objs.size≤b:=by
  simp only [Ei,Ek,EW] at hb
  rcases hb with rfl | rfl | rfl | rfl | rfl <;> omega
 exact I1.fpOk hge (I1.hok.fresh hge)
end
theorem qv {K:PySem.W.Frag}{z:Str}{q:Addr}{ys:List V}{g:TG}{tb:TS}{D:gW}{σ:St}{H:Hp}(Pv:Nat→St→Hp→Prop)(h0:Pv 0 σ H)(hl:∀ i σ H,Pv i σ H→SqT K H q ys)
  (hs:∀ i c y σ H T,z.cps[i]? = some c→ys[i]? = some y→Pv i σ H→H T=none→g (.ref T) σ (upd H T (.tup [.str ⟨#[c]⟩,y])) fun σ2 H2=>tb { D with nx:=Pv (i+1),ct:=Pv (i+1),bk:=D.nx } σ2 H2) (hd:∀ σ H,Pv (min z.cps.size ys.length) σ H→D.nx σ H) :
  ∃ W:Nat→Nat→St→Hp→Prop,(∃ m,W 0 m σ H)∧∀ i m σ H,W i m σ H →
   ((ze K z q).stop i H∧D.nx σ H) ∨ ((ze K z q).go i H∧∃ N:St→Hp→Prop,(∀ σ' H',N σ' H'→∃ m',m' < m∧W (i+1) m' σ' H')∧∀ x H',(ze K z q).yld i H x H'→g x σ H' fun σ2 H2=>tb { D with nx:=N,ct:=N,bk:=D.nx } σ2 H2):=by
 refine ⟨fun i m σ H=>m=min z.cps.size ys.length - i∧i≤min z.cps.size ys.length∧Pv i σ H,⟨min z.cps.size ys.length,by simp,E5 _,h0⟩,?_⟩
 rintro i m σ H ⟨rfl,hi,pv⟩
 have q2:=hl i σ H pv
 by_cases KB:i < min z.cps.size ys.length
 ·refine .inr ⟨⟨ys,ys[i],q2,by omega,Ee (by omega)⟩,Pv (i+1),fun σ' H' p'=>⟨min z.cps.size ys.length - (i+1),by omega,rfl,KB,p'⟩,?_⟩
  rintro v H' ⟨T,c,y,hT,rfl,hx,hy,rfl⟩
  exact hs i c y σ _ T hx (hy ys q2) pv hT
 ·obtain rfl:i=min z.cps.size ys.length:=by omega
  exact .inl ⟨⟨ys,q2,rfl⟩,hd σ H pv⟩
section
variable {X:Cx}
end
end L2
namespace Wd
def img (ws:List (List L))(x:L):List L:=if x.val < 6 then ws.getD x.val [] else bk (ws.getD (x.val - 6) [])
def sub (ws:List (List L))(u:List L):List L:=u.flatMap (img ws)
theorem fk (x:L):(inv x).val=if x.val < 6 then x.val+6 else x.val - 6:=by unfold inv; split <;> rfl
theorem xX (ws:List (List L))(x:L):img ws (inv x)=bk (img ws x):=by
 unfold img
 rw [fk]
 by_cases h:x.val < 6
 ·rw [if_pos h,if_pos h,if_neg (by omega),Nat.add_sub_cancel]
 ·have:=x.isLt
  rw [if_neg h,if_neg h,if_pos (by omega),BS]
theorem uI (ws:List (List L))(x:L)(u:List L):sub ws (x::u)=img ws x++sub ws u:=by simp [sub]
def InM (n:Nat)(u:List L):Prop:=∀ x∈u,x.val % 6 < n
theorem InM.bk {n:Nat}{u:List L}(h:InM n u):InM n (bk u):=by
 intro x hx
 unfold Wd.bk at hx
 rw [List.mem_reverse,ED] at hx
 obtain ⟨y,hy,rfl⟩:=hx
 have h1:=h y hy
 have:=y.isLt
 rw [fk]
 split <;> omega
structure xY (n b:Nat) (ws:List (List L)):Prop where
 len:ws.length=n
 rd:∀ w∈ws,red w=w
 ins:∀ w∈ws,InM n w
 le:∀ w∈ws,w.length≤b
theorem xY.img {n b:Nat}{ws:List (List L)}(M:xY n b ws)(x:L):InM n (img ws x)∧(img ws x).length≤b:=by
 have g:∀ k,InM n (ws.getD k [])∧(ws.getD k []).length≤b:=fun k=>by
  rw [Ew]
  cases h:ws[k]? with
  | none=>exact ⟨fun x hx=>(by cases hx),E5 _⟩
  | some w=>exact ⟨M.ins w (Es h),M.le w (Es h)⟩
 unfold Wd.img
 split
 ·exact g _
 ·exact ⟨(g _).1.bk,by rw [cL];exact (g _).2⟩
theorem xY.sub {n b:Nat}{ws:List (List L)}(M:xY n b ws):∀ u:List L,InM n (sub ws u)∧(sub ws u).length≤u.length*b
 | []=>⟨fun x hx=>(by cases hx),E5 _⟩
 | x::u=>by
  obtain ⟨h1,h2⟩:=M.sub u
  obtain ⟨h3,h4⟩:=M.img x
  rw [uI]
  refine ⟨fun y hy=>?_,?_⟩
  ·rcases EL.mp hy with hy | hy
   ·exact h3 y hy
   ·exact h1 y hy
  ·rw [Ec,EA,JC]
   omega
end Wd
namespace PySem
section
variable {prog:Program} {w:World} {A:Around} {E:Value→Shared→Prop}
end
end PySem
namespace L2
open PySem PySem.Spec PyProof.Rows Wd
section
variable {X:Cx} {pos:Pos}
inductive Di (x:V)(y:V)(H:Hp)(Q:VK):Prop
 | mk:∀ da db,(Dt H x da)→(Dt H y db)→(da.canLay0=true)→(db.canLay0=true)→(da.depth≤10)→(Q (.bl (!PyData.eqv da db)) H)→Di x y H Q
theorem kj (hu:X.A.units+64 < cLine):OpR X (compareOp .NotEq) Di:=by
 intro Ks s σ H x y v u Q I rx ry h
 obtain ⟨da,db,ha,hb,la,lb,dp,q⟩:=h
 obtain ⟨as,ra⟩:=ha.reads I.hok rx
 obtain ⟨bs,rb⟩:=hb.reads I.hok ry
 exact HQ (SeqAt.rcNeAt_reads ra rb la lb (by omega)) ⟨.bl _,H,I,rfl,q⟩
end
section
variable {X:Cx}
inductive wo (x:V)(vs:List V)(H:Hp)(Q:VK):Prop
 | mk:∀ z y,(x = .str z)→(vs=[.str y])→(Q (.int (Txt.find z y)) H)→wo x vs H Q
theorem jc:MtR X "str.find" wo:=by
 intro Ks s σ H x vs v us Q I rx rv h
 obtain ⟨z,y,rfl,rfl,q⟩:=h
 obtain ⟨t,rfl⟩:=rx
 obtain ⟨u1,rfl,⟨t1,rfl⟩⟩:=cJ rv
 exact SC.find ⟨.int _,H,I.tok _,⟨_,rfl⟩,q⟩
theorem xZ {K:PySem.W.Frag}(hK:X.K=K):IxR X (BH K):=by subst hK; exact aO
end
theorem uJ:∀ x:L,Txt.find ("abcdef":Str) (Txt.lower (toS [x]))=((x.val % 6:Nat):Int):=by
 have q:∀ x:L,Txt.find ("abcdef":Str) (⟨(([x].map cp).map lo1).toArray⟩:Str)=((x.val % 6:Nat):Int):=by decide +kernel
 intro x
 rw [gF]
 exact q x
theorem As:∀ i:_root_.Fin 6,("abcdef":Str).cps[i.val]? = some (cp ⟨i.val,by omega⟩):=by decide +kernel
theorem sm_at {i c:Nat}(h:("abcdef":Str).cps[i]? = some c):∃ x:L,x.val=i∧i < 6∧c=cp x:=by
 have hl:i < 6:=by
  obtain ⟨h1,_⟩:=EM.mp h
  have:("abcdef":Str).cps.size=6:=by decide +kernel
  omega
 have:=As ⟨i,hl⟩
 rw [this] at h
 exact ⟨⟨i,by omega⟩,rfl,hl,(EE h).symm⟩
theorem qw:∀ ws:List (List L),Txt.join ("":Str) (ws.map toS)=toS ws.flatten:=by
 intro ws
 have e0:("":Str)=Str.empty:=by decide +kernel
 unfold Txt.join
 rw [StrLaws.glued_eq_join,e0]
 induction ws with
 | nil=>rfl
 | cons x r ih =>
  cases r with
  | nil =>
   show toS x=_
   simp
  | cons y r =>
   show toS x++Str.empty++Str.join Str.empty ((y::r).map toS)=_
   rw [ih,Str.append_empty,aN]
   rfl
theorem mV (ws:List (List L)):((ws.map toS).map (·.length)).sum=ws.flatten.length:=by
 induction ws with
 | nil=>rfl
 | cons x r ih =>
  simp only [EO,List.sum_cons,GY,Ec]
  rw [ih,ah]
theorem mW (ws:List (List L))(u:List L):Txt.join ("":Str) ((u.map (img ws)).map toS)=toS (sub ws u):=by
 rw [qw]
 rfl
end L2
namespace Kx
open PySem PySem.Spec PyProof.Rows L2 Wd
structure DZ (n b:Nat) (ws:List (List L)) (H:Hp) (p:Addr):Prop where
 at_:H p=some (.tup (ws.map tx))
 ok:xY n b ws
inductive jd (vs:List V)(H:Hp)(Q:VK)(KC:XK):Prop
 | mk:∀ (p:Addr) (u:List L) (n b:Nat) (ws:List (List L)),(vs=[.ref p,tx u])→(DZ n b ws H p)→(n≤6)→(InM n u)→(u.length≤5000)→(u.length*b≤5000)→(b≤5000)→(∀ H',av H H'→Q (tx (red (sub ws u))) H')→jd vs H Q KC
end Kx
namespace L2
open PySem PySem.Spec PyProof.Rows Wd
section
variable {X:Cx}
theorem lr {i o:Expr}{ty td:TE}{pos:Pos}(hu:X.A.units+1 < cLine)(hi:PE X i ty)(ho:PE X o td)(h1:behindInMarks .NotIn o=false):PT X (.Compare i [.NotIn] [o] pos) (tB (pd ty td)):=zk (pe hu hi ho) h1
end
end L2
namespace Wd
structure Srf (u:List L):Prop where
 ne:u≠[]
 nd:u.Nodup
 iv:∀ x∈u,inv x∈u
 le:u.length≤12
theorem Srf.pos {u:List L}(S:Srf u):0 < u.length:=FM.mpr S.ne
def kl (u:List L)(g:Nat):L:=u.getD ((g+1) % u.length) 0
def km (u:List L)(g:Nat):Nat:=u.idxOf (inv (kl u g))
theorem je {u:List L}(S:Srf u)(g:Nat):u[(g+1) % u.length]? = some (kl u g):=by
 have h:=Nat.mod_lt (g+1) S.pos
 unfold kl
 rw [Ew,Ee h]
 rfl
theorem jf {u:List L}(S:Srf u)(g:Nat):kl u g∈u:=Es (je S g)
theorem mX {u:List L}(S:Srf u)(g:Nat):km u g < u.length:=IH (S.iv _ (jf S g))
structure Sn (u:List L) (S:List Nat):Prop where
 nd:S.Nodup
 lt:∀ g∈S,g < u.length
theorem qx:∀ (n:Nat) (S:List Nat),S.Nodup→(∀ g∈S,g < n)→S.length≤n
 | 0,S,_,h=>by
  cases S with
  | nil=>exact Eg _
  | cons a r=>exact absurd (h a Ex) (Nat.not_lt_zero _)
 | n+1,S,nd,h=>by
  by_cases hn:n∈S
  ·have q:=qx n (S.erase n) (nd.erase n) fun g hg=>by
    have:=(List.Nodup.mem_erase_iff nd).mp hg
    have:=h g this.2
    omega
   rw [Jf hn] at q
   omega
  ·have q:=qx n S nd fun g hg=>by
    have h1:=h g hg
    have h2:g≠n:=fun e=>hn (e ▸ hg)
    omega
   omega
theorem Sn.le {u:List L}{S:List Nat}(h:Sn u S):S.length≤u.length:=qx _ _ h.nd h.lt
theorem Sn.snoc {u:List L}{S:List Nat}(h:Sn u S){g:Nat}(hg:g < u.length)(hn:g∉S):Sn u (S++[g]):=by
 refine ⟨?_,fun x hx=>?_⟩
 ·rw [List.nodup_append]
  refine ⟨h.nd,by simp,fun a ha b hb e=>?_⟩
  rw [Eu] at hb
  subst hb
  exact hn (e ▸ ha)
 ·rcases EL.mp hx with h1 | h1
  ·exact h.lt x h1
  ·rw [Eu] at h1
   exact h1 ▸ hg
theorem Sn.nil (u:List L):Sn u []:=⟨HW,fun _ h=>absurd h (by simp)⟩
def qA (u:List L):Nat→Nat→List Nat→List L→List Nat × List L
 | 0,_,S,w=>(S,w)
 | n+1,g,S,w=>if g∈S then (S,w) else qA u n (km u g) (S++[g]) (w++[kl u g])
def wk (u:List L)(g:Nat)(S:List Nat)(w:List L):List Nat × List L:=qA u (u.length+1 - S.length) g S w
theorem x6 {u:List L}{g:Nat}{S:List Nat}{w:List L}(h:g∈S):wk u g S w=(S,w):=by
 unfold wk
 cases u.length+1 - S.length with
 | zero=>rfl
 | succ n=>unfold qA;rw [if_pos h]
theorem qB {u:List L}{g:Nat}{S:List Nat}{w:List L}(hs:Sn u S)(hg:g < u.length)(h:g∉S):wk u g S w=wk u (km u g) (S++[g]) (w++[kl u g]):=by
 have h1:=(hs.snoc hg h).le
 rw [Ec,En] at h1
 unfold wk
 rw [Ec,En]
 have e:u.length+1 - S.length=(u.length+1 - (S.length+1))+1:=by omega
 rw [e]
 show (if g∈S then (S,w) else _)=_
 rw [if_neg h]
theorem mY (u:List L):∀ (n g:Nat) (S:List Nat) (w:List L),w.length≤(qA u n g S w).2.length
 | 0,_,_,_=>Eg _
 | n+1,g,S,w=>by
  unfold qA
  split
  ·exact Eg _
  ·have:=mY u n (km u g) (S++[g]) (w++[kl u g])
   rw [Ec,En] at this
   omega
theorem Ca {u:List L}{g:Nat}{S:List Nat}(hs:Sn u S)(hg:g < u.length)(h:g∉S):(wk u g S []).2≠[]:=by
 rw [qB hs hg h]
 have:=mY u (u.length+1 - (S++[g]).length) (km u g) (S++[g]) ([]++[kl u g])
 intro e
 unfold wk at e
 rw [e] at this
 simp at this
def d8 (u:List L):Nat→List Nat × List (List L)
 | 0=>([],[])
 | i+1=>if i∈(d8 u i).1 then d8 u i else ((wk u i (d8 u i).1 []).1,(d8 u i).2++[(wk u i (d8 u i).1 []).2])
theorem jg (u:List L):∀ i,(d8 u i).2.length≤i
 | 0=>Eg _
 | i+1=>by
  have:=jg u i
  unfold d8
  split
  ·omega
  ·show ((d8 u i).2++[_]).length≤i+1
   rw [Ec,En]
   omega
theorem iq {u:List L}{i:Nat}(h:i∈(d8 u i).1):d8 u (i+1)=d8 u i:=by
 show (if _ then _ else _)=_
 rw [if_pos h]
theorem jh {u:List L}{i:Nat}(h:i∉(d8 u i).1):d8 u (i+1)=((wk u i (d8 u i).1 []).1,(d8 u i).2++[(wk u i (d8 u i).1 []).2]):=by
 show (if _ then _ else _)=_
 rw [if_neg h]
def hol (u:List L):List (List L):=(d8 u u.length).2
end Wd
namespace Kx
open PySem PySem.Spec PyProof.Rows L2 Wd
theorem qC (u:List L)(x:L)(i:Nat):StrLaws.At (toS u) (toS [x]) (toS u).length i ↔ u[i]? = some x:=by
 unfold StrLaws.At
 rw [ah,ah,StrLaws.subAt_eq,ah,bt,bt,FQ,← List.map_drop,← JA]
 simp only [En]
 constructor
 ·rintro ⟨h1,h2⟩
  have h2:=fh h2
  have:(u.drop i).take 1=[u[i]]:=by rw [Gm (by omega)];rfl
  rw [this] at h2
  rw [Ee (by omega)]
  exact EX some (E7 h2).1
 ·intro h
  obtain ⟨hl,e⟩:=Ef.mp h
  refine ⟨by omega,?_⟩
  rw [Gm hl,e]
  rfl
theorem mZ {u:List L}{x:L}(h:x∈u):∃ rest,Builtin.Str.occurrences (toS u) (toS [x]) 0 (toS u).length 1=u.idxOf x::rest:=by
 have KB:=IH h
 have hx:u[u.idxOf x]? = some x:=by rw [Ee KB];exact EX some (List.getElem_idxOf KB)
 rcases StrLaws.occ_head (toS u) (toS [x]) 1 (Eg 1) with ⟨h0,hn⟩ | ⟨i,r,h0,hi,hn⟩
 ·exact absurd ((qC u x _).mpr hx) (hn _)
 ·refine ⟨r,?_⟩
  rw [h0]
  have hi:=(qC u x i).mp hi
  have:i=u.idxOf x:=by
   rcases Nat.lt_trichotomy i (u.idxOf x) with h1 | h1 | h1
   ·have q:=List.not_of_lt_findIdx (p:=(· == x)) h1
    obtain ⟨hl,e⟩:=Ef.mp hi
    exact absurd (FQ.mpr e) (by simpa using q)
   ·exact h1
   ·exact absurd ((qC u x _).mpr hx) (hn _ h1)
  rw [this]
theorem none_of {H H':Hp}{a:Addr}(s:av H H')(h:H' a=none):H a=none:=by
 cases e:H a with
 | none=>rfl
 | some o=>exact absurd (s _ _ e) (by rw [h];intro z;cases z)
def sk (S:List Nat):List (Key × V):=S.map fun g:Nat=>(Sum.inl (g:Int),V.bl true)
theorem m7 (S:List Nat)(g:Nat):(dQ (sk S) (Sum.inl (g:Int))).isSome=decide (g∈S):=by
 rw [← dR]
 unfold sk
 rw [List.any_map,Fp,Gf,Gj]
 constructor
 ·rintro ⟨x,hx,e⟩
  have e:(Sum.inl (x:Int):Key)=Sum.inl (g:Int):=Fn e
  have e:=Sum.inl.inj e
  have:x=g:=by omega
  exact this ▸ hx
 ·intro h
  exact ⟨g,h,Eh rfl⟩
theorem wq {S:List Nat}{g:Nat}(h:g∉S):dX (sk S) (Sum.inl (g:Int)) (V.bl true)=sk (S++[g]):=by
 have e:=m7 S g
 rw [Ed h] at e
 rw [tI _ (by cases h:dQ (sk S) (Sum.inl (g:Int)) with | none=>rfl | some v=>rw [h] at e;cases e)]
 unfold sk
 rw [EG]
 rfl
theorem wu (S:List Nat):(sk S).length=S.length:=by unfold sk; rw [Ea]
inductive qD (vs:List V)(H:Hp)(Q:VK)(KC:XK):Prop
 | mk:∀ (u:List L) (g:Nat) (a:Addr) (S:List Nat),(vs=[tx u,.int g,.ref a])→(Srf u)→(g < u.length)→(Sn u S)→(H a=some (.dK (sk S)))→(∀ H',H' a=some (.dK (sk (wk u g S []).1))→Sn u (wk u g S []).1→a_ a H H'→Q (tx (wk u g S []).2) H')→qD vs H Q KC
inductive fo (vs:List V)(H:Hp)(Q:VK)(KC:XK):Prop
 | mk:∀ u,(vs=[tx u])→(Srf u)→(∀ (l:Addr) (H':Hp),H l=none→H' l=some (.lst ((hol u).map tx))→av H H'→Q (.ref l) H')→fo vs H Q KC
theorem qE (u:List L)(i:Nat):((d8 u i).2.map tx).length≤i:=by
 rw [Ea]
 exact jg u i
def gs (S:List Nat):List V:=S.map fun g:Nat=>V.int (g:Int)
theorem sm_at {i:Nat}(h:i < 6):atI ("abcdef":Str).cps.toList (i:Int)=some (cp ⟨i,by omega⟩):=by
 rw [← tT]
 exact cW (k:=i) rfl (sm6 ⟨i,h⟩)
end Kx
namespace Wd
def a9 (u:List L)(i:Nat)(sd:Int):L:=u.getD (((i:Int)+sd) % (u.length:Int)).toNat 0
structure Au (n:Nat) (u:List L):Prop where
 len:u.length=2*n
 nd:u.Nodup
 ins:InM n u
theorem ji {u:List L}(h:u≠[])(i:Nat)(sd:Int):u[(((i:Int)+sd) % (u.length:Int)).toNat]? = some (a9 u i sd):=by
 have hp:=FM.mpr h
 have h1:=Gq ((i:Int)+sd) (show (u.length:Int)≠0 by omega)
 have h2:=GN ((i:Int)+sd) (show (0:Int) < (u.length:Int) by omega)
 unfold a9
 rw [Ew,Ee (by omega)]
 rfl
theorem far_mem {u:List L}(h:u≠[])(i:Nat)(sd:Int):a9 u i sd∈u:=Es (ji h i sd)
theorem Av {n:Nat}(h6:n≤6){x:L}(hx:x.val % 6 < n):x∈([0,1,2,3,4,5]:List L).take n++([6,7,8,9,10,11]:List L).take n:=by
 have q:∀ (n:Fin 7) (x:L),x.val % 6 < n.val→x∈([0,1,2,3,4,5]:List L).take n.val++([6,7,8,9,10,11]:List L).take n.val:=by decide
 exact q ⟨n,by omega⟩ x hx
theorem uK {n:Nat}{u:List L}(h1:1≤n)(h6:n≤6)(p:u.Perm (([0,1,2,3,4,5]:List L).take n++([6,7,8,9,10,11]:List L).take n)):Au n u:=by
 have q:∀ n:Fin 7,(([0,1,2,3,4,5]:List L).take n.val++([6,7,8,9,10,11]:List L).take n.val).length=2*n.val∧(([0,1,2,3,4,5]:List L).take n.val++([6,7,8,9,10,11]:List L).take n.val).Nodup∧∀ x∈([0,1,2,3,4,5]:List L).take n.val++([6,7,8,9,10,11]:List L).take n.val,x.val % 6 < n.val:=by decide
 obtain ⟨a,b,c⟩:=q ⟨n,by omega⟩
 exact ⟨by rw [p.length_eq,a],p.nodup_iff.mpr b,fun x hx=>c x (p.mem_iff.mp hx)⟩
end Wd
namespace L2
open PySem PySem.Spec PyProof.Rows Wd
section
variable {X:Cx}
end
end L2
namespace Kx
open PySem PySem.Spec PyProof.Rows L2 Wd
inductive Bq (vs:List V)(H:Hp)(Q:VK)(KC:XK):Prop
 | mk:∀ (u:List L) (t:Addr) (i:Nat) (sd:Int),(vs=[tx u,.ref t])→(H t=some (.tup [.int (i:Int),.int sd]))→(u≠[])→(u.length≤100)→(Q (tx [a9 u i sd]) H)→Bq vs H Q KC
end Kx
namespace L2
open PySem PySem.Spec PyProof.Rows Wd
section
variable {X:Cx}
inductive cA  (xs:List V)(H:Hp)(Q:VK):Prop
 | mk:∀ z,(xs=[.str z])→(z.length≤sizeLine)→(∀ p,H p=none→Q (.ref p) (upd H p (.tup (dI z))))→cA xs H Q
theorem fQ (hc:X.calm=true):cI X (.type "tuple") cA:=by
 intro Ks s σ H xs us Q I r h
 obtain ⟨z,rfl,hz,q⟩:=h
 obtain ⟨u,rfl,t,rfl⟩:=cJ r
 refine call_tuple_str (I.ok.hd hc) z t (fun h' tk acc hk hI=>?_) hz
 have hl:(dI z).length≤sizeLine:=by unfold dI;rw [Ea,E4];exact hz
 have I1:Inv X Ks σ H { s with heap:=h',toks:=tk }:=I.kept hk
 exact ⟨.ref h'.objs.size,_,I1.laid (t':=tk) (fun b o e=>D_ _ e) (Eg _) (show bz X.prog X.w _ _ _ (.tup (dI z)) from ⟨hl,acc.toList,ij hI,⟨_,El _ rfl,rfl,0,by simp⟩,.new _ _ rfl⟩),rfl,q _ (I1.hok.fresh (Eg _))⟩
end
end L2
namespace L2
open PySem PySem.Spec PyProof.Rows
section
variable {X:Cx} {Ks:List (Addr × Obj)} {σ:St} {H:Hp} {s:Shared}
theorem qF {x:Str}{i:Nat}{pos:Pos}{v:V}{Q:Value→Shared→Prop}(I:Inv X Ks σ H s)(hN:X.N[i]? = some x)(hv:Vis X.env.scope x)(e:σ[i]? = some (some v))(h:∀ u,bq v u→Q u s)
  (hd:(x == ("__debug__":Str))=false:=by decide) (K0:(x == ("__classdict__":Str))=false:=by decide):wpAny (model X.prog X.w) X.A (eval (.Name x pos) X.env) Q X.xe s:=by
 obtain ⟨m,hn,hl⟩:=I.loc
 obtain ⟨u,r,l⟩:=hl i x v hN e hv
 rcases l with ⟨hk,hm⟩ | ⟨hk,c,hc,K6⟩
 ·exact Iu (G8 I.ok.kind hk hn hm (h u r)) hd
 ·rcases hk with hk | hk
  ·exact Iu (Iz I.ok.kind hk hc K6 (h u r)) hd
  ·exact Iu (wpAny_loadName_free I.ok.kind hk hc K6 (h u r) K0) hd
theorem qG {M:Model}{A:Around}{E:Value→Shared→Prop}{i:Nat}{x:Str}{v:V}{u:Value}{Q:Unit→Shared→Prop}(I:Inv X Ks σ H s)(hN:X.N.Nodup)(hi:X.N[i]? = some x)(hk:X.env.scope.names.lookup x=some .local)(r:bq v u)
  (h:∀ h' m,Inv X Ks (σ.set i (some v)) H { s with heap:=h',toks:=s.toks+1 }→h'.Ns X.env.locals m→m x=some u→Q () { s with heap:=h',toks:=s.toks+1 }):wpAny M A (storeName X.env x u) Q E s:=by
 obtain ⟨m,hn,hl⟩:=id I.loc
 have Lo:(X.env.scope.kind == .class || (X.env.scope.kind == .module && X.env.locals != X.env.globals))=false:=by rw [I.ok.kind];rfl
 have hiσ:i < σ.length:=by rw [I.len];exact (Ef.mp hi).1
 have cne:=I.cne
 have tracked:∀ {a:Addr} {h':Heap},(∃ o,s.heap.get? a=some o∧H a=none)→Heap.SameBut a s.heap h'→HOk X.prog X.w H h':=fun {a h'} ha hs b ob e=>by
  obtain ⟨_,_,hfree⟩:=ha
  refine (I.hok b ob e).stay (fun c w' hc q=>(hs.2 c ?_).trans q) (fun _ q=>q) fun _ _ q=>q
  rintro rfl
  rcases hc with rfl | hc
  ·rw [hfree] at e;cases e
  ·rw [hfree] at hc;cases hc
 refine wpAny_storeName_local hk hn (fun h' hn' hs=>?_) Lo
 obtain ⟨oL,_,_,hoL,_⟩:=id hn
 refine h _ _ ⟨I.ok,I.os,I.bare,⟨fun b o e n hb hx=>?_,fun b o e n hb hx=>?_,I.base.free,fun b o e hx=>?_,I.base.tups,I.base.frzs,I.base.tbls⟩,⟨_,hn',fun j y v' e1 e2 e3=>?_⟩,fun y c e=>?_,I.free,I.freeC,fun p hp=>?_,tracked ⟨oL,hoL,I.free⟩ hs,by simpa using I.len⟩ hn' (by simp)
 ·exact (hs.2 b (EK (Et (Em e) I.ok.above))).trans (I.base.keep b o e n hb hx)
 ·obtain ⟨sl,e1⟩:=I.base.slot b o e n hb hx
  exact ⟨sl,(hs.2 b (EK (Et (Em e) I.ok.above))).trans e1⟩
 ·obtain ⟨o',e1⟩:=I.base.there b o e hx
  exact ⟨o',(hs.2 b (EK (Et (Em e) I.ok.above))).trans e1⟩
 ·by_cases hj:j=i
  ·subst hj
   rw [hi] at e1;cases e1
   rw [Gb hiσ] at e2
   cases e2
   exact ⟨u,r,.inl ⟨hk,by simp⟩⟩
  ·rw [FS (Ne.symm hj)] at e2
   obtain ⟨u',r',q⟩:=hl j y v' e1 e2 e3
   refine ⟨u',r',?_⟩
   rcases q with ⟨k,e⟩ | ⟨k,c,e,z⟩
   ·refine .inl ⟨k,?_⟩
    have:y≠x:=fun e=>hj (fS hN e1 (e ▸ hi))
    simp [this,e]
   ·exact .inr ⟨k,c,e,z.sameBut hs (cne y c e)⟩
 ·obtain ⟨w',z⟩:=I.cell y c e
  exact ⟨w',z.sameBut hs (cne y c e)⟩
 ·obtain ⟨e,n,ne,nf,d⟩:=I.pin p hp
  exact ⟨(hs.2 p.1 ne).trans e,n,ne,nf,d⟩
inductive tMv (iz iw ix iy:Nat)(u:TS)(D:gW)(σ:St)(H:Hp):Prop
 | mk:∀ (S:Str) (p:Addr) (i:Int) (r:List V) (c:Nat),σ[iz]? = some (some (.str S))→σ[iw]? = some (some (.ref p))→H p=some (.tup (.int i::r))→S.length≤1000→atI S.cps.toList i=some c →
   u D ((σ.set ix (some (.str ⟨#[c]⟩))).set iy (some (.str (Txt.replace S ⟨#[c]⟩ "")))) H→tMv iz iw ix iy u D σ H
theorem qH {iz iw ix iy:Nat}{z w x y:Str}{rest:List Stmt}{u:TS}{k0 k1:Nat}{p1 p2 p3 p4 p5 p6 p7 p8 p9 p10 p11 p12 p13 p14:Pos}
  (hN:X.N.Nodup) (hNz:X.N[iz]? = some z) (hNw:X.N[iw]? = some w) (hNx:X.N[ix]? = some x) (hNy:X.N[iy]? = some y)
  (hkz:X.env.scope.names.lookup z=some .local) (hkw:X.env.scope.names.lookup w=some .local) (hkx:X.env.scope.names.lookup x=some .local) (hky:X.env.scope.names.lookup y=some .local)
  (KN:ix≠iz) (hp1:iL (.Constant (.int 0) k0 p4)) (hp2:iL (.Subscript (.Name w p3) (.Constant (.int 0) k0 p4) p5)) (h2:PSs X rest u)
  (hs1:swapsWith (.Subscript (.Name z p2) (.Subscript (.Name w p3) (.Constant (.int 0) k0 p4) p5) p6) (some (.Name x p1)) p7.line X.env=pure false:=by rfl)
  (hs2:swapsWith (.Call (.Attribute (.Name z p9) "replace" p10) [.Name x p11,.Constant (.str "") k1 p12] [] p13) (some (.Name y p8)) p14.line X.env=pure false:=by rfl)
  (hd1:(z == ("__debug__":Str))=false:=by decide) (hd2:(w == ("__debug__":Str))=false:=by decide) (hd3:(x == ("__debug__":Str))=false:=by decide)
  (hc1:(z == ("__classdict__":Str))=false:=by decide) (hc2:(w == ("__classdict__":Str))=false:=by decide)
  (K7:attributeBase (.Name z p9) "replace" X.env (eval (.Name z p9) X.env)=eval (.Name z p9) X.env:=by rfl)
  (hfew:((backTo p13 (starEach [.Name x p11,.Constant (.str "") k1 p12] X.env)).all (fun x=>!x.1) && (backToKw p13 (keywordEach [] X.env)).all (fun x=>x.1.isSome)
   && decide (([.Name x p11,.Constant (.str "") k1 p12]:List Expr).length+([]:List Keyword).length+(if ([]:List Keyword).isEmpty then 0 else 1) < 30))=true:=by rfl)
  (K5:(p10.endLine == p13.line)=true:=by rfl)
  (KP:backTo p13 (starEach [.Name x p11,.Constant (.str "") k1 p12] X.env)=[(false,eval (.Name x p11) X.env),(false,eval (.Constant (.str "") k1 p12) X.env)]:=by rfl) :
  PSs X (.Assign [.Name x p1] (.Subscript (.Name z p2) (.Subscript (.Name w p3) (.Constant (.int 0) k0 p4) p5) p6) p7 :: .Assign [.Name y p8] (.Call (.Attribute (.Name z p9) "replace" p10) [.Name x p11,.Constant (.str "") k1 p12] [] p13) p14::rest) (tMv iz iw ix iy u):=by
 intro Ks s σ H D I h
 obtain ⟨S,p,i,r,c,hz,hw,hp,hS,hc,q⟩:=h
 have hn63:=fG
 have KJ:sizeLine=16777216:=F0
 have ixlt:ix < σ.length:=by rw [I.len];exact (Ef.mp hNx).1
 refine GC (HJ (Iv (qF I hNz (.inl hkz) hz (fun uz rz=>Iv (qF I hNw (.inl hkw) hw (fun uw rw'=>wpAny_Constant_int ?_) hd2 hc2)) hd1 hc1)) hs1)
 cases rw'
 obtain ⟨tz,rfl⟩:=rz
 have I1:=I.tok (s.toks+1)
 obtain ⟨its,rv,pl,hsz⟩:=I1.tuple (SqT.of hp)
 obtain ⟨u0,e0,t0,rfl⟩:=rv.get (i:=0) rfl
 have hl:=rv.length
 have hl:its.length=r.length+1:=hl.symm
 refine Hy (x:=.int i t0) pl.typeIs slot_tuple_getitem.lookup (getItem_tuple (j:=0) pl (by decide) (by decide) (by rw [seqIndex_of (by decide) (by rw [Eo];omega)];rfl) (by simpa using e0) ⟨rfl,?_⟩) (hp1 _ _)
 obtain ⟨j,a1,a2,a3,a4,a5⟩:=iK hc
 have hlS:S.cps.toList.length=S.length:=by simp [Str.length]
 rw [hlS] at a1 a4 a5
 refine tail_any (GV _ S tz) slot_str_getitem.lookup (getItem_str (c:=c) (by
  have e1:decide (i < -(2 ^ 63:Int))=false:=Ed (by omega)
  have e2:decide (i≥2 ^ 63)=false:=Ed (by omega)
  rw [e1,e2,GW]) (by rw [a1];simpa using a2) ?_) (hp2 _ _)
 refine qG (I1.tok _) hN hNx hkx (v:=.str ⟨#[c]⟩) ⟨_,rfl⟩ fun h' m I2 hm hmx=>?_
 refine GC (HJ (wpAny_Call_method_late K7 hfew K5 rfl (qF I2 hNz (.inl hkz) (by rw [FS KN];exact hz) (fun uz rz=>?_) hd1 hc1)) hs2)
 obtain ⟨tz2,rfl⟩:=rz
 refine ⟨"str","str.replace",EC,PySem.F.slot_str_replace,PySem.F.type_str_replace,GV _ _ _,(fun _ e=>nomatch e),?_⟩
 rw [KP]
 refine Hz rfl (Calls.evalArgs_plain ?_)
 refine IL (Iu (G8 I2.ok.kind hkx hm hmx ?_) hd3)
 refine IL (Calls.Constant_str (Calls.spliced_nil ?_))
 have hyz:((⟨#[c]⟩:Str) == ("":Str))=false:=by
  cases e:((⟨#[c]⟩:Str) == ("":Str)) with
  | false=>rfl
  | true =>
   have e:=eq_of_beq e
   have:(⟨#[c]⟩:Str).length=("":Str).length:=by rw [e]
   have h0:("":Str).length=0:=by decide +kernel
   rw [h0] at this
   exact absurd this (by show ¬ 1=0;decide)
 have e0:("":Str).length=0:=by decide +kernel
 refine SC.replace (by show s.toks+1≠0;omega) (by show s.toks+1+1+1≠0;omega) (by show s.toks+1≠s.toks+1+1+1;omega) hyz (by rw [e0];omega) fun t' k=>?_
 have I3:=I2.tok k
 refine cQ I3 hN hNy (.inl hky) (v:=.str (Txt.replace S ⟨#[c]⟩ "")) ⟨_,rfl⟩ (fun s' I4=>?_) (.inr hky)
 exact h2 Ks s' _ H D I4 q
end
section
variable {X:Cx} {E:XK} {x:Str} {j k i:Nat} {f c':Addr} {q:Str} {spx:Sp} {e:Expr} {te:TE} {p pos:Pos}
end
end L2
namespace Wd
section
variable {α:Type}
def Adj:List α→α→α→Prop
 | a::b::t,x,y=>(x=a∧y=b) ∨ Adj (b::t) x y
 | _,_,_=>False
theorem qI {w:List α}{x:α}(h:x∈w):∃ A B,w=A++x::B:=by
 obtain ⟨A,B,e⟩:=List.append_of_mem h
 exact ⟨A,B,e⟩
end
def Row (u:List L)(C:List Nat)(g:Nat):Prop:=∀ a b,Adj (C++[g]) a b→b=km u a
def rot (w:List L)(p:Nat):List L:=w.drop p++w.take p
def J (u v:List L):Prop:=∀ x y,u.getLast? = some x→v.head? = some y→y≠inv x
end Wd
namespace L2
open PySem PySem.Spec PyProof.Rows Wd
end L2
namespace Wd
def Gc (u:List L)(C:List Nat):Prop:=∃ g r,C=g::r∧Row u C g
structure HI (u:List L) (i:Nat) (Cs:List (List Nat)):Prop where
 s:(d8 u i).1=Cs.flatten
 w:(d8 u i).2=Cs.map (List.map (kl u))
 sn:Sn u Cs.flatten
 gc:∀ C∈Cs,Gc u C
 al:∀ g,g < i→g∈Cs.flatten
theorem qJ {α β:Type}(f:α→β):∀ {l:List α},l.Nodup→(∀ x∈l,∀ y∈l,f x=f y→x=y)→(l.map f).Nodup
 | [],_,_=>HW
 | a::t,nd,h=>by
  rw [EO,EN]
  obtain ⟨h1,h2⟩:=EN.mp nd
  refine ⟨fun q=>?_,qJ f h2 fun x hx y hy=>h x (Ej _ hx) y (Ej _ hy)⟩
  obtain ⟨b,hb,e⟩:=ED.mp q
  have:=h b (Ej _ hb) a Ex e
  exact h1 (this ▸ hb)
section
variable {α:Type}
end
end Wd
namespace L2
open PySem PySem.Spec PyProof.Rows
section
variable {X:Cx}
end
section
variable {prog:Program} {w:World} {A:Around} {E:Value→Shared→Prop} {s:Shared}
end
section
variable {X:Cx}
end
end L2
namespace Wd
theorem qK:∀ x:L,(inv x).val % 6=x.val % 6:=by decide
theorem jj (u:List L)(p:Nat):(rot u p).Perm u:=by
 unfold rot
 refine List.perm_append_comm.trans ?_
 rw [List.take_append_drop]
def rfI (u:List L)(a b:L):Int:=((u.idxOf b:Int) - (u.idxOf a:Int)) % (u.length:Int)
def ic (u:List L)(x z:L):Int:=if rfI u x z < rfI u x (inv x) then 1 else 0
def sd (u:List L)(x y:L):Int:=ic u x y - ic u x (inv y)
def lt6 (j:Nat):L:=if h:j < 12 then ⟨j,h⟩ else 0
theorem cZ {j:Nat}(h:j < 6):(lt6 j).val=j:=by
 unfold lt6
 rw [dif_pos (by omega)]
end Wd
namespace L2
open PySem PySem.Spec PyProof.Rows
section
variable {X:Cx}
inductive Aw (x:V)(y:V)(H:Hp)(Q:VK):Prop
 | mk:∀ (a b:Addr) (ys zs:List Str),(x = .ref a)→(y = .ref b)→(H a=some (.lst (ys.map V.str)))→(H b=some (.lst (zs.map V.str)))→(Q (.bl (decide (ys=zs))) H)→Aw x y H Q
theorem uL (hu:X.A.units+64 < cLine):OpR X (compareOp .Eq) Aw:=by
 intro Ks s σ H x y v u Q I rx ry h
 obtain ⟨a,b,ys,zs,ex,ey,ha,hb,q⟩:=h
 by_cases hl:ys.length=zs.length
 ·exact uv hu Ks s σ H x y v u Q I rx ry ⟨a,b,ys,zs,ex,ey,ha,hb,hl,q⟩
 ·subst ex ey
  cases rx
  cases ry
  obtain ⟨its,n,rv,ea,_⟩:=I.lst ha
  obtain ⟨KL,n2,rv2,eb,_⟩:=I.lst hb
  have l1:=rv.length
  have l2:=rv2.length
  rw [Ea] at l1 l2
  refine EqBoolInt.of_rc (SeqAt.RcAt.lists_lengths (⟨_,ea,rfl,_,rfl⟩:s.heap.IsList a its.toArray) (⟨_,eb,rfl,_,rfl⟩:s.heap.IsList b KL.toArray) (by simp;omega) (by omega)) ?_
  rw [Ed (fun e=>hl (by rw [e]))] at q
  exact ⟨.bl false,H,I,rfl,q⟩
end
end L2
namespace Kx
open PySem PySem.Spec PyProof.Rows L2 Wd
theorem ko:∀ (r:List Str) (x:Str),risingS x r=true→(x::r).Pairwise fun a b=>a.cps.toList≤b.cps.toList
 | [],x,_=>by simp
 | z::r,x,h=>by
  have l:=fL (z::r) x h
  unfold risingS at h
  rw [EI] at h
  exact List.Pairwise.cons (fun y hy=>l.2 y (Ej _ hy)) (ko r z h.2)
theorem kq {l:List Str}(h:sortedS l=true):l.Pairwise fun a b=>a.cps.toList≤b.cps.toList:=by
 cases l with
 | nil=>exact .nil
 | cons x r=>exact ko r x h
theorem og {a b:List Str}(ha:sortedS a=true)(hb:sortedS b=true)(p:a.Perm b):a=b :=
 List.Perm.eq_of_pairwise (fun x y _ _ h1 h2=>Str.ext' (Array.toList_inj.mp (List.le_antisymm h1 h2))) (kq ha) (kq hb) p
def D9 (k:Nat):List L:=(List.range k).map lt6++bk ((List.range k).map lt6)
end Kx
namespace L2
open PySem PySem.Spec PyProof.Rows
section
variable {prog:Program} {w:World} {A:Around} {E:Value→Shared→Prop} {s:Shared}
theorem uM {t b:Addr}{ws:List Value}{Q:Value→Shared→Prop}(ht:IsTup s.heap t ([]:List Value).toArray)(hb:IsTup s.heap b ws.toArray)(h1:Q (.ref b) s):wpAny (model prog w) A (binaryOp .Add (.ref t) (.ref b)) Q E s:=by
 obtain ⟨⟨c1,d1,o1,l1⟩,e1,g1,n,k1⟩:=id ht
 obtain ⟨⟨c2,d2,o2,l2⟩,e2,g2,n2,k2⟩:=id hb
 simp only at g1 k1 g2 k2
 subst g1 k1 g2 k2
 exact concat_meets ⟨_,e1,rfl⟩ ⟨_,e2,rfl⟩ Jk seq_tuple_add Hx Hn (Hk _ _) (tuple_addW0 t b _ ws.toArray n n2 d1 d2 l1 l2 rfl) ⟨e1,e2,h1⟩
end
section
variable {X:Cx}
end
end L2
namespace L2
open PySem PySem.Spec PyProof.Rows Wd
section
variable {X:Cx}
inductive Ax (x:V)(y:V)(H:Hp)(Q:VK):Prop
 | mk:∀ a b xs ys,(x = .ref a)→(y = .ref b)→(H a=some (.tup xs))→(H b=some (.tup ys))→(xs.length+ys.length≤sizeLine)→(∀ p H',av H H'→H' p=some (.tup (xs++ys))→Q (.ref p) H')→Ax x y H Q
theorem c7:OpR X (binaryOp .Add) Ax:=by
 intro Ks s σ H x y v u Q I rx ry h
 obtain ⟨a,b,xs,ys,ex,ey,ha,hb,hz,q⟩:=h
 by_cases hx:xs=[]
 ·subst ex ey hx
  cases rx
  cases ry
  obtain ⟨its,r1,p1,_⟩:=I.tuple (SqT.of ha)
  obtain ⟨KL,r2,p2,_⟩:=I.tuple (SqT.of hb)
  cases r1
  exact uM p1 p2 ⟨.ref b,H,I,rfl,q b H (av.refl _) hb⟩
 ·exact xm Ks s σ H x y v u Q I rx ry ⟨a,b,xs,ys,ex,ey,SqT.of ha,SqT.of hb,hx,hz,fun e=>q a H (av.refl _) (by rw [e,Fs];exact ha),fun _ p hp=>q p _ (av.new hp) ag⟩
end
inductive Dj (x:V)(lo:Option Int)(hi:Option Int)(H:Hp)(Q:VK):Prop
 | mk:∀ a xs,(x = .ref a)→(H a=some (.tup xs))→(∀ p H',av H H'→H' p=some (.tup (iJ xs lo hi))→Q (.ref p) H')→Dj x lo hi H Q
theorem cG {X:Cx}:SlR X Dj:=by
 intro Ks s σ H x v vl vu lo hi sl Q I rx hs pl pu h
 obtain ⟨a,xs,rfl,hx,q⟩:=h
 exact xS Ks s σ H _ v vl vu lo hi sl Q I rx hs pl pu ⟨a,xs,rfl,SqT.of hx,fun e=>q a H (av.refl _) (by rw [e];exact hx),fun p hp=>q p _ (av.new hp) ag⟩
theorem qL {d:PyData}(h:d.leavesShort 40=true)(hw:d.weight≤2 ^ 18):d.shown.length≤sizeLine:=by
 have:=PyData.shown_le 40 (by decide) d h
 have e:sizeLine=16777216:=F0
 rw [e]
 omega
structure Sm (d:PyData):Prop where
 sh:d.showable=true
 nd:d.hasDict=false
 dp:d.depth≤4
 lv:d.leavesShort 40=true
 wt:d.weight≤400
 nt:∀ i,d = .int i→i.natAbs.log2 < 1920
theorem Ay {ds:List PyData}(h:∀ d∈ds,Sm d):PyData.showableAll ds=true∧PyData.hasDictAll ds=false∧PyData.depthAll ds≤4∧PyData.leavesShortAll 40 ds=true∧PyData.weightAll ds≤ds.length*401:=by
 induction ds with
 | nil=>exact ⟨rfl,rfl,E5 _,rfl,E5 _⟩
 | cons d r ih =>
  obtain ⟨a,b,c,e,f⟩:=ih fun x hx=>h x (Ej _ hx)
  have S:=h d Ex
  refine ⟨?_,?_,?_,?_,?_⟩
  ·show (PyData.showable d && PyData.showableAll r)=true
   rw [S.sh,a];rfl
  ·show (PyData.hasDict d || PyData.hasDictAll r)=false
   rw [S.nd,b];rfl
  ·show max (PyData.depth d) (PyData.depthAll r)≤4
   have:=S.dp
   omega
  ·show (PyData.leavesShort 40 d && PyData.leavesShortAll 40 r)=true
   rw [S.lv,e];rfl
  ·show PyData.weight d+1+PyData.weightAll r≤(r.length+1)*401
   have:=S.wt
   omega
theorem x8 {ds:List PyData}(h:∀ d∈ds,Sm d)(hl:ds.length≤100):Sh (.tuple ds):=by
 obtain ⟨a,b,c,e,f⟩:=Ay h
 have:ds.length*401≤100*401:=Im _ hl
 exact ⟨a,b,by show PyData.depthAll ds+1≤10;omega,qL e (by show PyData.weightAll ds≤2 ^ 18;omega)⟩
end L2
namespace Kx
open PySem PySem.Spec PyProof.Rows L2 Wd
def mpV (n:Nat):V→Bool
 | .str z=>isW (n:Int) z && (match ofS z with | some u=>decide (red u=u) | none=>false)
 | _=>false
inductive Tm (K:PySem.W.Frag)(H:Hp):V→(Nat→Bool)→Prop
 | tup {a:Addr} {xs:List V} (h:H a=some (.tup xs)) (hx:∀ y∈xs,Th K H y) (hl:xs.length≤100):Tm K H (.ref a) (fun n=>decide (xs.length=n) && xs.all (mpV n))
 | oth {x:V} {n:String} (ty:fU K H x (.type n)) (e:PySem.W.kitOne K (.type n) (.type "tuple")=some false):Tm K H x (fun _=>false)
inductive lu (K:PySem.W.Frag)(vs:List V)(H:Hp)(Q:VK)(KC:XK):Prop
 | mk:∀ (n:Nat) (x:V) (b:Nat→Bool),(vs=[.int (n:Int),x])→(1≤n)→(n≤6)→(Tm K H x b)→(∀ H',av H H'→Q (.bl (b n)) H')→lu K vs H Q KC
theorem wx {n:Nat}{z:Str}(h:isW (n:Int) z=false):mpV n (.str z)=false:=by
 show (isW (n:Int) z && _)=false
 rw [h]
 rfl
theorem wA {n:Nat}{u:List L}(h:isW (n:Int) (toS u)=true):mpV n (tx u)=decide (red u=u):=by
 show (isW (n:Int) (toS u) && (match ofS (toS u) with | some u=>decide (red u=u) | none=>false))=_
 rw [h,xO]
 rfl
theorem qM {k:Nat}(hk:k≤6){z:Str}(h:isW (k:Int) z=true):∃ u,z=toS u:=by
 have h6:isW 6 z=true:=by
  unfold isW at h ⊢
  rw [FK] at h ⊢
  intro c hc
  have q:=h c hc
  rw [Dg]
  unfold okC at q
  cases e:ltr c with
  | none=>rw [e] at q;cases q
  | some x=>rfl
 rw [DT] at h6
 obtain ⟨u,e⟩:=FR.mp h6
 exact ⟨u,uk e⟩
theorem wB:bootBuiltins "bool" = some (.type "bool"):=by kernel_rfl
end Kx
namespace L2
open PySem PySem.Spec PyProof.Rows Wd
section
variable {X:Cx}
end
end L2
namespace Wd
structure Ren (u:List L) (f:L→L):Prop where
 iv:∀ x,f (inv x)=inv (f x)
 inj:∀ x∈u,∀ y∈u,f x=f y→x=y
theorem Ren.srf {u:List L}{f:L→L}(R:Ren u f)(U:Srf u):Srf (u.map f):=by
 refine ⟨by simpa using U.ne,qJ f U.nd R.inj,fun x hx=>?_,by rw [Ea];exact U.le⟩
 obtain ⟨y,hy,rfl⟩:=ED.mp hx
 exact ED.mpr ⟨inv y,U.iv y hy,R.iv y⟩
def nm (N:List L)(x:L):L:=if x.val < 6 then N.getD x.val 0 else inv (N.getD (x.val - 6) 0)
theorem m8 (N:List L)(x:L):nm N (inv x)=inv (nm N x):=by
 unfold nm
 have e:=fk x
 have:=x.isLt
 by_cases h:x.val < 6
 ·rw [if_pos h] at e
  rw [if_pos h,if_neg (by omega),e,Nat.add_sub_cancel]
 ·rw [if_neg h] at e
  rw [if_neg h,if_pos (by omega),e,bB]
structure Nm (N:List L) (k:Nat):Prop where
 pm:(N.map fun x:L=>x.val % 6).Perm (List.range k)
 hi:k≤6
theorem Nm.len {N:List L}{k:Nat}(h:Nm N k):N.length=k:=by
 have:=h.pm.length_eq
 simpa using this
theorem kr (N:List L)(x:L):(nm N x).val % 6=(N.getD (x.val % 6) 0).val % 6:=by
 unfold nm
 have:=x.isLt
 by_cases h:x.val < 6
 ·rw [if_pos h,Jl h]
 ·rw [if_neg h,qK,show x.val % 6=x.val - 6 by omega]
theorem x9 {x y:L}(h:x.val % 6=y.val % 6):x=y ∨ x=inv y:=by
 have q:∀ x y:L,x.val % 6=y.val % 6→x=y ∨ x=inv y:=by decide
 exact q x y h
theorem Nm.ren {N:List L}{k:Nat}(h:Nm N k){u:List L}(hu:∀ x∈u,x.val % 6 < k):Ren u (nm N):=by
 refine ⟨m8 N,fun x hx y hy e=>?_⟩
 have e2:(nm N x).val % 6=(nm N y).val % 6:=by rw [e]
 rw [kr,kr] at e2
 have hl:=h.len
 have hx':=hu x hx
 have hy':=hu y hy
 have nd:(N.map fun x:L=>x.val % 6).Nodup:=h.pm.nodup_iff.mpr GG
 have g:∀ i,i < k→(N.map fun x:L=>x.val % 6)[i]? = some ((N.getD i 0).val % 6):=fun i hi=>by
  rw [Er,Ee (by omega),Ew,Ee (by omega)]
  rfl
 have g1:=g _ hx'
 have g2:=g _ hy'
 rw [e2] at g1
 have hm:x.val % 6=y.val % 6:=by
  obtain ⟨hi,e1⟩:=Ef.mp g1
  obtain ⟨hj,e2⟩:=Ef.mp g2
  have p:=List.pairwise_iff_getElem.mp nd
  rcases Nat.lt_trichotomy (x.val % 6) (y.val % 6) with h | h | h
  ·exact absurd (e1.trans e2.symm) (p _ _ hi hj h)
  ·exact h
  ·exact absurd (e2.trans e1.symm) (p _ _ hj hi h)
 rcases x9 hm with h | h
 ·exact h
 ·rw [h,m8] at e
  exact absurd e (mD _)
end Wd
namespace L2
open PySem PySem.Spec PyProof.Rows Wd
theorem lx {α β:Type}(f:α→β){zs ys:List β}(p:ys.Perm zs):∀ W:List α,ys=W.map f→∃ V:List α,V.Perm W∧zs=V.map f:=by
 induction p with
 | nil =>
  intro W e
  exact ⟨W,.refl _,e⟩
 | cons x _ ih =>
  intro W e
  cases W with
  | nil=>cases e
  | cons w W =>
   obtain ⟨e1,e2⟩:=E7 e
   obtain ⟨V,h1,h2⟩:=ih W e2
   exact ⟨w::V,h1.cons w,by rw [h2,e1];rfl⟩
 | swap x y l =>
  intro W e
  match W,e with
  | a::b::W,e =>
   obtain ⟨e1,e2⟩:=E7 e
   obtain ⟨e2,e3⟩:=E7 e2
   exact ⟨b::a::W,List.Perm.swap a b W,by rw [e1,e2,e3];rfl⟩
 | trans _ _ ih1 ih2 =>
  intro W e
  obtain ⟨V,h1,h2⟩:=ih1 W e
  obtain ⟨V2,h3,h4⟩:=ih2 V h2
  exact ⟨V2,h3.trans h1,h4⟩
section
variable {X:Cx}
end
end L2
namespace Kx
open PySem PySem.Spec PyProof.Rows L2 Wd
end Kx
namespace Wd
section
variable {α:Type}
theorem qN {h:α→List α}:∀ {l:List α},(∀ x∈l,h x=[x])→l.flatMap h=l
 | [],_=>rfl
 | x::r,k=>by rw [HU,k x Ex,qN fun y hy=>k y (Ej _ hy)];rfl
end
def sld (u:List L)(e g:L)(b:Bool):List L:=u.flatMap fun x=>if x=g then (if b then [x,e] else [e,x]) else if x=e then [] else [x]
theorem gL {u:List L}{e g:L}(nd:u.Nodup)(he:e∈u)(hg:g∈u)(ne:g≠e)(b:Bool) :
  ∃ A B C D,u=A++e::B∧A++B=C++g::D∧sld u e g b=(if b then C++g::e::D else C++e::g::D):=by
 obtain ⟨A,B,rfl⟩:=qI he
 have nd2:(e::(A++B)).Nodup:=(He.nodup_iff).mp nd
 have ni:=(EN.mp nd2).1
 have nd3:=(EN.mp nd2).2
 have hg2:g∈A++B:=by
  rcases EL.mp hg with h | h
  ·exact E1 _ h
  ·rcases Ei.mp h with h | h
   ·exact absurd h ne
   ·exact Ey _ h
 obtain ⟨C,D,e1⟩:=qI hg2
 refine ⟨A,B,C,D,rfl,e1,?_⟩
 have e2:sld (A++e::B) e g b=sld (A++B) e g b:=by
  unfold sld
  rw [Gz,Gz,HU,if_neg (fun z=>ne z.symm),if_pos rfl]
  rfl
 rw [e2,e1]
 rw [e1] at nd3 ni
 have nd4:(g::(C++D)).Nodup:=(He.nodup_iff).mp nd3
 have ng:=(EN.mp nd4).1
 have hid:∀ l:List L,(∀ x∈l,x∈C++D)→(l.flatMap fun x=>if x=g then (if b then [x,e] else [e,x]) else if x=e then [] else [x])=l:=fun l hl=>qN fun x hx=>by
  have hx:=hl x hx
  have a:¬ x=g:=fun z=>ng (z ▸ hx)
  have a2:¬ x=e:=fun z=>ni (by
   subst z
   rcases EL.mp hx with h | h
   ·exact E1 _ h
   ·exact Ey _ (Ej _ h))
  rw [if_neg a,if_neg a2]
 unfold sld
 rw [Gz,HU,if_pos rfl,hid C fun x hx=>E1 _ hx,hid D fun x hx=>Ey _ hx]
 cases b <;> rfl
theorem m9 {u:List L}{e g:L}(nd:u.Nodup)(he:e∈u)(hg:g∈u)(ne:g≠e)(b:Bool):(sld u e g b).Perm u:=by
 obtain ⟨A,B,C,D,rfl,e1,e2⟩:=gL nd he hg ne b
 rw [e2]
 refine List.Perm.trans ?_ He.symm
 rw [e1]
 cases b with
 | true =>
  have:(C++g::e::D:List L)=(C++[g])++e::D:=by simp
  rw [if_pos rfl,this]
  refine He.trans ?_
  simp
 | false=>exact He
theorem Srf.perm {u v:List L}(U:Srf u)(p:v.Perm u):Srf v:=⟨fun e=>U.ne (List.Perm.nil_eq (e ▸ p)).symm,p.nodup_iff.mpr U.nd,fun x hx=>p.mem_iff.mpr (U.iv x (p.mem_iff.mp hx)),by rw [p.length_eq]; exact U.le⟩
end Wd
namespace Wd
open Kx
end Wd
namespace PySem
open Sem (wp)
abbrev ldr (w:World):Bool:=!w.params.followText "set-order"
theorem oh {t:SetTable}{es:Array (Int × Value)}{h:Int}{x:Value}:(layNew t es h x).2.1.led=t.led:=by
 unfold layNew
 split
 ·dsimp only
  unfold SetTable.orStandIn
  split
  ·rfl
  ·rfl
 ·rfl
theorem oj {t t':SetTable}{hs:Array Int}{w:Nat}{order:Array Nat}(h:t.relaid hs w=some (t',order)):t'.led=t.led:=by
 unfold SetTable.relaid SetTable.laid at h
 cases hq:SetTable.layClean (SetTable.sizeAbove w - 1) hs with
 | none=>rw [hq] at h;cases h
 | some o=>rw [hq] at h;cases h;rfl
theorem ku {t:SetTable}{es:Array (Int × Value)}{w:Nat}:(relayAll t es w).2.1.led=t.led:=by
 unfold relayAll
 split
 ·rename_i t' order he
  dsimp only
  split
  ·exact oj he
  ·rfl
 ·rfl
section
variable {K:Type} [DecidableEq K] {prog:Program} {w:World} {knd:KeyKind prog w K} {A:Around} {E:Value→Shared→Prop} {s:Shared}
section
variable {R:Result→Shared→Prop} {I:Addr} {fp wr:List Addr} {G:Array GenState→Array GenState→Prop} {n:Nat} {P:Nat→Value→Prop} {St:Nat→Shared→Prop}
end
theorem jk (a:Value){Q₁:Value→Shared→Prop}(q:Q₁ (.ref s.heap.objs.size) { s with heap:=s.heap.push (sob (ldr w)) }) :
  codeAny (model prog w) A (.call (.builtin "set.__new__") ⟨[.type "set",a],[]⟩) (wants Q₁ E) s:=by
 refine Jt ?_
 show wpAny _ A.in1 (do checkBuiltinCall "set.__new__" ⟨[.type "set",a],[]⟩;again (.builtin "set.__new__" ⟨[.type "set",a],[]⟩)) _ _ s
 refine fu (Hi (F.newCall_set_1 a) (Eb ⟨plainId_quiet F.plain_set_new _,Hv F.entry_set_new ?_⟩))
 rw [Io F.plain_set_new _]
 unfold Builtin.«set.__new__» Builtin.Frozenset.newClass
 have hsub:=sub_set_self
 obtain ⟨hp,gn,dr,tk,os⟩:=s
 dsimp only
 wp_walk
 refine wpAny_askSetting (Eb ?_)
 dsimp only
 simp only [newObj]
 exact fu (wpAny_alloc (Eb (Eb q)))
end
section
variable {prog:Program} {w:World} {A:Around} {E:Value→Shared→Prop} {s:Shared}
end
end PySem
namespace Tv
open PySem PyProof.Rows
section
variable {prog:Program} {w:World} {A:Around} {E:Value→Shared→Prop} {s:Shared} {κ:KeyKind} {kd:SortKind}
end
end Tv
namespace Tv
open PySem PyProof.Rows
variable {κ:KeyKind} {kd:SortKind}
end Tv
namespace Tv
open PySem PyProof.Rows
section
variable {prog:Program} {w:World} {A:Around} {E:Value→Shared→Prop} {s:Shared} {κ:KeyKind} {kd:SortKind}
end
end Tv
namespace Tv
open PySem PyProof.Rows
variable {κ:KeyKind} {kd:SortKind}
section
variable {prog:Program} {w:World} {A:Around} {E:Value→Shared→Prop} {s:Shared}
end
end Tv
namespace Tv
open PySem PyProof.Rows
variable {κ:KeyKind} {kd:SortKind}
section
variable {prog:Program} {w:World} {A:Around} {E:Value→Shared→Prop} {s:Shared}
end
end Tv
namespace Tv
open PySem PyProof.Rows
variable {κ:KeyKind} {kd:SortKind}
section
variable {prog:Program} {w:World} {A:Around} {E:Value→Shared→Prop} {s:Shared}
end
end Tv
namespace Tv
open PySem PyProof.Rows
variable {κ:KeyKind} {kd:SortKind}
section
variable {prog:Program} {w:World} {A:Around} {E:Value→Shared→Prop} {s:Shared}
end
end Tv
namespace Ts
open PySem PyProof.Rows
section
variable {κ:KeyKind} {prog:Program} {w:World} {A:Around} {E:Value→Shared→Prop} {s:Shared}
end
end Ts
namespace L2
open PySem PySem.Spec PyProof.Rows
section
variable {prog:Program} {w:World} {A:Around} {E:Value→Shared→Prop} {s:Shared}
end
section
variable {X:Cx}
end
section
variable {prog:Program} {w:World} {A:Around} {E:Value→Shared→Prop} {s:Shared}
end
section
variable {X:Cx}
end
end L2
namespace Wd
open PySem L2
def lcp:List L→List L→List L
 | x::u,y::v=>if x=y then x::lcp u v else []
 | _,_=>[]
def D0 (t o:List L):Bool:=decide (o≠t) && decide (t.length≤6*(lcp t o).length)
end Wd
namespace Kx
open PySem PySem.Spec PyProof.Rows L2 Wd
theorem ee:bootBuiltins "enumerate" = some (.type "enumerate"):=by kernel_rfl
theorem at0 {α:Type}(c:α)(t:List α):atI (c::t) (0:Int)=some c:=by unfold atI ixN; simp
theorem nl:¬ ("letter":Str) = "number":=by decide +kernel
theorem nt:¬ ("turn":Str) = "number":=by decide +kernel
theorem tl:¬ ("turn":Str) = "letter":=by decide +kernel
end Kx
namespace Wd
open PySem L2
end Wd
namespace Kx
open PySem L2 Wd
end Kx
namespace PySem
open Sem (wp)
section
variable {prog:Program} {w:World} {A:Around} {E:Value→Shared→Prop} {s:Shared} {z TI TO i1 i2:Addr} {x y:Str} {t u:Tok} {k c d:Nat} {a b:Value}
end
end PySem
namespace L2
open PySem PySem.Spec PyProof.Rows
section
variable {X:Cx}
end
end L2
namespace PySem
end PySem
namespace L2
open PySem PySem.Spec PyProof.Rows Wd
section
variable {X:Cx}
end
end L2
namespace HT
open PySem PySem.Spec PyProof.Rows
section
variable {prog:Program} {w:World} {A:Around} {E:Value→Shared→Prop} {s:Shared}
theorem fR {sl:Addr}{tk:Tok}{n:Nat}{Q:Int × Int × Nat→Shared→Prop}(hs:s.heap.IsSliceOf sl .none .none (.int (-1) tk))
  (h:Q ((n:Int) - 1,-1,n) s):wpAny (model prog w) A (Builtin.Slice.sliceApplied (.ref sl) (pure (n:Int))) Q E s:=by
 obtain ⟨os,hos,hcs,hds⟩:=id hs
 unfold Builtin.Slice.sliceApplied Builtin.Slice.sliceFields
 refine fu (fu (EF hos hds (x:=.none) rfl (fu (EF hos hds (x:=.none) rfl (fu (EF hos hds (x:=.int (-1) tk) rfl (Eb ?_)))))))
 refine fu (slicePart_int ?_)
 show wpAny _ _ (if ((-1:Int) == 0)=true then _ else _) _ _ s
 rw [if_neg (by decide)]
 refine fu (IV (fu (IV (fu (Eb ?_)))))
 have e:Builtin.Slice.slicePlaces ((n:Int) - 1) (-1) (-1)=n:=by
  unfold Builtin.Slice.slicePlaces
  rw [if_neg (by decide)]
  by_cases hn:n=0
  ·subst hn;decide
  ·rw [if_pos (by omega),show (-(-1):Int)=1 from rfl,Int.ediv_one];omega
 show wpAny _ _ (pure ((n:Int) - 1,(-1:Int),Builtin.Slice.slicePlaces ((n:Int) - 1) (-1) (-1))) _ _ s
 rw [e]
 exact Eb h
theorem d9 {α β:Type}{f:α→Option β}{g:α→β}:∀ {l:List α},(∀ m∈l,f m=some (g m))→l.filterMap f=l.map g
 | [],_=>rfl
 | a::r,h=>by rw [List.filterMap_cons_some (h a Ex),EO,d9 fun m hm=>h m (Ej _ hm)]
theorem uN (xs:Array Value):((List.range xs.size).filterMap fun (m:Nat)=>xs[((xs.size:Int) - 1+(m:Int)*(-1)).toNat]?).toArray=xs.toList.reverse.toArray:=by
 congr 1
 have e:∀ m∈List.range xs.size,xs[((xs.size:Int) - 1+(m:Int)*(-1)).toNat]? = some ((fun m=>xs.toList.getD (xs.size - 1 - m) .none) m):=by
  intro m hm
  have hm:=FH.mp hm
  have:((xs.size:Int) - 1+(m:Int)*(-1)).toNat=xs.size - 1 - m:=by omega
  rw [this]
  have KB:xs.size - 1 - m < xs.size:=by omega
  simp [List.getD,KB]
 rw [d9 e]
 apply Gu
 intro i
 rw [Er]
 by_cases hi:i < xs.size
 ·rw [Ga hi,GR (by simpa using hi)]
  have KB:xs.size - 1 - i < xs.size:=by omega
  simp [List.getD,KB]
 ·rw [Fu (by simpa using hi),Fu (by simp;omega)]
  rfl
theorem fq {t sl:Addr}{items:Array Value}{tk:Tok}{Q:Value→Shared→Prop}(ht:IsTup s.heap t items)(hs:s.heap.IsSliceOf sl .none .none (.int (-1) tk))
  (h:Q (.ref s.heap.objs.size) { s with heap:=s.heap.push { cls:=.type "tuple",data:=.seq items.toList.reverse.toArray } })
  (hsz:items.size≤sizeLine):wpAny (model prog w) A (getItem (.ref t) (.ref sl)) Q E s:=by
 have KQ:sizeOk (.seq items.toList.reverse.toArray):=by
  show items.toList.reverse.toArray.size≤sizeLine
  rw [Eo,GA,E4]
  exact hsz
 obtain ⟨os,hos,hcs,hds⟩:=id hs
 have hTs:s.TypeIs (.ref sl) "slice":=⟨os,hos,hcs⟩
 unfold getItem
 try with_reducible refine FE ?_
 first | refine fu (Eb ?_) | skip
 refine fu (Jc ht.typeIs (by decide) ?_)
 refine fu (ES (name:=Str.ofString "__getitem__") ht.typeIs Fg
  (Fe Fg ht.typeIs IB ?_ (IM _ _)))
 show wpAny _ _ (Builtin.Tuple.tupleItemsOf (.ref t) >>= _) _ _ s
 refine fu (tupleItemsOf_ ht ?_)
 refine fu (Jp hTs ?_)
 rw [if_pos (by decide)]
 refine fu (fR hs ?_)
 show wpAny _ _ (if ((((items.size:Nat):Int) - 1 == 0 && (-1:Int) == 1 && items.size == items.size)=true) then _ else _) _ _ s
 rw [if_neg (by simp),uN]
 first
  | exact fu (m:=Builtin.Tuple.tupleExact _) (Fh (Eb ⟨_,rfl,Eb h⟩) KQ)
  | exact fu (m:=Builtin.Tuple.tupleExact _) (Fh (fu (Eb (Eb ⟨_,rfl,Eb h⟩))) KQ)
  | exact fu (fu (m:=Builtin.Tuple.tupleExact _) (Fh (Eb (Eb ⟨_,rfl,Eb h⟩)) KQ))
  | exact fu (fu (m:=Builtin.Tuple.tupleExact _) (Fh (Eb ⟨_,rfl,Eb h⟩) KQ))
end
end HT
namespace L2
open PySem PySem.Spec PyProof.Rows Wd
section
variable {X:Cx}
def Cb (te ts:TE):TE:=fun σ H Q=>te σ H fun x H1=>ts σ H1 fun k H2=>∃ a xs,x = .ref a∧k = .int (-1)∧H2 a=some (.tup xs)∧∀ p,H2 p=none→Q (.ref p) (upd H2 p (.tup xs.reverse))
theorem x_ {e st:Expr}{te ts:TE}{pos p2:Pos}(he:PE X e te)(hs:PE X st ts):PE X (.Subscript e (.Slice none none (some st) p2) pos) (Cb te ts):=by
 intro Ks s σ H Q I h
 refine Iv (thn (he Ks s σ H _ I h) fun v s1 Lg=>?_)
 obtain ⟨x,H1,I1,r1,q1⟩:=Lg
 refine wpAny_Slice ?_
 rw [evalPart_none]
 refine Eb ?_
 refine Eb ?_
 rw [evalPart_some]
 refine thn (hs Ks s1 σ H1 _ I1 q1) fun vs s3 zq2=>?_
 obtain ⟨k,H3,I3,r3,a,xs,ez,ek,hx,q3⟩:=zq2
 subst ez ek
 cases r1
 obtain ⟨tk,rfl⟩:=r3
 have I4:Inv X Ks σ H3 { s3 with heap:=s3.heap.push { cls:=.type "slice",data:=.fields #[.none,.none,.int (-1) tk] } }:=I3.kept (t':=s3.toks) fun b ob q=>D_ _ q
 obtain ⟨its,r,ht,hz⟩:=I4.tuple (SqT.of (K:=X.K) hx)
 show wpAny (model X.prog X.w) X.A (subscriptTail e (.Slice none none (some st) p2) (.ref a) (.ref s3.heap.objs.size)) (EP X Ks σ Q) X.xe { s3 with heap:=s3.heap.push { cls:=.type "slice",data:=.fields #[.none,.none,.int (-1) tk] } }
 refine tail_any (ops:=[.ref a,.ref s3.heap.objs.size]) ht.typeIs Fg.lookup ?_ (by with_unfolding_all rfl)
 refine HT.fq (tk:=tk) ht ⟨_,El _ rfl,rfl,rfl⟩ ?_ (by rw [Eo,← r.length];exact hz)
 refine ⟨.ref _,_,I4.laid (t':=s3.toks) (o:=.tup xs.reverse) (fun b ob q=>D_ _ q) (Eg _) ?_,rfl,q3 _ (I4.hok.fresh (Eg _))⟩
 refine ⟨by rw [GA];exact hz,_,?_,IsTup.new _ _,.new _ _ rfl⟩
 exact r.reverse
end
theorem jl {X:Cx}{K:PySem.W.Frag}(hK:X.K=K):cI X (.builtin "len") (cF K):=by
 subst hK
 exact aE
section
variable {X:Cx}
end
end L2
namespace HT
open PySem PySem.Spec PyProof.Rows PySem.SeqAt
end HT
namespace L2
open PySem PySem.Spec PyProof.Rows Wd
section
variable {X:Cx}
end
end L2
namespace Wd
def PN (n:Nat)(r:List Nat):Prop:=r.Perm (List.range n)
structure Tb (m n:Nat) (t:List (List Nat)):Prop where
 len:t.length=m
 row:∀ r∈t,PN n r
end Wd
namespace Kx
open PySem PySem.Spec PyProof.Rows L2 Wd
def whV:V→Bool
 | .int _=>true
 | _=>false
inductive Wh (K:PySem.W.Frag)(H:Hp):V→Prop
 | mk {x:V} {n:String} {b1 b2:Bool} (ty:fU K H x (.type n)) (e1:PySem.W.kitOne K (.type n) (.type "int")=some b1) (e2:PySem.W.kitOne K (.type n) (.type "bool")=some b2) (h:whV x=(b1 && !b2)):Wh K H x
theorem Cc {K:PySem.W.Frag}:PySem.W.kitOne K (.type "int") (.type "int")=some true:=by unfold PySem.W.kitOne; rw [if_pos (by rfl)]
theorem Cd {K:PySem.W.Frag}:PySem.W.kitOne K (.type "int") (.type "bool")=some false:=by kernel_rfl
theorem Ce {K:PySem.W.Frag}:PySem.W.kitOne K (.type "bool") (.type "int")=some true:=by kernel_rfl
theorem Cg {K:PySem.W.Frag}:PySem.W.kitOne K (.type "bool") (.type "bool")=some true:=by unfold PySem.W.kitOne; rw [if_pos (by rfl)]
theorem Ci {K:PySem.W.Frag}:PySem.W.kitOne K (.type "NoneType") (.type "int")=some false:=by kernel_rfl
theorem Cj {K:PySem.W.Frag}:PySem.W.kitOne K (.type "NoneType") (.type "bool")=some false:=by kernel_rfl
theorem Cn {K:PySem.W.Frag}:PySem.W.kitOne K (.type "str") (.type "int")=some false:=by kernel_rfl
theorem Co {K:PySem.W.Frag}:PySem.W.kitOne K (.type "str") (.type "bool")=some false:=by kernel_rfl
theorem Cq {K:PySem.W.Frag}:PySem.W.kitOne K (.type "list") (.type "int")=some false:=by kernel_rfl
theorem Cr {K:PySem.W.Frag}:PySem.W.kitOne K (.type "list") (.type "bool")=some false:=by kernel_rfl
theorem Ct {K:PySem.W.Frag}:PySem.W.kitOne K (.type "tuple") (.type "int")=some false:=by kernel_rfl
theorem Cu {K:PySem.W.Frag}:PySem.W.kitOne K (.type "tuple") (.type "bool")=some false:=by kernel_rfl
theorem Cv {K:PySem.W.Frag}:PySem.W.kitOne K (.type "dict") (.type "int")=some false:=by kernel_rfl
theorem Cw {K:PySem.W.Frag}:PySem.W.kitOne K (.type "dict") (.type "bool")=some false:=by kernel_rfl
inductive eg (K:PySem.W.Frag)(vs:List V)(H:Hp)(Q:VK)(KC:XK):Prop
 | mk:∀ x,(vs=[x])→(Wh K H x)→(Q (.bl (whV x)) H)→eg K vs H Q KC
inductive Cp (K:PySem.W.Frag)(H:Hp):V→Option (Int × Int)→Prop
 | cap {a:Addr} {i j:Int} (h:H a=some (.tup [.int i,.int j])):Cp K H (.ref a) (some (i,j))
 | tup {a:Addr} {xs:List V} (h:H a=some (.tup xs)) (hx:∀ y∈xs,Wh K H y) (hl:xs.length≤400) (ne:¬ (xs.length=2∧xs.all whV=true)):Cp K H (.ref a) none
 | oth {x:V} {n:String} (ty:fU K H x (.type n)) (e:PySem.W.kitOne K (.type n) (.type "tuple")=some false):Cp K H x none
inductive Cs (K:PySem.W.Frag)(H:Hp):V→Option (List (Option (Int × Int)))→Prop
 | tup {a:Addr} {xs:List V} {cs:List (Option (Int × Int))} (h:H a=some (.tup xs)) (hx:∀ (i:Nat) (x:V),xs[i]? = some x→∃ c,cs[i]? = some c∧Cp K H x c) (hl:xs.length≤400) (hc:cs.length=xs.length):Cs K H (.ref a) (some cs)
 | oth {x:V} {n:String} (ty:fU K H x (.type n)) (e:PySem.W.kitOne K (.type n) (.type "tuple")=some false):Cs K H x none
def fst (c:Option (Int × Int)):Int:=match c with | some (i,_)=>i | none=>0
def iv (r:List Nat):List V:=r.map fun i:Nat=>V.int (i:Int)
theorem Cy:bootBuiltins "set" = some (.type "set"):=by kernel_rfl
def oTx:Option (List L)→V
 | some w=>tx w
 | none=>.non
theorem qO {H:Hp}{d l:Addr}{o:HO}{W:List (List L)}(F:Fd H d)(h:H l=some (.lst (W.map tx)))(n:l≠d):Fd (L2.upd H l o) d:=by
 obtain ⟨c,i,ll,t,ns,h1,h2,h3,h4⟩:=F.ex
 have hc:c≠l:=fun e=>by
  subst e
  rw [h2] at h
  have h:=HO.lst.inj (EE h)
  cases ns with
  | nil=>exact h3 rfl
  | cons a ns =>
   cases W with
   | nil=>cases h
   | cons w W=>cases (E7 h).1
 exact ⟨c,i,ll,t,ns,by rw [ar n.symm];exact h1,by rw [ar hc];exact h2,h3,h4⟩
theorem uO {K:PySem.W.Frag}{C:Addr}:PySem.W.kitOne K (.ref C) (.ref C)=some true:=by unfold PySem.W.kitOne; rw [if_pos (by simp)]
theorem dU {K:PySem.W.Frag}{C R:Addr}{bm:List Value}{dd':Option Addr}{cd':ClassData}{sl':Array (Option Value)}(xC:XCl K C bm)(hl':K.lookup R=some ⟨.type "type",dd',.cls cd',sl'⟩):PySem.W.kitOne K (.ref C) (.ref R)=some ((Value.ref C::bm).contains (.ref R)):=by
 obtain ⟨dd,cd,k0,k1,k2,k3,k5,hl,hm,hd,hh⟩:=xC.obj
 unfold PySem.W.kitOne
 by_cases q:(Value.ref C == Value.ref R)=true
 ·rw [if_pos q,FQ.mp q];simp
 ·rw [if_neg q]
  unfold PySem.W.kitCls
  have h1:(PySem.W.clsIn K R).isSome=true:=by unfold PySem.W.clsIn;rw [hl'];rfl
  have h2:PySem.W.typeIn K (.ref R)=some (.type "type"):=by
   show (K.lookup R).map (·.cls)=_
   rw [hl'];rfl
  simp only [h1,h2,GE,Bool.and_self,Hg]
  unfold PySem.W.subIn PySem.W.mroIn PySem.W.clsIn
  simp only [hl,Option.bind_some,hm,List.isEmpty_cons,IR,Jw]
end Kx
namespace L2
open PySem PySem.Spec PyProof.Rows Wd
section
variable {X:Cx}
end
end L2
namespace Kx
open PySem PySem.Spec PyProof.Rows L2 Wd
def oL (o:Option (List L)):List V:=o.toList.map tx
theorem at1 {α:Type}(a b:α)(t:List α):atI (a::b::t) (1:Int)=some b:=fb (j:=1) rfl
theorem au {n:Nat}(h:n≤16777216):n≤sizeLine:=by rw [aT]; exact h
theorem bW {t u:TS}{D:gW}{σ:L2.St}{H:Hp}(h:t D σ H):kP t u D σ true H:=pw h
theorem et {t u:TS}{D:gW}{σ:L2.St}{H:Hp}(h:u D σ H):kP t u D σ false H:=nJ h
theorem gM {u:TT}{σ:L2.St}{Q:Bool→Hp→Prop}{H:Hp}(h:Q true H):oI u σ Q true H:=pw h
theorem ir {u:TT}{σ:L2.St}{Q:Bool→Hp→Prop}{H:Hp}(h:u σ H Q):oI u σ Q false H:=nJ h
theorem Cz {u:TT}{σ:L2.St}{Q:Bool→Hp→Prop}{H:Hp}(h:u σ H Q):oH u σ Q true H:=pw h
theorem Dk {ta tb:TE}{σ:L2.St}{Q:VK}{H:Hp}(h:ta σ H Q):oM ta tb σ Q true H:=pw h
theorem Dl {ta tb:TE}{σ:L2.St}{Q:VK}{H:Hp}(h:tb σ H Q):oM ta tb σ Q false H:=nJ h
end Kx
namespace L2
open PySem PySem.Spec PyProof.Rows Wd
end L2
namespace Kx
open PySem PySem.Spec PyProof.Rows L2 Wd
theorem kx:bootBuiltins "ValueError" = some (.type "ValueError"):=by first | rfl | decide +kernel | kernel_rfl
theorem nkF {Q:Bool→Hp→Prop}{H:Hp}(h:Q true H):kO Q false H:=h
theorem nkT {Q:Bool→Hp→Prop}{H:Hp}(h:Q false H):kO Q true H:=h
def XP (C:Addr)(H:Hp)(a:Addr)(z:Str)(k:Nat):Prop:=∃ dx,H a=some (Exo a C (some dx) false)∧H dx=some (Xdt dx [("word",.str z),("at",.int (k:Nat))])
end Kx
namespace Tv
open PySem PyProof.Rows
variable {κ:KeyKind} {kd:SortKind}
section
variable {prog:Program} {w:World} {A:Around} {E:Value→Shared→Prop} {s:Shared}
end
end Tv
namespace Tv
open PySem PyProof.Rows
variable {κ:KeyKind} {kd:SortKind}
section
variable {prog:Program} {w:World} {A:Around} {E:Value→Shared→Prop} {s:Shared}
end
end Tv
namespace Tv
open PySem PyProof.Rows
variable {κ:KeyKind} {kd:SortKind}
section
variable {prog:Program} {w:World} {A:Around} {E:Value→Shared→Prop} {s:Shared}
end
end Tv
namespace Ts
open PySem PyProof.Rows
section
variable {κ:KeyKind} {prog:Program} {w:World} {A:Around} {E:Value→Shared→Prop} {s:Shared}
end
end Ts
namespace L2
open PySem PySem.Spec PyProof.Rows Wd Ts
section
variable {prog:Program} {w:World} {A:Around} {E:Value→Shared→Prop} {s:Shared}
end
section
variable {X:Cx}
end
end L2
namespace PySem
open Sem (wp)
def ddi (val:Nat→Int):Nat→List Int
 | 0=>[]
 | i+1=>if val i∈ddi val i then ddi val i else ddi val i++[val i]
theorem qP (val:Nat→Int):∀ i,(ddi val i).length≤i
 | 0=>Eg _
 | i+1=>by
  have ih:=qP val i
  unfold ddi
  split
  ·omega
  ·rw [Ec,En];omega
theorem gN (val:Nat→Int):∀ i,(ddi val i).Nodup
 | 0=>by unfold ddi;exact HW
 | i+1=>by
  unfold ddi
  split
  ·exact gN val i
  ·rename_i h
   exact List.nodup_append.mpr ⟨gN val i,EN.mpr ⟨Ek,HW⟩,fun a ha b hb e=>h (by rw [Eu] at hb;subst hb;subst e;exact ha)⟩
theorem qQ (val:Nat→Int)(z:Int):∀ i,z∈ddi val i ↔ ∃ j,j < i∧val j=z
 | 0=>by unfold ddi;simp
 | i+1=>by
  have ih:=qQ val z i
  unfold ddi
  split
  ·rename_i h
   rw [ih]
   constructor
   ·rintro ⟨j,hj,e⟩;exact ⟨j,by omega,e⟩
   ·rintro ⟨j,hj,e⟩
    by_cases q:j=i
    ·subst q
     rw [← e]
     rw [e] at h ⊢
     exact ih.mp h
    ·exact ⟨j,by omega,e⟩
  ·rw [EL,ih,Eu]
   constructor
   ·rintro (⟨j,hj,e⟩ | e)
    ·exact ⟨j,by omega,e⟩
    ·exact ⟨i,by omega,e.symm⟩
   ·rintro ⟨j,hj,e⟩
    by_cases q:j=i
    ·subst q;exact .inr e.symm
    ·exact .inl ⟨j,by omega,e⟩
section
variable {prog:Program} {w:World} {A:Around} {E:Value→Shared→Prop} {s:Shared}
def ky (prog:Program)(w:World)(h:Heap)(a:Addr)(dl:List Int):Prop :=
 ∃ o es ep t,h.get? a=some o∧o.ExactSet∧o.data = .set es ep t∧ElemsOf (intKind prog w) es.toList∧(∀ k,k∈dl ↔ ∃ e∈es.toList,(intKind prog w).is k e.2=true)∧es.size < scanBound∧t.fits es.size=true∧es.size=dl.length∧t.led=ldr w
theorem Dm {a:Addr}{o:Obj}{es KD:Array (Int × Value)}{ep:Nat}{t t2:SetTable}{dl:List Int}(ho:s.heap.get? a=some o)(hex:o.ExactSet)(hd:o.data = .set es ep t)(hel:ElemsOf (intKind prog w) KD.toList)
  (hm:∀ k,k∈dl ↔ ∃ e∈KD.toList,(intKind prog w).is k e.2=true) (hb:KD.size < scanBound) (hf:t2.fits KD.size=true) (hn:KD.size=dl.length) (hld:t2.led=ldr w) :
  (s.heap.update a (Obj.putSet KD t2)).get? a=some { o with data:=.set KD (ep+1) t2 }∧ky prog w (s.heap.update a (Obj.putSet KD t2)) a dl:=by
 have hg:(s.heap.update a (Obj.putSet KD t2)).get? a=some { o with data:=.set KD (ep+1) t2 }:=by
  have q:=E_ (Obj.putSet KD t2) ho (by rw [putSet_of KD t2 hd];rfl)
  rwa [putSet_of KD t2 hd] at q
 exact ⟨hg,_,KD,ep+1,t2,hg,hex,rfl,hel,hm,hb,hf,hn,hld⟩
theorem D3 {a:Addr}{dl:List Int}{z:Int}{u:Tok}{Q:Bool→Shared→Prop}(hS:ky prog w s.heap a dl)(hroom:dl.length+1 < scanBound)
  (h:∀ h' b,Heap.SameBut a s.heap h'→ky prog w h' a (if z∈dl then dl else dl++[z])→Q b { s with heap:=h' }) :
  wpAny (model prog w) A (setAddHashed a (.int z u) ((intKind prog w).hash z)) Q E s:=by
 obtain ⟨o,es,ep,t,ho,hex,hd,hel,hm,hb,hf,hn,hld⟩:=hS
 have hkey:(intKind prog w).is z (.int z u)=true:=intKind_is prog w z u
 have hsc:(Value.int z u).scannable=true:=rfl
 unfold setAddHashed setAddHashedIn
 refine FE (fu (wpAny_setState_of ho hd hf ?_))
 dsimp only
 rw [byScan_of (knd:=intKind prog w) hsc hb hel]
 simp only [↓reduceIte]
 unfold setAddByScan
 refine fu (fu (G7 (fu (wpAny_setScan_of (knd:=intKind prog w) hkey ho hd hf hel ?_))))
 cases hr:List.findIdx? (fun e=>(intKind prog w).is z e.2) es.toList with
 | some j =>
  dsimp only
  obtain ⟨hj,hpj,_⟩:=List.findIdx?_eq_some_iff_getElem.mp hr
  have hz:z∈dl:=(hm z).mpr ⟨es.toList[j],Gg hj,hpj⟩
  refine Eb (Eb ?_)
  have q:=h s.heap false (Heap.SameBut.refl a s.heap) (by rw [if_pos hz];exact ⟨o,es,ep,t,ho,hex,hd,hel,hm,hb,hf,hn,hld⟩)
  have e:s={ s with heap:=s.heap }:=by cases s;rfl
  rw [e];exact q
 | none =>
  dsimp only
  have hz:z∉dl:=fun hz=>by
   obtain ⟨e,he,hp⟩:=(hm z).mp hz
   have q:=List.findIdx?_eq_none_iff.mp hr e he
   rw [hp] at q
   cases q
  have hq:∀ h',Heap.SameBut a s.heap h'→ky prog w h' a (dl++[z])→Q true { s with heap:=h' }:=fun h' sb hs=>h h' true sb (by rw [if_neg hz];exact hs)
  have Lk:=layNew_perm t es ((intKind prog w).hash z) (.int z u)
  have hfits:=layNew_fits t es ((intKind prog w).hash z) (.int z u)
  have Li:(layNew t es ((intKind prog w).hash z) (.int z u)).2.1.led=ldr w:=oh.trans hld
  generalize hL:layNew t es ((intKind prog w).hash z) (.int z u)=L at Lk hfits Li ⊢
  obtain ⟨KD,t1,wasDummy,gave⟩:=L
  dsimp only at Lk hfits Li ⊢
  rw [Array.toList_push] at Lk
  have hel1:ElemsOf (intKind prog w) KD.toList:=(hel.push hkey hsc).perm Lk
  have hm1:∀ k,k∈dl++[z] ↔ ∃ e∈KD.toList,(intKind prog w).is k e.2=true:=fun k=>by
   rw [← mem_push_iff (knd:=intKind prog w) (S:=fun k=>decide (k∈dl)) hkey (fun k=>by rw [Gj];exact hm k) Lk k]
   simp
  have hsz1:KD.size=(dl++[z]).length:=by rw [← E4,Lk.length_eq,Ec,E4,hn,Ec];rfl
  have hb1:KD.size < scanBound:=by rw [hsz1,Ec];exact hroom
  have tail:∀ t2:SetTable,t2.led=ldr w→t2.fits KD.size=true→wpAny (model prog w) A (do
    storeSet a KD t2
    if (!wasDummy && t2.tooFull)=true then do
      (match (relayAll t2 KD (SetTable.grown KD.size)).2.2 with | true=>rule "set.scan.the-table-gave-way" | false=>pure ())
      storeSet a (relayAll t2 KD (SetTable.grown KD.size)).1 (relayAll t2 KD (SetTable.grown KD.size)).2.1
      pure (some true)
     else pure (some true)) (fun r s'=>wpAny (model prog w) A (match r with | some added=>pure added | none=>setAddHashedIn a (.int z u) ((intKind prog w).hash z) 99999) Q E s') E s:=fun t2 hd2 hf2=>by
   refine fu (wpAny_storeSet_of ho hd ?_ (fits_of_scanBound hb1))
   obtain ⟨ho1,hS1⟩:=Dm ho hex hd hel1 hm1 hb1 hf2 hsz1 hd2
   have hsb1:=Gy s.heap a (Obj.putSet KD t2)
   split
   ·have hp:=relayAll_perm t2 KD (SetTable.grown KD.size)
    have KY:=relayAll_fits t2 KD (SetTable.grown KD.size)
    have hof2:=(ku (t:=t2) (es:=KD) (w:=SetTable.grown KD.size)).trans hd2
    generalize relayAll t2 KD (SetTable.grown KD.size)=Rl at hp KY hof2 ⊢
    obtain ⟨es2,t3,gave2⟩:=Rl
    dsimp only at hp KY hof2 ⊢
    have hsz:es2.size=KD.size:=by rw [← E4,hp.length_eq,E4]
    have go:wpAny (model prog w) A (storeSet a es2 t3 >>= fun _=>pure (some true)) (fun r s'=>wpAny (model prog w) A (match r with | some added=>pure added | none=>setAddHashedIn a (.int z u) ((intKind prog w).hash z) 99999) Q E s') E { s with heap:=s.heap.update a (Obj.putSet KD t2) }:=by
     refine fu (wpAny_storeSet_of ho1 rfl ?_ (fits_of_scanBound (by rw [hsz];exact hb1)))
     obtain ⟨_,hS2⟩:=Dm (s:={ s with heap:=s.heap.update a (Obj.putSet KD t2) }) ho1 hex rfl (hel1.perm hp) (fun k=>(hm1 k).trans ⟨fun zq2=>(by obtain ⟨e,he,q⟩:=zq2;exact ⟨e,hp.mem_iff.mpr he,q⟩),fun Lg=>(by obtain ⟨e,he,q⟩:=Lg;exact ⟨e,hp.mem_iff.mp he,q⟩)⟩) (by rw [hsz];exact hb1) KY (hsz.trans hsz1) hof2
     exact Eb (Eb (hq _ (hsb1.trans (Gy _ a _)) hS2))
    cases gave2
    ·exact fu (Eb go)
    ·exact fu (G7 go)
   ·exact Eb (Eb (hq _ hsb1 hS1))
  have rest:wpAny (model prog w) A (do
    let byValue ← if t1.plain=true then hashByValue 8 (.int z u) else pure true
    storeSet a KD (if byValue=true then t1 else { t1 with plain:=false })
    if (!wasDummy && (if byValue=true then t1 else { t1 with plain:=false }:SetTable).tooFull)=true then do
      (match (relayAll (if byValue=true then t1 else { t1 with plain:=false }) KD (SetTable.grown KD.size)).2.2 with | true=>rule "set.scan.the-table-gave-way" | false=>pure ())
      storeSet a (relayAll (if byValue=true then t1 else { t1 with plain:=false }) KD (SetTable.grown KD.size)).1 (relayAll (if byValue=true then t1 else { t1 with plain:=false }) KD (SetTable.grown KD.size)).2.1
      pure (some true)
     else pure (some true)) (fun r s'=>wpAny (model prog w) A (match r with | some added=>pure added | none=>setAddHashedIn a (.int z u) ((intKind prog w).hash z) 99999) Q E s') E s:=by
   by_cases hp1:t1.plain=true
   ·rw [if_pos hp1]
    refine fu ?_
    rw [hashByValue_scannable 8 hsc]
    refine Eb ?_
    exact tail t1 Li hfits
   ·rw [if_neg hp1]
    refine fu (Eb ?_)
    exact tail t1 Li hfits
  cases gave
  ·exact fu (Eb rest)
  ·exact fu (G7 rest)
theorem ky.at {h h':Heap}{a:Addr}{dl:List Int}(hS:ky prog w h a dl)(k:∀ o,h.get? a=some o→h'.get? a=some o):ky prog w h' a dl:=by
 obtain ⟨o,es,ep,t,ho,r⟩:=hS
 exact ⟨o,es,ep,t,k o ho,r⟩
section
variable {R:Result→Shared→Prop} {I:Addr} {fp wr:List Addr} {G:Array GenState→Array GenState→Prop} {n:Nat} {P:Nat→Value→Prop} {St:Nat→Shared→Prop}
theorem D4 (W:WalksS prog w A.in1 I fp wr G n P St)(S:Addr)(hSf:S∉fp)(val:Nat→Int)(hval:∀ i v,P i v→∃ t,v = .int (val i) t)(hb:n+1 < scanBound) :
  ∀ (k i:Nat) (s:Shared),n - i=k→i≤n→St i s→ky prog w s.heap S (ddi val i)→(∀ s',Moved (S::wr) G s s'→ky prog w s'.heap S (ddi val n)→R (.ok (.ret .none)) s') →
   codeAny (model prog w) A (.builtin "set.update.loop" ⟨[.ref S,.ref I],[]⟩) R s:=by
 have nw:S∉wr:=fun q=>hSf (W.sub _ q)
 have sub:∀ b∈wr,b∈S::wr:=fun b q=>Ej _ q
 intro k
 induction k with
 | zero =>
  intro i s hk hi st hS hR
  obtain rfl:i=n:=by omega
  refine Hv Ha ?_
  rw [Io FW _]
  show wpAny _ A.in1 (pyNext (.ref I) >>= _) _ _ s
  refine fu (W.done s _ _ st fun s' mv=>?_)
  show wpAny _ A.in1 (ret Value.none) _ _ s'
  exact Eb (hR s' (mv.mono sub) (hS.at fun o q=>mv.heap S o nw q))
 | succ k ih =>
  intro i s hk hi st hS hR
  have KB:i < n:=by omega
  refine Hv Ha ?_
  rw [Io FW _]
  show wpAny _ A.in1 (pyNext (.ref I) >>= _) _ _ s
  refine fu (W.item i s _ _ KB st fun v s' hP Lm mv=>?_)
  obtain ⟨u,rfl⟩:=hval i v hP
  have hS':ky prog w s'.heap S (ddi val i):=hS.at fun o q=>mv.heap S o nw q
  show wpAny _ A.in1 (holding [Value.int (val i) u] (setAdd S (.int (val i) u)) >>= _) _ _ s'
  refine fu (FE ?_)
  unfold setAdd
  refine FE (fu ((intKind prog w).pyHash (k:=val i) (intKind_is _ _ _ _) ?_))
  have hl:=qP val i
  refine D3 (s:={ s' with toks:=s'.toks+1 }) hS' (by omega) fun h' b sb hS2=>?_
  refine Eb ⟨plainId_quiet FW _,ih (i+1) _ (by omega) KB (W.frame _ s' _ _ Lm (Hh _) fun c hc o q=>?_) (by unfold ddi;exact hS2) fun s'' mv2 hS3=>?_⟩
  ·rw [sb.2 c (fun e:c=S=>hSf (e ▸ hc))];exact q
  ·refine hR s'' (Moved.trans W.gtrans ((mv.mono sub).then_heap (Hh _) fun c o hc q=>?_) mv2) hS3
   rw [sb.2 c (fun e:c=S=>hc (e ▸ Ex))];exact q
end
set_option maxHeartbeats 3200000 in
theorem qR {l:Addr}{its:Array Value}{val:Nat→Int}{Q:Value→Shared→Prop}(hh:A.handled=none)(hl:s.heap.IsList l its)(hval:∀ (i:Nat) (v:Value),its[i]? = some v→∃ t,v = .int (val i) t)(hb:its.size+1 < scanBound)
  (h:∀ (h':Heap) (tk:Nat),ky prog w h' s.heap.objs.size (ddi val its.size)→(∀ b o,b < s.heap.objs.size→s.heap.get? b=some o→h'.get? b=some o)→Q (.ref s.heap.objs.size) { s with heap:=h',toks:=tk }) :
  wpAny (model prog w) A (call (.type "set") [.ref l]) Q E s:=by
 obtain ⟨c,tl,hmro⟩:=F.called_set.mro
 have hmade:=F.called_set.made
 have hsub:=F.called_set.sub
 refine Hj (Jt ?_)
 show wpAny _ _ (callAny (.type "set") _) _ _ _
 refine Eb ⟨IT _ (by decide +kernel),Hv F.entry_type_call ?_⟩
 rw [Around.under_plain (weight_type_call_type "set" [.ref l] []) rfl]
 have x1:=F.called_set.notType
 have x2:=F.called_set.canCreate
 have x3:=F.typeCall_set_1 (.ref l)
 repeat (any_goals (first | assumption | wp_step))
 refine Gv (jk (.ref l) (E:=E) (Q₁:=fun ob s1=>ob = .ref s.heap.objs.size∧s1={ s with heap:=s.heap.push (sob (ldr w)) }) ⟨rfl,rfl⟩) fun r s1 hr=>?_
 cases r with
 | error e=>exact hr
 | ok fl =>
  cases fl with
  | ret ob =>
   obtain ⟨rfl,rfl⟩:=hr
   have gS:(s.heap.push (sob (ldr w))).get? s.heap.objs.size=some (sob (ldr w)):=El _ rfl
   have hT:Shared.TypeIs { s with heap:=s.heap.push (sob (ldr w)) } (.ref s.heap.objs.size) "set":=⟨_,gS,rfl⟩
   have x4:=F.called_set.init.lookup
   have x5:=F.called_set.init.bind (.ref s.heap.objs.size)
   repeat (any_goals (first | assumption | wp_step))
   refine Gv (G_ (R:=wants (fun r s2=>r = .none∧∃ h' tk,s2={ s with heap:=h',toks:=tk }∧ky prog w h' s.heap.objs.size (ddi val its.size)∧(∀ b o,b < s.heap.objs.size→s.heap.get? b=some o→h'.get? b=some o)) E) F.called_set.init.plain F.entry_set_init (check_set_init_1 hT ?_)) fun r2 s2 hr2=>?_
   ·obtain ⟨⟨oc,od,odt,K2⟩,gl,hc,nl,hd⟩:=hl
    simp only at hc hd
    subst hc;subst hd
    have gl':(s.heap.push (sob (ldr w))).get? l=some { cls:=.type "list",dict:=od,data:=.seq its nl,slots:=K2 }:=D_ _ gl
    have y1:=F.sub_list_set
    have y2:=F.sub_list_frozenset
    have y3:(Value.type "list" == Value.type "dict")=false:=by decide
    have L1:(s.heap.push (sob (ldr w))).IsList l its:=⟨_,gl',rfl,nl,rfl⟩
    unfold Builtin.«set.__init__» noKeywords Builtin.Frozenset.updateFrom
    generalize hPI:pyIter=PI
    wp_walk
    subst hPI
    refine Ja L1 (fu (wpAny_runValue ?_))
    have llt:l < s.heap.objs.size:=Em gl
    have z1:(s.heap.push (sob (ldr w))).objs.size=s.heap.objs.size+1:=Fw ..
    have nI:l≠(s.heap.push (sob (ldr w))).objs.size:=by rw [z1];exact EK (Nat.lt_succ_of_lt llt)
    have nf:s.heap.objs.size∉[(s.heap.push (sob (ldr w))).objs.size,l]:=by
     rw [z1];simp only [Ei,Eu,Ek,EW,not_or]
     exact ⟨EK (Nat.lt_succ_self _),Gh llt⟩
    refine D4 ((Walks.list (by simp [hh]) _ l nI its).toS) s.heap.objs.size nf val hval hb (its.size - 0) 0 _ (by omega) (E5 _) ⟨⟨_,El _ rfl,rfl,rfl⟩,L1.push _⟩ ?s0 ?rr
    case s0=>exact ⟨_,#[],0,_,D_ _ gS,⟨rfl,rfl,rfl⟩,rfl,fun e he=>by simp at he,fun k=>by simp [ddi],by decide,by rfl,rfl,rfl⟩
    case rr =>
     intro s' mv hS'
     obtain ⟨h',g',d',tk',os'⟩:=s'
     obtain rfl:g'=s.gens:=mv.gens
     obtain rfl:d'=s.drawn:=mv.drawn
     obtain rfl:os'=s.os:=mv.os
     show wpAny _ _ _ _ _ _
     refine Eb ?_
     show wpAny _ _ (ret Value.none) _ _ _
     refine Eb ⟨rfl,h',tk',rfl,hS',fun b o KB e=>mv.heap b o ?_ (D_ _ (D_ _ e))⟩
     simp only [Ei,Eu,Ek,EW,not_or]
     exact ⟨EK KB,by rw [z1];exact EK (Nat.lt_succ_of_lt KB)⟩
   ·cases r2 with
    | error e=>exact hr2
    | ok fl2 =>
     cases fl2 with
     | ret r =>
      obtain ⟨rfl,h',tk,rfl,hS',hk'⟩:=hr2
      repeat (any_goals (first | assumption | wp_step))
      exact h _ _ hS' hk'
     | _=>exact hr2.elim
  | _=>exact hr.elim
end
end PySem
namespace L2
open PySem PySem.Spec PyProof.Rows Wd
section
variable {X:Cx}
def SiO (P:Program)(w:World)(a:Addr)(dl:List Int):HO:=.ext fun h=>ky P w h a dl
theorem ky.lay {P:Program}{w:World}{H:Hp}{h:Heap}{a:Addr}{dl:List Int}(x:ky P w h a dl):bz P w H h a (SiO P w a dl):=by
 refine ⟨x,?_,fun h1 h2 y k=>y.at k⟩
 obtain ⟨o,_,_,_,e,_⟩:=x
 exact ⟨o,e⟩
inductive dJ (K:PySem.W.Frag)(P:PySem.Program)(w:PySem.World)(xs:List V)(H:Hp)(Q:VK):Prop
 | mk:∀ (l:Addr) (ys:List Int),(xs=[.ref l])→(SqL K H l (ys.map V.int))→(ys.length≤4000)→(∀ (p:Addr) (dl:List Int),H p=none→dl.Nodup→(∀ z,z∈dl ↔ z∈ys)→Q (.ref p) (upd H p (SiO P w p dl)))→dJ K P w xs H Q
theorem jm (hc:X.calm=true):cI X (.type "set") (dJ X.K X.prog X.w):=by
 intro Ks s σ H xs us Q I r h
 obtain ⟨l,ys,rfl,hq,hz,q⟩:=h
 obtain ⟨u,rfl,ru⟩:=cJ r
 cases ru
 obtain ⟨its,rv,pl,_⟩:=I.list hq
 have hlen:its.length=ys.length:=by rw [← rv.length,Ea]
 have hat:∀ (i:Nat) (v:Value),its.toArray[i]? = some v→∃ t,v = .int (ys.getD i 0) t:=fun i v e=>by
  rw [List.getElem?_toArray] at e
  have hi:i < ys.length:=by
   have:=(Ef.mp e).1
   omega
  obtain ⟨u,eu,t,rfl⟩:=rv.get (i:=i) (x:=.int ys[i]) (by rw [Er,Ee hi];rfl)
  rw [e] at eu
  cases eu
  exact ⟨t,by rw [Ew,Ee hi];rfl⟩
 refine qR (I.ok.hd hc) pl.isList hat (by rw [Eo,hlen];show _ < 4096;omega) fun h' tk hS k=>?_
 refine ⟨.ref s.heap.objs.size,_,I.laid (fun b o e=>k b o (Em e) e) (Eg _) (ky.lay hS),rfl,q _ _ (I.hok.fresh (Eg _)) (gN _ _) fun z=>?_⟩
 rw [qQ,Eo,hlen]
 constructor
 ·rintro ⟨j,hj,rfl⟩
  rw [Ew,Ee hj]
  exact Gg _
 ·intro hm
  obtain ⟨j,hj,e⟩:=List.mem_iff_getElem.mp hm
  exact ⟨j,hj,by rw [Ew,Ee hj];exact e⟩
inductive eP (P:PySem.Program)(w:PySem.World)(xs:List V)(H:Hp)(Q:VK):Prop
 | mk:∀ (a:Addr) (dl:List Int),(xs=[.ref a])→(H a=some (SiO P w a dl))→(Q (.int (dl.length:Int)) H)→eP P w xs H Q
theorem lA:cI X (.builtin "len") (eP X.prog X.w):=by
 intro Ks s σ H xs us Q I r h
 obtain ⟨a,dl,rfl,ha,q⟩:=h
 obtain ⟨u,rfl,ru⟩:=cJ r
 cases ru
 have hS:ky X.prog X.w s.heap a dl:=(I.hok a _ ha).1
 obtain ⟨o,es,ep,t,ho,hex,hd,hel,hm,hb,hf,hn,hld⟩:=hS
 have hb:es.size < 4096:=hb
 refine call_len_set ho hex hd hf (by omega) ?_
 rw [hn]
 exact ⟨.int (dl.length:Int),H,(I.tok _).tok _,⟨_,rfl⟩,q⟩
end
theorem om (u:List L)(e:L):Txt.replace (toS u) ⟨#[cp e]⟩ "" = toS (u.filter (fun x=>decide (x≠e))):=by
 have h:=replace_strikes (toS u) (cp e)
 have e0:("":Str)=⟨#[]⟩:=by decide +kernel
 rw [e0]
 have h2:(toS (u.filter (fun x=>decide (x≠e)))).cps.toList=(toS u).cps.toList.filter (· != cp e):=by
  rw [bt,bt,List.filter_map]
  congr 1
  refine List.filter_congr fun x _=>?_
  show decide (x≠e)=(cp x != cp e)
  by_cases z:x=e
  ·subst z;simp
  ·rw [Eh z]
   have:cp x≠cp e:=fun q=>z (vV x e q)
   simp [this]
 have h3:(Txt.replace (toS u) ⟨#[cp e]⟩ ⟨#[]⟩).cps=(toS (u.filter (fun x=>decide (x≠e)))).cps:=Array.toList_inj.mp (h.trans h2.symm)
 generalize Txt.replace (toS u) ⟨#[cp e]⟩ ⟨#[]⟩=z at h3
 cases z
 cases hh:toS (u.filter (fun x=>decide (x≠e)))
 rw [hh] at h3
 exact EX Str.mk h3
end L2
namespace Kx
open PySem PySem.Spec PyProof.Rows L2 Wd
structure lC (H:Hp) (ps:List Addr) (ss:List (Nat × Int)):Prop where
 len:ps.length=ss.length
 at_:∀ (k:Nat) (s:Nat × Int),ss[k]? = some s→∃ p,ps[k]? = some p∧H p=some (.tup [.int (s.1:Int),.int s.2])
theorem lC.nil (H:Hp):lC H [] []:=⟨rfl,fun k s h=>by simp at h⟩
theorem lC.to {H H':Hp}{ps:List Addr}{ss:List (Nat × Int)}(h:lC H ps ss)(k:∀ b xs,H b=some (.tup xs)→H' b=some (.tup xs)):lC H' ps ss:=⟨h.len,fun j s e=>by
 obtain ⟨p,h1,h2⟩:=h.at_ j s e
 exact ⟨p,h1,k _ _ h2⟩⟩
theorem lC.same {H H':Hp}{ps:List Addr}{ss:List (Nat × Int)}(h:lC H ps ss)(s:av H H'):lC H' ps ss:=h.to fun b xs e=>s _ _ e
theorem lC.snoc {H:Hp}{ps:List Addr}{ss:List (Nat × Int)}(h:lC H ps ss){p:Addr}{s:Nat × Int}(e:H p=some (.tup [.int (s.1:Int),.int s.2])):lC H (ps++[p]) (ss++[s]):=⟨by rw [Ec,Ec,h.len]; rfl,fun k t ht=>by
 by_cases hk:k < ss.length
 ·rw [FP hk] at ht
  obtain ⟨p',h1,h2⟩:=h.at_ k t ht
  exact ⟨p',by rw [FP (by rw [h.len];exact hk)];exact h1,h2⟩
 ·have:k=ss.length:=by
   have:=(Ef.mp ht).1
   rw [Ec,En] at this
   omega
  subst this
  rw [E8 (Eg _),Ju] at ht
  cases ht
  exact ⟨p,by rw [← h.len,E8 (Eg _),Ju];rfl,e⟩⟩
inductive lD (vs:List V)(H:Hp)(Q:VK)(KC:XK):Prop
 | mk:∀ (d:Addr) (n:Nat),(vs=[.ref d,.int (n:Int)])→(Fd H d)→(1≤n)→(n≤6)→(∀ (u:List L) (H':Hp),Au n u→(∀ x:L,x.val % 6 < n→x∈u)→Fd H' d→a_ d H H'→Q (tx u) H')→lD vs H Q KC
inductive lE (vs:List V)(H:Hp)(Q:VK)(KC:XK):Prop
 | mk:∀ (u:List L) (t:Addr) (i:Nat) (sd:Int) (e:L),(vs=[tx u,.ref t])→(H t=some (.tup [.int (i:Int),.int sd]))→(u.Nodup)→(u.length≤12)→(inv (a9 u i sd)∈u)→(u[i]? = some e)→(a9 u i sd≠inv e)→(∀ (H':Hp),av H H'→Q (tx (sld u e (inv (a9 u i sd)) (decide (sd=1)))) H')→lE vs H Q KC
end Kx
namespace L2
open PySem PySem.Spec PyProof.Rows
section
variable {X:Cx}
end
end L2
namespace Kx
open PySem PySem.Spec PyProof.Rows L2 Wd
def slW (u:List L)(z sd:Int):Option (List L):=if 0≤z∧z < (u.length:Int) then (if a9 u z.toNat sd=inv (u.getD z.toNat 0) then none else some (sld u (u.getD z.toNat 0) (inv (a9 u z.toNat sd)) (decide (sd=1)))) else none
theorem ya {u:List L}{z sd:Int}(h:¬ (0≤z∧z < (u.length:Int))):slW u z sd=none:=by unfold slW; rw [if_neg h]
theorem eQ {u:List L}{i:Nat}{sd:Int}{e:L}(he:u[i]? = some e):slW u (i:Int) sd=if a9 u i sd=inv e then none else some (sld u e (inv (a9 u i sd)) (decide (sd=1))):=by
 have hi:=(Ef.mp he).1
 unfold slW
 rw [if_pos ⟨by omega,by omega⟩,EH,Ew,he]
 rfl
theorem dM {u:List L}{z sd:Int}:(slW u z sd=none∧¬ (0≤z∧z < (u.length:Int))) ∨ ∃ i e,z=((i:Nat):Int)∧u[i]? = some e:=by
 by_cases h:0≤z∧z < (u.length:Int)
 ·refine .inr ⟨z.toNat,u[z.toNat]'(by omega),by omega,Ee _⟩
 ·exact .inl ⟨ya h,h⟩
theorem bS {H:Hp}{a dx:Addr}{o o' o2:HO}(ha:H a=none)(hd:H dx=none):av H (upd (upd (upd H a o) dx o') a o2):=fun b u e=>by
 have ne:∀ {x:Addr},H x=none→b≠x:=fun h z=>by rw [z,h] at e;cases e
 rw [ar (ne ha),ar (ne hd),ar (ne ha)];exact e
inductive qS (vs:List V)(H:Hp)(Q:VK)(KC:XK):Prop
 | mk:∀ (u:List L) (t:Addr) (z sd:Int),(vs=[tx u,.ref t])→(H t=some (.tup [.int z,.int sd]))→(u≠[])→(u.length≤100)→(∀ H',av H H'→Q (.bl (slW u z sd).isSome) H')→qS vs H Q KC
inductive gO (vs:List V)(H:Hp)(Q:VK)(KC:XK):Prop
 | mk:∀ (u:List L) (z sd:Int),(vs=[tx u,.int z,.int sd])→(u≠[])→(u.length≤12)→(∀ H',av H H'→Q (oTx (slW u z sd)) H')→gO vs H Q KC
theorem yb {n:Nat}{u:List L}(R:Au n u)(hx:∀ x:L,x.val % 6 < n→x∈u)(h1:1≤n)(h6:n≤6):Srf u:=by
 have hl:=R.len
 refine ⟨fun e=>by rw [e] at hl;simp at hl;omega,R.nd,fun x hxu=>hx _ ?_,by omega⟩
 have:=R.ins x hxu
 revert this
 have:∀ y:L,(inv y).val % 6=y.val % 6:=by decide
 rw [this]
 exact id
theorem far_mem {u:List L}(S:Srf u)(i:Nat)(sd:Int):a9 u i sd∈u:=Es (ji S.ne i sd)
theorem eR {u v:List L}{z sd:Int}(S:Srf u)(h:slW u z sd=some v):v.Perm u:=by
 rcases dM (u:=u) (z:=z) (sd:=sd) with ⟨e,_⟩ | ⟨i,e,rfl,he⟩
 ·rw [e] at h;cases h
 ·rw [eQ he] at h
  split at h
  ·cases h
  ·rename_i hc
   cases h
   exact m9 S.nd (Es he) (S.iv _ (far_mem S i sd)) (fun q=>hc (by rw [← q,bB])) _
end Kx
namespace L2
open PySem PySem.Spec PyProof.Rows Wd
end L2
namespace Kx
open PySem PySem.Spec PyProof.Rows L2 Wd
structure SlZ (H:Hp) (ps:List Addr) (ss:List (Int × Int)):Prop where
 len:ps.length=ss.length
 at_:∀ (k:Nat) (s:Int × Int),ss[k]? = some s→∃ p,ps[k]? = some p∧H p=some (.tup [.int s.1,.int s.2])
theorem SlZ.nil (H:Hp):SlZ H [] []:=⟨rfl,fun k s h=>by simp at h⟩
theorem SlZ.to {H H':Hp}{ps:List Addr}{ss:List (Int × Int)}(h:SlZ H ps ss)(k:∀ b xs,H b=some (.tup xs)→H' b=some (.tup xs)):SlZ H' ps ss:=⟨h.len,fun j s e=>by
 obtain ⟨p,h1,h2⟩:=h.at_ j s e
 exact ⟨p,h1,k _ _ h2⟩⟩
def Sd4 (ss:List (Int × Int)):Prop:=∀ s∈ss,s.2=1 ∨ s.2 = -1
def dsl (ss:List (Int × Int)):List PyData:=ss.map fun s=>.tuple [.int s.1,.int s.2]
end Kx
namespace L2
open PySem PySem.Spec PyProof.Rows
section
variable {CX:CXT} {P:Program} {w:World} {K:PySem.W.Frag} {mg:Str→Option Value} {base:Heap} {p qual:Str} {fs:List Str} {cl:List (Str × Addr)} {scope:Scope} {f c':Addr} {cd:Value} {A:Around} {outer:List Env} {s:Shared} {H:Hp} {E:XK}
end
section
variable {X:Cx} {tg:Expr}
end
end L2
namespace PySem
open Sem (wp)
namespace F
end F
section
variable {prog:Program} {w:World} {A:Around} {E:Value→Shared→Prop} {s:Shared} {a:Addr} {its:Array Value} {n:Nat} {sl:Array (Option Value)}
end
end PySem
namespace L2
open PySem PySem.Spec PyProof.Rows Wd
section
variable {X:Cx}
end
section
variable {P:Program} {w:World} {A:Around} {E:Value→Shared→Prop} {I:Addr} {fp wr:List Addr} {G:Array GenState→Array GenState→Prop} {n:Nat} {Pv:Nat→Value→Prop} {St':Nat→Shared→Prop}
end
section
variable {X:Cx}
end
end L2
namespace Kx
open PySem PySem.Spec PyProof.Rows L2 Wd
theorem dec_int (j n:Nat):decide (V.int (0+(j:Int))=V.int (n:Int))=decide (n=j):=by
 by_cases e:n=j
 ·subst e;simp
 ·rw [Ed e,Ed]
  intro z
  have:=V.int.inj z
  omega
end Kx
namespace L2
open PySem PySem.Spec PyProof.Rows Wd
section
variable {X:Cx}
end
end L2
namespace Kx
open PySem PySem.Spec PyProof.Rows L2 Wd
end Kx
namespace L2
open PySem PySem.Spec PyProof.Rows Wd
section
variable {X:Cx} {o:Expr} {apos KO:Pos} {to:TE}
end
end L2
namespace Tv
open PySem PyProof.Rows
section
variable {prog:Program} {w:World} {A:Around} {E:Value→Shared→Prop} {s:Shared}
end
end Tv
namespace L2
open PySem PySem.Spec PyProof.Rows Wd Tv
section
variable {X:Cx}
end
section
variable {X:Cx} {o:Expr} {apos KO:Pos} {to:TE}
end
end L2
namespace PySem
open Sem (wp)
namespace F
end F
section
variable {prog:Program} {w:World} {A:Around} {E:Value→Shared→Prop} {s:Shared} {a:Addr} {its:Array Value} {n:Nat} {sl:Array (Option Value)}
end
end PySem
namespace L2
open PySem PySem.Spec PyProof.Rows Wd
section
variable {X:Cx}
end
end L2
namespace L2
open PySem PySem.Spec PyProof.Rows
section
variable {X:Cx}
open Classical in
end
end L2
namespace PySem
open Sem (wp)
section
variable {prog:Program} {w:World} {A:Around} {E:Value→Shared→Prop} {s:Shared}
end
end PySem
namespace L2
open PySem PySem.Spec PyProof.Rows
section
variable {X:Cx} {tg:Expr}
end
end L2
namespace Wd
open Kx
theorem qT (a b:List L)(e g:L)(c:Bool):sld (a++b) e g c=sld a e g c++sld b e g c:=by
 unfold sld
 rw [Gz]
theorem bO (x:L)(r:List L)(e g:L)(c:Bool):sld (x::r) e g c=(if x=g then (if c then [x,e] else [e,x]) else if x=e then [] else [x])++sld r e g c:=rfl
theorem qU {u:List L}{e g:L}(c:Bool)(he:e∉u)(hg:g∉u):sld u e g c=u:=by
 induction u with
 | nil=>rfl
 | cons x r ih =>
  rw [bO,if_neg (fun z=>hg (by rw [← z];exact Ex)),if_neg (fun z=>he (by rw [← z];exact Ex)),ih (fun h=>he (Ej _ h)) (fun h=>hg (Ej _ h))]
  rfl
theorem qV {e f g:L}(fe:f≠e)(ge:g≠e)(gf:g≠f)(b c:Bool):∀ u:List L,sld (sld u e g b) e f c=sld u e f c
 | []=>rfl
 | x::r=>by
  rw [bO,qT,qV fe ge gf b c r,bO x r e f c]
  congr 1
  by_cases xg:x=g
  ·subst xg
   rw [if_pos rfl,if_neg gf,if_neg ge]
   cases b with
   | true =>
    rw [if_pos rfl,bO,bO,if_neg gf,if_neg ge,if_neg (fun z=>fe z.symm),if_pos rfl]
    rfl
   | false =>
    rw [if_neg (by decide),bO,bO,if_neg gf,if_neg ge,if_neg (fun z=>fe z.symm),if_pos rfl]
    rfl
  ·rw [if_neg xg]
   by_cases xe:x=e
   ·subst xe
    rw [if_pos rfl,if_neg (fun z=>fe z.symm)]
    rfl
   ·rw [if_neg xe,bO,if_neg xe]
    show _++[]=_
    rw [Fs]
end Wd
namespace Kx
open PySem PySem.Spec PyProof.Rows L2 Wd
end Kx
namespace Su
open Wd
end Su
namespace Tv
open PySem PyProof.Rows
section
variable {prog:Program} {w:World} {A:Around} {E:Value→Shared→Prop} {s:Shared}
end
end Tv
namespace L2
open PySem PySem.Spec PyProof.Rows Wd Tv
section
variable {X:Cx}
end
end L2
namespace Tv
open PySem PyProof.Rows
end Tv
namespace L2
open PySem PySem.Spec PyProof.Rows Wd Tv
end L2
namespace HT
open PySem PyProof.Rows
section
open PySem.SeqAt
open PySem.AutoSeq1 (wpAny_loadPart')
open PySem.MeetsSeq PySem.MeetsSeq2 PySem.MeetsSeq3
end
section
variable {prog:Program} {w:World} {A:Around} {E:Value→Shared→Prop} {s:Shared}
end
end HT
namespace L2
open PySem PySem.Spec PyProof.Rows
section
variable {X:Cx}
end
end L2
namespace PySem
open Sem (wp)
section
variable {K:Type} [DecidableEq K] {prog:Program} {w:World} {knd:KeyKind prog w K} {A:Around} {E:Value→Shared→Prop} {s:Shared}
end
end PySem
namespace L2
open PySem PySem.Spec PyProof.Rows Wd
section
variable {X:Cx}
end
end L2
namespace L2
open PySem PySem.Spec PyProof.Rows
end L2
namespace Kx
open PySem PySem.Spec PyProof.Rows L2 Wd Tv
def atZ (w:List L)(j:Int):L:=w.getD (j % (w.length:Int)).toNat 0
def sgZ (w:List L)(p wy k:Int):L:=if wy=1 then atZ w (p+wy*k) else inv (atZ w (p+wy*k))
def frN (f g:Int→L):Nat→Nat→Nat
 | k,0=>k
 | k,b+1=>if f k=g k then frN f g (k+1) b else k
def ptB (u:List L)(f g:Int→L)(n:Nat):Bool:=decide (0 < n) && (decide (f (-1)≠g (-1)) && (decide (f n≠g n) && (decide (rfI u (inv (f ((n:Int) - 1))) (f n) < rfI u (inv (f ((n:Int) - 1))) (g n)) == decide (rfI u (f 0) (inv (f (-1))) < rfI u (f 0) (inv (g (-1)))))))
abbrev P2:=Int × Int
def CA (u:List L)(a b c d:L):Bool:=decide ([a,b,c,d].Nodup) && (decide (rfI u a c < rfI u a b) != decide (rfI u a d < rfI u a b))
def hF (u w v:List L)(s:P2):Bool:=CA u (inv (sgZ w s.1 1 0)) (sgZ w s.1 1 1) (inv (sgZ v s.2 1 0)) (sgZ v s.2 1 1)
def nW (w v:List L)(wy:Int)(s:P2):Nat:=frN (sgZ w s.1 1) (sgZ v s.2 wy) 0 (w.length+v.length)
def hP (u w v:List L)(wy:Int)(s:P2):Bool:=ptB u (sgZ w s.1 1) (sgZ v s.2 wy) (nW w v wy s)
theorem nd4 {a b c d:L}(h:[a,b,c,d].Nodup):a≠b∧a≠c∧a≠d∧b≠c∧b≠d∧c≠d:=by
 simp only [EN,Ei,Ek,EW,not_or] at h
 obtain ⟨⟨m1,m2,m3⟩,⟨m4,m5⟩,m6,_⟩:=h
 exact ⟨m1,m2,m3,m4,m5,m6⟩
def oth (w v:List L)(s:P2):P2:=((s.2 - (nW w v (-1) s:Nat)+1) % (v.length:Int),(s.1+(nW w v (-1) s:Nat) - 1) % (w.length:Int))
end Kx
namespace Su
open Wd Kx
end Su
namespace Su
open Wd
end Su
namespace L2
open PySem PySem.Spec PyProof.Rows
section
variable {prog:Program} {w:World} {A:Around} {R:Result→Shared→Prop} {I S:Addr} {fp wr:List Addr} {P:Nat→Value→Prop} {St:Nat→Heap→Prop}
end
section
variable {X:Cx}
end
section
variable {prog:Program} {w:World} {A:Around} {R:Result→Shared→Prop} {I S:Addr} {fp wr:List Addr} {P:Nat→Value→Prop} {St:Nat→Heap→Prop}
end
section
variable {X:Cx}
end
section
variable {prog:Program} {w:World} {A:Around} {R:Result→Shared→Prop} {I S:Addr} {fp wr:List Addr} {P:Nat→Value→Prop} {St:Nat→Heap→Prop} {N:Nat} {x:Nat→Value} {lt:Nat→Nat→Bool}
end
section
variable {X:Cx}
end
end L2
namespace HT
open PySem PyProof.Rows
section
open PySem.SeqAt
open PySem.AutoSeq1 (wpAny_loadPart')
open PySem.MeetsSeq PySem.MeetsSeq2 PySem.MeetsSeq3
end
end HT
namespace Tv
open PySem PyProof.Rows
section
variable {prog:Program} {w:World} {A:Around} {E:Value→Shared→Prop} {s:Shared}
end
end Tv
namespace Kx
open PySem PySem.Spec PyProof.Rows L2 Wd Tv
theorem uP {v v':List L}{z sd:Int}(h:slW v z sd=some v'):∃ (j:Nat) (c:L),z=(j:Int)∧v[j]? = some c∧a9 v j sd≠inv c∧v'=sld v c (inv (a9 v j sd)) (decide (sd=1))∧v.getD z.toNat 0=c∧z.toNat=j:=by
 rcases dM (u:=v) (z:=z) (sd:=sd) with ⟨e0,_⟩ | ⟨j,c,rfl,he⟩
 ·rw [e0] at h;cases h
 ·rw [eQ he] at h
  split at h
  ·cases h
  ·rename_i hc
   cases h
   exact ⟨j,c,rfl,he,hc,rfl,by rw [EH,Ew,he];rfl,EH _⟩
theorem uQ {u:List L}{x:L}(h:x∈u):Txt.find (toS u) (toS [x])=(u.idxOf x:Int):=by
 obtain ⟨rest,e⟩:=mZ h
 unfold Txt.find
 rw [e]
end Kx
namespace Su
open Wd Kx L2
abbrev Sd:=Nat × Int
def wlk:List L→List Sd→Option (List L)
 | u,[]=>some u
 | u,s::r=>match slW u (s.1:Int) s.2 with
  | none=>none
  | some v=>wlk v r
theorem m_:∀ {ss:List Sd} {u v:List L} {s:Sd},wlk u ss=some v→wlk u (ss++[s])=slW v (s.1:Int) s.2
 | [],u,v,s,h=>by
  cases h
  show (match slW u (s.1:Int) s.2 with | none=>none | some v=>some v)=_
  cases slW u (s.1:Int) s.2 <;> rfl
 | a::r,u,v,s,h=>by
  unfold wlk at h
  show (match slW u (a.1:Int) a.2 with | none=>none | some v=>wlk v (r++[s]))=_
  cases e:slW u (a.1:Int) a.2 with
  | none=>rw [e] at h;cases h
  | some x =>
   rw [e] at h
   exact m_ h
structure Rw (n:Nat) (u:List L):Prop where
 row:Au n u
 all:∀ x:L,x.val % 6 < n→x∈u
 h1:1≤n
 h6:n≤6
theorem Rw.srf {n:Nat}{u:List L}(R:Rw n u):Srf u:=yb R.row R.all R.h1 R.h6
theorem Rw.perm {n:Nat}{u v:List L}(R:Rw n u)(p:v.Perm u):Rw n v:=⟨⟨by rw [p.length_eq]; exact R.row.len,p.nodup_iff.mpr R.row.nd,fun x hx=>R.row.ins x (p.mem_iff.mp hx)⟩,fun x hx=>p.mem_iff.mpr (R.all x hx),R.h1,R.h6⟩
def nmS (n:Nat)(h:L→L):List (List L):=(List.range n).map fun i=>[h (lt6 i)]
theorem nmS_len (n:Nat)(h:L→L):(nmS n h).length=n:=by unfold nmS; rw [Ea,FB]
theorem wC {n:Nat}{h:L→L}(h6:n≤6)(hiv:∀ x,h (inv x)=inv (h x)){x:L}(hx:x.val % 6 < n):img (nmS n h) x=[h x]:=by
 have get:∀ i,i < n→(nmS n h).getD i []=[h (lt6 i)]:=fun i hi=>by
  unfold nmS
  rw [Ew,Er,Ga hi];rfl
 have e:∀ y:L,y.val < 6→lt6 y.val=y:=fun y hy=>Fin.ext (cZ hy)
 unfold img
 have hxl:=x.isLt
 by_cases c:x.val < 6
 ·rw [if_pos c,get _ (by omega),e x c]
 ·have iv:(inv x).val=x.val - 6:=by rw [fk,if_neg c]
  rw [if_neg c,get _ (by omega),← iv,e (inv x) (by omega),hiv,eO,bB]
theorem Az {n:Nat}{u v:List L}{h:L→L}(U:Rw n u)(V:Rw n v)(e:u.map h=v){x:L}(hx:x.val % 6 < n):(h x).val % 6 < n:=V.row.ins _ (by rw [← e]; exact ED.mpr ⟨x,U.all x hx,rfl⟩)
theorem AA {n:Nat}{u v:List L}{h:L→L}(U:Rw n u)(V:Rw n v)(e:u.map h=v):xY n 1 (nmS n h):=by
 have l6:=U.h6
 refine ⟨nmS_len n h,fun w hw=>?_,fun w hw=>?_,fun w hw=>?_⟩
 all_goals
  obtain ⟨i,hi,rfl⟩:=ED.mp hw
  have hi:=FH.mp hi
 ·rfl
 ·intro y hy
  rw [Eu.mp hy]
  exact Az U V e (by rw [cZ (by omega)];omega)
 ·exact Eg 1
theorem AB {n:Nat}{x:L}(h:x.val % 6 < n):isW (n:Int) (toS [x])=true:=by
 unfold isW
 rw [bt]
 show (okC (n:Int) (cp x) && true)=true
 unfold okC
 rw [mN]
 simp
 omega
theorem AC {n:Nat}{x:L}(h:x.val % 6 < n):mpV n (tx [x])=true:=by
 rw [wA (AB h)]
 exact Eh rfl
theorem iu {α:Type}[DecidableEq α]:∀ {a b:List α},a.Nodup→(∀ x∈a,x∈b)→a.length≤b.length
 | [],b,_,_=>E5 _
 | x::a,b,nd,h=>by
  obtain ⟨n1,n2⟩:=EN.mp nd
  have hx:=h x Ex
  have ih:=iu (b:=b.erase x) n2 fun y hy=>(List.mem_erase_of_ne (fun e=>n1 (by rw [← e];exact hy))).mpr (h y (Ej _ hy))
  have:=Jf hx
  have hp:0 < b.length:=List.length_pos_of_mem hx
  rw [EA]
  omega
end Su
namespace L2
open PySem PySem.Spec PyProof.Rows Wd
section
variable {X:Cx} {tg:Expr}
end
section
variable {X:Cx}
end
end L2
namespace L2
open PySem PySem.Spec PyProof.Rows
theorem gb (xs:List V)(n:Nat):iJ xs none (some (n:Int))=xs.take n:=by
 unfold iJ
 rw [HT.e9]
 show (xs.drop 0).take (min n xs.length - 0)=xs.take n
 rw [HV,Js]
 rcases Nat.le_total n xs.length with h | h
 ·rw [IE h]
 ·rw [Hc h,ER (Eg _),ER h]
theorem oo (xs:List V)(n:Nat)(h:n≤xs.length):iJ xs (some (n:Int)) none=xs.drop n:=by
 unfold iJ
 rw [HT.e9,HT.eJ,IE h,ER (by rw [Fv];exact Eg _)]
end L2
namespace L2
open PySem PySem.Spec PyProof.Rows Wd
section
variable {X:Cx}
inductive cg (K:PySem.W.Frag)(xs:List V)(H:Hp)(Q:VK):Prop
 | mk:∀ l ys,(xs=[.ref l])→(SqL K H l (ys.map V.str))→(ys.length < 64)→(∀ p zs,H p=none→zs.Perm ys→sortedS zs=true→Q (.ref p) (upd H p (.lst (zs.map V.str))))→cg K xs H Q
theorem fv:cI X (.builtin "sorted") (cg X.K):=by
 intro Ks s σ H xs us Q I r h
 obtain ⟨l,ys,rfl,hq,h64,q⟩:=h
 obtain ⟨u,rfl,ru⟩:=cJ r
 cases ru
 obtain ⟨its,rv,pl,hz⟩:=I.list hq
 have hS:=ff rv
 have hlen:its.length=ys.length:=by rw [← rv.length,Ea]
 refine sorted_strs pl.isList hS (by omega) fun out zs hO hp hs=>?_
 obtain ⟨e,he⟩:=sortedAll_at s.heap its out
 have hv:a8 (zs.map V.str) out.toList:=fM hO
 have I2:Inv X Ks σ (upd H (s.heap.objs.size+1) (.lst (zs.map V.str))) { s with heap:=sortedAll s.heap its out,toks:=s.toks } :=
  I.laid (fun b o e=>sortedAll_old e) (Hh _) ⟨by rw [Ea,hp.length_eq];rw [Ea] at hz;exact hz,out.toList,e,hv,by simpa [seqObj] using he⟩
 exact ⟨.ref (s.heap.objs.size+1),_,I2,rfl,q _ zs (I.hok.fresh (Hh _)) hp hs⟩
end
end L2
namespace L2
open PySem PySem.Spec PyProof.Rows
variable {X:Cx} {pos:Pos}
end L2
namespace L2
open PySem PySem.Spec PyProof.Rows
variable {X:Cx}
end L2
namespace Kx
open PySem PySem.Spec PyProof.Rows L2 Wd Su
structure Nm (n:Nat) (h:L→L):Prop where
 iv:∀ x,h (inv x)=inv (h x)
 inj:∀ x y:L,x.val % 6 < n→y.val % 6 < n→h x=h y→x=y
 ins:∀ x:L,x.val % 6 < n→(h x).val % 6 < n
theorem Nm.ren {n:Nat}{h:L→L}(N:Nm n h){u:List L}(U:Rw n u):Ren u h:=⟨N.iv,fun x hx y hy e=>N.inj x y (U.row.ins x hx) (U.row.ins y hy) e⟩
theorem Nm.rw {n:Nat}{h:L→L}(N:Nm n h){u:List L}(U:Rw n u):Rw n (u.map h):=by
 have R:=N.ren U
 have S:=R.srf U.srf
 have row:Au n (u.map h):=⟨by rw [Ea];exact U.row.len,S.nd,fun x hx=>by obtain ⟨y,hy,rfl⟩:=ED.mp hx;exact N.ins y (U.row.ins y hy)⟩
 refine ⟨row,fun x hx=>?_,U.h1,U.h6⟩
 -- as many as there are
 have hc:(u.map h).length=((List.finRange 12).filter fun x:L=>decide (x.val % 6 < n)).length:=by
  have all:∀ n:Fin 7,((List.finRange 12).filter fun x:L=>decide (x.val % 6 < n.val)).length=2*n.val:=by decide +kernel
  rw [row.len]
  have:=U.h6
  exact (all ⟨n,by omega⟩).symm
 refine Fc fun hn=>?_
 have:=iu (a:=x::u.map h) (b:=(List.finRange 12).filter fun x:L=>decide (x.val % 6 < n)) (EN.mpr ⟨hn,S.nd⟩) fun y hy=>Iw.mpr ⟨List.mem_finRange y,Eh (by
  rcases Ei.mp hy with rfl | hy
  ·exact hx
  ·exact row.ins y hy)⟩
 rw [EA,hc] at this
 omega
inductive gh (vs:List V)(H:Hp)(Q:VK)(E:XK):Prop
 | mk:∀ (n p:Nat) (w:List L) (nm:Addr) (h:L→L),vs=[tx w,.int (p:Int),.ref nm]→H nm=some (.tup ((nmS n h).map tx))→Rw n w→p < w.length→(∀ x,h (inv x)=inv (h x))→(∀ H',av H H'→Q (tx ((rot w p).map h)) H')→gh vs H Q E
inductive jn (vs:List V)(H:Hp)(Q:VK)(E:XK):Prop
 | mk:∀ (d:Addr) (n:Nat),vs=[.ref d,.int (n:Int)]→Fd H d→1≤n→n≤6→(∀ t h H',H' t=some (.tup ((nmS n h).map tx))→Nm n h→Fd H' d→a_ d H H'→Q (.ref t) H')→jn vs H Q E
end Kx
namespace L2
open PySem PySem.Spec PyProof.Rows
theorem cP.make {k:Nat}{A:Around}(r:cP (k+1) A)(C:Addr)(us:List Value)(kw:List (Str × Value)):cP k (A.under (.builtin "type.__call__" ⟨.ref C::us,kw⟩)) :=
 ⟨by have:=r.dp;rw [hZ];omega,by have:=r.un;rw [h_];omega,by have g:=r.gd;simpa [Around.under,Code.guards,pushGuards,Code.isGuard,guardIds] using g⟩
structure lF (P:Program) (w:World) (K:PySem.W.Frag) (mg:Str→Option Value) (base:Heap) (k:Nat) (f:Addr) (fd:FuncData) (ps:List Str) (sp:Sp):Prop where
 len:∀ vs H Q E,sp vs H Q E→vs.length=ps.length
 run:∀ (A:Around) (outer:List Env) (s:Shared) (H:Hp) (args:Args) (us:List Value) (vs:List V) (Q:VK),cP k A→sM P w K mg base A outer s H→BindsTo s fd args (ps.zip us)→a8 vs us→sp vs H Q E0 →
  codeAny (model P w) A (.call (.ref f) args) (CR CX0 outer P w H s Q E0) s
theorem AD {P:Program}{w:World}{K:PySem.W.Frag}{mg:Str→Option Value}{base:Heap}{k:Nat}{f:Addr}{name qual:Str}{params:Arguments}{body:List Stmt}{scope:Scope}{dV kV doc pm Kv ct oc:Value}{an od:Option Addr}
  {K2:Array (Option Value)} {N ps:List Str} {sp:Sp} (lk:K.lookup f=some ⟨oc,od,.func (PySem.W.fnOf name qual params body scope dV kV doc pm an Kv ct),K2⟩) (K0:PySem.W.codeIn K Kv qual=true) (S:aC N ps scope)
  (len:∀ vs H Q E,sp vs H Q E→vs.length=ps.length)
  (KM:∀ (A:Around) (outer:List Env) (s:Shared) (H:Hp) (vs:List V) (Q:VK),cP k (A.deeper (envOfC qual scope s.heap.objs.size f Kv))→sp vs H Q E0 →
   ∃ t,PSs (cxH P w K mg base N qual scope f Kv A outer s H) body t∧t { nx:=fun _ H'=>Q .non H',rt:=Q } (start N vs) H) :
  lF P w K mg base (k+1) f (PySem.W.fnOf name qual params body scope dV kV doc pm an Kv ct) ps sp:=by
 refine ⟨len,fun A outer s H args us vs Q hr e0 hbt r hsp=>?_⟩
 have hl:=len _ _ _ _ hsp
 have KX:K.In s.heap:=e0.mod.kin.keeps fun b o e=>(e0.bs b o e).1
 have lim:s.heap.NoLimit:=e0.mod.nolimit.keeps fun b o e=>(e0.bs b o e).1
 have hkind:∀ y∈ps.zip us,scope.names.lookup y.1=some .local ∨ (scope.names.lookup y.1=some .cell∧((cellsFrom (s.heap.objs.size+1) scope.names []).lookup y.1).isSome=true):=fun ⟨n,v⟩ hy=>by
  rcases S.par n (IA hy).1 with q | q
  ·exact .inl q
  ·exact .inr ⟨q,Hw _ _ _ (.inl q)⟩
 refine codeAny_call_function hr.depth (KX _ _ lk) rfl S.co S.gen rfl (PySem.W.codeRec_of KX K0) (hbt _ _ _ _ ?_)
 refine IJ S.kind hkind fun env he s1 xx=>?_
 subst he
 refine ⟨lim.keeps xx.toInCall.keep,codeAny_func ?_⟩
 obtain ⟨t,ht,hq⟩:=KM A outer s H vs Q (hr.deeper _) hsp
 have I:=n9 (w:=w) (f:=f) (cd:=Kv) S e0 hl r xx
 refine Fm (ht [] s1 (start N vs) H _ I hq) (fun fl s' hs=>?_) fun e s' hs=>hs.elim
 have fin:∀ {σ':St} {H':Hp} {v:V} {u:Value},Inv (cxH P w K mg base N qual scope f Kv A outer s H) [] σ' H' s'→bq v u→Q v H'→CE outer P w H s Q u s' :=
  fun {σ' H' v u} J rv q=>⟨v,H',J.os,J.bare,J.base,J.hok,rv,q⟩
 cases fl with
 | ret u =>
  obtain ⟨v,σ',H',J,rv,q⟩:=hs
  exact fin J rv q
 | next =>
  obtain ⟨σ',H',J,q⟩:=hs
  exact fin (v:=V.non) (u:=Value.none) J rfl q
 | brk =>
  obtain ⟨_,_,_,q⟩:=hs
  exact False.elim q
 | cont =>
  obtain ⟨_,_,_,q⟩:=hs
  exact False.elim q
theorem lF.ok {P:Program}{w:World}{K:PySem.W.Frag}{mg:Str→Option Value}{base:Heap}{k:Nat}{f:Addr}{fd:FuncData}{ps:List Str}{sp:Sp}(F:lF P w K mg base k f fd ps sp)(hE:∀ vs H Q E,sp vs H Q E→sp vs H Q E0):jI P w K mg base CX0 k f fd ps sp :=
 ⟨F.len,fun A outer s H args us vs Q E hr e0 hb r h=>Gv (F.run A outer s H args us vs Q hr.h e0 hb r (hE _ _ _ _ h)) fun r s' q=>by
  cases r with
  | error e=>exact q.elim
  | ok fl=>cases fl <;> exact q⟩
theorem Fun.okH {P:Program}{w:World}{K:PySem.W.Frag}{mg:Str→Option Value}{base:Heap}{x qual:Str}{st:Stmt}{f:Addr}{fd:FuncData}{N ps:List Str}{k:Nat}{sp:Sp}(F:Fun K x qual st f fd)(S:aC N ps (aq st))(len:∀ vs H Q E,sp vs H Q E→vs.length=ps.length)
  (KM:∀ (Kv:Value) (A:Around) (outer:List Env) (s:Shared) (H:Hp) (vs:List V) (Q:VK),cP k (A.deeper (envOfC qual (aq st) s.heap.objs.size f Kv))→sp vs H Q E0 →
   ∃ t,PSs (cxH P w K mg base N qual (aq st) f Kv A outer s H) (br st) t∧t { nx:=fun _ H'=>Q .non H',rt:=Q } (start N vs) H):lF P w K mg base (k+1) f fd ps sp:=by
 obtain ⟨oc,od,kV,doc,pm,an,Kv,ct,K2,rfl,lk,K0⟩:=F.ex
 exact AD lk K0 S len fun A outer s H vs Q hr hsp=>KM Kv A outer s H vs Q hr hsp
structure CB (P:Program) (w:World) (K:PySem.W.Frag) (mg:Str→Option Value) (base:Heap) (x:Str) (C:Addr) (names:List Str) (k:Nat):Prop where
 at_:mg x=some (.ref C)
 ca:XCa K C
 ex:∃ (f:Addr) (fd:FuncData) (bm:List Value),XCl K C bm∧PySem.W.findIn K (.ref C) "__init__" = some (some (.ref f))∧PySem.W.isFn K (.ref f)=true∧eY K fd ("self" :: names) []∧lF P w K mg base k f fd ("self" :: names) (ki names C)
section
variable {X:Cx} {k j:Nat} {f C:Addr} {fd:FuncData} {ps names:List Str} {sp:Sp} {x:Str} {p pos:Pos} {e:Expr} {es:List Expr} {t:TA} {bm:List Value}
theorem qX {Ks:List (Addr × Obj)}{σ:St}{H:Hp}{s:Shared}{Q:VK}{us:List Value}{vs:List V}(M:XCl X.K C bm)(hi:PySem.W.findIn X.K (.ref C) "__init__" = some (some (.ref f)))(hf:PySem.W.isFn X.K (.ref f)=true)
  (F:lF X.prog X.w X.K X.mg X.base k f fd ps sp) (hr:cP (k+1) X.A) (hb:eY X.K fd ps []) (I:Inv X Ks σ H s) (r:a8 vs us)
  (h:vs.length≤1000∧∀ x,H x=none→sp (.ref x::vs) (upd H x (Exo x C none true true)) (fun v H2=>v = .non∧Q (.ref x) H2) E0):wpAny (model X.prog X.w) X.A (call (.ref C) us) (EP X Ks σ Q) X.xe s:=by
 obtain ⟨hl0,h⟩:=h
 have hq:=h (s.heap.objs.size+1) (I.hok.fresh (Hh _))
 have I2:=Inv.madeX (C:=C) I us
 have r2:a8 (V.ref (s.heap.objs.size+1)::vs) (Value.ref (s.heap.objs.size+1)::us):=.cons rfl r
 have hl:(Value.ref (s.heap.objs.size+1)::us++[]).length=ps.length:=by
  have e:=r2.length
  rw [F.len _ _ _ _ hq] at e
  rw [Fs]
  exact e.symm
 obtain ⟨hh,g,d,tk,os⟩:=s
 refine wc I.kIn M hi hf (Hj ?_) (by rw [← r.length,F0];omega)
 have K3:=hb ⟨(hh.push (lg us)).push (qj C hh.objs.size),g,d,tk,os⟩ (Value.ref (hh.objs.size+1)::us) I2.kIn hl
 rw [Fs] at K3
 refine Gv (F.run _ X.stack _ _ ⟨Value.ref (hh.objs.size+1)::us,[]⟩ (Value.ref (hh.objs.size+1)::us) _ _ (hr.make C us []) (I2.env0.make C us []) K3 r2 hq) fun r s' hq'=>?_
 cases r with
 | error e=>exact hq'.elim
 | ok fl =>
  cases fl with
  | ret u =>
   obtain ⟨v,H',I3,rv,ev,q3⟩:=I2.after hq'
   subst ev
   exact ⟨rv,⟨V.ref (hh.objs.size+1),H',I3,rfl,q3⟩⟩
  | next=>exact False.elim hq'
  | brk=>exact False.elim hq'
  | cont=>exact False.elim hq'
theorem AE (M:CB X.prog X.w X.K X.mg X.base x C names j)(hr:cP k X.A)(hj:j+1≤k)(hg:Gl X x)(ha:PA X (e::es) t)
  (Lh:(x == ("__debug__":Str))=false:=by decide) (he:starEach (e::es) X.env=(false,eval e X.env)::starEach es X.env:=by rfl) (KW:(backTo pos (starEach es X.env)).any (·.1)=false:=by rfl) :
  PE X (.Call (.Name x p) (e::es) [] pos) (Ap C names t):=by
 obtain ⟨f,fd,bm,xc,hi,hf,hb,F⟩:=M.ex
 intro Ks s σ H Q I h
 refine Gi (cC I hg M.at_ ?_ Lh)
 refine Hm (h₀:=X.base) I.ok.mod.kin xc.kp (thn (ha pos Ks s σ H _ I h) fun us s1 ⟨vs,H1,I1,r,hl,hn,q⟩=>⟨I1.kIn,?_⟩) he KW
 refine qX (k:=j) xc hi hf F (hr.mono hj) hb I1 r ⟨by omega,fun a h0=>⟨a,vs,true,true,rfl,hl,ag ..,fun dx hdx ne=>⟨rfl,?_⟩⟩⟩
 rw [dv]
 exact q a dx h0 (by rw [ar ne] at hdx;exact hdx) ne
end
section
variable {X:Cx} {Ks:List (Addr × Obj)} {σ:St} {H:Hp} {s:Shared}
theorem fw {M:Model}{A:Around}{F:Value→Shared→Prop}{Q:Unit→Shared→Prop}{i:Nat}{v:Value}{a C:Addr}{d:Option Addr}{b cx cx':Bool}(I:Inv X Ks σ H s)(ea:H a=some (Exo a C d b cx))(hi:i < 6)(h1:i≠1)(hc:cx'=true→cx=true∧i≠2)
  (h:∀ s',Inv X Ks σ (upd H a (Exo a C d b cx')) s'→Q () s'):wpAny M A (setField (.ref a) i v) Q F s:=by
 obtain ⟨oe,vs,g1,g2,g3,g4,g5,g6,g7⟩:=bp I.hok ea
 obtain ⟨hh,g,dr,tk,os⟩:=s
 refine FI g1 g4 (by omega) (h _ ?_)
 have hd':=Fk g4 (·.setIfInBounds i v)
 have e':=E_ (Obj.mapFields (·.setIfInBounds i v)) g1 (Ft hd')
 exact I.write (t':=tk) (x:=a) (e:=a) (h':=hh.update a (Obj.mapFields (·.setIfInBounds i v))) (o:=Exo a C d b cx') (by rw [ea];exact True.intro) (.inl rfl) (fun c o hc q=>(EZ _ _ (Ne.symm hc)).trans q) ⟨_,e'⟩
  (kg ⟨_,_,e',(G6 _ _).trans g2,by
   rw [← g3]
   obtain ⟨c1,c2,c3,c4⟩:=oe
   cases c3 <;> rfl,hd',by rw [Je];exact g5,(fun z=>by rw [Fy h1];exact g6 z),fun z=>by rw [Fy (hc z).2];exact g7 (hc z).1⟩)
theorem uR {P:Program}{w:World}{A:Around}{F:Value→Shared→Prop}{Q:Value→Shared→Prop}{e:Value}{a C:Addr}{d:Option Addr}{b:Bool}(I:Inv X Ks σ H s)(ea:H a=some (Exo a C d b true))(h:Q .none s) :
  wpAny (model P w) A (runValue (.builtin "proto.unchain" ⟨[e,.ref a,.ref a,.bool false],[]⟩)) Q F s:=by
 obtain ⟨oe,vs,g1,g2,g3,g4,g5,g6,g7⟩:=bp I.hok ea
 refine wpAny_runValue (Hv (b:=Builtin.«proto.unchain») (entryFor_of_fast (by rfl)) ?_)
 unfold Builtin.«proto.unchain»
 refine fu (EF g1 g4 (g7 rfl) ?_)
 rw [if_pos (by decide)]
 exact Eb h
def XR (X:Cx)(Ks:List (Addr × Obj))(σ:St)(E:XK)(e:Value)(s':Shared):Prop :=
 ∃ a C d c H',e = .ref a∧Inv X Ks σ H' s'∧H' a=some (Exo a C d true c)∧E (.ref a) none (upd H' a (Exo a C d false c))
inductive lG (K:PySem.W.Frag)(h:Addr)(E:XK)(v:V)(H1:Hp):Prop
 | mk:∀ a C d cx C' d' b',v = .ref a→a≠h→H1 a=some (Exo a C d true cx)→XAt K C→H1 h=some (Exo h C' d' b' true)→E (.ref a) none (upd H1 a (Exo a C d false))→lG K h E v H1
set_option maxHeartbeats 800000 in
theorem AF {Y:Cx}{h:Addr}{E:XK}{e:Expr}{te:TE}{p:Nat}{pp pos:Pos}{F:Flow→Shared→Prop}(hY:Y=Hd X (.ref h))(he:PE Y e te)(I:Inv Y Ks σ H s)(ht:te σ H (lG X.K h E)) :
  wpAny (model Y.prog Y.w) Y.A (exec (.Raise (some e) (some (.Constant .none p pp)) pos) Y.env) F (XR Y Ks σ E) s:=by
 subst hY
 rw [arm_exec_Raise]
 refine fu (GZ ?_)
 unfold raiseStmt
 refine fu (fu (Fm (he Ks s σ H _ I ht) (fun v s1 zq=>?_) fun _ _ z=>False.elim z))
 obtain ⟨y,H1,I1,ry,a,C,d,cx,C',d',b',ey,ne,ea,xa,eh,q⟩:=zq
 subst ey
 obtain rfl:v=Value.ref a:=ry
 refine fu (GZ (Eb ?_))
 refine fu (FE (fu ?_))
 rw [arm_eval_Constant]
 refine Eb (fu (GZ (Eb (fu (Eb ?_)))))
 have hcB:∀ bm,XCl X.K C bm→∀ s2:Shared,X.K.In s2.heap→∃ nm q N bs sn sub ab col dd k0 k1 k2 k3 k5,s2.heap.get? C=some (excClassObj nm q C N bs bm true sn sub ab col dd k0 k1 k2 k3 k5 "ValueError.__new__")∧(Value.ref C::bm).contains (.type "BaseException")=true:=fun bm xc s2 k=>by
  obtain ⟨T,nm,q,N,bs,sn,sub,ab,col,dd,k0,k1,k2,k3,k5,hC⟩:=xc.at k
  exact ⟨nm,q,N,bs,sn,sub,ab,col,dd,k0,k1,k2,k3,k5,hC,by rw [GO,T.hasType IK.hasBase,IU]⟩
 obtain ⟨bm,xc⟩:=xa.cl
 refine fu (FE ?_)
 have fx:∀ {F:Value→Shared→Prop} {G:Value→Shared→Prop} {msg:String},G (.ref a) s1→wpAny (model X.prog X.w) (Hd X (.ref h)).A (excFromValue (.ref a) msg) G F s1:=fun {F G msg} k=>by
  obtain ⟨nm,q,N,bs,sn,sub,ab,col,dd,k0,k1,k2,k3,k5,hC,hcB⟩:=hcB bm xc s1 I1.kIn
  obtain ⟨⟨oc,od,odt,K2⟩,vs,g1,g2,g3,g4,g5,g6⟩:=bp I1.hok ea
  simp only at g2 g3 g4
  subst g2 g3 g4
  obtain ⟨hp,g,dr,tk,os⟩:=s1
  unfold excFromValue
  repeat (first | with_reducible refine E2 g1 ?_ | with_reducible refine E2 hC ?_ | (with_reducible refine FN hC ?_;rw [hcB]) | wp_step)
  exact k
 refine fx ?_
 dsimp only
 rw [if_pos (by decide)]
 refine fu (Eb (fu (fw (cx':=cx) I1 ea (by decide) (by decide) (fun z=>⟨z,by decide⟩) fun s2 I2=>?_)))
 rw [dS ea] at I2
 refine fu (fw (cx':=cx) I2 ea (by decide) (by decide) (fun z=>⟨z,by decide⟩) fun s3 I3=>?_)
 rw [dS ea] at I3
 have ea3:upd H1 a (Exo a C d true) h=some (Exo h C' d' b' true):=(ar (Ne.symm ne)).trans eh
 have fin:∀ s4,Inv (Hd X (.ref h)) Ks σ (upd H1 a (Exo a C d true)) s4→XR (Hd X (.ref h)) Ks σ E (.ref a) s4:=fun s4 I4=>⟨a,C,d,false,_,rfl,I4,ag ..,by rw [dv];exact q⟩
 have un:∀ {F:Value→Shared→Prop} {G:Value→Shared→Prop},G .none s3→wpAny (model X.prog X.w) (Hd X (.ref h)).A (runValue (.builtin "proto.unchain" ⟨[.ref a,.ref h,.ref h,.bool false],[]⟩)) G F s3:=fun {F G} k=>uR I3 eh k
 have up:∀ {F:Value→Shared→Prop} {G:Unit→Shared→Prop},(∀ s4,Inv (Hd X (.ref h)) Ks σ (upd H1 a (Exo a C d true)) s4→G () s4)→wpAny (model X.prog X.w) (Hd X (.ref h)).A (updateField a 2 (.ref h)) G F s3:=fun {F G} k =>
  fw (i:=2) (v:=.ref h) I3 ea (by decide) (by decide) (fun z=>by cases z) k
 obtain ⟨nm,q',N,bs,sn,sub,ab,col,dd,k0,k1,k2,k3,k5,hC,hcB⟩:=hcB bm xc s3 I3.kIn
 obtain ⟨⟨oc,od,odt,K2⟩,vs,g1,g2,g3,g4,g5,g6⟩:=bp I3.hok ea
 simp only at g2 g3 g4
 subst g2 g3 g4
 obtain ⟨hp,g,dr,tk,os⟩:=s3
 repeat (first | with_reducible refine E2 g1 ?_ | with_reducible refine E2 hC ?_ | (with_reducible refine FN hC ?_;rw [hcB]) | wp_step)
 rw [g6.1 rfl]
 refine Eb ?_
 rw [if_neg (by decide)]
 refine Eb ?_
 unfold raiseNew
 refine fu (wpAny_handled ?_)
 show wpAny _ _ (if (Value.ref h != Value.ref a)=true then _ else _) _ _ _
 rw [if_pos (by simpa using Ne.symm ne)]
 exact fu (FE (un (fu (up fun s4 I4=>wpAny_throw (fin s4 I4)))))
end
section
variable {M:Model} {A:Around} {E:Value→Shared→Prop} {s:Shared}
theorem qi.eqv {T e:Addr}{fl:Value}{h h':Heap}(F:qi T h e fl)(k:∀ b,h'.get? b=h.get? b):qi T h' e fl:=by
 obtain ⟨oe,vs,oT,ts,he,hd,h1,hTe,hT,hdT,h3⟩:=F
 exact ⟨oe,vs,oT,ts,(k _).trans he,hd,h1,hTe,(k _).trans hT,hdT,h3⟩
theorem yc {env:Env}{L T e:Addr}{Q:Unit→Shared→Prop}(hf:env.frame=some L)(hF:qi T s.heap e (rawInt L))(h:Q () s):wpAny M A (noteFrame (.ref e) env) Q E s:=by
 obtain ⟨oe,vs,oT,ts,he,hd,h1,hTe,hT,hdT,h3⟩:=hF
 unfold noteFrame
 simp only [hf]
 refine fu (EF he hd h1 ?_)
 rw [if_pos (show (Value.ref T != Value.none)=true from by simp)]
 refine fu (EF hT hdT h3 ?_)
 rw [if_pos (by simp)]
 exact Eb h
theorem qY {env:Env}{L T e:Addr}{Q:Unit→Shared→Prop}(hf:env.frame=some L)(hF:qi T s.heap e (rawInt L))(h:∀ h',(∀ b,h'.get? b=s.heap.get? b)→Q () { s with heap:=h' }):wpAny M A (setFlight (.ref e) env.frame) Q E s:=by
 obtain ⟨oe,vs,oT,ts,he,hd,h1,hTe,hT,hdT,h3⟩:=hF
 unfold setFlight
 simp only [hf]
 refine fu (EF he hd h1 ?_)
 rw [if_pos (show (Value.ref T != Value.none)=true from by simp)]
 exact FI hT hdT (EM.mp h3).1 (h _ fun b=>i_ hT (ja hdT h3) b)
theorem ye {env:Env}{L T e:Addr}(hf:env.frame=some L)(hF:qi T s.heap e (rawInt L))(h:∀ h',(∀ b,h'.get? b=s.heap.get? b)→E (.ref e) { s with heap:=h' }):cameBackBy M A env E (.ref e) s:=by
 obtain ⟨oe,vs,oT,ts,he,hd,h1,_⟩:=id hF
 unfold cameBackBy
 refine fu (EF he hd h1 ?_)
 rw [if_neg (show ¬ ((Value.ref T == Value.none)=true) from by simp)]
 exact qY hf hF fun h' k=>h h' k
end
def lH (X:Cx)(E:XK):Prop:=∀ (Ks:List (Addr × Obj)) (σ:St) (H:Hp) (s:Shared) (a C:Addr) (d:Option Addr) (c:Bool) (T:Addr),Inv X Ks σ H s→H a=some (Exo a C d false c)→X.s₀.heap.objs.size≤T→H T=none→T≠X.env.locals→T∉X.fs→(∀ p∈X.pn++Ks,p.1≠T) →
 qi T s.heap a (rawInt X.env.locals)→E (.ref a) none H→X.xe (.ref a) s
section
variable {P:Program} {w:World} {K:PySem.W.Frag} {mg:Str→Option Value} {base:Heap} {N:List Str} {qual:Str} {scope:Scope} {f:Addr} {cd:Value} {A:Around} {outer:List Env} {s:Shared} {H:Hp} {E:XK}
theorem lI:lH (kR (CXe P w) P w K mg base N qual scope f cd A outer s H E) E:=by
 intro Ks σ H1 s1 a C d c T I ha hT0 hTH hTL hTf hTp hF hE
 show wpAny _ _ (leaving _ _) _ _ _
 unfold leaving
 refine fu (yc rfl hF (gJ hF fun h' f1 f2 f3 _=>?_))
 have neT:∀ b u,H1 b=some u→b≠T:=fun b u q z=>by rw [z,hTH] at q;cases q
 have un:Un (frs (kR (CXe P w) P w K mg base N qual scope f cd A outer s H E).stack) [T] H1 H1 s1.heap h' :=
  ⟨fun b o q _ _ hb=>f2 b o (by simpa using hb) q,fun b o q _ _ hb=>⟨o.slots,f2 b o (by simpa using hb) q⟩,fun b o _ n _=>n,fun b o q _=>f3 b ⟨o,q⟩,fun _ _ q=>q,fun _ _ _ q=>q,fun _ ps q=>⟨#[],by rw [q];simp⟩⟩
 have hok:HOk P w H1 h':=fun b u q=>(I.hok b u q).stay (fun x v hx q'=>f2 x v (by
  rcases hx with rfl | hx
  ·exact neT _ _ q
  ·exact neT _ _ hx) q') (fun _ q=>q) fun _ _ q=>q
 have J:=I.call' (s':={ s1 with heap:=h' }) (ch:=[T]) rfl un hok I.bare (fun b z=>by
  obtain rfl:b=T:=by simpa using z
  refine ⟨.inr hT0,hTL,fun x c e z=>?_,hTp⟩
  obtain ⟨v,hc⟩:=I.cell x c e
  obtain ⟨oe,vs,oT,ts,_,_,_,_,hT,hdT,_⟩:=hF
  subst z
  obtain ⟨o,ho,hd⟩:=hc
  rw [hT] at ho;cases ho
  rw [hdT] at hd;cases hd)
 exact ⟨a,C,d,c,H1,rfl,J.os,J.bare,J.base,J.hok,ha,⟨T,f1⟩,hE⟩
end
section
variable {X:Cx} {Ks:List (Addr × Obj)} {σ:St} {H:Hp} {s:Shared} {E:XK} {e:Expr} {te:TE} {pos:Pos}
theorem CC {M:Model}{A:Around}{v h:Value}(KP:X.stack=X.env::X.outer)(KY:X.env.frame=some X.env.locals)
  (ro:lH X E) (ok:X.Ok) (hA:A.frames=some X.stack) (x:XR (Hd X h) Ks σ E v s):notedBy M A X.env (fun x s'=>cameBackBy M X.A X.env X.xe x s') v s:=by
 obtain ⟨a,C,d,c,H',rfl,I0,ha,hE⟩:=x
 have I1:=I0.offHold ok
 obtain ⟨oe,vs,g1,g2,g3,g4,g5,g6,g7⟩:=bp I1.hok ha
 unfold notedBy
 refine xU (base:=X.base) (outer:=X.outer) (L:=X.env.locals) (by rw [hA,KP]) (by rw [← KP];exact I1.stack) KY g1 g4 (.inl (g6 rfl)) fun h' Nt=>?_
 obtain ⟨un,hok⟩:=mQ I1.hok ha (by rw [← KP];exact I1.stkFree) Nt
 have J:=I1.call' (s':={ s with heap:=h' }) rfl (by rw [KP];exact un) hok I1.bare (fun b z=>absurd z (by simp))
 obtain ⟨T,hTn,hF⟩:=Nt.fly
 obtain ⟨of,fs,oT,ts,he,hd,h1,hTe,hT,hdT,h3⟩:=id hF
 have hTH:upd H' a (Exo a C d false c) T=none:=by rw [ar hTe];exact I1.hok.fresh hTn
 have hTL:T≠X.env.locals:=fun z=>absurd I1.lt (by rw [← z];exact Jx.mpr hTn)
 have hTf:T∉X.fs:=I1.nofs hTn
 have hTp:∀ p∈X.pn++Ks,p.1≠T:=fun p hp z=>by
  have:=Em (I1.pin p hp).1
  rw [z] at this
  exact absurd this (Jx.mpr hTn)
 have hT0:X.s₀.heap.objs.size≤T:=EV I1.sz hTn
 refine ye (s:={ s with heap:=h' }) KY hF fun h6 k6=>?_
 have J7:Inv X Ks σ (upd H' a (Exo a C d false c)) { s with heap:=h6 }:=J.kept (t':=s.toks) (fun b u q=>(k6 b).trans q)
 exact ro Ks _ _ _ a C d c T J7 (ag ..) hT0 hTH hTL hTf hTp (hF.eqv k6) hE
def AG (K:PySem.W.Frag)(R:Addr)(tb:XK→TS)(te:TE)(E:XK):TS:=fun D σ H =>
 tb (fun v _ H'=>∃ a C d c bm,v = .ref a∧H' a=some (Exo a C d false c)∧XCl K C bm∧(Value.ref C::bm).contains (.ref R)=true∧te σ H' (lG K a E)) D σ H
theorem uS {r:Str}{R:Addr}{bmR:List Value}{body:List Stmt}{np hpos rp pp:Pos}{kk:Nat}{tb:XK→TS}(KP:X.stack=X.env::X.outer)(KY:X.env.frame=some X.env.locals)
  (hg:Gl X r) (hm:X.mg r=some (.ref R)) (xR:XCl X.K R bmR) (ro:lH X E) (hb:∀ E,PSE X E body (tb E)) (hs:∀ a,PE (Hd X (.ref a)) e te) (Lh:(r == ("__debug__":Str))=false:=by decide) :
  PS X (.Try body [.ExceptHandler (some (.Name r np)) none [.Raise (some e) (some (.Constant .none kk pp)) rp] hpos] [] [] pos) (AG X.K R tb te E):=by
 intro Ks s σ H D I h
 refine wpAny_Try_except (Fm (hb _ Ks s σ H D I h) (fun f s₁ hf=>?_) fun e s₁ he=>?_)
 ·cases f with
  | next=>exact Gn hf
  | brk=>exact hf
  | cont=>exact hf
  | ret u=>exact hf
 ·obtain ⟨a,C,d,cx,H',rfl,I1,ha,hF,a',C',d',cx',bm,ea',ha',xC,hc,ht⟩:=he
  cases ea'
  have hCC:C=C':=by
   obtain ⟨oe,vs,g1,g2,_⟩:=bp I1.hok ha
   obtain ⟨oe',vs',g1',g2',_⟩:=bp I1.hok ha'
   rw [g1] at g1';cases g1'
   rw [g2] at g2';cases g2';rfl
  subst hCC
  obtain ⟨oe,vs,g1,g2,g3,g4,g5,g6⟩:=bp I1.hok ha
  refine qo (base:=X.base) (env:=X.env) (outer:=X.outer) (L:=X.env.locals) (by rw [I.ok.frames,KP]) (by rw [← KP];exact I1.stack) KY g1 g4 (.inr hF) fun h' Nt=>?_
  obtain ⟨un,hok⟩:=mQ I1.hok ha (by rw [← KP];exact I1.stkFree) Nt
  have J:=I1.call' (s':={ s₁ with heap:=h' }) rfl (by rw [KP];exact un) hok I1.bare (fun b z=>absurd z (by simp))
  rw [dS ha] at J
  obtain ⟨T,_,hT⟩:=Nt.fly
  have JH:=J.hold (.ref a)
  refine wpAny_handleBy_cons (codeAny_handlers_test ?_) (by intro q;cases q)
  refine cC (X:=Hd X (.ref a)) JH hg hm ?_ Lh
  obtain ⟨oe2,vs2,k1,k2,_⟩:=bp J.hok ha
  refine wg J.kIn xC xR k1 k2 ?_
  rw [hc]
  refine codeAny_handlers_suite ?_
  refine gJ (s:={ s₁ with heap:=h' }) hT fun h2 _ _ _ same=>?_
  have J2:Inv (Hd X (.ref a)) Ks σ H' { s₁ with heap:=h2 }:=JH.kept (t':=s₁.toks) (fun b u q=>(same rfl b).trans q)
  refine GC (Fm (AF (F:=fun _ _=>False) rfl (hs a) J2 ht) (fun _ _ z=>False.elim z) fun e s₄ hx=>?_)
  exact CC (A:=(Hd X (.ref a)).A) KP KY ro I.ok JH.ok.frames hx
end
end L2
namespace Kx
open PySem PySem.Spec PyProof.Rows L2 Wd Su
inductive Thg
 | same (ss:List Sd) (p:Nat) (h:L→L)
 | unl (i j:Int)
def D5 (H:Hp)(a:Addr)(i j:Int):Prop:=H a=some (.tup [.str "unlike",.int i,.int j])
def AH:List L→List Sd→Nat→List L ⊕ Nat
 | u,[],_=>.inl u
 | u,s::r,k=>match slW u (s.1:Int) s.2 with
  | none=>.inr k
  | some v=>AH v r (k+1)
def uT (u o:List L):Thg→Option (Str × Nat)
 | .same ss p h=>match AH u ss 0 with
  | .inr k=>some ("slide",k)
  | .inl w=>if (rot w p).map h=o then none else some ("row",0)
 | .unl i j=>if i≠((hol u).length:Int) then some ("holes",0) else if j≠((hol o).length:Int) then some ("holes",1) else if i=j then some ("holes",2) else none
theorem qZ (u o:List L)(i j:Int):uT u o (.unl i j)=if i≠((hol u).length:Int) then some (("holes":Str),0) else if j≠((hol o).length:Int) then some ("holes",1) else if i=j then some ("holes",2) else none:=rfl
def XQ9 (C:Addr)(H:Hp)(a:Addr)(z:Str)(k:Nat):Prop:=∃ dx c,H a=some (Exo a C (some dx) false c)∧H dx=some (Xdt dx [("word",.str z),("at",.int (k:Nat))])
theorem eC {C:Addr}{H:Hp}{a dx:Addr}{z:Str}{k:Nat}{c c':Bool}(ha:H a=none)(hd:H dx=none)(ne:dx≠a) :
  XQ9 C (upd (upd (upd H a (Exo a C (some dx) true c)) dx (Xdt dx (uG [] ((["word","at"]:List Str).zip [.str z,.int (k:Nat)])))) a (Exo a C (some dx) false c')) a z k:=by
 refine ⟨dx,c',ag,?_⟩
 rw [ar ne,ag]
 rfl
def XT9 (C:Addr)(H:Hp)(a:Addr):Prop:=∃ dx,H a=some (Exo a C (some dx) false true)
theorem yf {C:Addr}{H:Hp}{a dx:Addr}{o o':HO}:XT9 C (upd (upd (upd H a o) dx o') a (Exo a C (some dx) false true)) a:=⟨dx,ag⟩
inductive lJ (CS:Addr)(vs:List V)(H:Hp)(Q:VK)(E:XK):Prop
 | mk:∀ (u:List L) (t:Addr) (z sd:Int),(vs=[tx u,.ref t])→(H t=some (.tup [.int z,.int sd]))→(Srf u)→(∀ v,slW u z sd=some v→∀ H',av H H'→Q (tx v) H')→(slW u z sd=none→∀ b H',XT9 CS H' b→av H H'→E (.ref b) none H')→lJ CS vs H Q E
inductive lK (CP:Addr)(vs:List V)(H:Hp)(Q:VK)(E:XK):Prop
 | mk:∀ (u o:List L) (i j:Int),vs=[tx u,tx o,.int i,.int j]→Srf u→Srf o→(uT u o (.unl i j)=none→∀ H',av H H'→Q .non H')→(∀ z k,uT u o (.unl i j)=some (z,k)→∀ b H',XQ9 CP H' b z k→av H H'→E (.ref b) none H')→lK CP vs H Q E
def AI:Thg→Bool
 | .same _ _ _=>true
 | .unl _ _=>false
inductive Thz
 | same (ss:List (Int × Int)) (p:Int) (h:L→L)
 | unl (i j:Int)
structure TsZ (n:Nat) (H:Hp) (a:Addr) (ss:List (Int × Int)) (p:Int) (h:L→L):Prop where
 ex:∃ (q nm:Addr) (as:List Addr),H a=some (.tup [.str "same",.ref q,.int p,.ref nm])∧H q=some (.tup (as.map V.ref))∧SlZ H as ss∧H nm=some (.tup ((nmS n h).map tx))
 sg:Sd4 ss
 len:ss.length≤60
 nm:Nm n h
inductive ThZ (n:Nat)(H:Hp)(a:Addr):Thz→Prop
 | same {ss p h} (x:TsZ n H a ss p h):ThZ n H a (.same ss p h)
 | unl {i j} (x:D5 H a i j):ThZ n H a (.unl i j)
theorem TsZ.to {n:Nat}{H H':Hp}{a:Addr}{ss:List (Int × Int)}{p:Int}{h:L→L}(x:TsZ n H a ss p h)(k:∀ b xs,H b=some (.tup xs)→H' b=some (.tup xs)):TsZ n H' a ss p h:=by
 obtain ⟨q,nm,as,h1,h2,h3,h4⟩:=x.ex
 exact ⟨⟨q,nm,as,k _ _ h1,k _ _ h2,h3.to k,k _ _ h4⟩,x.sg,x.len,x.nm⟩
def c_:List L→List (Int × Int)→Nat→List L ⊕ Nat
 | u,[],_=>.inl u
 | u,s::r,k=>match slW u s.1 s.2 with
  | none=>.inr k
  | some v=>c_ v r (k+1)
theorem gP:∀ (ss:List (Int × Int)) {u w:List L} {k:Nat},Srf u→c_ u ss k = .inl w→w.Perm u
 | [],u,w,k,U,h=>by cases h;exact .refl _
 | s::r,u,w,k,U,h=>by
  unfold c_ at h
  cases e:slW u s.1 s.2 with
  | none=>rw [e] at h;cases h
  | some v =>
   rw [e] at h
   have p:=eR U e
   exact (gP r (U.perm p) h).trans p
theorem nc:∀ (ss:List (Int × Int)) {u:List L} {k j:Nat},c_ u ss k = .inr j→j < k+ss.length
 | [],u,k,j,h=>by cases h
 | s::r,u,k,j,h=>by
  unfold c_ at h
  cases e:slW u s.1 s.2 with
  | none=>rw [e] at h;cases h;rw [EA];omega
  | some v =>
   rw [e] at h
   have:=nc r h
   rw [EA];omega
def gZ (u o:List L):Thz→Option (Str × Nat)
 | .same ss p h=>if 0≤p∧p < (u.length:Int) then (match c_ u ss 0 with
  | .inr k=>some ("slide",k)
  | .inl w=>if (rot w p.toNat).map h=o then none else some ("row",0)) else some ("shape",0)
 | .unl i j=>uT u o (.unl i j)
theorem gQ {u o:List L}{ss:List (Int × Int)}{p:Int}{h:L→L}(c:¬ (0≤p∧p < (u.length:Int))):gZ u o (.same ss p h)=some (("shape":Str),0):=if_neg c
theorem jo {u o:List L}{ss:List (Int × Int)}{p:Nat}{h:L→L}(c:p < u.length):gZ u o (.same ss (p:Int) h)=match c_ u ss 0 with | .inr k=>some (("slide":Str),k) | .inl w=>if (rot w p).map h=o then none else some (("row":Str),0):=if_pos ⟨by omega,by omega⟩
inductive lL (CP:Addr)(vs:List V)(H:Hp)(Q:VK)(E:XK):Prop
 | mk:∀ (u:List L) (t:Addr) (as:List Addr) (ss:List (Int × Int)),vs=[tx u,.ref t]→H t=some (.tup (as.map V.ref))→SlZ H as ss→ss.length≤60→Srf u→(∀ w,c_ u ss 0 = .inl w→∀ H',av H H'→Q (tx w) H')→(∀ k,c_ u ss 0 = .inr k→∀ b H',XQ9 CP H' b "slide" k→av H H'→E (.ref b) none H')→lL CP vs H Q E
inductive lM (CP:Addr)(vs:List V)(H:Hp)(Q:VK)(E:XK):Prop
 | mk:∀ (n:Nat) (a:Addr) (u o:List L) (ss:List (Int × Int)) (p:Nat) (h:L→L),vs=[tx u,tx o,.ref a]→TsZ n H a ss (p:Int) h→Rw n u→Rw n o→p < u.length→(gZ u o (.same ss (p:Int) h)=none→∀ H',av H H'→Q .non H')→(∀ z k,gZ u o (.same ss (p:Int) h)=some (z,k)→∀ b H',XQ9 CP H' b z k→av H H'→E (.ref b) none H')→lM CP vs H Q E
def kz (u:List L)(ss:List Sd)(Ls:List (List L)):Prop:=∀ j,j≤ss.length→∃ y,Ls[j]? = some y∧wlk u (ss.take j)=some y
theorem uU (u:List L):kz u [] ([]++[u]):=fun j hj=>by
 have:j=0:=Nat.le_zero.mp hj
 subst this
 exact ⟨u,rfl,rfl⟩
theorem q8 {u v v2:List L}{ss:List Sd}{s:Sd}{Rs:List (List L)}(h:kz u ss (Rs++[v]))(hl:Rs.length=ss.length)(e:wlk u (ss++[s])=some v2):kz u (ss++[s]) (Rs++[v]++[v2]):=fun j hj=>by
 rw [Ec,En] at hj
 by_cases c:j≤ss.length
 ·obtain ⟨y,h1,h2⟩:=h j c
  refine ⟨y,?_,by rw [List.take_append_of_le_length c];exact h2⟩
  rw [FP (by rw [Ec,En];omega)]
  exact h1
 ·have:j=ss.length+1:=by omega
  subst this
  refine ⟨v2,?_,?_⟩
  ·rw [E8 (by rw [Ec,En,hl];exact Eg _),Ec,En,hl,Ju];rfl
  ·rw [ER (by rw [Ec,En];exact Eg _)];exact e
inductive lN (vs:List V)(H:Hp)(Q:VK)(E:XK):Prop
 | mk:∀ (d:Addr) (u:List L) (mm:Nat),vs=[.ref d,tx u,.int (mm:Int)]→mm≤16→Fd H d→Srf u →
  (∀ (r a b:Addr) (ss:List Sd) (ps:List Addr) (Rs:List (List L)) (w:List L) (H':Hp),Fd H' d→a_ d H H'→H' r=some (.tup [.ref a,.ref b])→H' a=some (.lst (ps.map V.ref))→lC H' ps ss→(∀ s∈ss,s.2=1 ∨ s.2 = -1)→ss.length≤mm→H' b=some (.lst ((Rs++[w]).map tx))→Rs.length=ss.length→wlk u ss=some w→w.Perm u→kz u ss (Rs++[w])→Q (.ref r) H')→lN vs H Q E
def yg (ss:List (Int × Int))(p:Int):Prop:=(∀ s∈ss,-1≤s.1∧s.1≤12)∧-1≤p∧p≤12
def CD (o:Option (Str × Nat))(H:Hp)(x:V):Prop:=match o with
 | none=>x = .bl true
 | some (z,k)=>∃ r,x = .ref r∧H r=some (.tup [.str z,.int (k:Int)])
end Kx
namespace PySem.SeqAt
open AutoSeq1 (wpAny_loadPart')
open MeetsSeq MeetsSeq2 MeetsSeq3
theorem dY (l:Addr)(es:Array DictEntry)(n:Nat)(dd:Option Addr)(sl:Array (Option Value))(b:Str)(u:Tok) :
  Meets (Builtin.«dict.__ne__» ⟨[.ref l,.str b u],[]⟩) (fun _ R s=>s.heap.get? l=some { cls:=.type "dict",dict:=dd,data:=.dict es n,slots:=sl }∧R (.ok (.ret .notImplemented)) s) :=
 .of_wp fun prog w A R s h=>by obtain ⟨hp,g,d,tk,os⟩:=s;obtain ⟨hl,h⟩:=h;have f1:=F.sub_str_dict;wp_walk using wpAny_loadPart' hl;exact ⟨_,rfl,h⟩
theorem dZ (b:Str)(u:Tok)(l:Addr)(c:Value)(es:Array DictEntry)(n:Nat)(dd:Option Addr)(sl:Array (Option Value)) :
  Meets (Builtin.«str.__ne__» ⟨[.str b u,.ref l],[]⟩) (fun _ R s=>s.heap.get? l=some { cls:=c,dict:=dd,data:=.dict es n,slots:=sl }∧R (.ok (.ret .notImplemented)) s) :=
 .of_wp fun prog w A R s h=>by obtain ⟨hp,g,d,tk,os⟩:=s;obtain ⟨hl,h⟩:=h;wp_walk using wpAny_loadPart' hl,wpAny_load hl;exact ⟨_,rfl,h⟩
theorem RcNeAt.dict_str {A:Around}{s:Shared}{l:Addr}{o:Obj}{es:Array DictEntry}{n:Nat}(b:Str)(u:Tok)(ho:s.heap.get? l=some o)(hc:o.cls = .type "dict")(hd:o.data = .dict es n)(hu:A.units < cLine):RcNeAt A s (.ref l) (.str b u) true:=fun prog w E Q h=>by
 obtain ⟨cls,dd,data,sl⟩:=o
 simp only at hc hd
 subst hc hd
 exact rc_ne_decline_or (k:=false) ⟨_,ho,rfl⟩ (GV s b u) (by decide) F.sub_str_dict F.slot_dict_ne F.slot_str_ne_refl
  (fun _ hq=>HL F.slot_dict_ne ⟨_,ho,rfl⟩ F.entry_dict_ne (F.args_dict_ne_2 _ _) (dY l es n dd sl b u) ⟨ho,hq⟩)
  (fun _ hq=>HL F.slot_str_ne_refl (GV s b u) F.entry_str_ne (F.args_str_ne_2 _ _) (dZ b u l (.type "dict") es n dd sl) ⟨ho,hq⟩)
  (fun _ hq=>Hi (rfl:AI (.ref l) (.str b u)=pure false) hq) (.inr hu) h
end PySem.SeqAt
namespace L2
open PySem PySem.Spec PyProof.Rows Wd
mutual
inductive Ot (e:Addr)(H:Hp):V→PyData→Prop where
 | non:Ot e H .non .none
 | bl (b:Bool):Ot e H (.bl b) (.bool b)
 | int (i:Int):Ot e H (.int i) (.int i)
 | str (x:Str) (h:x.length≤60):Ot e H (.str x) (.str x)
 | lst {a:Addr} {xs:List V} {ds:List PyData}:H a=some (.lst xs)→a≠e→xs.length≤70→Ots e H xs ds→Ot e H (.ref a) (.list ds)
 | tup {a:Addr} {xs:List V} {ds:List PyData}:H a=some (.tup xs)→xs.length≤70→Ots e H xs ds→Ot e H (.ref a) (.tuple ds)
 | void {a:Addr}:H a=some (.dK [])→Ot e H (.ref a) (.dict [])
inductive Ots (e:Addr)(H:Hp):List V→List PyData→Prop where
 | nil:Ots e H [] []
 | cons {v:V} {d:PyData} {vs:List V} {ds:List PyData}:Ot e H v d→Ots e H vs ds→Ots e H (v::vs) (d::ds)
end
mutual
def noL:PyData→Bool
 | .list _=>false
 | .tuple ds=>AJ ds
 | _=>true
def AJ:List PyData→Bool
 | []=>true
 | d::ds=>noL d && AJ ds
end
mutual
theorem Ot.reads {P:Program}{w:World}{e:Addr}{H:Hp}{h:Heap}(ok:HOk P w H h):∀ {v:V} {d:PyData},Ot e H v d→∀ {u:Value},bq v u→∃ as,Reads h u d as∧(noL d=true→sysModules∉as)
 | _,_,.non,u,r=>by cases r;exact ⟨_,.none,fun _ h=>by cases h⟩
 | _,_,.bl b,u,r=>by cases r;exact ⟨_,.bool _,fun _ h=>by cases h⟩
 | _,_,.int i,u,r=>by obtain ⟨t,rfl⟩:=r;exact ⟨_,.int _ _,fun _ h=>by cases h⟩
 | _,_,.str x _,u,r=>by obtain ⟨t,rfl⟩:=r;exact ⟨_,.str _ _,fun _ h=>by cases h⟩
 | _,_,.lst e _ _ q,u,r=>by
  cases r
  obtain ⟨_,its,n,rv,g⟩:=ok _ _ e
  obtain ⟨as,ra,_⟩:=Ots.reads ok q rv
  exact ⟨_,.list g rfl rfl (by simpa using ra),fun h=>by cases h⟩
 | _,_,.tup e _ q,u,r=>by
  cases r
  obtain ⟨_,its,rv,⟨ob,g,c,n,d⟩,_⟩:=ok _ _ e
  obtain ⟨as,ra,na⟩:=Ots.reads ok q rv
  exact ⟨_,.tuple g c d (by simpa using ra),na⟩
 | _,_,.void e,u,r=>by
  cases r
  obtain ⟨_,hs,vs,rel,o,es,ep,g,ex,dt,_,pr,_⟩:=tK ok e
  cases rel
  have he:es.toList=[]:=by cases h:es.toList with
   | nil=>rfl
   | cons x l=>rw [h] at pr;cases pr
  refine ⟨_,.dict (as:=[]) (bs:=[]) g ex.1 dt (by rw [he];exact .nil) (by rw [he];exact .nil),fun _ h=>?_⟩
  rw [EL] at h
  rcases h with h | h
  ·rw [Eu] at h
   rw [← h] at hs
   simp at hs
  ·cases h
theorem Ots.reads {P:Program}{w:World}{e:Addr}{H:Hp}{h:Heap}(ok:HOk P w H h):∀ {vs:List V} {ds:List PyData},Ots e H vs ds→∀ {us:List Value},a8 vs us→∃ as,ReadsAll h us ds as∧(AJ ds=true→sysModules∉as)
 | _,_,.nil,_,r=>by cases r;exact ⟨_,.nil,fun _ h=>by cases h⟩
 | _,_,.cons q qs,_,r=>by
  cases r with
  | cons r rs =>
   obtain ⟨as,a1,n1⟩:=Ot.reads ok q r
   obtain ⟨bs,a2,n2⟩:=Ots.reads ok qs rs
   refine ⟨_,.cons a1 a2,fun h hm=>?_⟩
   have h:=(EI _ _).mp h
   rcases EL.mp hm with k | k
   ·exact n1 h.1 k
   ·exact n2 h.2 k
end
structure Sho (d:PyData):Prop where
 sh:d.showable=true
 nl:d.hasDict=true→noL d=true
 dp:d.depth≤10
 sz:d.shown.length≤sizeLine
 nt:∀ i,d = .int i→i.natAbs.log2 < 1920
section
variable {X:Cx}
inductive eT (xs:List V)(H:Hp)(Q:VK):Prop
 | mk:∀ e v d,(xs=[v])→(Ot e H v d)→(Sho d)→(Q (.str d.shown) H)→eT xs H Q
theorem dN (hg:X.A.guards=some [])(hu:X.A.units+64 < cLine):cI X (.builtin "repr") (fun xs H Q=>∃ e a d,xs=[.ref a]∧Ot e H (.ref a) d∧Sho d∧Q (.str d.shown) H):=by
 intro Ks s σ H xs us Q I r h
 obtain ⟨e0,a,d,rfl,q,S,hQ⟩:=h
 obtain ⟨u,rfl,ru⟩:=cJ r
 cases ru
 obtain ⟨as,rd,na⟩:=q.reads I.hok (u:=.ref a) rfl
 refine repr_of_reads' rd S.sh (fun hd=>na (S.nl hd)) hg (by have:=S.dp;omega) (fun _ _ e=>e) (fun h' u tk hk=>?_) S.sz
 exact ⟨.str _,H,I.kept hk,⟨_,rfl⟩,hQ⟩
theorem de (hg:X.A.guards=some [])(hu:X.A.units+64 < cLine):cI X (.builtin "repr") eT:=by
 intro Ks s σ H xs us Q I r h
 obtain ⟨e0,v,d,rfl,q,S,hQ⟩:=h
 obtain ⟨u,rfl,ru⟩:=cJ r
 cases q with
 | non=>cases ru;exact P.repr_of_none ⟨.str _,H,I.tok _,⟨_,rfl⟩,hQ⟩
 | bl b=>cases ru;exact P.repr_of_bool ⟨.str _,H,I.tok _,⟨_,rfl⟩,hQ⟩
 | int i=>obtain ⟨t,rfl⟩:=ru;exact P.repr_of_int (S.nt i rfl) ⟨.str _,H,I.tok _,⟨_,rfl⟩,hQ⟩
 | str x _=>obtain ⟨t,rfl⟩:=ru;exact P.repr_of_str ⟨.str _,H,I.tok _,⟨_,rfl⟩,hQ⟩ S.sz
 | lst e n l qs=>exact dN hg hu Ks s σ H _ _ Q I (.cons ru .nil) ⟨e0,_,_,rfl,.lst e n l qs,S,hQ⟩
 | tup e l qs=>exact dN hg hu Ks s σ H _ _ Q I (.cons ru .nil) ⟨e0,_,_,rfl,.tup e l qs,S,hQ⟩
 | void e=>exact dN hg hu Ks s σ H _ _ Q I (.cons ru .nil) ⟨e0,_,_,rfl,.void e,S,hQ⟩
inductive Br (x y:V)(H:Hp)(Q:VK):Prop
 | dat:∀ da db,Dt H x da→Dt H y db→da.canLay0=true→db.canLay0=true→da.depth≤10→Q (.bl (!PyData.eqv da db)) H→Br x y H Q
 | void:∀ a z,x = .ref a→H a=some (.dK [])→y = .str z→Q (.bl true) H→Br x y H Q
theorem q9 (hu:X.A.units+64 < cLine):OpR X (compareOp .NotEq) Br:=by
 intro Ks s σ H x y v u Q I rx ry h
 cases h with
 | dat da db ha hb la lb dp q=>exact kj hu Ks s σ H _ _ _ _ Q I rx ry ⟨da,db,ha,hb,la,lb,dp,q⟩
 | void a z ex e ey q =>
  subst ex ey
  cases rx
  obtain ⟨t,rfl⟩:=ry
  obtain ⟨_,_,vs,rel,o,es,ep,g,ex,dt,_,pr,_⟩:=tK I.hok e
  exact HQ (SeqAt.RcNeAt.dict_str z t g ex.1 dt (by omega)) ⟨.bl _,H,I,rfl,q⟩
end
mutual
theorem Ot.to {e e':Addr}{H H':Hp}(k1:∀ a xs,H a=some (.tup xs)→H' a=some (.tup xs))(k2:∀ a xs,a≠e→H a=some (.lst xs)→H' a=some (.lst xs)∧a≠e')(k3:∀ a,H a=some (.dK [])→H' a=some (.dK [])):∀ {v:V} {d:PyData},Ot e H v d→Ot e' H' v d
 | _,_,.non=>.non
 | _,_,.bl b=>.bl b
 | _,_,.int i=>.int i
 | _,_,.str x h=>.str x h
 | _,_,.lst h n l q=>.lst (k2 _ _ n h).1 (k2 _ _ n h).2 l (Ots.to k1 k2 k3 q)
 | _,_,.tup h l q=>.tup (k1 _ _ h) l (Ots.to k1 k2 k3 q)
 | _,_,.void h=>.void (k3 _ h)
theorem Ots.to {e e':Addr}{H H':Hp}(k1:∀ a xs,H a=some (.tup xs)→H' a=some (.tup xs))(k2:∀ a xs,a≠e→H a=some (.lst xs)→H' a=some (.lst xs)∧a≠e')(k3:∀ a,H a=some (.dK [])→H' a=some (.dK [])):∀ {vs:List V} {ds:List PyData},Ots e H vs ds→Ots e' H' vs ds
 | _,_,.nil=>.nil
 | _,_,.cons q qs=>.cons (Ot.to k1 k2 k3 q) (Ots.to k1 k2 k3 qs)
end
theorem Ot.same {e:Addr}{H H':Hp}{v:V}{d:PyData}(s:av H H')(q:Ot e H v d):Ot e H' v d:=q.to (fun a xs h=>s _ _ h) (fun a xs n h=>⟨s _ _ h,n⟩) fun a h=>s _ _ h
theorem Ots.len {e:Addr}{H:Hp}:∀ {vs:List V} {ds:List PyData},Ots e H vs ds→vs.length=ds.length
 | _,_,.nil=>rfl
 | _,_,.cons _ q=>EX (· + 1) q.len
theorem Ots.get {e:Addr}{H:Hp}:∀ {vs:List V} {ds:List PyData},Ots e H vs ds→∀ {i:Nat} {v:V},vs[i]? = some v→∃ d,ds[i]? = some d∧Ot e H v d
 | _,_,.nil,i,v,h=>by cases h
 | _,_,.cons q qs,0,v,h=>by cases h;exact ⟨_,rfl,q⟩
 | _,_,.cons q qs,i+1,v,h=>qs.get (i:=i) h
end L2
namespace Kx
open PySem PySem.Spec PyProof.Rows L2 Wd Su
theorem q_ {K:PySem.W.Frag}:PySem.W.kitOne K (.type "dict") (.type "str")=some false:=by kernel_rfl
theorem uV {K:PySem.W.Frag}:PySem.W.kitOne K (.type "NoneType") (.type "str")=some false:=by kernel_rfl
theorem rf {K:PySem.W.Frag}:PySem.W.kitOne K (.type "bool") (.type "str")=some false:=by kernel_rfl
theorem uW {K:PySem.W.Frag}:PySem.W.kitOne K (.type "int") (.type "str")=some false:=by kernel_rfl
theorem rg {K:PySem.W.Frag}:PySem.W.kitOne K (.type "list") (.type "str")=some false:=by kernel_rfl
theorem uX {K:PySem.W.Frag}:PySem.W.kitOne K (.type "tuple") (.type "str")=some false:=by kernel_rfl
theorem eU {K:PySem.W.Frag}{e:Addr}{H:Hp}{x:V}{d:PyData}(h:Ot e H x d):(∃ n:String,fU K H x (.type n)∧PySem.W.kitOne K (.type n) (.type "tuple")=some false∧∀ ds,d ≠ .tuple ds) ∨ ∃ a xs ds,x = .ref a∧H a=some (.tup xs)∧d = .tuple ds∧xs.length≤70∧Ots e H xs ds:=by
 cases h with
 | non=>exact .inl ⟨_,.non,uf,fun ds=>by intro z;cases z⟩
 | bl b=>exact .inl ⟨_,.bl b,pT,fun ds=>by intro z;cases z⟩
 | int i=>exact .inl ⟨_,.int i,ug,fun ds=>by intro z;cases z⟩
 | str z _=>exact .inl ⟨_,.str z,uh,fun ds=>by intro z;cases z⟩
 | lst h n l q=>exact .inl ⟨_,.lst h,pU,fun ds=>by intro z;cases z⟩
 | tup h l q=>exact .inr ⟨_,_,_,rfl,h,rfl,l,q⟩
 | void h=>exact .inl ⟨_,.dK h,pV,fun ds=>by intro z;cases z⟩
theorem rh {K:PySem.W.Frag}{e:Addr}{H:Hp}{x:V}{d:PyData}(h:Ot e H x d):(∃ n:String,fU K H x (.type n)∧PySem.W.kitOne K (.type n) (.type "str")=some false∧(∀ z,d ≠ .str z)∧∀ z,x ≠ .str z) ∨ ∃ z,x = .str z∧d = .str z∧z.length≤60:=by
 cases h with
 | non=>exact .inl ⟨_,.non,uV,(fun ds=>by intro z;cases z),(fun ds=>by intro z;cases z)⟩
 | bl b=>exact .inl ⟨_,.bl b,rf,(fun ds=>by intro z;cases z),(fun ds=>by intro z;cases z)⟩
 | int i=>exact .inl ⟨_,.int i,uW,(fun ds=>by intro z;cases z),(fun ds=>by intro z;cases z)⟩
 | str z l=>exact .inr ⟨z,rfl,rfl,l⟩
 | lst h n l q=>exact .inl ⟨_,.lst h,rg,(fun ds=>by intro z;cases z),(fun ds=>by intro z;cases z)⟩
 | tup h l q=>exact .inl ⟨_,.tup h,uX,(fun ds=>by intro z;cases z),(fun ds=>by intro z;cases z)⟩
 | void h=>exact .inl ⟨_,.dK h,q_,(fun ds=>by intro z;cases z),(fun ds=>by intro z;cases z)⟩
def whD:PyData→Bool
 | .int _=>true
 | _=>false
theorem g9 {K:PySem.W.Frag}{e:Addr}{H:Hp}{x:V}{d:PyData}(h:Ot e H x d):Wh K H x∧whV x=whD d:=by
 cases h with
 | non=>exact ⟨.mk .non Ci Cj rfl,rfl⟩
 | bl b=>exact ⟨.mk (.bl b) Ce Cg rfl,rfl⟩
 | int i=>exact ⟨.mk (.int i) Cc Cd rfl,rfl⟩
 | str z _=>exact ⟨.mk (.str z) Cn Co rfl,rfl⟩
 | lst e _ _ q=>exact ⟨.mk (.lst e) Cq Cr rfl,rfl⟩
 | tup e _ q=>exact ⟨.mk (.tup e) Ct Cu rfl,rfl⟩
 | void e=>exact ⟨.mk (.dK e) Cv Cw rfl,rfl⟩
theorem fO {e:Addr}{H:Hp}{x:V}{d:PyData}(h:Ot e H x d)(k:whD d=true):∃ i,x = .int i∧d = .int i:=by
 cases h with
 | int i=>exact ⟨i,rfl,rfl⟩
 | _=>cases k
def slB:PyData→Bool
 | .tuple [.int _,.int s]=>decide (s=1 ∨ s = -1)
 | _=>false
def arB:PyData→Bool
 | .tuple ds=>decide (ds.length≤60) && ds.all slB
 | _=>false
theorem ri {ds:List PyData}(h:ds.length≠2):slB (.tuple ds)=false:=by
 unfold slB
 split
 ·rename_i e
  rw [E3 e] at h
  exact absurd rfl h
 ·rfl
open Classical in
def nmB (n:Nat)(d:PyData):Bool:=decide (∃ ls:List L,d = .tuple (ls.map fun l=>.str (toS [l]))∧ls.length=n∧(∀ l∈ls,l.val % 6 < n)∧(ls.map (·.val % 6)).Nodup)
def jq:PyData→Bool
 | .tuple [.str z,.int _,.int _]=>decide (z = "unlike")
 | _=>false
def smB (n:Nat)(m:Nat):PyData→Bool
 | .tuple [.str z,s,.int p,q]=>decide (z = "same") && (arB s && (decide (0≤p∧p < (m:Int)) && nmB n q))
 | _=>false
inductive yh (vs:List V)(H:Hp)(Q:VK)(KC:XK):Prop
 | mk:∀ (e:Addr) (x:V) (d:PyData),vs=[x]→Ot e H x d→(∀ H',av H H'→Q (.bl (slB d)) H')→yh vs H Q KC
inductive yi (vs:List V)(H:Hp)(Q:VK)(KC:XK):Prop
 | mk:∀ (e:Addr) (x:V) (d:PyData),vs=[x]→Ot e H x d→(∀ H',av H H'→Q (.bl (arB d)) H')→yi vs H Q KC
inductive yj (vs:List V)(H:Hp)(Q:VK)(KC:XK):Prop
 | mk:∀ (n:Nat) (e:Addr) (x:V) (d:PyData),vs=[.int (n:Int),x]→1≤n→n≤6→Ot e H x d→(∀ H',av H H'→Q (.bl (nmB n d)) H')→yj vs H Q KC
def Hd0:PyData→Prop
 | .tuple (d::_)=>d = .dict [] ∨ (d.canLay0=true∧d.depth≤10)
 | _=>True
inductive rj (vs:List V)(H:Hp)(Q:VK)(KC:XK):Prop
 | mk:∀ (e:Addr) (x:V) (d:PyData),vs=[x]→Ot e H x d→Hd0 d→(∀ H',av H H'→Q (.bl (jq d)) H')→rj vs H Q KC
theorem yk:∀ (n:Fin 7) (l:L),isW (n.val:Int) (toS [l])=decide (l.val % 6 < n.val):=by decide +kernel
theorem nh {n:Nat}(h6:n≤6):∀ {xs:List V},xs.all (mpV n)=true→∃ us:List (List L),xs=us.map tx∧∀ u∈us,isW (n:Int) (toS u)=true
 | [],_=>⟨[],rfl,fun _ h=>by cases h⟩
 | x::xs,h=>by
  rw [FU,EI] at h
  obtain ⟨us,rfl,hu⟩:=nh h6 h.2
  cases x with
  | str z =>
   have hz:isW (n:Int) z=true:=by
    cases e:isW (n:Int) z with
    | true=>rfl
    | false=>rw [wx e] at h;exact absurd h.1 (by decide)
   obtain ⟨u,rfl⟩:=qM h6 hz
   exact ⟨u::us,rfl,fun v hv=>(Ei.mp hv).elim (fun e=>e ▸ hz) (hu v)⟩
  | _=>exact absurd h.1 (show ¬ (false=true) by decide)
theorem wD {e:Addr}{H:Hp}:∀ {us:List (List L)} {ds:List PyData},Ots e H (us.map tx) ds→ds=us.map fun u=>.str (toS u)
 | [],_,.nil=>rfl
 | u::us,_,.cons q qs=>by
  cases q
  rw [wD qs]
  rfl
theorem CF {K:PySem.W.Frag}{e:Addr}{H:Hp}{x:V}{d:PyData}(h:Ot e H x d):(∃ n:String,fU K H x (.type n)∧PySem.W.kitOne K (.type n) (.type "tuple")=some false∧(∀ ds,d ≠ .tuple ds)∧Tm K H x (fun _=>false)) ∨ ∃ a xs ds,x = .ref a∧H a=some (.tup xs)∧d = .tuple ds∧xs.length≤70∧Ots e H xs ds∧Tm K H x (fun n=>decide (xs.length=n) && xs.all (mpV n)):=by
 rcases eU (K:=K) h with ⟨n,ty,kt,nt⟩ | ⟨a,xs,ds,rfl,ht,rfl,hl,qs⟩
 ·exact .inl ⟨n,ty,kt,nt,.oth ty kt⟩
 ·refine .inr ⟨a,xs,ds,rfl,ht,rfl,hl,qs,.tup ht (fun y hy=>?_) (by omega)⟩
  obtain ⟨i,hi,rfl⟩:=GB hy
  obtain ⟨dy,_,qy⟩:=qs.get (Ee hi)
  rcases rh (K:=K) qy with ⟨n,ty,kt,_,ns⟩ | ⟨z,ez,_,hz⟩
  ·exact .oth ty kt ns
  ·rw [ez]
   exact .str z (by omega)
theorem wF {α:Type}[DecidableEq α]:∀ {m:List α},¬ m.Nodup→∃ A x B,m=A++x::B∧x∈B
 | [],h=>absurd HW h
 | y::m,h=>by
  rw [EN] at h
  by_cases c:y∈m
  ·exact ⟨[],y,m,rfl,c⟩
  ·obtain ⟨A,x,B,rfl,hx⟩:=wF (m:=m) fun z=>h ⟨c,z⟩
   exact ⟨y::A,x,B,rfl,hx⟩
theorem rl {α:Type}[DecidableEq α]{m dl:List α}(nd:dl.Nodup)(mem:∀ x,x∈dl ↔ x∈m):dl.length=m.length ↔ m.Nodup:=by
 constructor
 ·intro h
  refine Fc fun n=>?_
  obtain ⟨A,x,B,rfl,hx⟩:=wF n
  have:=iu (a:=dl) (b:=A++B) nd fun y hy=>by
   have:=(mem y).mp hy
   simp at this ⊢
   rcases this with h | h | h
   ·exact .inl h
   ·exact .inr (h ▸ hx)
   ·exact .inr h
  simp at h this
  omega
 ·intro h
  exact Nat.le_antisymm (iu nd fun x hx=>(mem x).mp hx) (iu h fun x hx=>(mem x).mpr hx)
theorem rm:∀ {a b:List L},(a.map fun l=>PyData.str (toS [l]))=b.map (fun l=>PyData.str (toS [l]))→a=b
 | [],[],_=>rfl
 | [],_::_,h=>by cases h
 | _::_,[],h=>by cases h
 | x::a,y::b,h=>by
  obtain ⟨h1,h2⟩:=E7 h
  rw [rm h2,(E7 (fi (GH h1))).1]
open Classical in
theorem kA {n:Nat}{d:PyData}(h:¬ ∃ ls:List L,d = .tuple (ls.map fun l=>.str (toS [l]))∧ls.length=n∧(∀ l∈ls,l.val % 6 < n)∧(ls.map (·.val % 6)).Nodup):nmB n d=false:=Ed h
theorem nj {n:Nat}{ls:List L}(hl:ls.length=n)(hi:∀ l∈ls,l.val % 6 < n):nmB n (.tuple (ls.map fun l=>.str (toS [l])))=decide (ls.map (·.val % 6)).Nodup:=by
 unfold nmB
 rw [Hf]
 constructor
 ·rintro ⟨ls',e,_,_,h⟩
  rw [rm (E3 e)]
  exact h
 ·intro h
  exact ⟨ls,rfl,hl,hi,h⟩
theorem kC:∀ {us:List (List L)},(us.map fun u=>decide (u.length=1)).all id=true→∃ ls:List L,us=ls.map fun l=>[l]
 | [],_=>⟨[],rfl⟩
 | u::us,hc=>by
  rw [EO,FU,EI] at hc
  obtain ⟨ls,rfl⟩:=kC hc.2
  have h1:u.length=1:=Fn hc.1
  match u,h1 with
  | [l],_=>exact ⟨l::ls,rfl⟩
mutual
theorem AK {e:Addr}{H:Hp}:∀ {x:V} {d:PyData},Ot e H x d→d.canLay0=true→Dt H x d
 | _,_,.non,_=>.non
 | _,_,.bl b,_=>.bl b
 | _,_,.int i,_=>.int i
 | _,_,.str z _,_=>.str z
 | _,_,.lst h _ _ q,c=>.lst h (rn q c)
 | _,_,.tup h _ q,c=>.tup h (rn q c)
 | _,_,.void _,c=>by cases c
theorem rn {e:Addr}{H:Hp}:∀ {x:List V} {d:List PyData},Ots e H x d→PyData.canLayAll0 d=true→Dts H x d
 | _,_,.nil,_=>.nil
 | _,_,.cons q qs,c=>.cons (AK q ((EI _ _).mp c).1) (rn qs ((EI _ _).mp c).2)
end
theorem uY (d:PyData)(z:Str):PyData.eqv d (.str z)=true ↔ d = .str z:=by
 cases d with
 | str s =>
  show (s == z)=true ↔ _
  rw [FQ]
  exact ⟨fun h=>by rw [h],fun h=>GH h⟩
 | _=>exact ⟨fun h=>absurd h (show ¬ (false=true) by decide),fun h=>by cases h⟩
theorem jr {e:Addr}{H:Hp}{x:V}{d:PyData}{z:Str}{Q:VK}(q:Ot e H x d)(c:d = .dict [] ∨ (d.canLay0=true∧d.depth≤10))(lz:(PyData.str z).canLay0=true)(b:Bool)(hb:b=true ↔ d = .str z)(k:Q (.bl (!b)) H):Br x (.str z) H Q:=by
 rcases c with rfl | ⟨c1,c2⟩
 ·have:b=false:=by
   cases b with
   | false=>rfl
   | true=>cases hb.mp rfl
  rw [this] at k
  cases q with
  | void h=>exact .void _ z rfl h rfl k
 ·refine .dat _ _ (AK q c1) (.str z) c1 lz c2 ?_
  have:PyData.eqv d (.str z)=b:=by
   have:=uY d z
   cases b with
   | true=>exact this.mpr (hb.mp rfl)
   | false =>
    cases h:PyData.eqv d (.str z) with
    | false=>rfl
    | true=>exact absurd (hb.mpr (this.mp h)) (by decide)
  rw [this]
  exact k
theorem rq {z:Str}{d1 d2:PyData}(h:z = "unlike"):jq (.tuple [.str z,d1,d2])=(whD d1 && whD d2):=by
 subst h
 cases d1 <;> cases d2 <;> rfl
theorem eD {ds:List PyData}(h:¬ ∃ z d1 d2,ds=[.str z,d1,d2]∧z=("unlike":Str)):jq (.tuple ds)=false:=by
 unfold jq
 split
 ·rename_i z i j e
  exact Ed fun k=>h ⟨z,_,_,E3 e,k⟩
 ·rfl
theorem rA {d:PyData}(h:∀ ds,d ≠ .tuple ds):jq d=false:=by
 unfold jq
 split
 ·exact absurd rfl (h _)
 ·rfl
theorem wH {n m:Nat}{d:PyData}(h:∀ ds,d ≠ .tuple ds):smB n m d=false:=by
 unfold smB
 split
 ·exact absurd rfl (h _)
 ·rfl
theorem fP {n m:Nat}{ds:List PyData}(h:¬ ∃ z d1 d2 d3,ds=[.str z,d1,d2,d3]∧z=("same":Str)):smB n m (.tuple ds)=false:=by
 unfold smB
 split
 ·rename_i z s p q e
  rw [Ed fun k=>h ⟨z,_,_,_,E3 e,k⟩]
  rfl
 ·rfl
theorem kD {n m:Nat}{z:Str}{d1 d3:PyData}{p:Int}(h:z = "same"):smB n m (.tuple [.str z,d1,.int p,d3])=(arB d1 && (decide (0≤p∧p < (m:Int)) && nmB n d3)):=by
 subst h
 show (decide (("same":Str) = "same") && (arB d1 && (decide (0≤p∧p < (m:Int)) && nmB n d3)))=_
 rw [Eh rfl,FJ]
theorem rB {n m:Nat}{z:Str}{d1 d2 d3:PyData}(h:whD d2=false):smB n m (.tuple [.str z,d1,d2,d3])=false:=by
 cases d2 with
 | int i=>cases h
 | _=>rfl
inductive rD (vs:List V)(H:Hp)(Q:VK)(KC:XK):Prop
 | mk:∀ (n:Nat) (e:Addr) (u:List L) (x:V) (d:PyData),vs=[tx u,x]→Rw n u→Ot e H x d→Hd0 d→(∀ H',av H H'→Q (.bl (smB n u.length d)) H')→rD vs H Q KC
theorem wI:(PyData.str "unlike").canLay0=true:=by decide +kernel
theorem wJ:(PyData.str "same").canLay0=true:=by decide +kernel
namespace Slk9
theorem val_or9 {x y:L}(h:x.val % 6=y.val % 6):x=y ∨ x=inv y:=by
 revert x y
 decide
end Slk9
def ShD (n:Nat):Thz→PyData→Prop
 | .same ss p h,d=>d = .tuple [.str "same",.tuple (dsl ss),.int p,.tuple ((nmS n h).map fun w=>.str (toS w))]∧Sd4 ss∧ss.length≤60∧Nm n h
 | .unl i j,d=>d = .tuple [.str "unlike",.int i,.int j]
open Classical in
def oz (n:Nat)(d:PyData):Option Thz:=if h:∃ t,ShD n t d then some (Classical.choose h) else none
theorem dO {n:Nat}{d:PyData}{t:Thz}(h:oz n d=some t):ShD n t d:=by
 unfold oz at h
 split at h
 ·rename_i c
  cases h
  exact Classical.choose_spec c
 ·cases h
theorem kE {n:Nat}{d:PyData}(h:oz n d=none):∀ t,¬ ShD n t d:=by
 unfold oz at h
 split at h
 ·cases h
 ·rename_i c
  exact fun t k=>c ⟨t,k⟩
def du (n:Nat)(u o:List L)(d:PyData):Option (Str × Nat):=match oz n d with
 | none=>some ("shape",0)
 | some t=>gZ u o t
theorem AL:∀ {ds:List PyData},ds.all slB=true→∃ ss:List (Int × Int),ds=dsl ss∧Sd4 ss
 | [],_=>⟨[],rfl,fun _ h=>by cases h⟩
 | d::ds,h=>by
  rw [FU,EI] at h
  obtain ⟨ss,rfl,S⟩:=AL h.2
  have h1:=h.1
  unfold slB at h1
  split at h1
  ·rename_i z s
   exact ⟨(z,s)::ss,rfl,fun p hp=>(Ei.mp hp).elim (fun e=>by rw [e];exact Fn h1) (S p)⟩
  ·cases h1
theorem wK:∀ {ss:List (Int × Int)},Sd4 ss→(dsl ss).all slB=true
 | [],_=>rfl
 | s::ss,h=>by
  show (slB (.tuple [.int s.1,.int s.2]) && (dsl ss).all slB)=true
  rw [wK fun p hp=>h p (Ej _ hp)]
  show (decide (s.2=1 ∨ s.2 = -1) && true)=true
  rw [Eh (h s Ex)]
  rfl
theorem CG {n:Nat}(h6:n≤6){ls:List L}(hl:ls.length=n)(hi:∀ l∈ls,l.val % 6 < n)(nd:(ls.map (·.val % 6)).Nodup):Nm n (nm ls)∧nmS n (nm ls)=ls.map fun l=>[l]:=by
 have g:∀ {i:Nat} (h:i < ls.length),ls.getD i 0=ls[i]:=fun {i} h=>by
  rw [Ew,Ee h]
  rfl
 refine ⟨⟨m8 ls,fun x y hx hy e=>?_,fun x hx=>?_⟩,?_⟩
 ·have e1:=EX (fun z:L=>z.val % 6) e
  have e1:(nm ls x).val % 6=(nm ls y).val % 6:=e1
  rw [kr,kr,g (by omega),g (by omega)] at e1
  have e2:x.val % 6=y.val % 6:=by
   have i1:x.val % 6 < (ls.map (·.val % 6)).length:=by rw [Ea];omega
   have i2:y.val % 6 < (ls.map (·.val % 6)).length:=by rw [Ea];omega
   refine (Hb (h₀:=i1) (h₁:=i2) nd).mp ?_
   rw [List.getElem_map,List.getElem_map]
   exact e1
  rcases Slk9.val_or9 e2 with h | h
  ·exact h
  ·rw [h,m8] at e
   exact absurd e (mD _)
 ·rw [kr,g (by omega)]
  exact hi _ (Gg _)
 ·unfold nmS
  refine Gu fun i=>?_
  rw [Er,Er]
  by_cases c:i < n
  ·rw [Ga c,Ee (by omega)]
   show some [nm ls (lt6 i)]=some [ls[i]]
   have:nm ls (lt6 i)=ls.getD i 0:=by
    unfold nm
    have v:=cZ (j:=i) (by omega)
    rw [v,if_pos (by omega)]
   rw [this,g (by omega)]
  ·rw [Fu (by rw [FB];omega),Fu (by omega)]
   rfl
theorem yl {n:Nat}(h:L→L):(nmS n h).map (fun w=>PyData.str (toS w))=((List.range n).map fun i=>h (lt6 i)).map fun l=>PyData.str (toS [l]):=by
 unfold nmS
 rw [Fl,Fl]
 rfl
theorem rE {n:Nat}(h6:n≤6){d:PyData}:nmB n d=true ↔ ∃ h,Nm n h∧d = .tuple ((nmS n h).map fun w=>.str (toS w)):=by
 constructor
 ·intro k
  obtain ⟨ls,e,a,b,c⟩:∃ ls:List L,d = .tuple (ls.map fun l=>.str (toS [l]))∧ls.length=n∧(∀ l∈ls,l.val % 6 < n)∧(ls.map (·.val % 6)).Nodup:=by
   refine Fc fun c=>?_
   rw [kA c] at k
   cases k
  obtain ⟨n1,n2⟩:=CG h6 a b c
  refine ⟨nm ls,n1,?_⟩
  rw [e,n2,Fl]
  rfl
 ·rintro ⟨h,N,rfl⟩
  rw [yl]
  have inn:∀ i,i < n→(h (lt6 i)).val % 6 < n:=fun i hi=>N.ins _ (by rw [cZ (by omega)];omega)
  rw [nj (by rw [Ea,FB]) (fun l hl=>by
   obtain ⟨i,hi,rfl⟩:=ED.mp hl
   exact inn i (FH.mp hi))]
  refine Eh ?_
  rw [Fl]
  refine qJ _ GG fun i hi j hj e=>?_
  rw [FH] at hi hj
  have v1:=cZ (j:=i) (by omega)
  have v2:=cZ (j:=j) (by omega)
  rcases Slk9.val_or9 e with q | q
  ·have:=N.inj _ _ (by rw [v1];omega) (by rw [v2];omega) q
   rw [← v1,← v2,this]
  ·have:=N.inj (lt6 i) (inv (lt6 j)) (by rw [v1];omega) (by rw [qK,v2];omega) (by
    have q:h (lt6 i)=inv (h (lt6 j)):=q
    rw [q,N.iv])
   have:=EX Fin.val this
   rw [v1,fk,v2,if_pos (by omega)] at this
   omega
theorem iA {n m:Nat}(h6:n≤6)(d:PyData):smB n m d=(match oz n d with | some (.same _ p _)=>decide (0≤p∧p < (m:Int)) | _=>false):=by
 cases hc:oz n d with
 | none =>
  have hn:=kE hc
  refine Fc fun c0=>?_
  have c:smB n m d=true:=by revert c0;cases smB n m d <;> simp
  unfold smB at c
  split at c
  ·rename_i z s p q
   rw [EI,EI,EI] at c
   obtain ⟨c1,c2,_,c4⟩:=c
   have c1:=Fn c1
   unfold arB at c2
   split at c2
   ·rename_i ds
    rw [EI] at c2
    obtain ⟨ss,rfl,S⟩:=AL c2.2
    obtain ⟨h,N,rfl⟩:=(rE h6).mp c4
    have:=Fn c2.1
    refine hn (.same ss p h) ⟨by rw [c1],S,by unfold dsl at this;rwa [Ea] at this,N⟩
   ·cases c2
  ·cases c
 | some t =>
  have hs:=dO hc
  cases t with
  | same ss p h =>
   obtain ⟨rfl,S,l,N⟩:=hs
   rw [kD rfl]
   have a1:arB (.tuple (dsl ss))=true:=by
    show (decide ((dsl ss).length≤60) && (dsl ss).all slB)=true
    rw [wK S,Eh (by unfold dsl;rw [Ea];exact l)]
    rfl
   rw [a1,(rE h6).mpr ⟨h,N,rfl⟩,FJ,Bool.and_true]
  | unl i j =>
   have hs:d=_:=hs
   subst hs
   exact fP (by rintro ⟨z,d1,d2,d3,e,_⟩;cases e)
theorem fz {n:Nat}(d:PyData):jq d=(match oz n d with | some (.unl _ _)=>true | _=>false):=by
 cases hc:oz n d with
 | none =>
  have hn:=kE hc
  refine Fc fun c0=>?_
  have c:jq d=true:=by revert c0;cases jq d <;> simp
  unfold jq at c
  split at c
  ·rename_i z i j
   exact hn (.unl i j) (by rw [Fn c];rfl)
  ·cases c
 | some t =>
  have hs:=dO hc
  cases t with
  | same ss p h =>
   obtain ⟨rfl,S,l,N⟩:=hs
   exact eD (by rintro ⟨z,d1,d2,e,_⟩;cases e)
  | unl i j =>
   have hs:d=_:=hs
   subst hs
   rfl
theorem wL {e:Addr}{H:Hp}:∀ {ss:List (Int × Int)} {xs:List V},Ots e H xs (dsl ss)→∃ as:List Addr,xs=as.map V.ref∧SlZ H as ss
 | [],_,.nil=>⟨[],rfl,SlZ.nil _⟩
 | s::ss,_,.cons q qs=>by
  obtain ⟨as,rfl,S⟩:=wL (ss:=ss) qs
  cases q with
  | @tup a xs _ h _ q =>
   cases q with
   | cons q1 q =>
    cases q with
    | cons q2 q =>
     cases q
     cases q1
     cases q2
     refine ⟨a::as,rfl,by rw [EA,EA,S.len],fun k s' hk=>?_⟩
     cases k with
     | zero=>cases hk;exact ⟨a,rfl,h⟩
     | succ k=>exact S.at_ k s' hk
theorem rF {e:Addr}{H:Hp}:∀ {ws:List (List L)} {xs:List V},Ots e H xs (ws.map fun w=>.str (toS w))→xs=ws.map tx
 | [],_,.nil=>rfl
 | w::ws,_,.cons q qs=>by
  cases q
  rw [rF qs]
  rfl
theorem rG {n:Nat}{e:Addr}{H:Hp}{x:V}{d:PyData}{t:Thz}(h:Ot e H x d)(s:ShD n t d):∃ a,x = .ref a∧ThZ n H a t:=by
 cases t with
 | same ss p f =>
  obtain ⟨rfl,S,l,N⟩:=s
  cases h with
  | @tup a xs _ h _ q =>
   cases q with
   | cons q0 q =>
    cases q with
    | cons q1 q =>
     cases q with
     | cons q2 q =>
      cases q with
      | cons q3 q =>
       cases q
       cases q0
       cases q2
       cases q1 with
       | @tup b ys _ hb _ qb =>
        cases q3 with
        | @tup c zs _ hc _ qc =>
         obtain ⟨as,rfl,Sz⟩:=wL qb
         have:=rF qc
         subst this
         exact ⟨a,rfl,.same ⟨⟨b,c,as,h,hb,Sz,hc⟩,S,l,N⟩⟩
 | unl i j =>
  have s:d=_:=s
  subst s
  cases h with
  | @tup a xs _ h _ q =>
   cases q with
   | cons q0 q =>
    cases q with
    | cons q1 q =>
     cases q with
     | cons q2 q =>
      cases q
      cases q0
      cases q1
      cases q2
      exact ⟨a,rfl,.unl h⟩
inductive lO (CP:Addr)(vs:List V)(H:Hp)(Q:VK)(E:XK):Prop
 | mk:∀ (n:Nat) (e:Addr) (u o:List L) (x:V) (d:PyData),vs=[tx u,tx o,x]→Ot e H x d→Hd0 d→Rw n u→Rw n o→(du n u o d=none→∀ H',av H H'→Q (.bl true) H')→(∀ z k,du n u o d=some (z,k)→∀ b H',XQ9 CP H' b z k→av H H'→E (.ref b) none H')→lO CP vs H Q E
def Hd3:PyData→Prop
 | .tuple [_,_,_,.tuple ds]=>ds.length≤60
 | _=>True
inductive js (vs:List V)(H:Hp)(Q:VK)(KC:XK):Prop
 | mk:∀ (n:Nat) (e:Addr) (u:List L) (x:V) (d:PyData),vs=[tx u,x]→Rw n u→Ot e H x d→Hd3 d→(∀ H',av H H'→Q (.bl (smB n u.length d || jq d)) H')→js vs H Q KC
open Classical in
def okE (n:Nat)(d:PyData):Bool:=decide (∃ l:L,l.val % 6 < n∧d = .str (toS [l]))
theorem wM {n:Nat}(h:n < 7)(l:L):l∈sg (n:Int) ↔ l.val % 6 < n:=by
 have:∀ (n:Fin 7) (l:L),l∈sg (n.val:Int) ↔ l.val % 6 < n.val:=by decide
 exact this ⟨n,h⟩ l
open Classical in
theorem uZ {n:Nat}(h:n < 7){e:Addr}{H:Hp}{z:Str}:inV (.str z) (L2.dI (toS (sg (n:Int))))=okE n (.str z):=by
 unfold inV L2.dI okE
 rw [bt,Fl,Fp,Gj,Gf]
 constructor
 ·rintro ⟨v,hv,k⟩
  obtain ⟨l,hl,rfl⟩:=ED.mp hv
  have k:(toS [l] == z)=true:=k
  rw [FQ] at k
  exact ⟨l,(wM h l).mp hl,by rw [k]⟩
 ·rintro ⟨l,hl,e⟩
  refine ⟨tx [l],ED.mpr ⟨l,(wM h l).mpr hl,rfl⟩,?_⟩
  rw [GH e]
  show (toS [l] == toS [l])=true
  rw [GE]
theorem ym {n:Nat}{d:PyData}(h:∀ z,d ≠ .str z):okE n d=false:=by
 classical
 unfold okE
 exact Ed fun ⟨l,_,e⟩=>h _ e
theorem rH {n:Nat}:∀ {ds:List PyData},(∀ d∈ds,okE n d=true)→∃ ls:List L,ds=ls.map (fun l=>.str (toS [l]))∧∀ l∈ls,l.val % 6 < n
 | [],_=>⟨[],rfl,fun _ h=>by cases h⟩
 | d::ds,h=>by
  classical
  obtain ⟨ls,rfl,hl⟩:=rH (ds:=ds) fun x hx=>h x (Ej _ hx)
  have h1:=h d Ex
  unfold okE at h1
  obtain ⟨l,l6,rfl⟩:=Fn h1
  exact ⟨l::ls,rfl,fun x hx=>(Ei.mp hx).elim (fun e=>by rw [e];exact l6) (hl x)⟩
theorem AM {n:Nat}{ds:List PyData}(h:¬ ∀ d∈ds,okE n d=true):nmB n (.tuple ds)=false:=by
 classical
 refine kA ?_
 rintro ⟨ls,e,_,hi,_⟩
 refine h fun d hd=>?_
 rw [E3 e] at hd
 obtain ⟨l,hl,rfl⟩:=ED.mp hd
 unfold okE
 exact Eh ⟨l,hi l hl,rfl⟩
theorem yo {n:Nat}(h6:n≤6){ls:List L}(hi:∀ l∈ls,l.val % 6 < n):nmB n (.tuple (ls.map fun l=>.str (toS [l])))=true ↔ (ls.map fun l=>toS [lt6 (l.val % 6)]).Perm (((List.range n).map lt6).map fun x=>toS [x]):=by
 have key:(ls.map (·.val % 6)).Perm (List.range n) ↔ ls.length=n∧(ls.map (·.val % 6)).Nodup:=by
  constructor
  ·intro p
   have:=p.length_eq
   rw [Ea,FB] at this
   exact ⟨this,p.nodup_iff.mpr GG⟩
  ·rintro ⟨hl,nd⟩
   have sub:∀ x∈ls.map (·.val % 6),x∈List.range n:=fun x hx=>by
    obtain ⟨l,hl,rfl⟩:=ED.mp hx
    exact FH.mpr (hi l hl)
   refine (List.perm_ext_iff_of_nodup nd GG).mpr fun x=>⟨sub x,fun hx=>?_⟩
   refine Fc fun hn=>?_
   have:=iu (a:=x::ls.map (·.val % 6)) (b:=List.range n) (EN.mpr ⟨hn,nd⟩) fun y hy=>by
    rcases Ei.mp hy with rfl | hy
    ·exact hx
    ·exact sub y hy
   rw [EA,Ea,FB] at this
   omega
 have e1:(ls.map fun l=>toS [lt6 (l.val % 6)])=(ls.map (·.val % 6)).map fun i=>toS [lt6 i]:=by rw [Fl];rfl
 have e2:(((List.range n).map lt6).map fun x=>toS [x])=(List.range n).map fun i=>toS [lt6 i]:=by rw [Fl];rfl
 rw [e1,e2]
 constructor
 ·intro k
  refine List.Perm.map _ (key.mpr ?_)
  by_cases hl:ls.length=n
  ·rw [nj hl hi] at k
   exact ⟨hl,Fn k⟩
  ·rw [kA (by rintro ⟨ls',e,h2,_⟩;rw [rm (E3 e)] at hl;exact hl h2)] at k
   cases k
 ·intro p
  obtain ⟨W,h1,h2⟩:=lx (fun i:Nat=>toS [lt6 i]) p.symm _ rfl
  have nd:=GG (n:=n)
  have inj:∀ {a b:List Nat},(∀ x∈a,x < 12)→(∀ x∈b,x < 12)→a.map (fun i=>toS [lt6 i])=b.map (fun i=>toS [lt6 i])→a=b:=by
   intro a
   induction a with
   | nil=>intro b _ _ h;cases b with
    | nil=>rfl
    | cons=>cases h
   | cons x a ih =>
    intro b ha hb h
    cases b with
    | nil=>cases h
    | cons y b =>
     obtain ⟨q1,q2⟩:=E7 h
     have q1:=(E7 (fi q1)).1
     have v:∀ i,i < 12→(lt6 i).val=i:=fun i hi=>by unfold lt6;rw [dif_pos hi]
     rw [ih (fun z hz=>ha z (Ej _ hz)) (fun z hz=>hb z (Ej _ hz)) q2,← v x (ha x Ex),q1,v y (hb y Ex)]
  have e:ls.map (·.val % 6)=W:=inj (fun x hx=>by obtain ⟨l,hl,rfl⟩:=ED.mp hx;have:=hi l hl;show l.val % 6 < 12;omega) (fun x hx=>by have:=FH.mp (h1.mem_iff.mp hx);omega) h2
  rw [← e] at h1
  obtain ⟨a,b⟩:=key.mp h1
  rw [nj a hi]
  exact Eh b
inductive kF (vs:List V)(H:Hp)(Q:VK)(E:XK):Prop
 | mk:∀ (n:Nat) (e:Addr) (u o:List L) (x:V) (d:PyData),vs=[tx u,tx o,x]→Ot e H x d→Hd0 d→Hd3 d→Rw n u→Rw n o→(∀ x' H',CD (du n u o d) H' x'→av H H'→Q x' H')→kF vs H Q E
inductive gj (vs:List V)(H:Hp)(Q:VK)(E:XK):Prop
 | mk:∀ (n:Nat) (e:Addr) (u o:List L) (x:V) (d:PyData),vs=[tx u,tx o,x]→Ot e H x d→Sho d→Hd0 d→Hd3 d→Rw n u→Rw n o→(∀ H',av H H'→Q (.bl true) H')→gj vs H Q E
end Kx
namespace L2
open PySem PySem.Spec PyProof.Rows Wd
structure Kn (m w:Nat) (f:Bool) (d:PyData):Prop where
 sh:d.showable=true
 lv:d.leavesShort 40=true
 dp:d.depth≤m
 wt:d.weight≤w
 nd:f=false→d.hasDict=false
 nl:f=true→noL d=true
theorem Kn.le {m w m' w':Nat}{f:Bool}{d:PyData}(h:Kn m w f d)(a:m≤m')(b:w≤w'):Kn m' w' f d:=⟨h.sh,h.lv,EV h.dp a,EV h.wt b,h.nd,h.nl⟩
theorem Kn.all {m w:Nat}{f:Bool}:∀ {ds:List PyData},(∀ d∈ds,Kn m w f d)→PyData.showableAll ds=true∧PyData.leavesShortAll 40 ds=true∧PyData.depthAll ds≤m∧PyData.weightAll ds≤ds.length*(w+1)∧(f=false→PyData.hasDictAll ds=false)∧(f=true→AJ ds=true)
 | [],_=>⟨rfl,rfl,E5 _,E5 _,fun _=>rfl,fun _=>rfl⟩
 | d::r,h=>by
  obtain ⟨a,b,c,e,f1,g⟩:=Kn.all (ds:=r) fun x hx=>h x (Ej _ hx)
  have S:=h d Ex
  refine ⟨?_,?_,?_,?_,fun q=>?_,fun q=>?_⟩
  ·show (PyData.showable d && PyData.showableAll r)=true
   rw [S.sh,a];rfl
  ·show (PyData.leavesShort 40 d && PyData.leavesShortAll 40 r)=true
   rw [S.lv,b];rfl
  ·show max (PyData.depth d) (PyData.depthAll r)≤m
   have:=S.dp
   omega
  ·show PyData.weight d+1+PyData.weightAll r≤(r.length+1)*(w+1)
   have:=S.wt
   rw [JC]
   omega
  ·show (PyData.hasDict d || PyData.hasDictAll r)=false
   rw [S.nd q,f1 q];rfl
  ·show (noL d && AJ r)=true
   rw [S.nl q,g q];rfl
theorem Kn.tup {m w c:Nat}{f:Bool}{ds:List PyData}(h:∀ d∈ds,Kn m w f d)(hl:ds.length≤c):Kn (m+1) (c*(w+1)) f (.tuple ds):=by
 obtain ⟨a,b,c',e,f1,g⟩:=Kn.all h
 exact ⟨a,b,(by show PyData.depthAll ds+1≤_;omega),EV (show PyData.weightAll ds≤_ from e) (Im _ hl),f1,g⟩
theorem Kn.lst {m w c:Nat}{ds:List PyData}(h:∀ d∈ds,Kn m w false d)(hl:ds.length≤c):Kn (m+1) (c*(w+1)) false (.list ds):=by
 obtain ⟨a,b,c',e,f1,g⟩:=Kn.all h
 exact ⟨a,b,(by show PyData.depthAll ds+1≤_;omega),EV (show PyData.weightAll ds≤_ from e) (Im _ hl),f1,fun q=>by cases q⟩
theorem Kn.sho {f:Bool}{d:PyData}(h:Kn 10 262144 f d)(nt:∀ i,d = .int i→i.natAbs.log2 < 1920):Sho d:=⟨h.sh,(fun c=>by
 cases f with
 | true=>exact h.nl rfl
 | false=>rw [h.nd rfl] at c;cases c),h.dp,qL h.lv h.wt,nt⟩
theorem fC (xs:List V)(n:Nat):iJ xs (some (n:Int)) none=xs.drop n:=by
 by_cases h:n≤xs.length
 ·exact oo xs n h
 ·unfold iJ
  rw [HT.e9,HT.eJ,Hc (by omega),Ih,List.take_nil,Jm (by omega)]
def Pts (e:Addr)(H:Hp)(P:PyData→Prop)(xs:List V):Prop:=∀ x∈xs,∃ d,Ot e H x d∧P d
theorem Pts.ots {e:Addr}{H:Hp}{P:PyData→Prop}:∀ {xs:List V},Pts e H P xs→∃ ds,Ots e H xs ds∧(∀ d∈ds,P d)∧ds.length=xs.length
 | [],_=>⟨[],.nil,(fun _ h=>by cases h),rfl⟩
 | x::xs,h=>by
  obtain ⟨d,a,b⟩:=h x Ex
  obtain ⟨ds,c,q,l⟩:=Pts.ots (xs:=xs) fun y hy=>h y (Ej _ hy)
  exact ⟨d::ds,.cons a c,(fun y hy=>(Ei.mp hy).elim (fun z=>z ▸ b) (q y)),EX (· + 1) l⟩
theorem Ot.sb {e d:Addr}{H H':Hp}{v:V}{x:PyData}(F:Fd H d)(s:a_ d H H')(q:Ot e H v x):Ot e H' v x:=q.to (fun a xs h=>s _ _ (F.neT h) h) (fun a xs n h=>⟨s _ _ (F.nl h) h,n⟩) fun a h=>s _ _ (fun z=>by
 subst z
 obtain ⟨c,i,l,t,ns,h1,_⟩:=F.ex
 rw [h] at h1
 cases h1) h
end L2
namespace Kx
open PySem PySem.Spec PyProof.Rows L2 Wd Su
def Fst (d:PyData):Prop:=d = .dict [] ∨ (d.canLay0=true∧d.depth≤10)
structure Prt (f:Bool) (d:PyData):Prop where
 kn:Kn 2 9300 f d
 fst:Fst d
 sm:∀ ds,d = .tuple ds→ds.length≤60
structure Odd (f:Bool) (d:PyData):Prop where
 kn:Kn 1 150 f d
 fst:Fst d
 sm:∀ ds,d = .tuple ds→ds.length≤60
 h0:Hd0 d
 h3:Hd3 d
 nt:∀ i,d = .int i→i.natAbs.log2 < 1920
theorem Odd.prt {f:Bool}{d:PyData}(h:Odd f d):Prt f d:=⟨h.kn.le (by decide) (by decide),h.fst,h.sm⟩
def Thn (e:Addr)(H:Hp)(x:V):Prop:=∃ d,Ot e H x d∧Sho d∧Hd0 d∧Hd3 d
theorem Thn.same {e:Addr}{H H':Hp}{x:V}(h:Thn e H x)(s:av H H'):Thn e H' x:=by
 obtain ⟨d,a,b⟩:=h
 exact ⟨d,a.same s,b⟩
theorem Thn.sb {e d:Addr}{H H':Hp}{x:V}(h:Thn e H x)(F:Fd H d)(s:a_ d H H'):Thn e H' x:=by
 obtain ⟨y,a,b⟩:=h
 exact ⟨y,a.sb F s,b⟩
theorem Odd.thn {e:Addr}{H:Hp}{x:V}{f:Bool}{d:PyData}(q:Ot e H x d)(h:Odd f d):Thn e H x:=⟨d,q,(h.kn.le (by decide) (by decide)).sho h.nt,h.h0,h.h3⟩
theorem lP {e:Addr}{H:Hp}{a:Addr}{f:Bool}{P:PyData→Prop}{xs:List V}{ds:List PyData}(h:H a=some (.tup xs))(q:Ots e H xs ds)(l:xs.length≤6)(kn:∀ d∈ds,Kn 2 9300 f d)(h0:∀ d,ds[0]? = some d→Fst d)(h3:∀ d,ds[3]? = some d→∀ cs,d = .tuple cs→cs.length≤60):Thn e H (.ref a):=by
 refine ⟨_,.tup h (by omega) q,((Kn.tup kn (by rw [← q.len];exact l)).le (by decide) (by decide)).sho (fun i z=>by cases z),?_,?_⟩
 ·cases ds with
  | nil=>trivial
  | cons d r=>exact h0 d rfl
 ·unfold Hd3
  split
  ·rename_i d0 d1 d2 cs z
   rw [E3 z] at h3
   exact h3 _ rfl _ rfl
  ·trivial
inductive nk (vs:List V)(H:Hp)(Q:VK)(E:XK):Prop
 | mk:∀ (d:Addr),vs=[.ref d]→Fd H d→(∀ x f y H',Odd f y→(∀ e,H e≠none→Ot e H' x y)→Fd H' d→a_ d H H'→Q x H')→nk vs H Q E
inductive rJ (vs:List V)(H:Hp)(Q:VK)(E:XK):Prop
 | mk:∀ (d r:Addr) (x:V) (xs:List V),vs=[.ref d,.ref r,x]→Fd H d→H r=some (.tup xs)→xs.length≤60→(∀ a ys H',H' a=some (.tup ys)→(∀ y∈ys,y∈xs ∨ y=x)→ys.length≤xs.length+1→Fd H' d→a_ d H H'→Q (.ref a) H')→(∀ a H',H a=none→H' a=some (.lst xs)→Fd H' d→a_ d H H'→Q (.ref a) H')→rJ vs H Q E
def jK (d:PyData):Bool:=d.showable && (d.leavesShort 40 && (decide (d.depth≤1) && (decide (d.weight≤150) && (!d.hasDict && d.canLay0))))
theorem eV {d:PyData}(h:jK d=true):d.showable=true∧d.leavesShort 40=true∧d.depth≤1∧d.weight≤150∧d.hasDict=false∧d.canLay0=true:=by
 unfold jK at h
 simp only [EI,Jg,Bool.not_eq_true'] at h
 obtain ⟨a,b,c,e,f,g⟩:=h
 exact ⟨a,b,c,e,f,g⟩
theorem g_ {f:Bool}{d:PyData}(h:jK d=true)(l:f=true→noL d=true):Kn 1 150 f d:=by
 obtain ⟨a,b,c,e,n,g⟩:=eV h
 exact ⟨a,b,c,e,fun _=>n,l⟩
theorem rK {f:Bool}{d:PyData}(h:jK d=true)(l:f=true→noL d=true)(t:∀ ds,d = .tuple ds→ds.length≤3)(nt:∀ i,d = .int i→i.natAbs.log2 < 1920):Odd f d:=by
 obtain ⟨a,b,c,e,n,g⟩:=eV h
 refine ⟨g_ h l,.inr ⟨g,by omega⟩,fun ds z=>by have:=t ds z;omega,?_,?_,nt⟩
 ·cases d with
  | tuple ds =>
   cases ds with
   | nil=>trivial
   | cons x r =>
    have g:(x.canLay0 && PyData.canLayAll0 r)=true:=g
    have c:max x.depth (PyData.depthAll r)+1≤1:=c
    exact .inr ⟨((EI _ _).mp g).1,by omega⟩
  | _=>trivial
 ·unfold Hd3
  split
  ·have:=t _ rfl
   exact absurd this (by show ¬ 4≤3;decide)
  ·trivial
theorem bJ {f:Bool}{d:PyData}(h:jK d=true)(l:noL d=true)(t:∀ ds,d ≠ .tuple ds)(nt:∀ i,d = .int i→i.natAbs.log2 < 1920):Odd f d:=rK h (fun _=>l) (fun ds z=>absurd z (t ds)) nt
theorem lQ {f:Bool}{ds:List PyData}(h:jK (.tuple ds)=true)(l:noL (.tuple ds)=true)(t:ds.length≤3):Odd f (.tuple ds):=rK h (fun _=>l) (fun cs z=>by rw [← E3 z]; exact t) fun i z=>by cases z
theorem u3:Odd true (.dict []):=⟨⟨rfl,rfl,by decide,by decide,(fun z=>by cases z),fun _=>rfl⟩,.inl rfl,(fun ds z=>by cases z),trivial,trivial,fun i z=>by cases z⟩
def Cm (f:Bool)(e:Addr)(H:Hp)(x:V):Prop:=∃ d,Ot e H x d∧Kn 2 9300 f d∧∀ ds,d = .tuple ds→ds.length≤60
def Cf (f:Bool)(e:Addr)(H:Hp)(x:V):Prop:=∃ d,Ot e H x d∧Prt f d
theorem Cf.cm {f:Bool}{e:Addr}{H:Hp}{x:V}(h:Cf f e H x):Cm f e H x:=by
 obtain ⟨d,a,b⟩:=h
 exact ⟨d,a,b.kn,b.sm⟩
theorem Cm.same {f:Bool}{e:Addr}{H H':Hp}{x:V}(h:Cm f e H x)(s:av H H'):Cm f e H' x:=by
 obtain ⟨d,a,b⟩:=h
 exact ⟨d,a.same s,b⟩
theorem Cf.sb {f:Bool}{e d:Addr}{H H':Hp}{x:V}(h:Cf f e H x)(F:Fd H d)(s:a_ d H H'):Cf f e H' x:=by
 obtain ⟨y,a,b⟩:=h
 exact ⟨y,a.sb F s,b⟩
theorem Odd.cf {f:Bool}{e:Addr}{H:Hp}{x:V}{d:PyData}(h:Odd f d)(q:Ot e H x d):Cf f e H x:=⟨d,q,h.prt⟩
theorem wN {f:Bool}{e:Addr}{H:Hp}{a:Addr}{ys:List V}(h:H a=some (.tup ys))(p:Pts e H (Kn 1 150 f) ys)(l:ys.length≤60):Cm f e H (.ref a):=by
 obtain ⟨ds,q,k,e1⟩:=p.ots
 exact ⟨_,.tup h (by omega) q,(Kn.tup (c:=60) k (by omega)).le (by decide) (by decide),fun cs z=>by rw [← E3 z];omega⟩
theorem wO {e:Addr}{H:Hp}{a:Addr}{ys:List V}(h:H a=some (.lst ys))(n:a≠e)(p:Pts e H (Kn 1 150 false) ys)(l:ys.length≤60):Cm false e H (.ref a):=by
 obtain ⟨ds,q,k,e1⟩:=p.ots
 exact ⟨_,.lst h n (by omega) q,(Kn.lst (c:=60) k (by omega)).le (by decide) (by decide),fun cs z=>by cases z⟩
theorem jt {f:Bool}{e:Addr}{H:Hp}{a:Addr}{x:V}{xs:List V}(h:H a=some (.tup (x::xs)))(c:Cf f e H x)(cs:∀ y∈xs,Cm f e H y)(l:xs.length≤5):Thn e H (.ref a):=by
 obtain ⟨d,q,P⟩:=c
 obtain ⟨ds,qs,k,e1⟩:=Pts.ots (P:=fun d=>Kn 2 9300 f d∧∀ ds,d = .tuple ds→ds.length≤60) cs
 refine lP h (.cons q qs) (by rw [EA];omega) (f:=f) (P:=fun _=>True) (fun y hy=>?_) (fun y hy=>?_) fun y hy=>?_
 ·rcases Ei.mp hy with rfl | hy
  ·exact P.kn
  ·exact (k y hy).1
 ·cases hy;exact P.fst
 ·exact (k y (Es (i:=2) hy)).2
theorem fD {f:Bool}{e:Addr}{H:Hp}{a:Addr}{ys:List V}(h:H a=some (.tup ys))(c:∀ y∈ys,Cf f e H y)(l:ys.length≤6):Thn e H (.ref a):=by
 cases ys with
 | nil=>exact lP (f:=f) (P:=fun _=>True) h .nil (by decide) (fun y hy=>by cases hy) (fun y hy=>by cases hy) fun y hy=>by cases hy
 | cons x xs=>exact jt h (c x Ex) (fun y hy=>(c y (Ej _ hy)).cm) (by rw [EA] at l;omega)
theorem lR {e:Addr}{H:Hp}{a:Addr}{ys:List V}(h:H a=some (.lst ys))(n:a≠e)(c:∀ y∈ys,Cm false e H y)(l:ys.length≤6):Thn e H (.ref a):=by
 obtain ⟨ds,qs,k,e1⟩:=Pts.ots (P:=fun d=>Kn 2 9300 false d∧∀ ds,d = .tuple ds→ds.length≤60) c
 exact ⟨_,.lst h n (by omega) qs,((Kn.lst (c:=6) (fun d hd=>(k d hd).1) (by omega)).le (by decide) (by decide)).sho (fun i z=>by cases z),trivial,trivial⟩
theorem dn {f:Bool}{e:Addr}{H:Hp}{z:Int}(h1:-20≤z)(h2:z≤70):Cf f e H (.int z):=by
 have:∀ k:Fin 91,jK (.int ((k.val:Int) - 20))=true:=by decide +kernel
 have:=this ⟨(z+20).toNat,by omega⟩
 have e1:(((z+20).toNat:Nat):Int) - 20=z:=by omega
 have this:jK (.int ((((z+20).toNat:Nat):Int) - 20))=true:=this
 rw [e1] at this
 exact ⟨_,.int _,(g_ this fun _=>rfl).le (by decide) (by decide),.inr ⟨rfl,by show 0≤10;decide⟩,fun ds z=>by cases z⟩
theorem eW {f:Bool}{e:Addr}{H:Hp}{z:Str}(h:jK (.str z)=true)(l:z.length≤60):Cf f e H (.str z):=by
 obtain ⟨_,_,_,_,_,g⟩:=eV h
 exact ⟨_,.str _ l,(g_ h fun _=>rfl).le (by decide) (by decide),.inr ⟨g,by show 0≤10;decide⟩,fun ds z=>by cases z⟩
theorem AN {f:Bool}{e:Addr}{H:Hp}(b:Bool):Cf f e H (.bl b):=⟨_,.bl b,(g_ (by cases b <;> rfl) fun _=>rfl).le (by decide) (by decide),.inr ⟨rfl,by show 0≤10; decide⟩,fun ds z=>by cases z⟩
def Ck (f:Bool)(e:Addr)(H:Hp)(x:V):Prop:=∃ d,Ot e H x d∧Kn 1 150 f d
theorem Ck.sb {f:Bool}{e d:Addr}{H H':Hp}{x:V}(h:Ck f e H x)(F:Fd H d)(s:a_ d H H'):Ck f e H' x:=by
 obtain ⟨y,a,b⟩:=h
 exact ⟨y,a.sb F s,b⟩
theorem Odd.ck {f:Bool}{e:Addr}{H:Hp}{x:V}{d:PyData}(h:Odd f d)(q:Ot e H x d):Ck f e H x:=⟨d,q,h.kn⟩
theorem gR {f:Bool}{e:Addr}{H:Hp}{z:Str}(h:jK (.str z)=true)(l:z.length≤60):Ck f e H (.str z):=⟨_,.str _ l,g_ h fun _=>rfl⟩
theorem iB {f:Bool}{e:Addr}{H:Hp}{a:Addr}{ys:List V}{ds:List PyData}(h:H a=some (.tup ys))(q:Ots e H ys ds)(l:ys.length≤3)(c:jK (.tuple ds)=true)(n:noL (.tuple ds)=true):Ck f e H (.ref a):=⟨_,.tup h (by omega) q,g_ c fun _=>n⟩
theorem AO {e:Addr}{H:Hp}{a:Addr}{ys:List V}{ds:List PyData}(h:H a=some (.lst ys))(ne:a≠e)(q:Ots e H ys ds)(l:ys.length≤3)(c:jK (.list ds)=true):Ck false e H (.ref a):=⟨_,.lst h ne (by omega) q,g_ c fun z=>by cases z⟩
theorem kG {z s:Int}(h1:-1≤z)(h2:z≤13)(hs:s=1 ∨ s = -1):jK (.tuple [.int z,.int s])=true:=by
 have:∀ (k:Fin 15) (b:Bool),jK (.tuple [.int ((k.val:Int) - 1),.int (if b then 1 else -1)])=true:=by decide +kernel
 have e1:(((z+1).toNat:Nat):Int) - 1=z:=by omega
 have t:∀ b:Bool,jK (.tuple [.int ((((z+1).toNat:Nat):Int) - 1),.int (if b then 1 else -1)])=true:=this ⟨(z+1).toNat,by omega⟩
 rw [e1] at t
 rcases hs with rfl | rfl
 ·exact t true
 ·exact t false
theorem ju {f:Bool}{e:Addr}{H:Hp}{a:Addr}{z s:Int}(h:H a=some (.tup [.int z,.int s]))(h1:-1≤z)(h2:z≤13)(hs:s=1 ∨ s = -1):Ck f e H (.ref a):=iB h (.cons (.int _) (.cons (.int _) .nil)) (by show 2≤3; decide) (kG h1 h2 hs) rfl
theorem iC:∀ l:L,jK (.str (toS [l]))=true:=by decide +kernel
inductive jv (vs:List V)(H:Hp)(Q:VK)(E:XK):Prop
 | mk:∀ (d e a:Addr) (n:Nat) (u:List L) (ss:List (Int × Int)) (p:Nat) (g:L→L),vs=[.ref d,.ref a,tx u]→Fd H d→H e≠none→TsZ n H a ss (p:Int) g→Rw n u→2≤n→p < u.length→yg ss (p:Int)→ss.length≤8→(∀ x H',Thn e H' x→Fd H' d→a_ d H H'→Q x H')→jv vs H Q E
inductive jw (vs:List V)(H:Hp)(Q:VK)(E:XK):Prop
 | mk:∀ (d e:Addr) (n:Nat) (u o:List L),vs=[.ref d,tx u,tx o]→Fd H d→H e≠none→Rw n u→Rw n o→(∀ x H',Thn e H' x→Fd H' d→a_ d H H'→Q x H')→jw vs H Q E
structure W8 (d e a q nm:Addr) (as:List Addr) (ss:List (Int × Int)) (p:Int) (n:Nat) (g:L→L) (H0:Hp) (R:Hp→V→Prop) (S:List V) (H:Hp):Prop where
 F:Fd H d
 he:H e≠none
 h1:H a=some (.tup [.str "same",.ref q,.int p,.ref nm])
 h2:H q=some (.tup (as.map V.ref))
 h3:SlZ H as ss
 h4:H nm=some (.tup ((nmS n g).map tx))
 sb:a_ d H0 H
 el:∀ y∈S,R H y
def Mo (d:Addr)(R:Hp→V→Prop):Prop:=∀ G G',Fd G d→a_ d G G'→∀ y,R G y→R G' y
section
variable {d e a q nm:Addr} {as:List Addr} {ss:List (Int × Int)} {p:Int} {n:Nat} {g:L→L} {H0 H H':Hp} {R:Hp→V→Prop} {S:List V}
theorem W8.step (w:W8 d e a q nm as ss p n g H0 R S H)(m:Mo d R)(F':Fd H' d)(s:a_ d H H'):W8 d e a q nm as ss p n g H0 R S H':=by
 have kp:∀ b xs,H b=some (.tup xs)→H' b=some (.tup xs):=fun b xs h=>s b _ (w.F.neT h) h
 refine ⟨F',fun z=>?_,kp _ _ w.h1,kp _ _ w.h2,w.h3.to kp,kp _ _ w.h4,w.sb.trans s,fun y hy=>m _ _ w.F s y (w.el y hy)⟩
 cases o:H e with
 | none=>exact w.he o
 | some o' =>
  by_cases c:e=d
  ·obtain ⟨_,_,_,_,_,h1,_⟩:=F'.ex
   rw [c,h1] at z
   cases z
  ·rw [s e o' c o] at z
   cases z
theorem W8.new (w:W8 d e a q nm as ss p n g H0 R S H)(m:Mo d R){t:Addr}(o:HO)(h:H t=none):W8 d e a q nm as ss p n g H0 R S (upd H t o):=w.step m (w.F.new h) (av.new h).b
theorem W8.sm (w:W8 d e a q nm as ss p n g H0 R S H)(m:Mo d R)(h:av H H'):W8 d e a q nm as ss p n g H0 R S H':=w.step m (w.F.same h) h.b
theorem W8.add (w:W8 d e a q nm as ss p n g H0 R S H){x:V}(k:R H x):W8 d e a q nm as ss p n g H0 R (S++[x]) H:=⟨w.F,w.he,w.h1,w.h2,w.h3,w.h4,w.sb,fun y hy=>(EL.mp hy).elim (w.el y) fun h=>by rw [Eu.mp h]; exact k⟩
theorem W8.clr (w:W8 d e a q nm as ss p n g H0 R S H)(R':Hp→V→Prop):W8 d e a q nm as ss p n g H0 R' [] H:=⟨w.F,w.he,w.h1,w.h2,w.h3,w.h4,w.sb,fun y hy=>by cases hy⟩
theorem W8.ne (w:W8 d e a q nm as ss p n g H0 R S H){t:Addr}(h:H t=none):t≠e:=fun z=>w.he (z ▸ h)
end
theorem Mo.tr {d:Addr}:Mo d fun _ _=>True:=fun _ _ _ _ _ _=>trivial
theorem Mo.ck {d e:Addr}:Mo d fun G y=>∃ f,Ck f e G y:=fun _ _ F s _ ⟨f,h⟩=>⟨f,h.sb F s⟩
theorem Mo.th {d e:Addr}:Mo d fun G y=>Thn e G y:=fun _ _ F s _ h=>h.sb F s
def Cl (f:Bool)(e:Addr)(H:Hp)(x:V):Prop:=∃ d,Ot e H x d∧Kn 1 150 f d∧d.canLay0=true
theorem Cl.ck {f:Bool}{e:Addr}{H:Hp}{x:V}(h:Cl f e H x):Ck f e H x:=by
 obtain ⟨d,a,b,_⟩:=h
 exact ⟨d,a,b⟩
theorem nq {f:Bool}{e:Addr}{H:Hp}{a:Addr}{ys:List V}(h:H a=some (.tup ys))(p:∀ y∈ys,Cl f e H y)(l:ys.length≤60):Cf f e H (.ref a):=by
 obtain ⟨ds,q,k,e1⟩:=Pts.ots (P:=fun d=>Kn 1 150 f d∧d.canLay0=true) p
 have ly:PyData.canLayAll0 ds=true:=by
  clear q e1
  induction ds with
  | nil=>rfl
  | cons x r ih =>
   show (x.canLay0 && PyData.canLayAll0 r)=true
   rw [(k x Ex).2,ih fun y hy=>k y (Ej _ hy)]
   rfl
 have K:=Kn.tup (c:=60) (fun d hd=>(k d hd).1) (by omega:ds.length≤60)
 exact ⟨_,.tup h (by omega) q,K.le (by decide) (by decide),.inr ⟨ly,by have:=K.dp;omega⟩,fun cs z=>by rw [← E3 z];omega⟩
theorem eX {f:Bool}{e:Addr}{H:Hp}{as:List Addr}{ss:List (Int × Int)}{p:Int}(S:SlZ H as ss)(sg:Sd4 ss)(nz:yg ss p):∀ y∈as.map V.ref,Cl f e H y:=fun y hy=>by
 obtain ⟨b,hb,rfl⟩:=ED.mp hy
 obtain ⟨i,hi,rfl⟩:=GB hb
 have hs:i < ss.length:=by rw [← S.len];exact hi
 obtain ⟨c,h1,h2⟩:=S.at_ i _ (Ee hs)
 rw [Ee hi] at h1
 cases h1
 have m:=Gg hs
 obtain ⟨z1,z2⟩:=nz.1 _ m
 exact ⟨_,.tup h2 (by show 2≤70;decide) (.cons (.int _) (.cons (.int _) .nil)),g_ (kG z1 (by omega) (sg _ m)) fun _=>rfl,rfl⟩
theorem gk {f:Bool}{e:Addr}{H:Hp}{n:Nat}{g:L→L}:∀ y∈(nmS n g).map tx,Cl f e H y:=fun y hy=>by
 obtain ⟨u,hu,rfl⟩:=ED.mp hy
 unfold nmS at hu
 obtain ⟨i,_,rfl⟩:=ED.mp hu
 have c:=iC (g (lt6 i))
 obtain ⟨_,_,_,_,_,y⟩:=eV c
 exact ⟨_,.str _ (by rw [ah];show 1≤60;decide),g_ c fun _=>rfl,y⟩
theorem nmS_len (n:Nat)(g:L→L):(nmS n g).length=n:=by
 unfold nmS
 rw [Ea,FB]
theorem AQ:∀ l:L,jK (.str (Txt.upper (toS [l])))=true∧(Txt.upper (toS [l])).length≤60:=by decide +kernel
structure W9 (d e:Addr) (H0:Hp) (R:Hp→V→Prop) (S:List V) (H:Hp):Prop where
 F:Fd H d
 he:H e≠none
 sb:a_ d H0 H
 el:∀ y∈S,R H y
section
variable {d e:Addr} {H0 H H':Hp} {R:Hp→V→Prop} {S:List V}
theorem oq (he:H e≠none)(F':Fd H' d)(s:a_ d H H'):H' e≠none:=fun z=>by
 cases o:H e with
 | none=>exact he o
 | some o' =>
  by_cases c:e=d
  ·obtain ⟨_,_,_,_,_,h1,_⟩:=F'.ex
   rw [c,h1] at z
   cases z
  ·rw [s e o' c o] at z
   cases z
theorem W9.step (w:W9 d e H0 R S H)(m:Mo d R)(F':Fd H' d)(s:a_ d H H'):W9 d e H0 R S H':=⟨F',oq w.he F' s,w.sb.trans s,fun y hy=>m _ _ w.F s y (w.el y hy)⟩
theorem W9.new (w:W9 d e H0 R S H)(m:Mo d R){t:Addr}(o:HO)(h:H t=none):W9 d e H0 R S (upd H t o):=w.step m (w.F.new h) (av.new h).b
theorem W9.sm (w:W9 d e H0 R S H)(m:Mo d R)(h:av H H'):W9 d e H0 R S H':=w.step m (w.F.same h) h.b
theorem W9.add (w:W9 d e H0 R S H){x:V}(k:R H x):W9 d e H0 R (S++[x]) H:=⟨w.F,w.he,w.sb,fun y hy=>(EL.mp hy).elim (w.el y) fun h=>by rw [Eu.mp h]; exact k⟩
theorem W9.ne (w:W9 d e H0 R S H){t:Addr}(h:H t=none):t≠e:=fun z=>w.he (z ▸ h)
end
theorem cB {e:Addr}{H:Hp}{a:Addr}{ys:List V}(h:H a=some (.tup ys))(c:∀ y∈ys,y = .str "same" ∨ y = .str "unlike" ∨ y = .str "1" ∨ y = .bl true ∨ ∃ z:Int,y = .int z∧-20≤z∧z≤70)(l:ys.length≤6):Thn e H (.ref a):=by
 refine fD (f:=false) h (fun y hy=>?_) l
 rcases c y hy with rfl | rfl | rfl | rfl | ⟨z,rfl,z1,z2⟩
 ·exact eW (by decide +kernel) (by decide)
 ·exact eW (by decide +kernel) (by decide)
 ·exact eW (by decide +kernel) (by decide)
 ·exact AN true
 ·exact dn z1 z2
inductive lS (vs:List V)(H:Hp)(Q:VK)(E:XK):Prop
 | mk:∀ (d:Addr) (n:Nat) (u:List L),vs=[.ref d,tx u]→Fd H d→Rw n u→2≤n→n≤3→(∀ H',Q (.bl true) H')→lS vs H Q E
theorem u4 {A B:List L}{e f:L}(nd:(A++e::f::B).Nodup):sld (A++e::f::B) e f false=A++e::f::B:=by
 have p:(A++e::f::B).Perm (e::f::(A++B)):=by
  refine He.trans (List.Perm.cons _ ?_)
  exact He
 have nd2:=p.nodup_iff.mp nd
 have ne:=(EN.mp nd2).1
 have nf:=(EN.mp (EN.mp nd2).2).1
 have fe:f≠e:=fun z=>ne (by rw [z];exact Ex)
 have eA:e∉A:=fun z=>ne (Ej _ (E1 _ z))
 have eB:e∉B:=fun z=>ne (Ej _ (Ey _ z))
 have fA:f∉A:=fun z=>nf (E1 _ z)
 have fB:f∉B:=fun z=>nf (Ey _ z)
 rw [qT,bO,bO,qU _ eA fA,qU _ eB fB,if_neg (fun z=>fe z.symm),if_pos rfl,if_pos rfl]
 rfl
theorem iD {u:List L}(U:Srf u){i:Nat}{e f:L}(he:u[i]? = some e)(hf:u[i+1]? = some f)(ne:f≠inv e):∃ (v:List L) (j:Nat),slW u (i:Int) 1=some v∧v[j]? = some e∧v.Perm u∧∀ k:Nat,v[k]? = some e→slW v (k:Int) (-1)=some u:=by
 obtain ⟨hi,he'⟩:=Ef.mp he
 obtain ⟨hi1,hf'⟩:=Ef.mp hf
 have fr:a9 u i 1=f:=by
  unfold a9
  have:(((i:Int)+1) % (u.length:Int)).toNat=i+1:=by
   rw [Jh (by omega) (by omega)]
   omega
  rw [this,Ew,hf]
  rfl
 have fe:f≠e:=fun z=>by
  have:=(Hb (h₀:=hi) (h₁:=hi1) U.nd).mp (by rw [he',hf',z])
  omega
 have me:e∈u:=he' ▸ Gg hi
 have mf:f∈u:=hf' ▸ Gg hi1
 have ge:inv f≠e:=fun z=>ne (by rw [← z,bB])
 obtain ⟨A,B,C,D,e1,e2,e3⟩:=gL U.nd me (U.iv f mf) ge true
 rw [if_pos rfl] at e3
 have s1:slW u (i:Int) 1=some (sld u e (inv f) true):=by
  rw [eQ he,fr,if_neg ne]
  rfl
 have pm:=m9 U.nd me (U.iv f mf) ge true
 have hj:(sld u e (inv f) true)[C.length+1]? = some e:=by
  rw [e3,E8 (by omega)]
  rw [show C.length+1 - C.length=1 by omega]
  rfl
 refine ⟨_,C.length+1,s1,hj,pm,fun k hk=>?_⟩
 obtain ⟨a1,a2⟩:=Ef.mp hj
 obtain ⟨b1,b2⟩:=Ef.mp hk
 have ek:=(Hb (h₀:=b1) (h₁:=a1) (pm.nodup_iff.mpr U.nd)).mp (by rw [a2,b2])
 subst ek
 have f2:a9 (sld u e (inv f) true) (C.length+1) (-1)=inv f:=by
  have hl:C.length < (sld u e (inv f) true).length:=by rw [e3,Ec,EA];omega
  unfold a9
  have:((((C.length+1:Nat):Int) + -1) % ((sld u e (inv f) true).length:Int)).toNat=C.length:=by
   rw [Jh (by omega) (by omega)]
   omega
  rw [this,Ew]
  rw [e3,E8 (Eg _),Ju]
  rfl
 rw [eQ hj,f2,if_neg (fun z=>fe (by rw [← bB f,z,bB]))]
 rw [bB]
 have dd:(decide ((-1:Int)=1))=false:=by decide
 rw [dd,qV fe ge (mD f) true false u]
 have eu:u=u.take i++e::f::u.drop (i+2):=by
  rw [← he',← hf',Jo,Jo,List.take_append_drop]
 have nd:=U.nd
 rw [eu] at nd ⊢
 rw [u4 nd]
theorem u5 {u:List L}{i:Nat}{e f:L}(he:u[i]? = some e)(hf:u[i+1]? = some f)(h:(slW u (i:Int) 1).isSome=true):f≠inv e:=fun z=>by
 obtain ⟨hi1,hf'⟩:=Ef.mp hf
 have fr:a9 u i 1=f:=by
  unfold a9
  have:(((i:Int)+1) % (u.length:Int)).toNat=i+1:=by
   rw [Jh (by omega) (by omega)]
   omega
  rw [this,Ew,hf]
  rfl
 rw [eQ he,fr,if_pos z] at h
 cases h
theorem ou {u:List L}(U:Srf u)(h4:4≤u.length):∃ i,i+2 < u.length∧(slW u (i:Int) 1).isSome=true:=by
 refine Fc fun c=>?_
 have k:∀ i (h:i+2 < u.length),u[i+1]'(by omega)=inv (u[i]'(by omega)):=fun i h=>by
  refine Fc fun ne=>c ⟨i,h,?_⟩
  obtain ⟨v,_,h1,_⟩:=iD U (Ee (by omega)) (Ee (show i+1 < u.length by omega)) ne
  rw [h1]
  rfl
 have k0:=k 0 (by omega)
 have k1:=k 1 (by omega)
 rw [k0,bB] at k1
 have:=(Hb (h₀:=(by omega)) (h₁:=(by omega)) U.nd).mp k1
 omega
theorem rL {H:Hp}{d l:Addr}{o:HO}{as:List Addr}(F:Fd H d)(h:H l=some (.lst (as.map V.ref)))(n:l≠d):Fd (L2.upd H l o) d:=by
 obtain ⟨c,i,ll,t,ns,h1,h2,h3,h4⟩:=F.ex
 have hc:c≠l:=fun e=>by
  subst e
  rw [h2] at h
  have h:=HO.lst.inj (EE h)
  cases ns with
  | nil=>exact h3 rfl
  | cons x r =>
   cases as with
   | nil=>cases h
   | cons y q=>exact absurd (E7 h).1 (by intro z;cases z)
 exact ⟨c,i,ll,t,ns,by rw [ar (fun e=>n e.symm)];exact h1,by rw [ar hc];exact h2,h3,h4⟩
theorem u7 {e:Addr}{H:Hp}{r q p:Addr}{bs zs:List V}{z:Int}(h:H r=some (.tup [.str "same",.ref q,.int z,.ref p]))(hq:H q=some (.tup bs))(cb:∀ y∈bs,Ck false e H y)(lb:bs.length≤61)(hp:H p=some (.tup zs))(cz:∀ y∈zs,Cl false e H y)(lz:zs.length≤60)(z1:-20≤z)(z2:z≤70):Thn e H (.ref r):=by
 obtain ⟨ds,o1,k1,e1⟩:=Pts.ots (P:=Kn 1 150 false) cb
 obtain ⟨cs,o2,k2,e2⟩:=Pts.ots (P:=Kn 1 150 false) fun y hy=>(cz y hy).ck
 obtain ⟨dw,w1,w2⟩:=eW (f:=false) (e:=e) (H:=H) (z:="same") (by decide +kernel) (by decide)
 obtain ⟨dz,i1,i2⟩:=dn (f:=false) (e:=e) (H:=H) z1 z2
 refine lP (f:=false) (P:=fun _=>True) h (.cons w1 (.cons (.tup hq (by omega) o1) (.cons i1 (.cons (.tup hp (by omega) o2) .nil)))) (by show 4≤6;decide) (fun d hd=>?_) (fun d hd=>?_) fun d hd c hc=>?_
 ·simp only [Ei,Ek,EW] at hd
  rcases hd with rfl | rfl | rfl | rfl
  ·exact w2.kn
  ·exact (Kn.tup (c:=61) k1 (by omega)).le (by decide) (by decide)
  ·exact i2.kn
  ·exact (Kn.tup (c:=60) k2 (by omega)).le (by decide) (by decide)
 ·cases hd;exact w2.fst
 ·cases hd
  rw [← E3 hc]
  omega
theorem yp {n:Nat}(h:2≤n)(h3:n≤3):L2.dI (Txt.slice ("abcdef":Str) none (some (n:Int)))=(List.range n).map (fun i=>tx [lt6 i])∧(Txt.slice ("abcdef":Str) none (some (n:Int))).length≤6:=by
 have:n=2 ∨ n=3:=by omega
 rcases this with rfl | rfl
 ·exact ⟨by rfl,by decide +kernel⟩
 ·exact ⟨by rfl,by decide +kernel⟩
end Kx
namespace Kx
open PySem PySem.Spec PyProof.Rows L2 Wd
def top (i:Nat):Stmt:=PySem.Challenge.pw_ringwords_k67_same_papers_bent.main.body.getD i (.Pass ⟨0,0,0,0⟩)
theorem lT {α:Type}{us:List α}(h:us.length=1):∃ a0,us=[a0]:=by
 cases us with
 | nil=>cases h
 | cons a0 us =>
  cases us with
  | nil=>exact ⟨a0,rfl⟩
  | cons b us=>cases h
theorem lU {α:Type}{us:List α}(h:us.length=2):∃ a0 a1,us=[a0,a1]:=by
 cases us with
 | nil=>cases h
 | cons a0 us =>
  cases us with
  | nil=>cases h
  | cons a1 us =>
   cases us with
   | nil=>exact ⟨a0,a1,rfl⟩
   | cons b us=>cases h
theorem oA {α:Type}{us:List α}(h:us.length=3):∃ a0 a1 a2,us=[a0,a1,a2]:=by
 cases us with
 | nil=>cases h
 | cons a0 us =>
  cases us with
  | nil=>cases h
  | cons a1 us =>
   cases us with
   | nil=>cases h
   | cons a2 us =>
    cases us with
    | nil=>exact ⟨a0,a1,a2,rfl⟩
    | cons b us=>cases h
theorem D6 {α:Type}{us:List α}(h:us.length=4):∃ a0 a1 a2 a3,us=[a0,a1,a2,a3]:=by
 cases us with
 | nil=>cases h
 | cons a0 us =>
  cases us with
  | nil=>cases h
  | cons a1 us =>
   cases us with
   | nil=>cases h
   | cons a2 us =>
    cases us with
    | nil=>cases h
    | cons a3 us =>
     cases us with
     | nil=>exact ⟨a0,a1,a2,a3,rfl⟩
     | cons b us=>cases h
section
variable {P:Program} {w:World} {K:PySem.W.Frag} {mg:Str→Option Value} {base:Heap} {aB:Addr}
abbrev rM:Stmt:=top 44
theorem yq:aC ["_law_feed_here","_law_many","_law_cell","_law_mixed","_law_found"] ["_law_feed_here","_law_many"] (aq rM):=⟨rfl,rfl,rfl,by decide +kernel,rfl,by decide +kernel,by decide +kernel⟩
def _root_.JF {a b c d e}:=@ai a b c d e
def _root_.JG {a b c d e f g h i}:=@dF a b c d e f g h i
def _root_.JI {a b c d e f g h}:=@aJ a b c d e f g h
def _root_.JJ {a b c d e f}:=@bZ a b c d e f
def _root_.JK {a b c d e f g h}:=@a6 a b c d e f g h
def _root_.JL {a b c d e f g h}:=@aG a b c d e f g h
def _root_.JM {a b} (c) {d e f g}:=@az a b c d e f g
def _root_.JN {a b c d e f g}:=@aK a b c d e f g
def _root_.JO {a b c d e f g h i}:=@ao a b c d e f g h i
def _root_.JP {a b c d e}:=@aa a b c d e
def _root_.JQ {a b c}:=@ak a b c
def _root_.JR {a b c d}:=@aD a b c d
theorem AR (D:Df K mg "_law_draw" rM)(T:Bt K w mg aB):Fnc P w K mg base "_law_draw" ["_law_feed_here","_law_many"] 1 dH:=by
 have sc:=yq
 refine D.ok sc (fun _ _ _ _ _ _ us hl=>by obtain ⟨_,_,rfl⟩:=lU hl;rfl) (fun vs H Q E h=>?_) (fun f Kv A outer s H vs Q E hr h=>?_)
 ·obtain ⟨d,m,rfl,_⟩:=h
  rfl
 ·obtain ⟨d,m,rfl,F,m0,m1,k⟩:=h
  have hu:=kX hr
  refine ⟨_,(JF (JG hu (pv 0) ax (JI bC (JJ hu (pv 0) ax (fun _ _=>rfl)) aj) rfl) (JF (JK (JL cj (JJ hu (pv 0) ax (fun _ _=>rfl)) aj (aM _)) (JF (JM (2) sc.nd rfl (Or.inl rfl) (JN aZ (JJ hu (pv 0) ax (fun _ _=>rfl)) (JI dD (JJ hu (pv 0) ax (fun _ _=>rfl)) (JO aE (by rfl) T.len Ep (JP (JJ hu (pv 0) ax (fun _ _=>rfl)) af))) (fun _ _=>rfl))) (JF (JG hu (pv 0) ax (JI bC (JJ hu (pv 0) ax (fun _ _=>rfl)) aj) rfl) (JF (JK (JL iH (pv 2) (JI vJ aj aj) (aM _)) (JF (JM (3) sc.nd rfl (Or.inl rfl) (JI dD (JI hV (JI bC (JI dD (pv 2) aj) (JI hV aj (JJ hu (pv 0) ax (fun _ _=>rfl)))) aj) aj)) (JF (JM (3) sc.nd rfl (Or.inl rfl) (JI dD (JI hV (JI bC (JI cR (pv 3) aj) (JI hV aj (JJ hu (pv 0) ax (fun _ _=>rfl)))) aj) aj)) (JQ (JR (JI dD (JI cR (pv 3) aj) (pv 1)))))) aI) (JQ (JG hu (pv 0) ax (pv 2) rfl))))) aI) (JF (JM (4) sc.nd rfl (Or.inl rfl) (JI dD (JJ hu (pv 0) ax (fun _ _=>rfl)) (pv 1))) (JF (JG hu (pv 0) ax (JI cR (JJ hu (pv 0) ax (fun _ _=>rfl)) (pv 1)) rfl) (JQ (JR (pv 4))))))),?_⟩
  obtain ⟨c,i,l,t,ns,hd,hc,KN,h64⟩:=F.ex
  have dc:c≠d:=gX hc hd (by intro z;cases z)
  have fin:∀ (r i' l' t':Int),0≤r→r < m→Q (.int r) (upd H d (.dK (fkv c i' l' t'))):=fun r i' l' t' h0 h1 =>
   k r _ h0 h1 ⟨c,i',l',t',ns,ag,by rw [ar dc];exact hc,KN,h64⟩ a_.upd
  have c1:∀ o,(upd H d o) c=some (.lst (ns.map V.int)):=fun o=>by rw [ar dc];exact hc
  have hl0:(0:Int) < ((ns.map V.int).length:Int):=by
   rw [Ea]
   have:=FM.mpr KN
   omega
  refine ⟨_,rfl,d,_,rfl,dg hd (pH c i l t),_,_,rfl,rfl,_,rfl,d,_,rfl,dp hd (gH c i l t) (zW c i l t _),?_⟩
  refine ⟨_,rfl,d,_,rfl,dg ag (j8 c i l _),rfl,_,rfl,?_⟩
  refine iO (fun _=>?_) (fun _=>?_)
  rotate_left
  ·refine ⟨_,rfl,d,_,rfl,dg ag (j8 c _ _ _),_,rfl,_,_,rfl,rfl,m0,?_⟩
   refine ⟨_,rfl,d,_,rfl,dg ag (j8 c _ _ _),_,rfl,_,_,rfl,rfl,⟨m0,by omega⟩,_,rfl,d,_,rfl,dp ag (gH c _ _ _) (pI c _ _ _ _),?_⟩
   refine ⟨_,rfl,?_⟩
   rw [dv]
   exact fin _ _ _ _ (Gq _ (by omega)) (GN _ m0)
  obtain ⟨n,hn⟩:=xH KN i
  refine ⟨_,rfl,d,_,rfl,dg ag (pG c i l _),_,rfl,d,_,rfl,dg ag (Dc c i l _),_,rfl,d,_,rfl,dg ag (pG c i l _),c,_,rfl,.inl (SqL.of (c1 _)),_,_,rfl,rfl,hl0,c,_,_,_,rfl,rfl,SqL.of (c1 _),hn,?_⟩
  refine ⟨_,rfl,d,_,rfl,dg ag (Dc c i l _),_,_,rfl,rfl,_,rfl,d,_,rfl,dp ag (gH c i l _) (DQ c i l _ _),?_⟩
  rw [dv]
  refine ⟨_,rfl,_,_,rfl,rfl,⟨by decide,by decide,by decide⟩,_,_,rfl,rfl,_,rfl,?_⟩
  refine iO (fun _=>?_) (fun _=>?_)
  ·refine ⟨_,rfl,_,_,rfl,rfl,(by show (0:Int) < 2147483629;decide),_,rfl,d,_,rfl,dg ag (pH c _ l _),_,_,rfl,rfl,.inl ⟨by decide,by decide⟩,_,_,rfl,rfl,_,_,rfl,rfl,.inr ⟨by decide,by decide⟩,_,_,rfl,rfl,(by show (0:Int) < 2147483647;decide),?_⟩
   refine ⟨_,rfl,_,_,rfl,rfl,⟨by decide,by decide⟩,_,rfl,d,_,rfl,dg ag (pH c _ l _),_,_,rfl,rfl,.inl ⟨by decide,by decide⟩,_,_,rfl,rfl,_,_,rfl,rfl,.inr ⟨by decide,by decide⟩,_,_,rfl,rfl,(by show (0:Int) < 2147483587;decide),?_⟩
   refine ⟨_,rfl,_,_,rfl,rfl,⟨by decide,by decide⟩,_,rfl,_,_,rfl,rfl,m0,?_⟩
   exact fin _ _ _ _ (Gq _ (by omega)) (GN _ m0)
  ·refine ⟨_,rfl,_,rfl,d,_,rfl,dp ag (gH c _ l _) (pI c _ l _ _),?_⟩
   rw [dv]
   refine ⟨_,rfl,d,_,rfl,dg ag (j8 c _ _ _),_,rfl,_,_,rfl,rfl,m0,?_⟩
   refine ⟨_,rfl,d,_,rfl,dg ag (j8 c _ _ _),_,rfl,_,_,rfl,rfl,⟨m0,by omega⟩,_,rfl,d,_,rfl,dp ag (gH c _ _ _) (pI c _ _ _ _),?_⟩
   refine ⟨_,rfl,?_⟩
   rw [dv]
   exact fin _ _ _ _ (Gq _ (by omega)) (GN _ m0)
abbrev rN:Stmt:=top 43
theorem yr:aC ["_law_script"] ["_law_script"] (aq rN):=⟨rfl,rfl,rfl,by decide +kernel,rfl,by decide +kernel,by decide +kernel⟩
def _root_.JS {a b c d e f g h i}:=@aW a b c d e f g h i
def _root_.JT {a b c d e f g h i j}:=@aQ a b c d e f g h i j
def _root_.JU {a b c}:=@aY a b c
def _root_.JV {a b c d}:=@bc a b c d
def _root_.JW {a b c d e f g h}:=@bE a b c d e f g h
theorem AS (D:Df K mg "_law_feed" rN)(T:Bt K w mg aB):Fnc P w K mg base "_law_feed" ["_law_script"] 1 (pJ K):=by
 have sc:=yr
 refine D.ok sc (fun _ _ _ _ _ _ us hl=>by obtain ⟨_,rfl⟩:=lT hl;rfl) (fun vs H Q E h=>?_) (fun f Kv A outer s H vs Q E hr h=>?_)
 ·obtain ⟨a,ns,rfl,_⟩:=h
  rfl
 ·obtain ⟨a,ns,rfl,hS,hlen,k⟩:=h
  have hu:=kX hr
  refine ⟨_,(JQ (JR (@xv _ _ _ _ _ (@fW _ _ _ _ _ _ _ _ _ ax (JI jX (JS cu (by rfl) T.list fN (JP (JT o6 (pv 0) aX (JU aj)) af)) (JI zO (JV (JP aj af)) (JS gq (by rfl) T.int pK (JP (JW cj (JO aE (by rfl) T.len Ep (JP (pv 0) af)) aj (aM _)) af)))) (@fW _ _ _ _ _ _ _ _ _ ax aj (@fW _ _ _ _ _ _ _ _ _ ax aj (@fW _ _ _ _ _ _ _ _ _ ax aj xu)))) rfl rfl (by simp) (by decide)))),?_⟩
  intro p hp
  have s1:av H (upd H p (.dK [])):=av.new hp
  have p1:(upd H p (.dK [])) p=some (.dK []):=ag
  generalize upd H p (.dK [])=H1 at s1 p1
  refine ⟨_,rfl,_,rfl,a,_,rfl,s1.seq hS,fun q1 hq1=>?_⟩
  rw [B6 hlen]
  have s2:av H1 (upd H1 q1 (.lst (ns.map V.int))):=av.new hq1
  have l2:(upd H1 q1 (.lst (ns.map V.int))) q1=some (.lst (ns.map V.int)):=ag
  generalize upd H1 q1 (.lst (ns.map V.int))=H2 at s2 l2 ⊢
  refine ⟨q1,_,rfl,.inl (SqL.of l2),fun q2 hq2=>?_⟩
  have s3:av H2 (upd H2 q2 (.lst (ns.map V.int))):=av.new hq2
  have l3:(upd H2 q2 (.lst (ns.map V.int))) q2=some (.lst (ns.map V.int)):=ag
  generalize upd H2 q2 (.lst (ns.map V.int))=H3 at s3 l3 ⊢
  refine ⟨(by show 1≤sizeLine;decide),fun q4 hq4=>?_⟩
  have s4:av H3 (upd H3 q4 (.lst [V.int 0])):=av.new hq4
  have l4:(upd H3 q4 (.lst [V.int 0])) q4=some (.lst [V.int 0]):=ag
  generalize upd H3 q4 (.lst [V.int 0])=H4 at s4 l4 ⊢
  have s14:av H H4:=((s1.trans s2).trans s3).trans s4
  refine ⟨_,rfl,a,_,rfl,.inl (s14.seq hS),rfl,.inr ⟨_,rfl,q4,_,_,rfl,rfl,l4,?_,?_,?_,fun q5 hq5=>?_⟩⟩
  ·split <;> decide
  ·split <;> decide
  ·split <;> decide
  have s5:av H4 (upd H4 q5 (.lst (List.replicate ((if decide (V.int ((ns.map V.int).length:Int)=V.int 0)=true then 1 else 0:Int)).toNat [V.int 0]).flatten)):=av.new hq5
  have l5:(upd H4 q5 (.lst (List.replicate ((if decide (V.int ((ns.map V.int).length:Int)=V.int 0)=true then 1 else 0:Int)).toNat [V.int 0]).flatten)) q5=_:=ag
  generalize upd H4 q5 (.lst (List.replicate ((if decide (V.int ((ns.map V.int).length:Int)=V.int 0)=true then 1 else 0:Int)).toNat [V.int 0]).flatten)=H5 at s5 l5 ⊢
  refine ⟨q2,q5,_,_,rfl,rfl,s5 _ _ (s4 _ _ l3),l5,?_,fun q6 hq6=>?_⟩
  ·have e:(List.replicate ((if decide (V.int ((ns.map V.int).length:Int)=V.int 0)=true then 1 else 0:Int)).toNat [V.int 0]).flatten.length≤1:=by split <;> decide
   have e2:sizeLine=16777216:=F0
   have e3:(ns.map V.int).length=ns.length:=Ea ..
   omega
  have el:ns.map V.int++(List.replicate ((if decide (V.int ((ns.map V.int).length:Int)=V.int 0)=true then 1 else 0:Int)).toNat [V.int 0]).flatten=(if ns=[] then [0] else ns).map V.int:=by
   cases ns with
   | nil=>rfl
   | cons n r =>
    have en:¬ (decide (V.int (((n::r).map V.int).length:Int)=V.int 0)=true):=by
     rw [Ea,EA]
     simp only [V.int.injEq,Jg]
     omega
    rw [if_neg en,if_neg (by simp)]
    simp
  rw [el]
  have s6:av H5 (upd H5 q6 (.lst ((if ns=[] then [0] else ns).map V.int))):=av.new hq6
  have l6:(upd H5 q6 (.lst ((if ns=[] then [0] else ns).map V.int))) q6=_:=ag
  generalize upd H5 q6 (.lst ((if ns=[] then [0] else ns).map V.int))=H6 at s6 l6 ⊢
  have p6:H6 p=some (.dK []):=s6 _ _ (s5 _ _ (s4 _ _ (s3 _ _ (s2 _ _ p1))))
  have pq:q6≠p:=gX l6 p6 (by intro z;cases z)
  refine ⟨p6,fkv q6 0 0 0,rfl,(by show 4≤15;decide),?_⟩
  rw [B4]
  refine k p _ hp ⟨q6,0,0,0,(if ns=[] then [0] else ns),ag,by rw [ar pq];exact l6,?_,?_⟩ fun b o e=>?_
  ·split
   ·simp
   ·assumption
  ·split
   ·decide
   ·omega
  ·rw [ar (aw e hp)]
   exact s6 _ _ (s5 _ _ (s14 _ _ e))
abbrev rO:Stmt:=top 15
theorem yt:aC ["word"] ["word"] (aq rO):=⟨rfl,rfl,rfl,by decide +kernel,rfl,by decide +kernel,by decide +kernel⟩
def _root_.JX {a b c d e f g h i j k l}:=@cK a b c d e f g h i j k l
def _root_.JY {a b c d e f g} (h i j) {k l m n}:=@bH a b c d e f g h i j k l m n
def _root_.JZ {a b c d e f}:=@bU a b c d e f
def _root_.J0 {a b} (c) {d}:=@aF a b c d
theorem AU (D:Df K mg "back" rO)(T:Bt K w mg aB):Fnc P w K mg base "back" ["word"] 1 sN:=by
 have sc:=yt
 refine D.ok sc (fun _ _ _ _ _ _ us hl=>by obtain ⟨_,rfl⟩:=lT hl;rfl) (fun vs H Q E h=>?_) (fun f Kv A outer s H vs Q E hr h=>?_)
 ·obtain ⟨u,rfl,_⟩:=h
  rfl
 ·obtain ⟨u,rfl,hu,k⟩:=h
  have KJ:=aT
  refine ⟨_,(JQ (JR (JX EC GS GT iU ax (JP (JY (["letter"]) (["letter"]) ([]) (JZ rfl (by kernel_rfl)) rfl (@xA _ _ _ _ _ _ rfl T.reversed nO (JP (pv 0) af) (by rfl)) (fun _ _ _ _=>J0 (0) (show (["letter"]:List Str).Nodup from by decide +kernel) rfl (Or.inl rfl)) (fun _ _ _ _=>bu) (fun _ _ _ _=>by (exact (@kY _ _ _ _ _ _ _ _ _ T.dB rfl rfl rfl T.mgB (pv 0) (fun _ _=>rfl) (by decide))))) af)))),?_⟩
  refine ⟨rfl,_,rfl,_,rfl,(by rw [ah];omega),?_⟩
  refine cT (own:=["letter"]) (cap:=[]) (J:=BP (toS u)) u.length (fun i ys σ H'=>H'=H∧ys=dq ((bk u).take i)∧∃ v,σ = [v]) ⟨rfl,rfl,none,rfl⟩ (fun i ys σ H' hi ⟨_,e,_⟩=>?_) (by omega) (fun i ys σ H' hi _=>?_) (fun ys σ H' _=>?_) ?_ ?_
  ·rw [e,bb,EB];omega
  ·show i < (toS u).cps.size;rw [bw];exact hi
  ·show _=(toS u).cps.size;rw [bw]
  ·rintro i ys σ H1 x H2 N hi ⟨rfl,rfl,v,rfl⟩ ⟨rfl,c,hc,rfl⟩ hN
   rw [bw] at hc
   obtain ⟨y,hy,e⟩:=cV hc
   obtain ⟨t,ht⟩:=T.gB y
   refine ⟨_,rfl,toS [y],toS [inv y],t,by rw [e],ht,hN _ _ _ ⟨rfl,?_,_,rfl⟩⟩
   rw [b_ (zY u hi hy),← gI]
   rfl
  ·rintro ys σ H1 l ⟨rfl,rfl,v,rfl⟩ hl
   rw [ER (by rw [cL];exact Eg _)]
   refine ⟨_,l,(bk u).map fun x=>toS [x],rfl,rfl,SqL.of (by rw [ag,mI]),j_ _ (by rw [cL];omega),?_⟩
   rw [j9]
   exact k _ (av.new hl)
abbrev lV:Stmt:=top 45
theorem u9:aC ["_law_word","_law_found","_law_sign"] ["_law_word"] (aq lV):=⟨rfl,rfl,rfl,by decide +kernel,rfl,by decide +kernel,by decide +kernel⟩
def _root_.J1 {a b c d e f g h}:=@bD a b c d e f g h
def _root_.J5 {a b c d}:=@gD a b c d
def _root_.J6 {a b c d e f g h i}:=@fK a b c d e f g h i
theorem yu (D:Df K mg "_law_back" lV):Fnc P w K mg base "_law_back" ["_law_word"] 1 sN:=by
 have sc:=u9
 refine D.ok sc (fun _ _ _ _ _ _ us hl=>by obtain ⟨_,rfl⟩:=lT hl;rfl) (fun vs H Q E h=>?_) (fun f Kv A outer s H vs Q E hr h=>?_)
 ·obtain ⟨u,rfl,_⟩:=h
  rfl
 ·obtain ⟨u,rfl,hu,k⟩:=h
  have KJ:=aT
  refine ⟨_,(JF (JM (1) sc.nd rfl (Or.inl rfl) ax) (JF (J1 EU rfl (J5 (pv 0)) (J0 (2) sc.nd rfl (Or.inl rfl)) (JQ (JM (1) sc.nd rfl (Or.inl rfl) (JI aU (@fT _ _ _ _ _ _ _ _ (JL jM (pv 2) ax rfl) (J6 EC GI GJ fX (pv 2)) (J6 EC GK GL fY (pv 2))) (pv 1))))) (JQ (JR (pv 1))))),?_⟩
  refine ⟨_,rfl,_,rfl,iV (z:=toS u) (fun i σ H'=>∃ v,σ = [some (tx u),some (tx (bk (u.take i))),v]∧H'=H) ⟨none,(by rw [List.take_zero];show _=[some (tx u),some (tx []),none];rw [mF];rfl),rfl⟩ ?_ ?_⟩
  ·rintro i c σ H1 hc ⟨v,rfl,rfl⟩
   obtain ⟨x,hx,e⟩:=cV hc
   rw [e]
   have hi:i < u.length:=(Ef.mp hx).1
   have fin:∀ z,z=toS [inv x]→∃ v',[some (tx u),some (V.str (z++toS (bk (u.take i)))),some (V.str (toS [x]))]=[some (tx u),some (tx (bk (u.take (i+1)))),v']∧H1=H1:=fun z ez=>by
    refine ⟨some (V.str (toS [x])),?_,rfl⟩
    rw [ez,mJ,b_ hx,pD]
    rfl
   have room:∀ z,z=toS [inv x]→z.length+(toS (bk (u.take i))).length≤sizeLine:=fun z ez=>by
    rw [ez,ah,ah,cL,EB]
    simp only [En]
    omega
   refine ⟨_,rfl,_,_,rfl,rfl,_,rfl,?_⟩
   rw [mG]
   refine iO (fun h=>?_) (fun h=>?_)
   ·have h:x.val < 6:=by simpa using h
    exact ⟨_,rfl,rfl,_,rfl,rfl,(by rw [ah];show 1≤5592405;decide),_,rfl,_,_,rfl,rfl,room _ (gG h),fin _ (gG h)⟩
   ·have h:¬ x.val < 6:=by simpa using h
    exact ⟨_,rfl,rfl,_,rfl,rfl,(by rw [ah];show 1≤5592405;decide),_,rfl,_,_,rfl,rfl,room _ (j7 h),fin _ (j7 h)⟩
  ·rintro σ H1 ⟨v,rfl,rfl⟩
   rw [bw,Fx]
   exact ⟨_,rfl,k _ (av.refl _)⟩
abbrev yw:Stmt:=top 17
theorem AV:aC ["word","left","letter"] ["word"] (aq yw):=⟨rfl,rfl,rfl,by decide +kernel,rfl,by decide +kernel,by decide +kernel⟩
def _root_.J8 {a b c}:=@PW.pt a b c
def _root_.J9 {a b c}:=@aR a b c
def _root_.J_ {a b c d e f}:=@iG a b c d e f
def _root_.Ka {a b c d}:=@bL a b c d
theorem CH (D:Df K mg "reduced" yw)(T:Bt K w mg aB):Fnc P w K mg base "reduced" ["word"] 1 xI:=by
 have sc:=AV
 refine D.ok sc (fun _ _ _ _ _ _ us hl=>by obtain ⟨_,rfl⟩:=lT hl;rfl) (fun vs H Q E h=>?_) (fun f Kv A outer s H vs Q E hr h=>?_)
 ·obtain ⟨u,rfl,_⟩:=h
  rfl
 ·obtain ⟨u,rfl,hu,k⟩:=h
  have KJ:=aT
  refine ⟨_,(JF (JM (1) sc.nd rfl (Or.inl rfl) (JV af)) (JF (J1 EU rfl (J5 (pv 0)) (J0 (2) sc.nd rfl (Or.inl rfl)) (JQ (JK (J8 (@vH _ _ _ _ _ _ _ (J9 (pv 1) (fun _=>rfl)) (@oJ _ _ _ _ (JL cj (JN aZ (pv 1) (J_ eG aj) (fun _ _=>rfl)) (@kY _ _ _ _ _ _ _ _ _ T.dB rfl rfl rfl T.mgB (pv 2) (fun _ _=>rfl) (by decide)) (aM _))))) (JQ (Ka (J6 EY Ia Ib zN (pv 1)))) (JQ (Ka (JX EY Fi Fj bQ (pv 1) (JP (pv 2) af))))))) (JQ (JR (JX EC GS GT iU ax (JP (pv 1) af)))))),?_⟩
  refine ⟨(by show 0≤sizeLine;decide),fun l hl=>?_⟩
  refine ⟨_,rfl,_,rfl,iV (z:=toS u) (fun i σ H'=>∃ v,σ = [some (tx u),some (.ref l),v]∧av H H'∧H' l=some (.lst (dq (act (u.take i) []).reverse))) ⟨none,rfl,av.new hl,by rw [ag];rfl⟩ ?_ ?_⟩
  ·rintro i c σ H1 hc ⟨v,rfl,s1,l1⟩
   obtain ⟨x,hx,e⟩:=cV hc
   obtain ⟨t,ht⟩:=T.gB x
   have hi:i < u.length:=(Ef.mp hx).1
   have step:act (u.take (i+1)) []=push (act (u.take i) []) x:=by rw [b_ hx,tR]
   have long:(act (u.take i) []).length≤u.length:=by
    have:=fg (u.take i) []
    rw [Hr,EB] at this
    omega
   have nl:∀ b o,H b=some o→b≠l:=fun b o e=>aw e hl
   have put:(act (u.take (i+1)) []=x::act (u.take i) [])→∀ H2:Hp,H2=upd H1 l (.lst (dq (act (u.take i) []).reverse++[tx [x]]))→∃ v,[some (tx u),some (.ref l),some (V.str ⟨#[c]⟩)]=[some (tx u),some (.ref l),v]∧av H H2∧H2 l=some (.lst (dq (act (u.take (i+1)) []).reverse)):=fun e H2 eH=>by
    subst eH
    refine ⟨_,rfl,fun b o q=>by rw [ar (nl b o q)];exact s1 b o q,?_⟩
    rw [ag,e,GX,gI]
   refine ⟨_,rfl,_,.inl ⟨_,SqL.of l1,rfl⟩,?_⟩
   cases hq:act (u.take i) [] with
   | nil =>
    rw [hq] at l1 step
    refine nJ (nJ ?_)
    refine ⟨_,rfl,.inl ⟨rfl,_,SqL.of l1⟩,_,rfl,l,_,_,rfl,rfl,l1,(by show 0 < sizeLine;decide),?_⟩
    rw [hq] at put
    exact put step _ (by rw [e];rfl)
   | cons y r =>
    rw [hq] at l1 step long put
    have long:r.length+1≤u.length:=long
    have e1:dq (y::r).reverse=dq r.reverse++[tx [y]]:=by rw [GX,gI]
    have e0:(!(dq (y::r).reverse).isEmpty)=true:=by rw [e1];simp
    rw [e0]
    refine pw ?_
    refine ⟨_,rfl,_,rfl,l,_,_,_,rfl,rfl,SqL.of l1,(by rw [e1];exact tG _ _),_,rfl,toS [x],toS [inv x],t,by rw [e],ht,rfl,_,rfl,?_⟩
    ·show if decide (tx [y]=tx [inv x])=true then _ else _
     rw [j6]
     refine iO (fun h=>?_) (fun h=>?_)
     ·have h:y=inv x:=by simpa using h
      refine ⟨_,rfl,.inl ⟨rfl,_,SqL.of l1⟩,l,_,tx [y],rfl,rfl,l1,?_,?_⟩
      ·rw [e1];simp
      ·refine ⟨_,rfl,fun b o q=>by rw [ar (nl b o q)];exact s1 b o q,?_⟩
       rw [ag,e1,List.dropLast_concat,step]
       show _=some (HO.lst (dq (if y=inv x then r else x::y::r).reverse))
       rw [if_pos h]
     ·have h:¬ y=inv x:=by simpa using h
      refine ⟨_,rfl,.inl ⟨rfl,_,SqL.of l1⟩,_,rfl,l,_,_,rfl,rfl,l1,(by rw [bb,GA,EA];omega),?_⟩
      refine put ?_ _ (by rw [e];rfl)
      rw [step]
      show (if y=inv x then r else x::y::r)=_
      rw [if_neg h]
  ·rintro σ H1 ⟨v,rfl,s1,l1⟩
   rw [bw,Fx] at l1
   refine ⟨rfl,_,rfl,_,l,(red u).map fun x=>toS [x],rfl,rfl,SqL.of (by rw [l1,← mI];rfl),j_ _ ?_,?_⟩
   ·have:=nM u;omega
   ·rw [j9]
    exact k _ s1
abbrev jx:Stmt:=top 23
theorem rP:aC ["change","word","becomes","letter","part"] ["change","word"] (aq jx):=⟨rfl,rfl,rfl,by decide +kernel,rfl,by decide +kernel,by decide +kernel⟩
def _root_.Kb {a b} (c) {d e}:=@cD a b c d e
def _root_.Kc {a b c d e}:=@bf a b c d e
def _root_.Kd {a b c d e f g h i j k}:=@aH a b c d e f g h i j k
theorem u_ (D:Df K mg "mapped" jx)(T:Bt K w mg aB)(S:∃ t,mg "SMALL" = some (.str "abcdef" t))(Ky:Fnc P w K mg base "back" ["word"] 1 sN)(F_red:Fnc P w K mg base "reduced" ["word"] 1 xI):Fnc P w K mg base "mapped" ["change","word"] 2 jd:=by
 have sc:=rP
 refine D.ok sc (fun _ _ _ _ _ _ us hl=>by obtain ⟨_,_,rfl⟩:=lU hl;rfl) (fun vs H Q E h=>?_) (fun f Kv A outer s H vs Q E hr h=>?_)
 ·obtain ⟨p,u,n,b,ws,rfl,_⟩:=h
  rfl
 ·obtain ⟨p,u,n,b,ws,rfl,M,n6,hin,KU,hlen,hb,k⟩:=h
  have KJ:=aT
  have hu:=kX hr
  obtain ⟨tS,mgS⟩:=S
  refine ⟨_,(JF (JM (2) sc.nd rfl (Or.inr rfl) fV) (JF (J1 EU rfl (@uH _ _ rfl _ _ _ _ _ _ _ _ rfl T.zip zX (JP (Kb (.str "abcdef") rfl mgS ⟨_,rfl⟩) (JP (pv 0) af)) (by rfl) (by rfl)) (@gm _ _ _ _ _ _ rfl (Kc (J0 (3) sc.nd rfl (Or.inl rfl)) (Kc (J0 (4) sc.nd rfl (Or.inl rfl)) d_)) (by rfl) (by rfl)) (JF (JG hu (pv 2) (pv 3) (pv 4) rfl) (JQ (JG hu (pv 2) (Kd Ky hr (by decide) rfl (JP (pv 3) af)) (Kd Ky hr (by decide) rfl (JP (pv 4) af)) rfl)))) (JQ (JR (Kd F_red hr (by decide) rfl (JP (JX EC GS GT iU ax (JP (JY (["letter","becomes"]) (["letter"]) ([2]) (JZ rfl (by kernel_rfl)) rfl (J5 (pv 1)) (fun _ _ _ _=>J0 (0) (show (["letter","becomes"]:List Str).Nodup from by decide +kernel) rfl (Or.inl rfl)) (fun _ _ _ _=>bu) (fun _ _ _ _=>by (exact (JJ hu (pv 1) (pv 0) (fun _ _=>rfl))))) af)) af)))))),?_⟩
  have asc6:("abcdef":Str).cps.all (· < 128)=true:=by decide +kernel
  have sz6:("abcdef":Str).cps.size=6:=by decide +kernel
  have hwl:(ws.map tx).length=n:=by rw [Ea,M.ok.len]
  intro d hd
  have keep:∀ {H':Hp} {o:HO},av H H'→av H (upd H' d o):=fun s b o e=>by rw [ar (aw e hd)];exact s b o e
  refine ⟨_,rfl,_,p,rfl,asc6,⟨_,SqT.of ((av.new hd) _ _ M.at_)⟩,qv (ys:=ws.map tx) (fun i σ H'=>∃ (a c:Option V) (Kt:List (Key × V)),σ = [some (.ref p),some (tx u),some (.ref d),a,c]∧av H H'∧H' d=some (.dK Kt)∧Kt.length≤2*i∧i≤6∧∀ x:L,x.val % 6 < i→dQ Kt (kS (toS [x]))=some (tx (img ws x)))
   ⟨none,none,[],rfl,av.new hd,ag,by decide,by omega,fun x hx=>by omega⟩ (fun i σ H' ⟨_,_,_,_,s1,_⟩=>SqT.of (s1 _ _ M.at_)) ?_ ?_⟩
  ·rintro i c y σ H1 T hc hy ⟨a,c',Kt,rfl,s1,hk,hkl,hi6,hv⟩ hT
   obtain ⟨x,hxi,hi,rfl⟩:=L2.sm_at hc
   obtain ⟨v,hv1,rfl⟩:∃ v,ws[i]? = some v∧y=tx v:=by
    rw [Er] at hy
    cases e:ws[i]? with
    | none=>rw [e] at hy;cases hy
    | some v=>rw [e] at hy;exact ⟨v,rfl,(EE hy).symm⟩
   have hvl:v.length≤5000:=EV (M.ok.le v (Es hv1)) hb
   have nT:T≠d:=(aw hk hT).symm
   have ix:img ws x=v:=by
    unfold img
    rw [if_pos (by omega),Ew,hxi,hv1]
    rfl
   have iX:img ws (inv x)=bk v:=by rw [xX,ix]
   refine ⟨T,_,rfl,SqT.of ag,rfl,_,_,rfl,_,_,rfl,rfl,?_⟩
   have s2:av H (upd H1 T (.tup [.str ⟨#[cp x]⟩,tx v])):=s1.then hT
   have k2:(upd H1 T (.tup [.str ⟨#[cp x]⟩,tx v])) d=some (.dK Kt):=by rw [ar nT.symm];exact hk
   generalize upd H1 T (.tup [.str ⟨#[cp x]⟩,tx v])=H2 at s2 k2 ⊢
   refine ⟨_,rfl,_,rfl,_,rfl,d,_,rfl,dp k2 (by omega) rfl,?_⟩
   have s3:av H (upd H2 d (.dK (dX Kt (kS ⟨#[cp x]⟩) (tx v)))):=keep s2
   have k3:(upd H2 d (.dK (dX Kt (kS ⟨#[cp x]⟩) (tx v)))) d=some (.dK (dX Kt (kS (toS [x])) (tx v))):=ag
   generalize upd H2 d (.dK (dX Kt (kS ⟨#[cp x]⟩) (tx v)))=H3 at s3 k3 ⊢
   refine ⟨_,rfl,v,rfl,hvl,fun H4 s4=>⟨_,rfl,_,rfl,[x],rfl,(by show 1≤5000;decide),fun H5 s5=>?_⟩⟩
   have k5:=s5 _ _ (s4 _ _ k3)
   have hl5:=bY Kt (kS (toS [x])) (tx v)
   have hl6:=bY (dX Kt (kS (toS [x])) (tx v)) (kS (toS (bk [x]))) (tx (bk v))
   refine ⟨d,_,rfl,dp k5 (by omega) rfl,?_⟩
   refine ⟨_,_,_,rfl,keep (s3.trans (s4.trans s5)),ag,by omega,by omega,fun z hz=>?_⟩
   rw [mr,mr,eO]
   by_cases e1:z=inv x
   ·rw [e1,if_pos rfl,iX]
   ·rw [if_neg (fun e=>e1 (by have:=fi (Sum.inr.inj e);simpa using this))]
    by_cases e2:z=x
    ·rw [e2,if_pos rfl,ix]
    ·rw [if_neg (fun e=>e2 (by have:=fi (Sum.inr.inj e);simpa using this))]
     refine hv z ?_
     have hx6:x.val < 6:=by omega
     have n1:z.val≠x.val:=fun e=>e2 (Fin.ext e)
     have n2:z.val≠x.val+6:=fun e=>e1 (Fin.ext (by rw [fk,if_pos hx6];exact e))
     have:=z.isLt
     omega
  ·rintro σ H1 ⟨a,c,Kt,rfl,s1,hk,hkl,hi6,hv⟩
   rw [hwl,sz6,Hc n6] at hv
   refine ⟨rfl,_,rfl,_,rfl,?_⟩
   refine cT (own:=["letter"]) (cap:=[2]) (J:=Its (toS u)) u.length (fun i ys σ H'=>∃ v:Option V,σ = [v,some (.ref d)]∧ys=(((u.take i).map (img ws)).map toS).map V.str∧H'=H1) ⟨none,rfl,rfl,rfl⟩ (fun i ys σ H' hi ⟨v,_,e,_⟩=>?_) (by omega) (fun i ys σ H' hi _=>?_) (fun ys σ H' _=>?_) ?_ ?_
   ·rw [e,Ea,Ea,Ea,EB];omega
   ·show i < (toS u).cps.size;rw [bw];exact hi
   ·show _=(toS u).cps.size;rw [bw]
   ·rintro i ys σ H2 x H3 N hi ⟨v,rfl,rfl,rfl⟩ ⟨rfl,c',hc,rfl⟩ hN
    obtain ⟨y,hy,e⟩:=cV hc
    have hyn:=hin y (Es hy)
    refine ⟨_,rfl,_,rfl,d,_,rfl,dg hk (by rw [e];exact hv y hyn),hN _ _ _ ⟨_,rfl,?_,rfl⟩⟩
    rw [b_ hy,EG,EG,EG]
    rfl
   ·rintro ys σ H2 l ⟨v,rfl,rfl,rfl⟩ hl
    have hsl:=(M.ok.sub u).2
    have es:((u.take u.length).map (img ws))=u.map (img ws):=by rw [Fx]
    have ej:("":Str).length=0:=by decide +kernel
    refine ⟨_,l,(u.map (img ws)).map toS,rfl,rfl,SqL.of (by rw [ag,es]),?_,?_⟩
    ·rw [mV,ej,Nat.mul_zero,Jv]
     have:(u.map (img ws)).flatten=sub ws u:=rfl
     rw [this]
     omega
    ·rw [mW]
     exact ⟨sub ws u,rfl,by omega,fun H' s'=>k _ (s1.trans ((av.new hl).trans s'))⟩
abbrev jy:Stmt:=top 12
theorem rQ:aC ["thing"] ["thing"] (aq jy):=⟨rfl,rfl,rfl,by decide +kernel,rfl,by decide +kernel,by decide +kernel⟩
def _root_.Ke {a b c d e f g}:=@cH a b c d e f g
def _root_.Kf {a b} (c) {d e}:=@bo a b c d e
def _root_.Kg {a b c d e}:=@dA a b c d e
theorem va (D:Df K mg "is_letter" jy)(T:Bt K w mg aB)(B:Bk K aB):Fnc P w K mg base "is_letter" ["thing"] 1 (i7 K):=by
 have sc:=rQ
 refine D.ok sc (fun _ _ _ _ _ _ us hl=>by obtain ⟨_,rfl⟩:=lT hl;rfl) (fun vs H Q E h=>?_) (fun f Kv A outer s H vs Q E hr h=>?_)
 ·obtain ⟨x,rfl,_⟩:=h
  rfl
 ·obtain ⟨x,rfl,hx,k⟩:=h
  refine ⟨_,(JQ (JR (Ke (JO (@ba _ (K) rfl) (by rfl) T.isinstance aA (JP (pv 0) (JP (Kf (.ty "str") rfl T.str tX rfl) af))) (Kg (@zZ _ _ _ _ _ _ _ _ _ T.dB rfl rfl B.lo rfl T.mgB (pv 0) (by decide)))))),?_⟩
  cases hx with
  | str z hz =>
   obtain ⟨r,hr1,hr2⟩:=B.all z
   refine ⟨_,rfl,_,_,_,_,rfl,.str z,i4,true,rfl,?_⟩
   refine jJ rfl ⟨_,rfl,z,r,rfl,hr1,?_⟩
   rw [hr2]
   exact k
  | oth ty e ns =>
   refine ⟨_,rfl,_,_,_,_,rfl,ty,e,false,rfl,?_⟩
   rw [ub ns] at k
   exact k8 rfl k
abbrev yy:Stmt:=top 14
theorem AW:aC ["letter"] ["letter"] (aq yy):=⟨rfl,rfl,rfl,by decide +kernel,rfl,by decide +kernel,by decide +kernel⟩
theorem CI (D:Df K mg "number_of" yy)(T:Bt K w mg aB)(S:∃ t,mg "SMALL" = some (.str "abcdef" t)):Fnc P w K mg base "number_of" ["letter"] 1 ud:=by
 have sc:=AW
 refine D.ok sc (fun _ _ _ _ _ _ us hl=>by obtain ⟨_,rfl⟩:=lT hl;rfl) (fun vs H Q E h=>?_) (fun f Kv A outer s H vs Q E hr h=>?_)
 ·obtain ⟨x,rfl,_⟩:=h
  rfl
 ·obtain ⟨x,rfl,k⟩:=h
  obtain ⟨tS,mgS⟩:=S
  refine ⟨_,(JQ (JR (JX EC HE HF i3 (Kb (.str "abcdef") rfl mgS ⟨_,rfl⟩) (JP (J6 EC GK GL fY (pv 0)) af)))),?_⟩
  exact ⟨rfl,_,rfl,rfl,_,rfl,rfl,(by rw [ah];show 1≤5592405;decide),_,_,_,_,rfl,rfl,Ab x,k⟩
abbrev rR:Stmt:=top 13
theorem yz:aC ["many","thing"] ["many","thing"] (aq rR):=⟨rfl,rfl,rfl,by decide +kernel,rfl,by decide +kernel,by decide +kernel⟩
def _root_.Kh {a b c d}:=@bh a b c d
theorem AX (D:Df K mg "is_word" rR)(T:Bt K w mg aB)(Le:Fnc P w K mg base "is_letter" ["thing"] 1 (i7 K))(Ll:Fnc P w K mg base "number_of" ["letter"] 1 ud):Fnc P w K mg base "is_word" ["many","thing"] 2 (xM K):=by
 have sc:=yz
 refine D.ok sc (fun _ _ _ _ _ _ us hl=>by obtain ⟨_,_,rfl⟩:=lU hl;rfl) (fun vs H Q E h=>?_) (fun f Kv A outer s H vs Q E hr h=>?_)
 ·obtain ⟨m,x,rfl,_⟩:=h
  rfl
 ·obtain ⟨m,x,rfl,m1,m2,hx,k⟩:=h
  have KJ:=aT
  refine ⟨_,(JF (JK (Kh (J9 (JO (@ba _ (K) rfl) (by rfl) T.isinstance aA (JP (pv 1) (JP (Kf (.ty "str") rfl T.str tX rfl) af))) (fun _=>rfl))) (JQ (JR bK)) aI) (JQ (JR (JO (@bj _ rfl) (by rfl) T.all nN (JP (JY (["sign","many"]) (["sign"]) ([0]) (JZ rfl (by kernel_rfl)) rfl (J5 (pv 1)) (fun _ _ _ _=>J0 (0) (show (["sign","many"]:List Str).Nodup from by decide +kernel) rfl (Or.inl rfl)) (fun _ _ _ _=>bu) (fun _ _ _ _=>by (exact Ke (by (exact (Kd Le hr (by decide) rfl (JP (pv 0) af)))) (by (exact Kg (by (exact JW iH (by (exact (Kd Ll hr (by decide) rfl (JP (pv 0) af)))) (by (exact (pv 1))) (aM _)))))))) af))))),?_⟩
  cases hx with
  | oth ty e ns =>
   refine ⟨_,rfl,_,_,_,_,rfl,ty,e,_,rfl,?_⟩
   rw [pQ ns] at k
   exact k _ (av.refl _)
  | str z hz =>
   refine ⟨_,rfl,_,_,_,_,rfl,.str z,i4,_,rfl,?_⟩
   refine ⟨_,rfl,_,rfl,?_⟩
   refine cT (own:=["sign"]) (cap:=[0]) (J:=Its z) z.cps.size (fun i ys σ H'=>∃ v:Option V,σ = [v,some (.int m)]∧ys=(((z.cps.toList).take i).map (okC m)).map V.bl∧H'=H) ⟨none,rfl,rfl,rfl⟩ (fun i ys σ H' hi ⟨v,_,e,_⟩=>?_) (by have:z.cps.size≤500:=hz;omega) (fun i ys σ H' hi _=>hi) (fun ys σ H' _=>rfl) ?_ ?_
   ·rw [e,Ea,Ea,EB];omega
   ·rintro i ys σ H1 y H2 N hi ⟨v,rfl,rfl,rfl⟩ ⟨rfl,c,hc,rfl⟩ hN
    have hc':z.cps.toList[i]? = some c:=by simpa using hc
    have fin:∀ b,b=okC m c→N ((((z.cps.toList).take i).map (okC m)).map V.bl++[.bl b]) [some (.str ⟨#[c]⟩),some (.int m)] H2:=fun b eb=>hN _ _ _ ⟨_,rfl,by rw [Gr,hc',EG,EG,eb];rfl,rfl⟩
    refine ⟨_,rfl,_,rfl,.str _ (by show 1≤500;decide),_,rfl,?_⟩
    cases hl:(ltr c).isSome with
    | false =>
     refine k8 hl (fin _ (Ad hl).symm)
    | true =>
     obtain ⟨x,e1,e2⟩:=pS hl
     refine jJ hl ⟨_,rfl,x,by rw [e1];rfl,_,rfl,?_⟩
     refine ⟨_,_,rfl,rfl,fin _ ?_⟩
     rw [e2,Ac]
   ·rintro ys σ H1 l ⟨v,rfl,rfl,rfl⟩ hl
    refine ⟨l,_,rfl,SqL.of ag,?_⟩
    rw [ER (by simp),IS]
    exact k _ (av.new hl)
abbrev lW:Stmt:=top 16
theorem vb:aC ["word"] ["word"] (aq lW):=⟨rfl,rfl,rfl,by decide +kernel,rfl,by decide +kernel,by decide +kernel⟩
theorem yA (D:Df K mg "is_reduced" lW)(T:Bt K w mg aB):Fnc P w K mg base "is_reduced" ["word"] 1 k_:=by
 have sc:=vb
 refine D.ok sc (fun _ _ _ _ _ _ us hl=>by obtain ⟨_,rfl⟩:=lT hl;rfl) (fun vs H Q E h=>?_) (fun f Kv A outer s H vs Q E hr h=>?_)
 ·obtain ⟨u,rfl,_⟩:=h
  rfl
 ·obtain ⟨u,rfl,hu,k⟩:=h
  have KJ:=aT
  refine ⟨_,(JQ (JR (JO (@bj _ rfl) (by rfl) T.all nN (JP (JY (["letter","behind"]) (["letter","behind"]) ([]) (JZ rfl (by kernel_rfl)) rfl (@z9 _ _ _ _ _ _ _ _ _ rfl T.zip zX (JP (pv 0) (JP (JT dm (pv 0) (JU aj) aX) af)) (by rfl) (by rfl)) (fun _ _ _ _=>@xJ _ (K) _ _ _ (2) _ rfl rfl (Kc (J0 (0) (show (["letter","behind"]:List Str).Nodup from by decide +kernel) rfl (Or.inl rfl)) (Kc (J0 (1) (show (["letter","behind"]:List Str).Nodup from by decide +kernel) rfl (Or.inl rfl)) d_)) (by rfl) (by rfl)) (fun _ _ _ _=>bu) (fun _ _ _ _=>by (exact JW dW (by (exact (@kY _ _ _ _ _ _ _ _ _ T.dB rfl rfl rfl T.mgB (pv 0) (fun _ _=>rfl) (by decide)))) (by (exact (pv 1))) (aM _)))) af)))),?_⟩
  refine ⟨_,rfl,_,rfl,_,rfl,_,rfl,(by rw [ah];omega),_,_,rfl,asc _,?_,?_⟩
  ·rw [a7];exact asc _
  rw [a7,cX _ (by decide)]
  have hm:min (toS u).cps.size (toS (u.drop 1)).cps.size=u.length - 1:=by rw [bw,bw,Fv];omega
  refine cT (own:=["letter","behind"]) (cap:=[]) (J:=Itz (toS u) (toS (u.drop 1))) (u.length - 1) (fun i ys σ H'=>∃ v1 v2:Option V,σ = [v1,v2]∧ys=((chk u).take i).map V.bl∧av H H') ⟨none,none,rfl,rfl,av.refl _⟩ (fun i ys σ H' hi ⟨_,_,_,e,_⟩=>?_) (by omega) (fun i ys σ H' hi _=>?_) (fun ys σ H' _=>?_) ?_ ?_
  ·rw [e,Ea,EB];omega
  ·show i < min _ _;rw [hm];exact hi
  ·show _=min _ _;rw [hm]
  ·rintro i ys σ H1 v H2 N hi ⟨v1,v2,rfl,rfl,s1⟩ ⟨t,c,d,hn,rfl,hc,hd,rfl⟩ hN
   obtain ⟨x,hx,e⟩:=cV hc
   obtain ⟨y,hy,e2⟩:=cV hd
   obtain ⟨tk,hb⟩:=T.gB x
   refine ⟨t,_,rfl,SqT.of ag,rfl,_,_,rfl,_,_,rfl,rfl,?_⟩
   refine ⟨_,rfl,toS [x],toS [inv x],tk,by rw [e],hb,_,rfl,rfl,hN _ _ _ ⟨_,_,rfl,?_,s1.then hn⟩⟩
   rw [Gr,pR hx hy,EG,e2]
   rfl
  ·rintro ys σ H1 l ⟨v1,v2,rfl,rfl,s1⟩ hl
   refine ⟨l,_,rfl,SqL.of ag,?_⟩
   rw [ER (by rw [il];exact Eg _),xN]
   exact k _ (s1.then hl)
abbrev lX:Stmt:=top 22
theorem vc:aC ["many","thing"] ["many","thing"] (aq lX):=⟨rfl,rfl,rfl,by decide +kernel,rfl,by decide +kernel,by decide +kernel⟩
def _root_.Ki {a b c d e f g}:=@cE a b c d e f g
def _root_.Kj {a b c d}:=@dh a b c d
def _root_.Kk {a b c d}:=@dC a b c d
theorem yB (D:Df K mg "is_map" lX)(T:Bt K w mg aB)(F_word:Fnc P w K mg base "is_word" ["many","thing"] 2 (xM K))(Lw:Fnc P w K mg base "is_reduced" ["word"] 1 k_):Fnc P w K mg base "is_map" ["many","thing"] 3 (lu K):=by
 have sc:=vc
 refine D.ok sc (fun _ _ _ _ _ _ us hl=>by obtain ⟨_,_,rfl⟩:=lU hl;rfl) (fun vs H Q E h=>?_) (fun f Kv A outer s H vs Q E hr h=>?_)
 ·obtain ⟨n,x,b,rfl,_⟩:=h
  rfl
 ·obtain ⟨n,x,b,rfl,h1,h6,hx,k⟩:=h
  have KJ:=aT
  refine ⟨_,(JF (JK (J8 (Ki (Kh (J9 (JO (@ba _ (K) rfl) (by rfl) T.isinstance aA (JP (pv 1) (JP (Kf (.ty "tuple") rfl T.tuple bN rfl) af))) (fun _=>rfl))) (Kj (JL dW (JO aE (by rfl) T.len Ep (JP (pv 1) af)) (pv 0) (aM _))))) (JQ (JR bK)) aI) (JQ (JR (JO (@bj _ rfl) (by rfl) T.all nN (JP (JY (["part","many"]) (["part"]) ([0]) (JZ rfl (by kernel_rfl)) rfl (Kk (pv 1)) (fun _ _ _ _=>J0 (0) (show (["part","many"]:List Str).Nodup from by decide +kernel) rfl (Or.inl rfl)) (fun _ _ _ _=>bu) (fun _ _ _ _=>by (exact Ke (by (exact (Kd F_word hr (by decide) rfl (JP (pv 1) (JP (pv 0) af))))) (by (exact Kg (by (exact (Kd Lw hr (by decide) rfl (JP (pv 0) af))))))))) af))))),?_⟩
  cases hx with
  | oth ty e=>exact ⟨_,rfl,_,_,_,_,rfl,ty,e,_,rfl,gM (k _ (av.refl _))⟩
  | @tup a xs h hx hl =>
   refine ⟨_,rfl,_,_,_,_,rfl,.tup h,bV,_,rfl,ir ⟨_,rfl,a,xs,rfl,.inr (SqT.of h),_,rfl,rfl,_,rfl,?_⟩⟩
   by_cases hn:xs.length=n
   ·refine k8 (by rw [hn];simp) ?_
    have k:∀ H',av H H'→Q (.bl (xs.all (mpV n))) H':=fun H' s'=>by
     have this:Q (.bl (decide (xs.length=n) && xs.all (mpV n))) H':=k H' s'
     rwa [Eh hn,FJ] at this
    refine ⟨_,rfl,a,rfl,⟨xs,SqT.of h⟩,?_⟩
    refine cy (xs:=xs) (own:=["part"]) (cap:=[0]) (fun i ys σ H'=>∃ v:Option V,σ = [v,some (.int (n:Int))]∧ys=((xs.take i).map (mpV n)).map V.bl∧av H H') ⟨none,rfl,rfl,av.refl _⟩ (fun i ys σ H' hi ⟨v,_,e,_⟩=>?_) (by omega) (fun i ys σ H' ⟨_,_,_,s1⟩=>SqT.of (s1 _ _ h)) ?_ ?_
    ·rw [e,Ea,Ea,EB];omega
    ·rintro i ys σ H1 y N hyi ⟨v,rfl,rfl,s1⟩ hN
     have hy:=(hx y (Es hyi)).same s1
     have fin:∀ (b:Bool) (H2:Hp),mpV n y=b→av H1 H2→N (((xs.take i).map (mpV n)).map V.bl++[V.bl b]) [some y,some (.int (n:Int))] H2:=fun b H2 e s2=>hN _ _ _ ⟨_,rfl,by rw [i8 (mpV n) hyi,EG,e];rfl,s1.trans s2⟩
     refine ⟨_,rfl,_,rfl,(n:Int),y,rfl,by omega,by omega,hy,fun H2 s2=>⟨_,rfl,?_⟩⟩
     cases hw:wdV (n:Int) y with
     | false =>
      refine k8 rfl (fin false H2 ?_ s2)
      cases y with
      | str z=>exact wx hw
      | _=>rfl
     | true =>
      obtain ⟨z,ez,hz⟩:=ue hy hw
      subst ez
      have hw:isW (n:Int) z=true:=hw
      obtain ⟨u,rfl⟩:=qM h6 hw
      rw [ah] at hz
      refine jJ rfl ⟨_,rfl,u,rfl,hz,fun H3 s3=>fin _ H3 (wA hw) (s2.trans s3)⟩
    ·rintro ys σ H1 l ⟨v,rfl,rfl,s1⟩ hl
     refine ⟨l,_,rfl,SqL.of ag,?_⟩
     rw [ER (Eg _),IS]
     exact k _ (s1.then hl)
   ·have this:Q (.bl (decide (xs.length=n) && xs.all (mpV n))) H:=k H (av.refl _)
    rw [Ed hn,FO] at this
    exact jJ (by rw [Ed fun e=>hn (by have:=V.int.inj e;omega)];rfl) this
abbrev CJ:Stmt:=top 27
theorem CK:aC ["surface","slide"] ["surface","slide"] (aq CJ):=⟨rfl,rfl,rfl,by decide +kernel,rfl,by decide +kernel,by decide +kernel⟩
theorem D7 (D:Df K mg "neighbour" CJ)(T:Bt K w mg aB):Fnc P w K mg base "neighbour" ["surface","slide"] 1 Bq:=by
 have sc:=CK
 refine D.ok sc (fun _ _ _ _ _ _ us hl=>by obtain ⟨_,_,rfl⟩:=lU hl;rfl) (fun vs H Q E h=>?_) (fun f Kv A outer s H vs Q E hr h=>?_)
 ·obtain ⟨u,t,i,sd,rfl,_⟩:=h
  rfl
 ·obtain ⟨u,t,i,sd,rfl,ht,KN,KU,k⟩:=h
  have KJ:=aT
  have hp:=FM.mpr KN
  have hw:(toS u).length≤sizeLine:=by rw [ah];omega
  refine ⟨_,(JQ (JR (JN dk (pv 0) (JI dD (JI bC (JN aO (pv 1) aj (fun _ _=>rfl)) (JN aO (pv 1) aj (fun _ _=>rfl))) (JO ay (by rfl) T.len Ep (JP (pv 0) af))) (fun _ _=>rfl)))),?_⟩
  refine ⟨_,rfl,_,rfl,t,_,_,_,rfl,rfl,SqT.of ht,rfl,_,rfl,t,_,_,_,rfl,rfl,SqT.of ht,rfl,_,_,rfl,rfl,_,rfl,_,rfl,hw,_,_,rfl,rfl,(by show (0:Int) < ((toS u).length:Int);rw [ah];omega),?_⟩
  have h1:=Gq ((i:Int)+sd) (show (u.length:Int)≠0 by omega)
  have ha:atI (toS u).cps.toList (((i:Int)+sd) % ((toS u).length:Int))=some (cp (a9 u i sd)):=by
   rw [ah]
   exact cW (k:=(((i:Int)+sd) % (u.length:Int)).toNat) (by omega) (ji KN i sd)
  exact ⟨_,_,_,rfl,rfl,hw,ha,k⟩
abbrev yC:Stmt:=top 26
theorem AY:aC ["surface","slide"] ["surface","slide"] (aq yC):=⟨rfl,rfl,rfl,by decide +kernel,rfl,by decide +kernel,by decide +kernel⟩
theorem CL (D:Df K mg "can_slide" yC)(T:Bt K w mg aB)(Ky:Fnc P w K mg base "back" ["word"] 1 sN)(F_nb:Fnc P w K mg base "neighbour" ["surface","slide"] 1 Bq):Fnc P w K mg base "can_slide" ["surface","slide"] 2 qS:=by
 have sc:=AY
 refine D.ok sc (fun _ _ _ _ _ _ us hl=>by obtain ⟨_,_,rfl⟩:=lU hl;rfl) (fun vs H Q E h=>?_) (fun f Kv A outer s H vs Q E hr h=>?_)
 ·obtain ⟨u,t,z,sd,rfl,_⟩:=h
  rfl
 ·obtain ⟨u,t,z,sd,rfl,ht,KN,KU,k⟩:=h
  have KJ:=aT
  have hw:(toS u).length≤sizeLine:=by rw [ah];omega
  refine ⟨_,(JQ (JR (Ke (@tf _ _ _ _ _ _ _ _ _ _ _ _ oS iH aj (JN aO (pv 1) aj (fun _ _=>rfl)) (JO ay (by rfl) T.len Ep (JP (pv 0) af)) (by with_unfolding_all rfl)) (Kg (JW dW (Kd F_nb hr (by decide) rfl (JP (pv 0) (JP (pv 1) af))) (Kd Ky hr (by decide) rfl (JP (JN dk (pv 0) (JN aO (pv 1) aj (fun _ _=>rfl)) (fun _ _=>rfl)) af)) (aM _)))))),?_⟩
  rcases dM (u:=u) (z:=z) (sd:=sd) with ⟨e0,off⟩ | ⟨i,e,rfl,he⟩
  ·rw [e0] at k
   by_cases h0:0≤z
   ·refine ⟨_,rfl,t,_,_,_,rfl,rfl,SqT.of ht,rfl,_,_,rfl,rfl,_,rfl,jJ (Eh h0) ?_⟩
    exact ⟨_,rfl,_,rfl,hw,_,_,rfl,rfl,_,rfl,k8 (by rw [ah];exact Ed (by omega)) (k _ (av.refl _))⟩
   ·exact ⟨_,rfl,t,_,_,_,rfl,rfl,SqT.of ht,rfl,_,_,rfl,rfl,_,rfl,k8 (Ed h0) ⟨_,rfl,k8 rfl (k _ (av.refl _))⟩⟩
  ·have hi:i < u.length:=(Ef.mp he).1
   have ae:atI (toS u).cps.toList (i:Int)=some (cp e):=cW rfl he
   refine ⟨_,rfl,t,_,_,_,rfl,rfl,SqT.of ht,rfl,_,_,rfl,rfl,_,rfl,jJ (Eh (by omega)) ?_⟩
   refine ⟨_,rfl,_,rfl,hw,_,_,rfl,rfl,_,rfl,jJ (by rw [ah];exact Eh (by omega)) ?_⟩
   refine ⟨_,rfl,_,rfl,u,t,i,sd,rfl,ht,KN,KU,?_⟩
   refine ⟨_,rfl,_,rfl,t,_,_,_,rfl,rfl,SqT.of ht,rfl,_,_,_,rfl,rfl,hw,ae,[e],rfl,(by show 1≤5000;decide),fun H1 s1=>⟨rfl,?_⟩⟩
   show Q (.bl (!decide (tx [a9 u i sd]=tx (bk [e])))) H1
   rw [j6,eO]
   have:=k H1 s1
   rw [eQ he] at this
   have e2:(if a9 u i sd=inv e then none else some (sld u e (inv (a9 u i sd)) (decide (sd=1))):Option (List L)).isSome=!decide ([a9 u i sd]=[inv e]):=by
    by_cases h:a9 u i sd=inv e
    ·rw [if_pos h,Eh (by rw [h])];rfl
    ·rw [if_neg h,Ed (show ¬ [a9 u i sd]=[inv e] by simpa using h)];rfl
   rwa [e2] at this
theorem vd {u:List L}{e g:L}(nd:u.Nodup)(he:e∈u)(hg:g∈u)(ne:g≠e):g∈u.filter (fun x=>decide (x≠e)) ∧
  ∀ b:Bool,((u.filter (fun x=>decide (x≠e))).take ((u.filter (fun x=>decide (x≠e))).idxOf g+(if b then 1 else 0)))++[e]++((u.filter (fun x=>decide (x≠e))).drop ((u.filter (fun x=>decide (x≠e))).idxOf g+(if b then 1 else 0)))=sld u e g b:=by
 refine ⟨Iw.mpr ⟨hg,Eh ne⟩,fun b=>?_⟩
 obtain ⟨A,B,C,D,rfl,e1,e2⟩:=gL nd he hg ne b
 have nd2:(e::(A++B)).Nodup:=(He.nodup_iff).mp nd
 have ni:=(EN.mp nd2).1
 have nd3:=(EN.mp nd2).2
 have ef:(A++e::B).filter (fun x=>decide (x≠e))=C++g::D:=by
  rw [List.filter_append,List.filter_cons_of_neg (by simp),← List.filter_append,e1]
  refine List.filter_eq_self.mpr fun x hx=>Eh fun z=>?_
  subst z
  exact ni (by rw [e1];exact hx)
 rw [e1] at nd3
 have nd4:(g::(C++D)).Nodup:=(He.nodup_iff).mp nd3
 have ng:=(EN.mp nd4).1
 have ei:(C++g::D).idxOf g=C.length:=by
  rw [List.idxOf_append,if_neg (fun h=>ng (E1 _ h)),List.idxOf_cons_self,Nat.zero_add]
 rw [ef,e2,ei]
 cases b with
 | true =>
  rw [if_pos rfl,if_pos rfl]
  have:C++g::D=(C++[g])++D:=by simp
  have hl:C.length+1=(C++[g]).length:=by simp
  rw [this,hl,List.take_left,List.drop_left]
  simp
 | false =>
  rw [if_neg (by decide),if_neg (by decide),Jv,List.take_left,List.drop_left]
  simp
abbrev lY:Stmt:=top 28
theorem ve:aC ["surface","slide","end","left","place"] ["surface","slide"] (aq lY):=⟨rfl,rfl,rfl,by decide +kernel,rfl,by decide +kernel,by decide +kernel⟩
theorem yD (D:Df K mg "moved" lY)(T:Bt K w mg aB)(Ky:Fnc P w K mg base "back" ["word"] 1 sN)(F_nb:Fnc P w K mg base "neighbour" ["surface","slide"] 1 Bq):Fnc P w K mg base "moved" ["surface","slide"] 2 lE:=by
 have sc:=ve
 refine D.ok sc (fun _ _ _ _ _ _ us hl=>by obtain ⟨_,_,rfl⟩:=lU hl;rfl) (fun vs H Q E h=>?_) (fun f Kv A outer s H vs Q E hr h=>?_)
 ·obtain ⟨u,t,i,sd,e,rfl,_⟩:=h
  rfl
 ·obtain ⟨u,t,i,sd,e,rfl,ht,nd,KU,hg,he,hc,k⟩:=h
  have KJ:=aT
  have hi:i < u.length:=(Ef.mp he).1
  have KN:u≠[]:=FM.mp (by omega)
  refine ⟨_,(@qH _ (0) (1) (2) (3) _ _ _ _ _ _ _ _ _ _ _ _ _ _ _ _ _ _ _ _ _ _ sc.nd rfl rfl rfl rfl rfl rfl rfl rfl (by decide) (fun _ _=>rfl) (fun _ _=>rfl) (JF (JM (4) sc.nd rfl (Or.inl rfl) (JX EC HE HF i3 (pv 3) (JP (Kd Ky hr (by decide) rfl (JP (Kd F_nb hr (by decide) rfl (JP (pv 0) (JP (pv 1) af))) af)) af))) (JF (JK (JL cj (JN aO (pv 1) aj (fun _ _=>rfl)) aj (aM _)) (JQ (@zl _ _ (4) _ _ _ _ _ _ sc.nd rfl (Or.inl rfl) aj zo (by first | exact .inl rfl | exact .inr rfl | assumption))) aI) (JQ (JR (JI aU (JI aU (JT dm (pv 3) aX (JU (pv 4))) (pv 2)) (JT dm (pv 3) (JU (pv 4)) aX)))))) (by rfl) (by rfl) (by decide) (by decide) (by decide) (by decide) (by decide) (by rfl) (by rfl) (by rfl) (by rfl)),?_⟩
  refine ⟨toS u,t,(i:Int),[.int sd],cp e,rfl,rfl,ht,by rw [ah];omega,cW rfl he,?_⟩
  rw [om]
  have ne':inv (a9 u i sd)≠e:=fun z=>hc (by rw [← z,bB])
  obtain ⟨hm,hb⟩:=vd nd (Es he) hg ne'
  have hfl:(u.filter (fun x=>decide (x≠e))).length≤u.length:=List.length_filter_le _ _
  generalize u.filter (fun x=>decide (x≠e))=l at hm hb hfl ⊢
  obtain ⟨rest,ho⟩:=mZ hm
  refine ⟨_,rfl,rfl,_,rfl,_,rfl,u,t,i,sd,rfl,ht,KN,by omega,[a9 u i sd],rfl,(by show 1≤5000;decide),fun H2 s2=>?_⟩
  rw [eO]
  refine ⟨_,_,_,rest,rfl,rfl,ho,?_⟩
  have ht2:=s2 _ _ ht
  have hwl:(toS l).length≤sizeLine:=by rw [ah];omega
  have hil:l.idxOf (inv (a9 u i sd)) < l.length:=Ji.mpr hm
  generalize inv (a9 u i sd)=g at hb hil k ⊢
  refine ⟨_,rfl,t,_,_,_,rfl,rfl,SqT.of ht2,rfl,rfl,_,rfl,?_⟩
  by_cases hs:sd=1
  ·refine jJ (Eh (EX V.int hs)) ?_
   have hb:=hb true
   rw [if_pos rfl] at hb
   rw [Eh hs] at k
   have e1:(l.idxOf g:Int)+1=((l.idxOf g+1:Nat):Int):=by omega
   refine ⟨_,rfl,_,_,rfl,rfl,?_⟩
   refine ⟨_,rfl,_,rfl,_,rfl,_,rfl,hwl,_,rfl,_,_,rfl,rfl,?_,_,rfl,_,rfl,_,rfl,_,rfl,hwl,_,_,rfl,rfl,?_,?_⟩
   all_goals rw [show ((fun i j:Int=>i+j) (l.idxOf g:Int) 1)=((l.idxOf g+1:Nat):Int) from e1,a7,gE _ (by omega),EH,ig]
   ·rw [ah,ah,EB];show _+1≤_;omega
   ·rw [a7,cX _ (by omega),EH,aN,ah,ah,Ec,EB,Fv];show _+1+_≤_;omega
   ·rw [a7,cX _ (by omega),EH,aN,aN,hb]
    exact k _ s2
  ·refine k8 (Ed (fun z=>hs (V.int.inj z))) ?_
   have hb:=hb false
   rw [if_neg (by decide),Jv] at hb
   rw [Ed hs] at k
   refine ⟨_,rfl,_,rfl,_,rfl,_,rfl,hwl,_,rfl,_,_,rfl,rfl,?_,_,rfl,_,rfl,_,rfl,_,rfl,hwl,_,_,rfl,rfl,?_,?_⟩
   all_goals rw [a7,gE _ (by omega),EH,ig]
   ·rw [ah,ah,EB];show _+1≤_;omega
   ·rw [a7,cX _ (by omega),EH,aN,ah,ah,Ec,EB,Fv];show _+1+_≤_;omega
   ·rw [a7,cX _ (by omega),EH,aN,aN,hb]
    exact k _ s2
abbrev lZ:Stmt:=top 25
theorem vf:aC ["surface","slide"] ["surface","slide"] (aq lZ):=⟨rfl,rfl,rfl,by decide +kernel,rfl,by decide +kernel,by decide +kernel⟩
def _root_.Kl {a b c d e}:=@cO a b c d e
def _root_.Km {a b c d e f g h i j k}:=@n8 a b c d e f g h i j k
theorem yE {CS:Addr}(D:Df K mg "slid" lZ)(T:Bt K w mg aB)(F_can:Fnc P w K mg base "can_slide" ["surface","slide"] 2 qS)(Lr:Fnc P w K mg base "moved" ["surface","slide"] 2 lE)(M_slide:XMk P w K mg base "NoSlide" CS ["place"] 1):nZ P w K mg base "slid" ["surface","slide"] 3 (lJ CS):=by
 have sc:=vf
 refine D.okX sc (fun _ _ _ _ _ _ us hl=>by obtain ⟨_,_,rfl⟩:=lU hl;rfl) (fun vs H Q E h=>?_) (fun f Kv A outer s H vs Q E hr h=>?_)
 ·obtain ⟨u,t,z,sd,rfl,_⟩:=h
  rfl
 ·obtain ⟨u,t,z,sd,rfl,ht,S,k0,k1⟩:=h
  have KJ:=aT
  have hle:=S.le
  refine ⟨_,(JF (JK (Kh (J9 (Kd F_can hr (by decide) rfl (JP (pv 0) (JP (pv 1) af))) (fun _=>rfl))) (JQ (Kl bX rfl (Km M_slide hr (by decide) rfl (JP aj af)))) aI) (JQ (JR (Kd Lr hr (by decide) rfl (JP (pv 0) (JP (pv 1) af)))))),?_⟩
  refine ⟨_,rfl,_,rfl,u,t,z,sd,rfl,ht,S.ne,by omega,fun H1 s1=>⟨_,rfl,?_⟩⟩
  cases e:slW u z sd with
  | none =>
   refine nkF (bW ?_)
   exact ⟨rfl,by decide,fun b dx hb hd ne=>⟨b,CS,some dx,true,rfl,by rw [ar ne.symm,ag],M_slide.ca.1,k1 e b _ yf (s1.trans (bS hb hd))⟩⟩
  | some v =>
   refine nkT (et ?_)
   rcases dM (u:=u) (z:=z) (sd:=sd) with ⟨e0,_⟩ | ⟨i,a,rfl,he⟩
   ·rw [e0] at e;cases e
   ·have e':=e
    rw [eQ he] at e'
    have hc:a9 u i sd≠inv a:=fun z=>by rw [if_pos z] at e';cases e'
    rw [if_neg hc] at e'
    have e':=EE e'
    refine ⟨_,rfl,_,rfl,u,t,i,sd,a,rfl,s1 _ _ ht,S.nd,S.le,S.iv _ (far_mem S i sd),he,hc,fun H2 s2=>?_⟩
    rw [e']
    exact k0 v e _ (s1.trans s2)
abbrev rS:Stmt:=top 20
theorem yF:aC ["surface","start","seen","word","gap","letter"] ["surface","start","seen"] (aq rS):=⟨rfl,rfl,rfl,by decide +kernel,rfl,by decide +kernel,by decide +kernel⟩
theorem AZ (D:Df K mg "hole_from" rS)(T:Bt K w mg aB)(Ky:Fnc P w K mg base "back" ["word"] 1 sN):Fnc P w K mg base "hole_from" ["surface","start","seen"] 2 qD:=by
 have sc:=yF
 refine D.ok sc (fun _ _ _ _ _ _ us hl=>by obtain ⟨_,_,_,rfl⟩:=oA hl;rfl) (fun vs H Q E h=>?_) (fun f Kv A outer s H vs Q E hr h=>?_)
 ·obtain ⟨u,g,a,S,rfl,_⟩:=h
  rfl
 ·obtain ⟨u,g0,a,S0,rfl,U,hg0,hs0,ha0,k⟩:=h
  have hu:=kX hr
  have KJ:=aT
  have h12:=U.le
  have hpos:=U.pos
  refine ⟨_,(JF (JM (3) sc.nd rfl (Or.inl rfl) ax) (JF (JM (4) sc.nd rfl (Or.inl rfl) (pv 1)) (JF (@mi _ _ _ _ _ _ EU (@lr _ _ _ _ _ _ hu (pv 4) (pv 2) rfl) (JF (JG hu (pv 2) (pv 4) bK rfl) (JF (JM (5) sc.nd rfl (Or.inl rfl) (JN dk (pv 0) (JI dD (JI bC (pv 4) aj) (JO ay (by rfl) T.len Ep (JP (pv 0) af))) (fun _ _=>rfl))) (JF (JM (3) sc.nd rfl (Or.inl rfl) (JI aU (pv 3) (pv 5))) (JQ (JM (4) sc.nd rfl (Or.inl rfl) (JX EC HE HF i3 (pv 0) (JP (Kd Ky hr (by decide) rfl (JP (pv 5) af)) af)))))))) (JQ (JR (pv 3)))))),?_⟩
  refine ⟨_,rfl,?_⟩
  refine ⟨fun m σ H'=>∃ (S:List Nat) (w:List L) (g:Nat) (v:Option V),σ = [some (tx u),some (.int g0),some (.ref a),some (tx w),some (.int g),v]∧Sn u S∧g < u.length∧H' a=some (.dK (sk S))∧a_ a H H'∧wk u g S w=wk u g0 S0 []∧w.length≤S.length∧m=u.length+1 - S.length,⟨_,S0,[],g0,none,rfl,hs0,hg0,ha0,a_.refl _ _,rfl,E5 _,rfl⟩,?_⟩
  rintro m σ H1 ⟨S,w,g,v,rfl,hs,hg,ha,sb,e,hw,rfl⟩
  have hle:=hs.le
  refine ⟨_,rfl,_,rfl,a,_,rfl,oy.k (k:=Sum.inl (g:Int)) ha,?_⟩
  rw [m7]
  refine ⟨_,rfl,?_⟩
  refine iO (fun h=>?_) (fun h=>?_)
  ·have h:g∉S:=by simpa using h
   have hs':=hs.snoc hg h
   have hle':=hs'.le
   rw [Ec,En] at hle'
   refine ⟨_,fun σ' H' q=>q,?_⟩
   refine ⟨_,rfl,_,rfl,a,_,rfl,vQ.k (k:=Sum.inl (g:Int)) ha (by rw [wu];omega),?_⟩
   rw [wq h]
   have hx:=je U g
   have em:((g:Int)+1) % (u.length:Int)=(((g+1) % u.length:Nat):Int):=by rw [Int.natCast_emod];rfl
   refine ⟨_,rfl,_,rfl,_,_,rfl,rfl,_,rfl,_,rfl,(by rw [ah];omega),_,_,rfl,rfl,(by rw [ah];omega),_,_,cp (kl u g),rfl,rfl,(by rw [ah];omega),cW (k:=(g+1) % u.length) (by rw [ah];exact em) hx,?_⟩
   refine ⟨_,rfl,_,rfl,_,_,rfl,rfl,(by rw [ah];show w.length+1≤sizeLine;omega),?_⟩
   obtain ⟨rest,ho⟩:=mZ (U.iv _ (jf U g))
   refine ⟨_,rfl,rfl,_,rfl,[kl u g],rfl,(by show 1≤5000;decide),fun H2 s2=>?_⟩
   rw [eO]
   refine ⟨_,_,_,rest,rfl,rfl,ho,?_⟩
   have e2:=(qB (w:=w) hs hg h).symm.trans e
   refine ⟨u.length+1 - (S++[g]).length,?_,S++[g],w++[kl u g],km u g,some (tx [kl u g]),(by rw [← mJ];rfl),hs',mX U g,s2 _ _ ag,(sb.trans a_.upd).trans s2.b,e2,?_,rfl⟩
   ·rw [Ec,En]
    omega
   ·rw [Ec,Ec]
    simp only [En]
    omega
  ·have h:g∈S:=by simpa using h
   rw [x6 h] at e
   rw [← e] at k
   exact ⟨_,rfl,k _ ha hs sb⟩
abbrev l0:Stmt:=top 19
theorem vg:aC ["surface","told","seen","gap"] ["surface"] (aq l0):=⟨rfl,rfl,rfl,by decide +kernel,rfl,by decide +kernel,by decide +kernel⟩
def _root_.Ko {a b c d e f}:=@bA a b c d e f
theorem yG (D:Df K mg "holes" l0)(T:Bt K w mg aB)(F_hole:Fnc P w K mg base "hole_from" ["surface","start","seen"] 2 qD):Fnc P w K mg base "holes" ["surface"] 3 fo:=by
 have sc:=vg
 refine D.ok sc (fun _ _ _ _ _ _ us hl=>by obtain ⟨_,rfl⟩:=lT hl;rfl) (fun vs H Q E h=>?_) (fun f Kv A outer s H vs Q E hr h=>?_)
 ·obtain ⟨u,rfl,_⟩:=h
  rfl
 ·obtain ⟨u,rfl,U,k⟩:=h
  have hu:=kX hr
  have KJ:=aT
  have h12:=U.le
  refine ⟨_,(JF (JM (1) sc.nd rfl (Or.inl rfl) (JV af)) (JF (JM (2) sc.nd rfl (Or.inl rfl) fV) (JF (J1 EU rfl (Ko rfl T.range (JP (JO ay (by rfl) T.len Ep (JP (pv 0) af)) af)) (J0 (3) sc.nd rfl (Or.inl rfl)) (JQ (JK (@lr _ _ _ _ _ _ hu (pv 3) (pv 2) rfl) (JQ (Ka (JX EY Fi Fj bQ (pv 1) (JP (Kd F_hole hr (by decide) rfl (JP (pv 0) (JP (pv 3) (JP (pv 2) af)))) af)))) aI))) (JQ (JR (pv 1)))))),?_⟩
  refine ⟨(by show 0≤sizeLine;decide),fun l hl=>?_⟩
  have s1:av H (upd H l (.lst [])):=av.new hl
  have f1:(upd H l (.lst [])) l=some (.lst []):=ag
  generalize upd H l (.lst [])=H1 at s1 f1 ⊢
  intro a ha
  have la:a≠l:=(aw f1 ha).symm
  have s2:av H1 (upd H1 a (.dK [])):=av.new ha
  have f2:(upd H1 a (.dK [])) a=some (.dK []):=ag
  have g1:=s2 _ _ f1
  have s2:=s1.trans s2
  generalize upd H1 a (.dK [])=H2 at s2 f2 g1 ⊢
  have na:H a=none:=by
   cases e:H a with
   | none=>rfl
   | some o=>exact absurd (s1 _ _ e) (by rw [ha];intro z;cases z)
  refine ⟨_,rfl,_,rfl,(by rw [ah];omega),_,rfl,(by rw [ah];omega),(by rw [ah];omega),?_⟩
  rw [ah]
  refine bP (lo:=0) (n:=(u.length:Int).toNat) (fun i σ H'=>∃ v:Option V,σ = [some (tx u),some (.ref l),some (.ref a),v]∧H' l=some (.lst ((d8 u i).2.map tx))∧H' a=some (.dK (sk (d8 u i).1))∧Sn u (d8 u i).1∧av H H') ⟨none,rfl,g1,f2,Sn.nil u,s2⟩ ?_ ?_
  ·rintro i σ H3 hi ⟨v,rfl,h1,h2,hs,s3⟩
   have hi:i < u.length:=by omega
   rw [JE]
   refine ⟨_,rfl,_,rfl,a,_,rfl,oy.k (k:=Sum.inl (i:Int)) h2,?_⟩
   rw [m7]
   refine ⟨_,rfl,?_⟩
   refine iO (fun h=>?_) (fun h=>?_)
   ·have h:i∉(d8 u i).1:=by simpa using h
    refine ⟨_,rfl,.inl ⟨rfl,_,SqL.of h1⟩,_,rfl,_,rfl,_,rfl,u,i,a,_,rfl,U,hi,hs,h2,fun H4 q1 q2 q3=>?_⟩
    have h4:=q3 _ _ la.symm h1
    have hlen:=qE u i
    refine ⟨l,_,_,rfl,rfl,h4,by omega,_,rfl,?_,?_,?_,?_⟩
    ·rw [ag,jh h,EG]
     rfl
    ·rw [ar la,jh h]
     exact q1
    ·rw [jh h]
     exact q2
    ·intro b o e
     rw [ar (aw e hl)]
     exact q3 _ _ (aw e na) (s3 _ _ e)
   ·have h:i∈(d8 u i).1:=by simpa using h
    exact ⟨_,rfl,by rw [iq h];exact h1,by rw [iq h];exact h2,by rw [iq h];exact hs,s3⟩
  ·rintro σ H3 ⟨v,rfl,h1,h2,hs,s3⟩
   exact ⟨_,rfl,k l _ hl h1 s3⟩
end
theorem fE {α:Type}:∀ {xs:List α} {k:Nat} {x:α},xs[k]? = some x→xs.Perm (x::xs.eraseIdx k)
 | [],k,x,h=>by simp at h
 | y::r,0,x,h=>by simp at h;subst h;exact List.Perm.refl _
 | y::r,k+1,x,h=>by
  have:=fE (xs:=r) (k:=k) (x:=x) (by simpa using h)
  exact (List.Perm.cons y this).trans (List.Perm.swap _ _ _)
theorem rT {H:Hp}{d l:Addr}{z:Str}{o:HO}{xs:List V}(F:Fd H d)(h:H l=some (.lst xs))(n:l≠d)(hx:V.str z∈xs):Fd (L2.upd H l o) d:=by
 obtain ⟨c,i,ll,t,ns,h1,h2,h3,h4⟩:=F.ex
 have hc:c≠l:=fun e=>by
  subst e
  rw [h2] at h
  have h:=HO.lst.inj (EE h)
  rw [← h] at hx
  obtain ⟨k,_,e⟩:=ED.mp hx
  cases e
 exact ⟨c,i,ll,t,ns,by rw [ar (fun e=>n e.symm)];exact h1,by rw [ar hc];exact h2,h3,h4⟩
theorem iE (W:List L):L2.dI (toS W)=dq W:=by
 unfold L2.dI dq
 rw [bt,Fl]
 rfl
theorem kH {α β:Type}(g:α→β):∀ (xs:List α) (k:Nat),(xs.map g).eraseIdx k=(xs.eraseIdx k).map g
 | [],k=>by simp
 | x::r,0=>by simp
 | x::r,k+1=>by
  rw [EO,Ho,Ho,EO,kH g r k]
theorem iF (W:List L)(k:Nat):(dq W).eraseIdx k=dq (W.eraseIdx k):=kH _ W k
section
variable {P:Program} {w:World} {K:PySem.W.Frag} {mg:Str→Option Value} {base:Heap} {aB:Addr}
abbrev rV:Stmt:=top 46
theorem yH:aC ["_law_feed_here","_law_many","_law_left","_law_found","_law_k"] ["_law_feed_here","_law_many"] (aq rV):=⟨rfl,rfl,rfl,by decide +kernel,rfl,by decide +kernel,by decide +kernel⟩
theorem A0 (D:Df K mg "_law_surface" rV)(T:Bt K w mg aB)(Ku:Fnc P w K mg base "_law_draw" ["_law_feed_here","_law_many"] 1 dH):Fnc P w K mg base "_law_surface" ["_law_feed_here","_law_many"] 2 lD:=by
 have sc:=yH
 refine D.ok sc (fun _ _ _ _ _ _ us hl=>by obtain ⟨_,_,rfl⟩:=lU hl;rfl) (fun vs H Q E h=>?_) (fun f Kv A outer s H vs Q E hr h=>?_)
 ·obtain ⟨d,n,rfl,_⟩:=h
  rfl
 ·obtain ⟨d,n,rfl,F,h1,h6,k⟩:=h
  have KJ:=aT
  refine ⟨_,(JF (JM (2) sc.nd rfl (Or.inl rfl) (JS (@bI _ rfl) (by rfl) T.list fN (JP (JI aU (JT dm ax aX (JU (pv 1))) (JT dm ax aX (JU (pv 1)))) af))) (JF (JM (3) sc.nd rfl (Or.inl rfl) ax) (JF (J1 EU rfl (Ko rfl T.range (JP (JI hV aj (pv 1)) af)) (J0 (4) sc.nd rfl (Or.inl rfl)) (JQ (JM (3) sc.nd rfl (Or.inl rfl) (JI aU (pv 3) (JX EY Ia Ib mn (pv 2) (JP (Kd Ku hr (by decide) rfl (JP (pv 0) (JP (JO aE (by rfl) T.len Ep (JP (pv 2) af)) af))) af)))))) (JQ (JR (pv 3)))))),?_⟩
  refine ⟨_,rfl,_,rfl,_,rfl,(by rw [mK];omega),_,rfl,_,rfl,_,rfl,(by rw [vW];omega),_,_,rfl,rfl,?_,?_⟩
  ·have q1:=H_ ("abcdef":Str) none (some (n:Int))
   have q2:=H_ ("ABCDEF":Str) none (some (n:Int))
   rw [mK] at q1
   rw [vW] at q2
   omega
  rw [tY (by omega)]
  have hsl:(sg (n:Int)).length=2*n:=by rw [ka (by omega) (by omega)];omega
  refine ⟨_,rfl,(by rw [ah,hsl];omega),fun l hl=>?_⟩
  rw [iE]
  have nl:=F.ne hl
  refine ⟨_,rfl,_,_,rfl,rfl,(Or.inl ⟨by decide,by decide⟩),?_⟩
  refine ⟨_,rfl,by omega,by omega,?_⟩
  rw [show ((2:Int)*(n:Int)).toNat=2*n by omega]
  refine bP (lo:=0) (n:=2*n) (fun i σ H'=>∃ (v:Option V) (W left:List L),σ = [some (.ref d),some (.int (n:Int)),some (.ref l),some (tx W),v]∧H' l=some (.lst (dq left))∧(W++left).Perm (sg (n:Int))∧W.length=i∧Fd H' d∧a_ d H H') ⟨none,[],sg (n:Int),(by rw [mF];rfl),ag,List.Perm.refl _,rfl,F.new hl,(av.new hl).b⟩ ?_ ?_
  ·rintro i σ H1 hi ⟨v,W,left,rfl,f1,pW,hW,F1,sb1⟩
   have hll:left.length=2*n - i:=by
    have:=pW.length_eq
    rw [Ec,hW,hsl] at this
    omega
   refine ⟨_,rfl,_,rfl,.inl ⟨rfl,_,SqL.of f1⟩,_,rfl,_,rfl,l,_,rfl,.inl (SqL.of f1),d,_,rfl,F1,by rw [bb];omega,by rw [bb];omega,fun r H2 r0 r1 F2 sb2=>?_⟩
   rw [bb] at r1
   have f2:=sb2 _ _ nl f1
   have hrk:r.toNat < left.length:=by omega
   have gy:left[r.toNat]? = some left[r.toNat]:=Ee hrk
   generalize left[r.toNat]=y at gy
   refine ⟨l,_,r,r.toNat,tx [y],rfl,rfl,f2,by omega,by omega,(kT (by unfold ixN;rw [if_pos r0,if_pos (by rw [bb];omega)])).1,(by unfold dq;rw [Er,gy];rfl),?_⟩
   rw [iF]
   refine ⟨_,_,rfl,rfl,(by rw [ah,ah];show _+1≤_;omega),?_⟩
   rw [aN]
   have hy:V.str (toS [y])∈dq left:=by
    unfold dq
    exact ED.mpr ⟨y,Es gy,rfl⟩
   refine ⟨_,W++[y],left.eraseIdx r.toNat,rfl,ag,?_,by rw [Ec,hW];rfl,rT F2 f2 nl hy,fun b o n' e=>?_⟩
   ·refine List.Perm.trans ?_ pW
    rw [HK]
    exact List.Perm.append_left W (fE gy).symm
   ·rw [ar (aw e hl)]
    exact sb2 _ _ n' (sb1 _ _ n' e)
  ·rintro σ H1 ⟨v,W,left,rfl,f1,pW,hW,F1,sb1⟩
   have hll:left.length=0:=by
    have:=pW.length_eq
    rw [Ec,hW,hsl] at this
    omega
   have:left=[]:=GF hll
   subst this
   rw [Fs] at pW
   have pW':W.Perm (([0,1,2,3,4,5]:List L).take n++([6,7,8,9,10,11]:List L).take n):=by
    unfold sg at pW
    rwa [EH] at pW
   refine ⟨_,rfl,k W _ (uK h1 h6 pW') (fun x hx=>pW'.mem_iff.mpr (Av h6 hx)) F1 sb1⟩
theorem yI {u:List L}{x:L}(h:x∈u):Txt.find (toS u) (toS [x])=(u.idxOf x:Int):=by
 obtain ⟨rest,e⟩:=mZ h
 unfold Txt.find
 rw [e]
abbrev jz:Stmt:=top 49
theorem rW:aC ["_law_row","_law_met","_law_found","_law_gap","_law_word","_law_at","_law_sign"] ["_law_row"] (aq jz):=⟨rfl,rfl,rfl,by decide +kernel,rfl,by decide +kernel,by decide +kernel⟩
theorem vh (D:Df K mg "_law_holes" jz)(T:Bt K w mg aB)(KA:Fnc P w K mg base "_law_back" ["_law_word"] 1 sN):Fnc P w K mg base "_law_holes" ["_law_row"] 2 fo:=by
 have sc:=rW
 refine D.ok sc (fun _ _ _ _ _ _ us hl=>by obtain ⟨_,rfl⟩:=lT hl;rfl) (fun vs H Q E h=>?_) (fun f Kv A outer s H vs Q E hr h=>?_)
 ·obtain ⟨u,rfl,_⟩:=h
  rfl
 ·obtain ⟨u,rfl,U,k⟩:=h
  have hu:=kX hr
  have KJ:=aT
  have h12:=U.le
  have hpos:=U.pos
  have hll:(toS u).length≤sizeLine:=by rw [ah];omega
  refine ⟨_,(JF (JM (1) sc.nd rfl (Or.inl rfl) fV) (JF (JM (2) sc.nd rfl (Or.inl rfl) (JV af)) (JF (J1 EU rfl (Ko rfl T.range (JP (JO ay (by rfl) T.len Ep (JP (pv 0) af)) af)) (J0 (3) sc.nd rfl (Or.inl rfl)) (JF (JM (4) sc.nd rfl (Or.inl rfl) ax) (JF (JM (5) sc.nd rfl (Or.inl rfl) (pv 3)) (JF (@mi _ _ _ _ _ _ EU (@lr _ _ _ _ _ _ hu (pv 5) (pv 1) rfl) (JF (JG hu (pv 1) (pv 5) bK rfl) (JF (JM (6) sc.nd rfl (Or.inl rfl) (JN dk (pv 0) (JI dD (JI bC (pv 5) aj) (JO ay (by rfl) T.len Ep (JP (pv 0) af))) (fun _ _=>rfl))) (JF (JM (4) sc.nd rfl (Or.inl rfl) (JI aU (pv 4) (pv 6))) (JQ (JM (5) sc.nd rfl (Or.inl rfl) (JX EC Ic Ie jc (pv 0) (JP (Kd KA hr (by decide) rfl (JP (pv 6) af)) af)))))))) (JQ (JK (JL dW (pv 4) ax (aM _)) (JQ (Ka (JX EY Fi Fj bQ (pv 2) (JP (pv 4) af)))) aI)))))) (JQ (JR (pv 2)))))),?_⟩
  intro a ha
  have s1:av H (upd H a (.dK [])):=av.new ha
  have f1:(upd H a (.dK [])) a=some (.dK []):=ag
  generalize upd H a (.dK [])=H1 at s1 f1 ⊢
  refine ⟨(by show 0≤sizeLine;decide),fun l hl=>?_⟩
  have la:a≠l:=aw f1 hl
  have hl0:=none_of s1 hl
  have s2:=s1.trans (av.new (o:=.lst []) hl)
  have g2:=(av.new (o:=.lst []) hl) _ _ f1
  have f2:(upd H1 l (.lst [])) l=some (.lst []):=ag
  generalize upd H1 l (.lst [])=H2 at s2 f2 g2 ⊢
  refine ⟨_,rfl,_,rfl,hll,_,rfl,(by rw [ah];omega),(by rw [ah];omega),?_⟩
  rw [ah]
  refine bP (lo:=0) (n:=(u.length:Int).toNat) (fun i σ H'=>∃ v1 v2 v3 v4:Option V,σ = [some (tx u),some (.ref a),some (.ref l),v1,v2,v3,v4]∧H' l=some (.lst ((d8 u i).2.map tx))∧H' a=some (.dK (sk (d8 u i).1))∧Sn u (d8 u i).1∧av H H') ⟨none,none,none,none,rfl,f2,g2,Sn.nil u,s2⟩ ?_ ?_
  ·rintro i σ H3 hi ⟨v1,v2,v3,v4,rfl,h1,h2,hs0,s3⟩
   have hi:i < u.length:=by omega
   rw [JE]
   refine ⟨_,rfl,?_⟩
   refine ⟨fun m σ H'=>∃ (S:List Nat) (w:List L) (g:Nat) (v:Option V),σ = [some (tx u),some (.ref a),some (.ref l),some (.int (i:Int)),some (tx w),some (.int (g:Int)),v]∧Sn u S∧g < u.length∧H' a=some (.dK (sk S))∧H' l=some (.lst ((d8 u i).2.map tx))∧av H H'∧wk u g S w=wk u i (d8 u i).1 []∧w.length≤S.length∧m=u.length+1 - S.length,⟨_,(d8 u i).1,[],i,_,rfl,hs0,hi,h2,h1,s3,rfl,E5 _,rfl⟩,?_⟩
   rintro m σ H4 ⟨S,w,g,v,rfl,hs,hg,h2,h1,s4,e,hw,rfl⟩
   have hle:=hs.le
   refine ⟨_,rfl,_,rfl,a,_,rfl,oy.k (k:=Sum.inl (g:Int)) h2,?_⟩
   rw [m7]
   refine ⟨_,rfl,?_⟩
   refine iO (fun h=>?_) (fun h=>?_)
   ·have h:g∉S:=by simpa using h
    have hs':=hs.snoc hg h
    have hle':=hs'.le
    rw [Ec,En] at hle'
    refine ⟨_,fun σ' H' q=>q,?_⟩
    refine ⟨_,rfl,_,rfl,a,_,rfl,vQ.k (k:=Sum.inl (g:Int)) h2 (by rw [wu];omega),?_⟩
    rw [wq h]
    have hx:=je U g
    have em:((g:Int)+1) % (u.length:Int)=(((g+1) % u.length:Nat):Int):=by rw [Int.natCast_emod];rfl
    refine ⟨_,rfl,_,rfl,_,_,rfl,rfl,_,rfl,_,rfl,(by rw [ah];omega),_,_,rfl,rfl,(by rw [ah];omega),_,_,cp (kl u g),rfl,rfl,(by rw [ah];omega),cW (k:=(g+1) % u.length) (by rw [ah];exact em) hx,?_⟩
    refine ⟨_,rfl,_,rfl,_,_,rfl,rfl,(by rw [ah];show w.length+1≤sizeLine;omega),?_⟩
    refine ⟨_,rfl,rfl,_,rfl,[kl u g],rfl,(by show 1≤5000;decide),fun H5 s5=>?_⟩
    rw [eO]
    refine ⟨_,_,rfl,rfl,?_⟩
    rw [yI (U.iv _ (jf U g))]
    have e2:=(qB (w:=w) hs hg h).symm.trans e
    have u1:a_ a H4 (upd H4 a (.dK (sk (S++[g])))):=a_.upd
    refine ⟨u.length+1 - (S++[g]).length,?_,S++[g],w++[kl u g],km u g,some (tx [kl u g]),(by rw [← mJ];rfl),hs',mX U g,s5 _ _ ag,s5 _ _ (u1 _ _ la.symm h1),fun b o q=>s5 _ _ (u1 _ _ (aw q ha) (s4 _ _ q)),e2,?_,rfl⟩
    ·rw [Ec,En]
     omega
    ·rw [Ec,Ec]
     simp only [En]
     omega
   ·have h:g∈S:=by simpa using h
    rw [x6 h] at e
    refine ⟨_,rfl,rfl,_,rfl,?_⟩
    by_cases hi0:i∈(d8 u i).1
    ·rw [x6 hi0] at e
     obtain ⟨rfl,rfl⟩:=Prod.mk.inj e
     refine BO (by rw [mF]) ⟨_,_,_,_,rfl,by rw [iq hi0];exact h1,by rw [iq hi0];exact h2,by rw [iq hi0];exact hs0,s4⟩
    ·have KN:=Ca hs0 hi hi0
     rw [← e] at KN
     have KN:w≠[]:=KN
     have ho:=jh hi0
     rw [← e] at ho
     refine jJ (by rw [Bool.not_eq_true',decide_eq_false_iff_not];intro z;rw [← mF] at z;exact KN (ie z)) ?_
     have hlen:=qE u i
     refine ⟨_,rfl,.inl ⟨rfl,_,SqL.of h1⟩,_,rfl,l,_,_,rfl,rfl,h1,by omega,_,_,_,_,rfl,?_,?_,?_,?_⟩
     ·rw [ag,ho,EG]
      rfl
     ·rw [ar la,ho]
      exact h2
     ·rw [ho]
      exact hs
     ·intro b o eb
      rw [ar (aw eb hl0)]
      exact s4 _ _ eb
  ·rintro σ H3 ⟨v1,v2,v3,v4,rfl,h1,h2,hs,s3⟩
   exact ⟨_,rfl,k l _ hl0 h1 s3⟩
abbrev l7:Stmt:=top 30
theorem vi:aC ["thing"] ["thing"] (aq l7):=⟨rfl,rfl,rfl,by decide +kernel,rfl,by decide +kernel,by decide +kernel⟩
theorem yJ (D:Df K mg "is_whole" l7)(T:Bt K w mg aB)(Tbool:mg "bool" = none):Fnc P w K mg base "is_whole" ["thing"] 1 (eg K):=by
 have sc:=vi
 refine D.ok sc (fun _ _ _ _ _ _ us hl=>by obtain ⟨_,rfl⟩:=lT hl;rfl) (fun vs H Q E h=>?_) (fun f Kv A outer s H vs Q E hr h=>?_)
 ·obtain ⟨x,rfl,_⟩:=h
  rfl
 ·obtain ⟨x,rfl,⟨ty,e1,e2,hx⟩,k⟩:=h
  rw [hx] at k
  refine ⟨_,(JQ (JR (Ke (JO (@ba _ (K) rfl) (by rfl) T.isinstance aA (JP (pv 0) (JP (Kf (.ty "int") rfl T.int pK rfl) af))) (Kg (@oK _ _ _ _ (JO (@ba _ (K) rfl) (by rfl) T.isinstance aA (JP (pv 0) (JP (Kf (.ty "bool") rfl Tbool wB rfl) af)))))))),?_⟩
  refine ⟨_,rfl,_,_,_,_,rfl,ty,e1,_,rfl,?_⟩
  rename_i b1 b2
  cases b1 with
  | false=>exact nJ k
  | true=>exact pw ⟨_,rfl,_,_,_,_,rfl,ty,e2,_,rfl,k⟩
end
section
variable {P:Program} {w:World} {K:PySem.W.Frag} {mg:Str→Option Value} {base:Heap} {aB:Addr}
open Su
abbrev rX:Stmt:=top 36
theorem yK:aC ["thing"] ["thing"] (aq rX):=⟨rfl,rfl,rfl,by decide +kernel,rfl,by decide +kernel,by decide +kernel⟩
def _root_.Kp {a b c d e}:=@aP a b c d e
def _root_.Kq {a} (b) {c}:=@cons a b c
theorem A1 (D:Df K mg "is_slide" rX)(T:Bt K w mg aB)(Kz:Fnc P w K mg base "is_whole" ["thing"] 1 (eg K)):Fnc P w K mg base "is_slide" ["thing"] 2 yh:=by
 have sc:=yK
 refine D.ok sc (fun _ _ _ _ _ _ us hl=>by obtain ⟨_,rfl⟩:=lT hl;rfl) (fun vs H Q E h=>?_) (fun f Kv A outer s H vs Q E hr h=>?_)
 ·obtain ⟨e,x,d,rfl,_⟩:=h
  rfl
 ·obtain ⟨e,x,d,rfl,hx,k⟩:=h
  have KJ:=aT
  refine ⟨_,(JF (JK (J8 (Ki (Kh (J9 (JO (@ba _ (K) rfl) (by rfl) T.isinstance aA (JP (pv 0) (JP (Kf (.ty "tuple") rfl T.tuple bN rfl) af))) (fun _=>rfl))) (Kj (JL dW (JO aE (by rfl) T.len Ep (JP (pv 0) af)) aj (aM _))))) (JQ (JR bK)) aI) (JQ (JR (Ke (JO (@bj _ rfl) (by rfl) T.all nN (JP (JY (["part"]) (["part"]) ([]) (JZ rfl (by kernel_rfl)) rfl (Kk (pv 0)) (fun _ _ _ _=>J0 (0) (show (["part"]:List Str).Nodup from by decide +kernel) rfl (Or.inl rfl)) (fun _ _ _ _=>bu) (fun _ _ _ _=>by (exact (Kd Kz hr (by decide) rfl (JP (pv 0) af))))) af)) (Kg (JW o7 (JN aO (pv 0) aj (fun _ _=>rfl)) (Kp (JP aj (JP (J_ eG aj) af))) rfl)))))),?_⟩
  rcases eU (K:=K) hx with ⟨n,ty,kt,nt⟩ | ⟨a,xs,ds,rfl,ht,rfl,hl,qs⟩
  ·have e0:slB d=false:=by
    unfold slB
    split
    ·exact absurd rfl (nt _)
    ·rfl
   rw [e0] at k
   exact ⟨_,rfl,_,_,_,_,rfl,ty,kt,_,rfl,gM (bW (k _ (av.refl _)))⟩
  have el:=qs.len
  refine ⟨_,rfl,_,_,_,_,rfl,.tup ht,bV,_,rfl,ir ⟨_,rfl,a,_,rfl,.inr (SqT.of ht),rfl,?_⟩⟩
  by_cases h2:xs.length=2
  rotate_left
  ·rw [ri (by omega)] at k
   refine ⟨_,rfl,?_⟩
   rw [Ed (fun z=>h2 (by have:=V.int.inj z;omega))]
   exact bW (k _ (av.refl _))
  ·obtain ⟨x0,x1,rfl⟩:∃ x0 x1,xs=[x0,x1]:=by
    match xs,h2 with
    | [x0,x1],_=>exact ⟨x0,x1,rfl⟩
   cases qs with
   | Kq d0 _ q0 qs =>
   cases qs with
   | Kq d1 _ q1 qs =>
   cases qs
   obtain ⟨w0,e0⟩:=g9 (K:=K) q0
   obtain ⟨w1,e1⟩:=g9 (K:=K) q1
   refine ⟨_,rfl,et ?_⟩
   refine ⟨_,rfl,a,rfl,⟨_,SqT.of ht⟩,?_⟩
   refine cy (xs:=[x0,x1]) (own:=["part"]) (cap:=[]) (fun i ys σ H'=>∃ v:Option V,σ = [v]∧ys=([whD d0,whD d1].take i).map V.bl∧H'=H) ⟨none,rfl,rfl,rfl⟩ (fun i ys σ H' hi ⟨v,_,e,_⟩=>by rw [e,Ea,EB];omega) (au (n:=2) (by decide)) (fun i ys σ H' ⟨_,_,_,e⟩=>by rw [e];exact SqT.of ht) ?_ ?_
   ·rintro i ys σ H1 y N hyi ⟨v,rfl,rfl,rfl⟩ hN
    have hi:i=0 ∨ i=1:=by
     have:=(Ef.mp hyi).1
     simp at this
     omega
    rcases hi with rfl | rfl
    ·cases hyi
     refine ⟨_,rfl,_,rfl,w0,?_⟩
     rw [e0]
     exact hN _ _ _ ⟨_,rfl,rfl,rfl⟩
    ·cases hyi
     refine ⟨_,rfl,_,rfl,w1,?_⟩
     rw [e1]
     exact hN _ _ _ ⟨_,rfl,rfl,rfl⟩
   ·rintro ys σ H1 l ⟨v,rfl,rfl,rfl⟩ hl
    have s1:=av.new (o:=.lst (([whD d0,whD d1].take 2).map V.bl)) hl
    have f1:(upd H1 l (.lst (([whD d0,whD d1].take 2).map V.bl))) l=some (.lst ([whD d0,whD d1].map V.bl)):=ag
    generalize upd H1 l (.lst (([whD d0,whD d1].take 2).map V.bl))=H2 at s1 f1 ⊢
    refine ⟨l,_,rfl,SqL.of f1,?_⟩
    by_cases hb:[whD d0,whD d1].all id=true
    rotate_left
    ·have hb:[whD d0,whD d1].all id=false:=by revert hb;cases [whD d0,whD d1].all id <;> simp
     rw [hb]
     have e2:slB (.tuple [d0,d1])=false:=by
      unfold slB
      split
      ·rename_i e
       cases E3 e
       cases hb
      ·rfl
     rw [e2] at k
     exact ⟨_,rfl,nJ (k _ s1)⟩
    ·rw [hb]
     simp only [FU,List.all_nil,Bool.and_true,EI,id] at hb
     obtain ⟨i0,rfl,rfl⟩:=fO q0 hb.1
     obtain ⟨i1,rfl,rfl⟩:=fO q1 hb.2
     refine ⟨_,rfl,pw ⟨_,rfl,a,_,_,_,rfl,rfl,SqT.of (s1 _ _ ht),rfl,_,rfl,(au (n:=2) (by decide)),fun p hp=>⟨p,_,rfl,.inr (SqT.of ag),rfl,rfl,?_⟩⟩⟩
     have e:inV (.int i1) [.int 1,.int (-1)]=slB (.tuple [.int i0,.int i1]):=by
      have e3:inV (.int i1) [.int 1,.int (-1)]=(decide ((1:Int)=i1) || (decide ((-1:Int)=i1) || false)):=by
       unfold inV eqV
       rfl
      have e4:slB (.tuple [.int i0,.int i1])=decide (i1=1 ∨ i1 = -1):=rfl
      rw [e3,e4,GW,← Bool.decide_or,Hf]
      omega
     rw [if_neg (by decide)]
     show Q (.bl (inV (.int i1) [.int 1,.int (-1)])) _
     rw [e]
     exact k _ (s1.then hp)
abbrev l9:Stmt:=top 35
theorem vj:aC ["thing"] ["thing"] (aq l9):=⟨rfl,rfl,rfl,by decide +kernel,rfl,by decide +kernel,by decide +kernel⟩
theorem yL (D:Df K mg "are_slides" l9)(T:Bt K w mg aB)(ML:∃ t,mg "MOST_SLIDES" = some (.int 60 t))(F_issl:Fnc P w K mg base "is_slide" ["thing"] 2 yh):Fnc P w K mg base "are_slides" ["thing"] 3 yi:=by
 have sc:=vj
 refine D.ok sc (fun _ _ _ _ _ _ us hl=>by obtain ⟨_,rfl⟩:=lT hl;rfl) (fun vs H Q E h=>?_) (fun f Kv A outer s H vs Q E hr h=>?_)
 ·obtain ⟨e,x,d,rfl,_⟩:=h
  rfl
 ·obtain ⟨e,x,d,rfl,hx,k⟩:=h
  have KJ:=aT
  obtain ⟨tL,mgL⟩:=ML
  refine ⟨_,(JQ (JR (Ke (JO (@ba _ (K) rfl) (by rfl) T.isinstance aA (JP (pv 0) (JP (Kf (.ty "tuple") rfl T.tuple bN rfl) af))) (Ke (JW oS (JO aE (by rfl) T.len Ep (JP (pv 0) af)) (Kb (.int 60) rfl mgL ⟨_,rfl⟩) (aM _)) (Kg (JO (@bj _ rfl) (by rfl) T.all nN (JP (JY (["part"]) (["part"]) ([]) (JZ rfl (by kernel_rfl)) rfl (Kk (pv 0)) (fun _ _ _ _=>J0 (0) (show (["part"]:List Str).Nodup from by decide +kernel) rfl (Or.inl rfl)) (fun _ _ _ _=>bu) (fun _ _ _ _=>by (exact (Kd F_issl hr (by decide) rfl (JP (pv 0) af))))) af))))))),?_⟩
  rcases eU (K:=K) hx with ⟨n,ty,kt,nt⟩ | ⟨a,xs,ds,rfl,ht,rfl,hl,qs⟩
  ·have e0:arB d=false:=by
    unfold arB
    split
    ·exact absurd rfl (nt _)
    ·rfl
   rw [e0] at k
   exact ⟨_,rfl,_,_,_,_,rfl,ty,kt,false,rfl,nJ (k _ (av.refl _))⟩
  have el:=qs.len
  refine ⟨_,rfl,_,_,_,_,rfl,.tup ht,bV,true,rfl,pw ?_⟩
  refine ⟨_,rfl,a,_,rfl,.inr (SqT.of ht),_,_,rfl,rfl,_,rfl,?_⟩
  by_cases h60:xs.length≤60
  rotate_left
  ·have e0:arB (.tuple ds)=false:=by
    show (decide (ds.length≤60) && ds.all slB)=false
    rw [Ed (by omega)]
    rfl
   rw [e0] at k
   refine k8 (Ed (by omega)) ?_
   exact k _ (av.refl _)
  refine jJ (Eh (by omega)) ?_
  refine ⟨_,rfl,a,rfl,⟨_,SqT.of ht⟩,?_⟩
  refine cy (xs:=xs) (own:=["part"]) (cap:=[]) (fun i ys σ H'=>∃ v:Option V,σ = [v]∧ys=((ds.take i).map slB).map V.bl∧av H H') ⟨none,rfl,rfl,av.refl _⟩ (fun i ys σ H' hi ⟨v,_,e,_⟩=>by rw [e,Ea,Ea,EB];omega) (by omega) (fun i ys σ H' ⟨_,_,_,s1⟩=>SqT.of (s1 _ _ ht)) ?_ ?_
  ·rintro i ys σ H1 y N hyi ⟨v,rfl,rfl,s1⟩ hN
   obtain ⟨dy,hdy,qy⟩:=qs.get hyi
   exact ⟨_,rfl,e,y,dy,rfl,qy.same s1,fun H2 s2=>hN _ _ _ ⟨_,rfl,by rw [i8 slB hdy,EG];rfl,s1.trans s2⟩⟩
  ·rintro ys σ H1 l ⟨v,rfl,rfl,s1⟩ hl
   refine ⟨l,_,rfl,SqL.of ag,?_⟩
   rw [ER (by omega),IS]
   have e0:arB (.tuple ds)=ds.all (id ∘ slB):=by
    show (decide (ds.length≤60) && ds.all slB)=_
    rw [Eh (by omega),FJ]
    rfl
   rw [← e0]
   exact k _ (s1.then hl)
abbrev rY:Stmt:=top 37
theorem yM:aC ["many","thing"] ["many","thing"] (aq rY):=⟨rfl,rfl,rfl,by decide +kernel,rfl,by decide +kernel,by decide +kernel⟩
theorem A2 (D:Df K mg "is_names" rY)(T:Bt K w mg aB)(Tset:mg "set" = none)(Lx:Fnc P w K mg base "is_map" ["many","thing"] 3 (lu K))(Ll:Fnc P w K mg base "number_of" ["letter"] 1 ud):Fnc P w K mg base "is_names" ["many","thing"] 4 yj:=by
 have sc:=yM
 refine D.ok sc (fun _ _ _ _ _ _ us hl=>by obtain ⟨_,_,rfl⟩:=lU hl;rfl) (fun vs H Q E h=>?_) (fun f Kv A outer s H vs Q E hr h=>?_)
 ·obtain ⟨n,e,x,d,rfl,_⟩:=h
  rfl
 ·obtain ⟨n,e,x,d,rfl,h1,h6,hx,k⟩:=h
  have KJ:=aT
  refine ⟨_,(JF (JK (J8 (Ki (Kh (J9 (Kd Lx hr (by decide) rfl (JP (pv 0) (JP (pv 1) af))) (fun _=>rfl))) (Kj (Kh (J9 (JO (@bj _ rfl) (by rfl) T.all nN (JP (JY (["part"]) (["part"]) ([]) (JZ rfl (by kernel_rfl)) rfl (Kk (pv 1)) (fun _ _ _ _=>J0 (0) (show (["part"]:List Str).Nodup from by decide +kernel) rfl (Or.inl rfl)) (fun _ _ _ _=>bu) (fun _ _ _ _=>by (exact JW cj (by (exact (JO ay (by rfl) T.len Ep (JP (pv 0) af)))) (by (exact aj)) (aM _)))) af)) (fun _=>rfl)))))) (JQ (JR bK)) aI) (JQ (JR (JW cj (JO lA (by rfl) T.len Ep (JP (JS (@jm _ rfl) (by rfl) Tset Cy (JP (JY (["part"]) (["part"]) ([]) (JZ rfl (by kernel_rfl)) rfl (Kk (pv 1)) (fun _ _ _ _=>J0 (0) (show (["part"]:List Str).Nodup from by decide +kernel) rfl (Or.inl rfl)) (fun _ _ _ _=>bu) (fun _ _ _ _=>by (exact (Kd Ll hr (by decide) rfl (JP (pv 0) af))))) af)) af)) (pv 0) (aM _))))),?_⟩
  have no:∀ (H':Hp),av H H'→(¬ ∃ ls:List L,d = .tuple (ls.map fun l=>.str (toS [l]))∧ls.length=n∧(∀ l∈ls,l.val % 6 < n)∧(ls.map (·.val % 6)).Nodup)→Q (.bl false) H':=fun H' s' hn=>by
   have e0:nmB n d=false:=kA hn
   rw [← e0]
   exact k H' s'
  rcases CF (K:=K) hx with ⟨_,ty,kt,nt,tm⟩ | ⟨a,xs,ds,rfl,ht,rfl,hl,qs,tm⟩
  ·refine ⟨_,rfl,_,rfl,n,x,_,rfl,h1,h6,tm,fun H1 s1=>⟨_,rfl,nkF (gM (bW ?_))⟩⟩
   exact no _ s1 fun ⟨ls,e,_⟩=>nt _ e
  refine ⟨_,rfl,_,rfl,n,_,_,rfl,h1,h6,tm,fun H1 s1=>⟨_,rfl,?_⟩⟩
  have el:=qs.len
  cases hb:(decide (xs.length=n) && xs.all (mpV n)) with
  | false =>
   refine nkF (gM (bW (no _ s1 ?_)))
   rintro ⟨ls,e,h2,h3,h4⟩
   have e:=E3 e
   subst e
   have ex:xs=ls.map fun l=>tx [l]:=by
    refine Gu fun i=>?_
    cases hi:xs[i]? with
    | none =>
     rw [I_] at hi
     symm
     rw [I_,Ea]
     rw [Ea] at el
     omega
    | some y =>
     obtain ⟨dy,hd,qy⟩:=qs.get hi
     rw [Er] at hd ⊢
     obtain ⟨l,hl,rfl⟩:=Gd.mp hd
     rw [hl]
     cases qy
     rfl
   rw [ex,Ea,Eh h2,FJ] at hb
   have:((ls.map fun l=>tx [l]).all (mpV n))=true:=by
    rw [FK]
    intro y hy
    obtain ⟨l,hl,rfl⟩:=ED.mp hy
    exact AC (h3 l hl)
   rw [this] at hb
   cases hb
  | true =>
   refine nkT (ir ?_)
   have hb:=(EI _ _).mp hb
   have hn:=Fn hb.1
   obtain ⟨us,rfl,hu⟩:=nh h6 hb.2
   have eds:=wD qs
   subst eds
   rw [Ea] at hl hn
   have ht1:=s1 _ _ ht
   have KU:∀ u∈us,u.length≤60:=fun u hu=>by
    obtain ⟨i,hi,rfl⟩:=GB hu
    obtain ⟨dy,_,qy⟩:=qs.get (i:=i) (v:=tx us[i]) (by rw [Er,Ee hi];rfl)
    cases qy with
    | str _ h=>rwa [ah] at h
   refine ⟨_,rfl,a,rfl,⟨_,SqT.of ht1⟩,?_⟩
   refine cy (xs:=us.map tx) (own:=["part"]) (cap:=[]) (fun i ys σ H'=>∃ v:Option V,σ = [v]∧ys=((us.take i).map fun u=>decide (u.length=1)).map V.bl∧H'=H1) ⟨none,rfl,rfl,rfl⟩ (fun i ys σ H' hi ⟨v,_,e,_⟩=>by rw [e,Ea,Ea,EB];omega) (by rw [Ea];omega) (fun i ys σ H' ⟨_,_,_,e⟩=>by rw [e];exact SqT.of ht1) ?_ ?_
   ·rintro i ys σ H2 y N hyi ⟨v,rfl,rfl,rfl⟩ hN
    obtain ⟨u,hui,rfl⟩:=Gd.mp ((Er ..).symm.trans hyi)
    have:=KU u (Es hui)
    refine ⟨_,rfl,_,rfl,(by rw [ah];omega),rfl,hN _ _ _ ⟨_,rfl,?_,rfl⟩⟩
    rw [i8 (fun u:List L=>decide (u.length=1)) hui,EG,ah]
    have:decide (V.int (u.length:Int)=V.int 1)=decide (u.length=1):=by
     rw [Hf]
     exact ⟨fun z=>by have:=V.int.inj z;omega,fun z=>by rw [z];rfl⟩
    rw [this]
    rfl
   rintro ys σ H2 l ⟨v,rfl,rfl,rfl⟩ KS
   refine ⟨l,_,rfl,SqL.of ag,?_⟩
   rw [Ea,Fx]
   have s3:=s1.then (o:=.lst ((us.map fun u=>decide (u.length=1)).map V.bl)) KS
   generalize upd H2 l (.lst ((us.map fun u=>decide (u.length=1)).map V.bl))=H3 at s3 ⊢
   refine ⟨_,rfl,?_⟩
   cases hc:(us.map fun u=>decide (u.length=1)).all id with
   | false =>
    refine nkF (bW (no _ s3 ?_))
    rintro ⟨ls,e,_⟩
    have e:=E3 e
    have:us=ls.map fun l=>[l]:=by
     refine Gu fun i=>?_
     have:=EX (fun q=>q[i]?) e
     rw [Er,Er] at this
     rw [Er]
     cases h1:us[i]? <;> cases h2:ls[i]? <;> rw [h1,h2] at this <;> simp only [Option.map_none,Hq] at this ⊢
     ·cases this
     ·cases this
     ·rw [fi (GH (EE this))]
    rw [this] at hc
    have:((ls.map fun l=>[l]).map fun u=>decide (u.length=1)).all id=true:=by simp
    rw [this] at hc
    cases hc
   | true =>
    refine nkT (et ?_)
    obtain ⟨ls,rfl⟩:=kC hc
    rw [Ea] at hl hn
    have hin:∀ l∈ls,l.val % 6 < n:=fun l hl=>by
     have:=hu [l] (ED.mpr ⟨l,hl,rfl⟩)
     rw [yk ⟨n,by omega⟩] at this
     exact Fn this
    have ek:nmB n (.tuple ((ls.map fun l=>[l]).map fun u=>.str (toS u)))=decide (ls.map (·.val % 6)).Nodup:=by
     rw [Fl]
     exact nj hn hin
    rw [ek] at k
    have ht3:=s3 _ _ ht
    refine ⟨_,rfl,a,rfl,⟨_,SqT.of ht3⟩,?_⟩
    refine cy (xs:=(ls.map fun l=>[l]).map tx) (own:=["part"]) (cap:=[]) (fun i ys σ H'=>∃ v:Option V,σ = [v]∧ys=((ls.map fun l=>((l.val % 6:Nat):Int)).take i).map V.int∧H'=H3) ⟨none,rfl,rfl,rfl⟩ (fun i ys σ H' hi ⟨v,_,e,_⟩=>by rw [e,Ea,EB];exact Nat.min_le_left _ _) (by rw [Ea,Ea];omega) (fun i ys σ H' ⟨_,_,_,e⟩=>by rw [e];exact SqT.of ht3) ?_ ?_
    ·rintro i ys σ H4 y N hyi ⟨v,rfl,rfl,rfl⟩ hN
     rw [Fl,Er] at hyi
     obtain ⟨l,hli,rfl⟩:=Gd.mp hyi
     refine ⟨_,rfl,l,rfl,hN _ _ _ ⟨_,rfl,?_,rfl⟩⟩
     rw [Gr,EG,Er,hli]
     rfl
    ·rintro ys σ H4 m ⟨v,rfl,rfl,rfl⟩ hm
     have em:((ls.map fun l=>((l.val % 6:Nat):Int)).take ((ls.map fun l=>[l]).map tx).length)=ls.map fun l=>((l.val % 6:Nat):Int):=ER (by rw [Ea,Ea,Ea];exact Eg _)
     rw [em]
     have s4:=s3.then (o:=.lst ((ls.map fun l=>((l.val % 6:Nat):Int)).map V.int)) hm
     refine ⟨m,_,rfl,SqL.of ag,(by rw [Ea];omega),fun p dl hp nd mem=>⟨p,dl,rfl,ag,_,rfl,rfl,?_⟩⟩
     have e5:decide (V.int (dl.length:Int)=V.int (n:Int))=decide (ls.map (·.val % 6)).Nodup:=by
      rw [Hf]
      have h5:=rl nd mem
      rw [Ea,hn] at h5
      have h6:(ls.map fun l=>((l.val % 6:Nat):Int)).Nodup ↔ (ls.map (·.val % 6)).Nodup:=by
       have:(ls.map fun l=>((l.val % 6:Nat):Int))=(ls.map (·.val % 6)).map fun i:Nat=>(i:Int):=by rw [Fl];rfl
       rw [this]
       exact ⟨fun h=>List.Pairwise.of_map (S:=(· ≠ ·)) (fun i:Nat=>(i:Int)) (fun a b ne q=>ne (by rw [q])) h,fun h=>List.Pairwise.map _ (fun a b ne q=>ne (by omega)) h⟩
      rw [← h6,← h5]
      exact ⟨fun z=>by have:=V.int.inj z;omega,fun z=>by rw [z]⟩
     rw [e5]
     exact k _ (s4.then hp)
end
section
variable {P:Program} {w:World} {K:PySem.W.Frag} {mg:Str→Option Value} {base:Heap} {aB:Addr}
open Su
abbrev l_:Stmt:=top 38
theorem vm:aC ["thing"] ["thing"] (aq l_):=⟨rfl,rfl,rfl,by decide +kernel,rfl,by decide +kernel,by decide +kernel⟩
theorem yN (D:Df K mg "is_unlike_paper" l_)(T:Bt K w mg aB)(Kz:Fnc P w K mg base "is_whole" ["thing"] 1 (eg K)):Fnc P w K mg base "is_unlike_paper" ["thing"] 2 rj:=by
 have sc:=vm
 refine D.ok sc (fun _ _ _ _ _ _ us hl=>by obtain ⟨_,rfl⟩:=lT hl;rfl) (fun vs H Q E h=>?_) (fun f Kv A outer s H vs Q E hr h=>?_)
 ·obtain ⟨e,x,d,rfl,_⟩:=h
  rfl
 ·obtain ⟨e,x,d,rfl,hx,hd,k⟩:=h
  have KJ:=aT
  refine ⟨_,(JF (JK (J8 (Ki (Kh (J9 (JO (@ba _ (K) rfl) (by rfl) T.isinstance aA (JP (pv 0) (JP (Kf (.ty "tuple") rfl T.tuple bN rfl) af))) (fun _=>rfl))) (Ki (JL dW (JO aE (by rfl) T.len Ep (JP (pv 0) af)) aj (aM _)) (Kj (JL (@q9 _ (by exact hr.units)) (JN aO (pv 0) aj (fun _ _=>rfl)) ax (aM _)))))) (JQ (JR bK)) aI) (JQ (JR (Ke (Kd Kz hr (by decide) rfl (JP (JN aO (pv 0) aj (fun _ _=>rfl)) af)) (Kg (Kd Kz hr (by decide) rfl (JP (JN aO (pv 0) aj (fun _ _=>rfl)) af))))))),?_⟩
  rcases eU (K:=K) hx with ⟨n,ty,kt,nt⟩ | ⟨a,xs,ds,rfl,ht,rfl,hl,qs⟩
  ·rw [rA nt] at k
   exact ⟨_,rfl,_,_,_,_,rfl,ty,kt,_,rfl,gM (bW (k _ (av.refl _)))⟩
  have el:=qs.len
  refine ⟨_,rfl,_,_,_,_,rfl,.tup ht,bV,_,rfl,ir ⟨_,rfl,a,_,rfl,.inr (SqT.of ht),rfl,_,rfl,?_⟩⟩
  by_cases h3:xs.length=3
  rotate_left
  ·rw [eD (by rintro ⟨z,d1,d2,rfl,_⟩;exact h3 el)] at k
   rw [Ed (fun z=>h3 (by have:=V.int.inj z;omega))]
   exact gM (bW (k _ (av.refl _)))
  rw [Eh (by rw [h3];rfl)]
  refine ir ?_
  obtain ⟨x0,x1,x2,rfl⟩:∃ x0 x1 x2,xs=[x0,x1,x2]:=by
   match xs,h3 with
   | [x0,x1,x2],_=>exact ⟨x0,x1,x2,rfl⟩
  cases qs with
  | Kq d0 _ q0 qs =>
  cases qs with
  | Kq d1 _ q1 qs =>
  cases qs with
  | Kq d2 _ q2 qs =>
  cases qs
  have hd:d0 = .dict [] ∨ (d0.canLay0=true∧d0.depth≤10):=hd
  refine ⟨_,rfl,a,_,_,_,rfl,rfl,SqT.of ht,rfl,?_⟩
  by_cases c0:d0 = .str "unlike"
  rotate_left
  ·refine jr q0 hd wI false ⟨(fun h=>by cases h),fun h=>absurd h c0⟩ ?_
   rw [eD (by rintro ⟨z,d1,d2,e,rfl⟩;exact c0 (E7 e).1)] at k
   exact ⟨_,rfl,bW (k _ (av.refl _))⟩
  ·refine jr q0 hd wI true ⟨fun _=>c0,fun _=>rfl⟩ ?_
   subst c0
   rw [rq rfl] at k
   obtain ⟨w1,e1⟩:=g9 (K:=K) q1
   obtain ⟨w2,e2⟩:=g9 (K:=K) q2
   refine ⟨_,rfl,et ?_⟩
   refine ⟨_,rfl,a,_,_,_,rfl,rfl,SqT.of ht,rfl,_,rfl,w1,⟨_,rfl,?_⟩⟩
   rw [e1]
   cases h1:whD d1 with
   | false =>
    rw [h1,FO] at k
    exact nJ (k _ (av.refl _))
   | true =>
    rw [h1,FJ] at k
    refine pw ?_
    refine ⟨_,rfl,a,_,_,_,rfl,rfl,SqT.of ht,rfl,_,rfl,w2,?_⟩
    rw [e2]
    exact k _ (av.refl _)
abbrev jA:Stmt:=top 34
theorem rZ:aC ["one","thing"] ["one","thing"] (aq jA):=⟨rfl,rfl,rfl,by decide +kernel,rfl,by decide +kernel,by decide +kernel⟩
theorem vn (D:Df K mg "is_same_paper" jA)(T:Bt K w mg aB)(Lz:Fnc P w K mg base "are_slides" ["thing"] 3 yi)(Kz:Fnc P w K mg base "is_whole" ["thing"] 1 (eg K))(F_isnm:Fnc P w K mg base "is_names" ["many","thing"] 4 yj):Fnc P w K mg base "is_same_paper" ["one","thing"] 5 rD:=by
 have sc:=rZ
 refine D.ok sc (fun _ _ _ _ _ _ us hl=>by obtain ⟨_,_,rfl⟩:=lU hl;rfl) (fun vs H Q E h=>?_) (fun f Kv A outer s H vs Q E hr h=>?_)
 ·obtain ⟨n,e,u,x,d,rfl,_⟩:=h
  rfl
 ·obtain ⟨n,e,u,x,d,rfl,U,hx,hd,k⟩:=h
  have KJ:=aT
  have ul:=U.row.len
  have u6:=U.h6
  have KU:(toS u).length≤sizeLine:=by rw [ah];omega
  refine ⟨_,(JF (JK (J8 (Ki (Kh (J9 (JO (@ba _ (K) rfl) (by rfl) T.isinstance aA (JP (pv 1) (JP (Kf (.ty "tuple") rfl T.tuple bN rfl) af))) (fun _=>rfl))) (Ki (JL dW (JO aE (by rfl) T.len Ep (JP (pv 1) af)) aj (aM _)) (Kj (JL (@q9 _ (by exact hr.units)) (JN aO (pv 1) aj (fun _ _=>rfl)) ax (aM _)))))) (JQ (JR bK)) aI) (JF (JK (J8 (Ki (Kh (J9 (Kd Lz hr (by decide) rfl (JP (JN aO (pv 1) aj (fun _ _=>rfl)) af)) (fun _=>rfl))) (Ki (Kh (J9 (Kd Kz hr (by decide) rfl (JP (JN aO (pv 1) aj (fun _ _=>rfl)) af)) (fun _=>rfl))) (Kj (Kh (@iI _ _ _ _ _ _ _ _ _ _ _ _ oS iH aj (JN aO (pv 1) aj (fun _ _=>rfl)) (JO ay (by rfl) T.len Ep (JP (pv 0) af)) (by with_unfolding_all rfl))))))) (JQ (JR bK)) aI) (JQ (JR (Kd F_isnm hr (by decide) rfl (JP (JI cR (JO ay (by rfl) T.len Ep (JP (pv 0) af)) aj) (JP (JN aO (pv 1) aj (fun _ _=>rfl)) af))))))),?_⟩
  rcases eU (K:=K) hx with ⟨n',ty,kt,nt⟩ | ⟨a,xs,ds,rfl,ht,rfl,hl,qs⟩
  ·rw [wH nt] at k
   exact ⟨_,rfl,_,_,_,_,rfl,ty,kt,_,rfl,gM (bW (k _ (av.refl _)))⟩
  have el:=qs.len
  refine ⟨_,rfl,_,_,_,_,rfl,.tup ht,bV,_,rfl,ir ⟨_,rfl,a,_,rfl,.inr (SqT.of ht),rfl,_,rfl,?_⟩⟩
  by_cases h4:xs.length=4
  rotate_left
  ·rw [fP (by rintro ⟨z,d1,d2,d3,rfl,_⟩;exact h4 el)] at k
   rw [Ed (fun z=>h4 (by have:=V.int.inj z;omega))]
   exact gM (bW (k _ (av.refl _)))
  rw [Eh (by rw [h4];rfl)]
  refine ir ?_
  obtain ⟨x0,x1,x2,x3,rfl⟩:∃ x0 x1 x2 x3,xs=[x0,x1,x2,x3]:=by
   match xs,h4 with
   | [x0,x1,x2,x3],_=>exact ⟨x0,x1,x2,x3,rfl⟩
  cases qs with
  | Kq d0 _ q0 qs =>
  cases qs with
  | Kq d1 _ q1 qs =>
  cases qs with
  | Kq d2 _ q2 qs =>
  cases qs with
  | Kq d3 _ q3 qs =>
  cases qs
  have hd:d0 = .dict [] ∨ (d0.canLay0=true∧d0.depth≤10):=hd
  refine ⟨_,rfl,a,_,_,_,rfl,rfl,SqT.of ht,rfl,?_⟩
  by_cases c0:d0 = .str "same"
  rotate_left
  ·refine jr q0 hd wJ false ⟨(fun h=>by cases h),fun h=>absurd h c0⟩ ?_
   rw [fP (by rintro ⟨z,d1,d2,d3,e,rfl⟩;exact c0 (E7 e).1)] at k
   exact ⟨_,rfl,bW (k _ (av.refl _))⟩
  refine jr q0 hd wJ true ⟨fun _=>c0,fun _=>rfl⟩ ?_
  subst c0
  refine ⟨_,rfl,et ?_⟩
  refine ⟨_,rfl,a,_,_,_,rfl,rfl,SqT.of ht,rfl,e,x1,d1,rfl,q1,fun H1 s1=>?_⟩
  have g1:=s1 _ _ ht
  obtain ⟨w2,e2⟩:=g9 (K:=K) (q2.same s1)
  have nowh:whD d2=false→∀ H',av H H'→Q (.bl false) H':=fun c H' s'=>by
   rw [rB c] at k
   exact k H' s'
  refine ⟨_,rfl,?_⟩
  cases ha:arB d1 with
  | false =>
   refine nkF (gM (bW ?_))
   cases hw:whD d2 with
   | false=>exact nowh hw _ s1
   | true =>
    obtain ⟨p,rfl,rfl⟩:=fO q2 hw
    rw [kD rfl,ha,FO] at k
    exact k _ s1
  | true =>
  refine nkT (ir ?_)
  refine ⟨_,rfl,a,_,_,_,rfl,rfl,SqT.of g1,rfl,_,rfl,w2,⟨_,rfl,?_⟩⟩
  rw [e2]
  cases hw:whD d2 with
  | false=>exact nkF (gM (bW (nowh hw _ s1)))
  | true =>
  obtain ⟨p,rfl,rfl⟩:=fO q2 hw
  rw [kD rfl,ha,FJ] at k
  refine nkT (ir ?_)
  have en:((toS u).length:Int) / 2=(n:Int):=by rw [ah];omega
  refine ⟨_,rfl,a,_,_,_,rfl,rfl,SqT.of g1,rfl,_,_,rfl,rfl,_,rfl,?_⟩
  by_cases p0:0≤p
  rotate_left
  ·refine k8 (Ed p0) ?_
   rw [Ed (fun z=>p0 z.1),FO] at k
   exact ⟨_,rfl,nkF (bW (k _ s1))⟩
  refine jJ (Eh p0) ⟨_,rfl,_,rfl,KU,_,_,rfl,rfl,_,rfl,?_⟩
  by_cases p1:p < ((toS u).length:Int)
  ·rw [Eh p1]
   rw [ah] at p1
   rw [Eh ⟨p0,p1⟩,FJ] at k
   refine nkT (et ?_)
   exact ⟨_,rfl,_,rfl,KU,_,_,rfl,rfl,⟨by decide,by decide⟩,_,rfl,a,_,_,_,rfl,rfl,SqT.of g1,rfl,n,e,x3,d3,by rw [en];rfl,U.h1,U.h6,q3.same s1,fun H2 s2=>k _ (s1.trans s2)⟩
  ·rw [Ed p1]
   rw [ah] at p1
   rw [Ed (fun z=>p1 z.2),FO] at k
   exact nkF (bW (k _ s1))
end
section
variable {P:Program} {w:World} {K:PySem.W.Frag} {mg:Str→Option Value} {base:Heap} {aB:Addr}
def Dn (st:Stmt)(j:Nat):Stmt:=match st with | .ClassDef (body:=b) ..=>b.getD j (.Pass ⟨0,0,0,0⟩) | _=>.Pass ⟨0,0,0,0⟩
abbrev gT:Stmt:=Dn (top 4) 0
theorem r6:aC ["self","place"] ["self","place"] (aq gT):=⟨rfl,rfl,rfl,by decide +kernel,rfl,by decide +kernel,by decide +kernel⟩
theorem vo {R C f:Addr}{fd:FuncData}(D:Fun K "__init__" "NoSlide.__init__" gT f fd)(B:uB K R)(hR:mg "RingError" = some (.ref R))(x:XAt K C)(n0:PySem.W.findIn K (.ref C) "place" = some none) :
  eY K fd ["self","place"] []∧jI P w K mg base CX0 1 f fd ["self","place"] (ki ["place"] C):=by
 have sc:=r6
 refine ⟨D.binds fun _ _ _ _ _ _ us hl=>match us,hl with | [_,_],_=>rfl,D.ok sc (fun vs H Q E h=>?_) (fun Kv A outer s H vs Q E hr h=>?_)⟩
 ·obtain ⟨a,ys,b,c,rfl,hl,_⟩:=h
  rw [EA,hl];rfl
 ·obtain ⟨a,ys,b,c,rfl,hl,ea,k⟩:=h
  match ys,hl with
  | [y],_ =>
  refine ⟨_,(JF (Ka (@mR _ _ _ _ _ _ _ _ _ _ B rfl hR (JP (pv 0) (JP ax af)) (by decide) (by rfl) (by rfl) (by rfl)))
   (JQ (@we _ _ _ _ _ _ _ _ (pv 0) (pv 1) (by rfl)))),?_⟩
  refine ⟨_,rfl,a,C,none,b,c,[_],rfl,by simp,ea,x,?_⟩
  refine ⟨_,rfl,_,rfl,a,C,b,c,rfl,ea,x,n0,fun dx hdx ne=>?_⟩
  exact k dx hdx ne
abbrev gU:Stmt:=Dn (top 3) 0
theorem r9:aC ["self","word","at"] ["self","word","at"] (aq gU):=⟨rfl,rfl,rfl,by decide +kernel,rfl,by decide +kernel,by decide +kernel⟩
theorem r_ {R C f:Addr}{fd:FuncData}(D:Fun K "__init__" "NoPaper.__init__" gU f fd)(B:uB K R)(hR:mg "RingError" = some (.ref R))(x:XAt K C)(n0:PySem.W.findIn K (.ref C) "word" = some none)(n1:PySem.W.findIn K (.ref C) "at" = some none) :
  eY K fd ["self","word","at"] []∧lF P w K mg base 1 f fd ["self","word","at"] (ki ["word","at"] C):=by
 have sc:=r9
 refine ⟨D.binds fun _ _ _ _ _ _ us hl=>match us,hl with | [_,_,_],_=>rfl,D.okH sc (fun vs H Q E h=>?_) (fun Kv A outer s H vs Q hr h=>?_)⟩
 ·obtain ⟨a,ys,b,c,rfl,hl,_⟩:=h
  rw [EA,hl];rfl
 ·obtain ⟨a,ys,b,c,rfl,hl,ea,k⟩:=h
  match ys,hl with
  | [y,z],_ =>
  refine ⟨_,(JF (Ka (@mR _ _ _ _ _ _ _ _ _ _ B rfl hR (JP (pv 0) (JP ax af)) (by decide) (by rfl) (by rfl) (by rfl)))
   (JF (@we _ _ _ _ _ _ _ _ (pv 0) (pv 1) (by rfl)) (JQ (@Ak _ _ _ _ _ _ _ _ (pv 0) (pv 2) (by rfl))))),?_⟩
  refine ⟨_,rfl,a,C,none,b,c,[_],rfl,by simp,ea,x,?_⟩
  refine ⟨_,rfl,_,rfl,a,C,b,c,rfl,ea,x,n0,fun dx hdx ne=>?_⟩
  refine ⟨_,rfl,_,rfl,a,C,b,c,dx,_,rfl,?_,ag ..,(by show (1:Nat)≤900;decide),x,n1,ne,?_⟩
  ·rw [ar (Ne.symm ne),ag]
  ·have q:=k dx hdx ne
   rw [show ∀ o o',upd (upd (upd H a (Exo a C (some dx) b c)) dx o) dx o'=upd (upd H a (Exo a C (some dx) b c)) dx o' from fun _ _=>dv]
   exact q
end
section
variable {P:Program} {w:World} {K:PySem.W.Frag} {mg:Str→Option Value} {base:Heap} {aB:Addr}
open Su
abbrev se:Stmt:=top 40
theorem yO:aC ["surface","slides","k","slide"] ["surface","slides"] (aq se):=⟨rfl,rfl,rfl,by decide +kernel,rfl,by decide +kernel,by decide +kernel⟩
theorem A3 {CT CP:Addr}{bmT:List Value}(D:Df K mg "row_behind" se)(T:Bt K w mg aB)(Te:mg "enumerate" = none)(K_:mg "NoSlide" = some (.ref CT))(xT:XCl K CT bmT)(Lq:nZ P w K mg base "slid" ["surface","slide"] 3 (lJ CT))(M_paperH:CB P w K mg base "NoPaper" CP ["word","at"] 1):nZ P w K mg base "row_behind" ["surface","slides"] 5 (lL CP):=by
 have sc:=yO
 refine D.okX sc (fun _ _ _ _ _ _ us hl=>by obtain ⟨_,_,rfl⟩:=lU hl;rfl) (fun vs H Q E h=>?_) (fun f Kv A outer s H vs Q E hr h=>?_)
 ·obtain ⟨u,t,as,ss,rfl,_⟩:=h
  rfl
 ·obtain ⟨u,t,as,ss,rfl,ht,hss,h60,U,k0,k1⟩:=h
  have KJ:=aT
  have la:=hss.len
  refine ⟨_,(JF (J1 PassesOwn.leaving rfl (@v9 _ _ rfl _ _ _ _ _ _ _ rfl Te ee (JP (pv 1) af) (by rfl)) (@gm _ _ _ _ _ _ rfl (Kc (J0 (2) sc.nd rfl (Or.inl rfl)) (Kc (J0 (3) sc.nd rfl (Or.inl rfl)) d_)) (by rfl) (by rfl)) (JQ (uS rfl rfl rfl K_ xT lI (fun _=>(@qq _ _ _ _ _ _ _ (0) sc.nd rfl (Or.inl rfl) (@wj _ _ _ _ _ _ _ _ _ _ _ _ Lq hr (by decide) rfl (JP (pv 0) (JP (pv 3) af)) (by decide) (by rfl) (by rfl)) (by rfl) (by first | exact .inl rfl | exact .inr rfl | assumption))) (fun _=>(AE M_paperH hr.h.mark (by decide) rfl (JP ax (JP (pv 2) af))))))) (JQ (JR (pv 0)))),?_⟩
  refine ⟨_,rfl,t,rfl,⟨_,SqT.of ht⟩,qe (xs:=as.map V.ref) (fun i σ H'=>∃ (v k1 k2:_),σ = [some (tx v),some (.ref t),k1,k2]∧Srf v∧c_ u ss 0=c_ v (ss.drop i) i∧av H H') ⟨u,none,none,rfl,U,rfl,av.refl _⟩ (fun i σ H' hi ⟨_,_,_,_,_,_,s1⟩=>SqT.of (s1 _ _ ht)) ?_ ?_⟩
  ·rintro i x σ H1 e hx ⟨v,c1,c2,rfl,VS,hv,s1⟩ he
   have hi:i < ss.length:=by
    have:=(Ef.mp hx).1
    rw [Ea] at this
    omega
   have hg:=Ee hi
   obtain ⟨a,ha1,ha2⟩:=hss.at_ i _ hg
   rw [Er,ha1] at hx
   cases hx
   rw [Gm hi] at hv
   have s2:=s1.then (o:=.tup [.int (i:Int),.ref a]) he
   refine ⟨e,_,rfl,SqT.of ag,rfl,_,_,rfl,_,_,rfl,rfl,?_⟩
   refine ⟨_,rfl,_,rfl,v,a,_,_,rfl,s2 _ _ ha2,VS,fun v2 e1 H2 s3=>?_,fun e1 b H2 hxs s3=>?_⟩
   ·refine ⟨v2,_,_,rfl,VS.perm (eR VS e1),?_,s2.trans s3⟩
    rw [hv]
    show (match slW v _ _ with | none=>_ | some v=>_)=_
    rw [e1]
   ·have hk:c_ u ss 0 = .inr i:=by
     rw [hv]
     show (match slW v _ _ with | none=>_ | some v=>_)=_
     rw [e1]
    obtain ⟨dx,fa⟩:=hxs
    refine ⟨b,CT,some dx,true,_,rfl,fa,xT,by simp,?_⟩
    refine ⟨_,rfl,rfl,by decide,fun b' dy hb hd ne=>?_⟩
    have nb:b≠b':=fun z=>by rw [z,hb] at fa;cases fa
    have nd:b≠dy:=fun z=>by rw [z,hd] at fa;cases fa
    exact ⟨b',CP,some dy,true,CT,some dx,false,rfl,Ne.symm nb,by rw [ar ne.symm,ag],M_paperH.ca.1,by rw [ar nd,ar nb];exact fa,k1 i hk b' _ (eC (k:=i) hb hd ne) ((s2.trans s3).trans (bS hb hd))⟩
  ·rintro σ H1 ⟨v,c1,c2,rfl,VS,hv,s1⟩
   rw [Ea,la,Ih] at hv
   exact ⟨_,rfl,k0 v hv _ s1⟩
theorem wQ {n:Nat}{h:L→L}(h6:n≤6)(hiv:∀ x,h (inv x)=inv (h x)):∀ (b:List L),(∀ x∈b,x.val % 6 < n)→sub (nmS n h) b=b.map h
 | [],_=>rfl
 | x::r,hb=>by
  show img (nmS n h) x++sub (nmS n h) r=h x::r.map h
  rw [wC h6 hiv (hb x Ex),wQ h6 hiv r fun y hy=>hb y (Ej _ hy)]
  rfl
abbrev jB:Stmt:=top 39
theorem sf:aC ["one","other","paper","row","begun"] ["one","other","paper"] (aq jB):=⟨rfl,rfl,rfl,by decide +kernel,rfl,by decide +kernel,by decide +kernel⟩
theorem vp {CP:Addr}(D:Df K mg "look_at_same" jB)(T:Bt K w mg aB)(F_rowb:nZ P w K mg base "row_behind" ["surface","slides"] 5 (lL CP))(Lb:Fnc P w K mg base "mapped" ["change","word"] 2 jd)(Kw:XMk P w K mg base "NoPaper" CP ["word","at"] 1):nZ P w K mg base "look_at_same" ["one","other","paper"] 6 (lM CP):=by
 have sc:=sf
 refine D.okX sc (fun _ _ _ _ _ _ us hl=>by obtain ⟨_,_,_,rfl⟩:=oA hl;rfl) (fun vs H Q E h=>?_) (fun f Kv A outer s H vs Q E hr h=>?_)
 ·obtain ⟨n,a,u,o,ss,p,f,rfl,_⟩:=h
  rfl
 ·obtain ⟨n,a,u,o,ss,p,f,rfl,x,U,O,KW,k0,k1⟩:=h
  have KJ:=aT
  obtain ⟨q,nm,as,h1,h2,h3,h4⟩:=x.ex
  rw [jo KW] at k0 k1
  have ul:=U.row.len
  have u6:=U.h6
  refine ⟨_,(JF (JM (3) sc.nd rfl (Or.inl rfl) (@qp _ _ _ _ _ _ _ _ _ _ _ _ F_rowb hr (by decide) fj rfl (JP (pv 0) (JP (JN aO (pv 2) aj (fun _ _=>rfl)) af)) (by decide) (by rfl) (by rfl))) (JF (JM (4) sc.nd rfl (Or.inl rfl) (JI aU (JT dm (pv 3) (JU (JN aO (pv 2) aj (fun _ _=>rfl))) aX) (JT dm (pv 3) aX (JU (JN aO (pv 2) aj (fun _ _=>rfl)))))) (JQ (JK (JL dW (JX EC GS GT iU ax (JP (JY (["end","paper"]) (["end"]) ([2]) (JZ rfl (by kernel_rfl)) rfl (J5 (pv 4)) (fun _ _ _ _=>J0 (0) (show (["end","paper"]:List Str).Nodup from by decide +kernel) rfl (Or.inl rfl)) (fun _ _ _ _=>bu) (fun _ _ _ _=>by (exact (Kd Lb hr (by decide) rfl (JP (JN (@xZ _ (K) rfl) (pv 1) aj (fun _ _=>rfl)) (JP (pv 0) af)))))) af)) (pv 1) (aM _)) (JQ (Kl bX rfl (Km Kw hr (by decide) rfl (JP ax (JP aj af))))) aI)))),?_⟩
  refine ⟨_,rfl,_,rfl,a,_,_,_,rfl,rfl,SqT.of h1,rfl,u,q,as,ss,rfl,h2,h3,x.len,U.srf,fun w' hw H1 s1=>?_,fun k hk b H1 hx s1=>k1 _ _ (by rw [hk]) b H1 hx s1⟩
  rw [hw] at k0 k1
  have k0:(if (rot w' p).map f=o then none else some (("row":Str),0))=none→∀ H',av H H'→Q .non H':=k0
  have k1:∀ z k,(if (rot w' p).map f=o then none else some (("row":Str),0))=some (z,k)→∀ b H',XQ9 CP H' b z k→av H H'→E (.ref b) none H':=k1
  have W:=U.perm (gP ss U.srf hw)
  have wl:=W.row.len
  have hwl:(toS w').length≤sizeLine:=by rw [ah];omega
  have g1:=s1 _ _ h1
  have g4:=s1 _ _ h4
  refine ⟨_,rfl,_,rfl,a,_,_,_,rfl,rfl,SqT.of g1,rfl,_,rfl,_,rfl,hwl,_,rfl,_,rfl,a,_,_,_,rfl,rfl,SqT.of g1,rfl,_,rfl,_,rfl,hwl,_,_,rfl,rfl,?_,?_⟩
  all_goals rw [a7,a7,cX _ (by omega),gE _ (by omega),EH]
  ·rw [ah,ah,Fv,EB];omega
  rw [aN]
  have er:w'.drop p++w'.take p=rot w' p:=rfl
  rw [er]
  have RB:Rw n (rot w' p):=W.perm (jj w' p)
  have bl:=RB.row.len
  obtain ⟨b,hb⟩:∃ b,b=rot w' p:=⟨_,rfl⟩
  have e6:=x.nm.ren RB
  have MM:xY n 1 (nmS n f):=AA RB (x.nm.rw RB) rfl
  rw [← hb] at RB bl e6 k0 k1 ⊢
  refine ⟨rfl,_,rfl,_,rfl,?_⟩
  refine cT (own:=["end"]) (cap:=[2]) (J:=Its (toS b)) b.length (fun i ys σ H'=>∃ v:Option V,σ = [v,some (.ref a)]∧ys=(((b.take i).map (img (nmS n f))).map toS).map V.str∧av H1 H') ⟨none,rfl,rfl,av.refl _⟩ (fun i ys σ H' hi ⟨v,_,e,_⟩=>?_) (by omega) (fun i ys σ H' hi _=>?_) (fun ys σ H' _=>?_) ?_ ?_
  ·rw [e,Ea,Ea,Ea,EB];omega
  ·show i < (toS b).cps.size;rw [bw];exact hi
  ·show _=(toS b).cps.size;rw [bw]
  ·rintro i ys σ H2 x H3 N hi ⟨v,rfl,rfl,s2⟩ ⟨rfl,c',hc,rfl⟩ hN
   obtain ⟨y,hy,e⟩:=cV hc
   have yn:=RB.row.ins y (Es hy)
   refine ⟨_,rfl,a,_,_,_,rfl,rfl,SqT.of (s2 _ _ g1),rfl,_,rfl,nm,[y],n,1,nmS n f,by rw [e];rfl,⟨s2 _ _ g4,MM⟩,u6,fun z hz=>by rw [Eu.mp hz];exact yn,(by show 1≤5000;decide),(by show 1*1≤5000;decide),(by decide),fun H4 s4=>hN _ _ _ ⟨_,rfl,?_,s2.trans s4⟩⟩
   have ei:red (sub (nmS n f) [y])=img (nmS n f) y:=by
    show red (img (nmS n f) y++[])=_
    rw [Fs,wC u6 e6.iv yn]
    rfl
   rw [ei,b_ hy,EG,EG,EG]
   rfl
  ·rintro ys σ H2 l ⟨v,rfl,rfl,s2⟩ hl
   have es:sub (nmS n f) b=b.map f:=wQ u6 e6.iv b (fun x hx=>RB.row.ins x hx)
   have ol:(b.map f).length=2*n:=by rw [Ea];exact bl
   have ej:("":Str).length=0:=by decide +kernel
   refine ⟨_,l,(b.map (img (nmS n f))).map toS,rfl,rfl,SqL.of (by rw [ag,Fx]),?_,?_⟩
   ·rw [mV,ej,Nat.mul_zero,Jv]
    have:(b.map (img (nmS n f))).flatten=sub (nmS n f) b:=rfl
    rw [this,es]
    omega
   ·rw [mW,es]
    refine ⟨_,rfl,rfl,_,rfl,?_⟩
    have s3:=s1.trans (s2.then (o:=.lst (((List.take b.length b).map (img (nmS n f))).map toS |>.map V.str)) hl)
    by_cases c:b.map f=o
    ·rw [Eh (show V.str (toS (b.map f))=tx o by rw [c];rfl)]
     exact et (k0 (if_pos c) _ s3)
    ·rw [Ed (show ¬ V.str (toS (b.map f))=tx o from fun z=>c (ie z))]
     refine bW ?_
     exact ⟨rfl,by decide,fun b' dx K3 hd ne=>⟨b',CP,some dx,true,rfl,by rw [ar ne.symm,ag],Kw.ca.1,k1 "row" 0 (if_neg c) b' _ (eC (k:=0) K3 hd ne) (s3.trans (bS K3 hd))⟩⟩
abbrev ma:Stmt:=top 41
theorem vq:aC ["one","other","mine","theirs"] ["one","other","mine","theirs"] (aq ma):=⟨rfl,rfl,rfl,by decide +kernel,rfl,by decide +kernel,by decide +kernel⟩
theorem yP {CP:Addr}(D:Df K mg "look_at_unlike" ma)(T:Bt K w mg aB)(K1:Fnc P w K mg base "holes" ["surface"] 3 fo)(Kw:XMk P w K mg base "NoPaper" CP ["word","at"] 1):nZ P w K mg base "look_at_unlike" ["one","other","mine","theirs"] 4 (lK CP):=by
 have sc:=vq
 refine D.okX sc (fun _ _ _ _ _ _ us hl=>by obtain ⟨_,_,_,_,rfl⟩:=D6 hl;rfl) (fun vs H Q E h=>?_) (fun f Kv A outer s H vs Q E hr h=>?_)
 ·obtain ⟨u,o,i,j,rfl,_⟩:=h
  rfl
 ·obtain ⟨u,o,i,j,rfl,U,O,k0,k1⟩:=h
  have KJ:=aT
  rw [qZ] at k0 k1
  refine ⟨_,(JF (JK (JL dW (pv 2) (JO aE (by rfl) T.len Ep (JP (Kd K1 hr (by decide) rfl (JP (pv 0) af)) af)) (aM _)) (JQ (Kl bX rfl (Km Kw hr (by decide) rfl (JP ax (JP aj af))))) aI) (JF (JK (JL dW (pv 3) (JO aE (by rfl) T.len Ep (JP (Kd K1 hr (by decide) rfl (JP (pv 1) af)) af)) (aM _)) (JQ (Kl bX rfl (Km Kw hr (by decide) rfl (JP ax (JP aj af))))) aI) (JQ (JK (JL cj (pv 2) (pv 3) (aM _)) (JQ (Kl bX rfl (Km Kw hr (by decide) rfl (JP ax (JP aj af))))) aI)))),?_⟩
  refine ⟨_,rfl,_,rfl,u,rfl,U,fun l1 H1 _ Li s1=>⟨l1,_,rfl,.inl (SqL.of Li),rfl,_,rfl,?_⟩⟩
  rw [Ea]
  by_cases c1:i=((hol u).length:Int)
  rotate_left
  ·rw [Ed (show ¬ V.int i=V.int ((hol u).length:Int) from fun z=>c1 (V.int.inj z))]
   refine bW ?_
   exact ⟨rfl,by decide,fun b' dx K3 hd ne=>⟨b',CP,some dx,true,rfl,by rw [ar ne.symm,ag],Kw.ca.1,k1 "holes" 0 (if_pos c1) b' _ (eC (k:=0) K3 hd ne) (s1.trans (bS K3 hd))⟩⟩
  rw [Eh (EX V.int c1)]
  refine et ?_
  rw [if_neg (fun h=>h c1)] at k0 k1
  refine ⟨_,rfl,_,rfl,o,rfl,O,fun l2 H2 _ KS s2=>⟨l2,_,rfl,.inl (SqL.of KS),rfl,_,rfl,?_⟩⟩
  have s2:=s1.trans s2
  rw [Ea]
  by_cases c2:j=((hol o).length:Int)
  rotate_left
  ·rw [Ed (show ¬ V.int j=V.int ((hol o).length:Int) from fun z=>c2 (V.int.inj z))]
   refine bW ?_
   exact ⟨rfl,by decide,fun b' dx K3 hd ne=>⟨b',CP,some dx,true,rfl,by rw [ar ne.symm,ag],Kw.ca.1,k1 "holes" 1 (if_pos c2) b' _ (eC (k:=1) K3 hd ne) (s2.trans (bS K3 hd))⟩⟩
  rw [Eh (EX V.int c2)]
  refine et ?_
  rw [if_neg (fun h=>h c2)] at k0 k1
  refine ⟨_,rfl,_,rfl,rfl,_,rfl,?_⟩
  by_cases c3:i=j
  ·rw [Eh (EX V.int c3)]
   refine bW ?_
   exact ⟨rfl,by decide,fun b' dx K3 hd ne=>⟨b',CP,some dx,true,rfl,by rw [ar ne.symm,ag],Kw.ca.1,k1 "holes" 2 (if_pos c3) b' _ (eC (k:=2) K3 hd ne) (s2.trans (bS K3 hd))⟩⟩
  ·rw [Ed (show ¬ V.int i=V.int j from fun z=>c3 (V.int.inj z))]
   exact et (k0 (if_neg c3) _ s2)
abbrev si:Stmt:=top 33
theorem yQ:aC ["one","other","thing"] ["one","other","thing"] (aq si):=⟨rfl,rfl,rfl,by decide +kernel,rfl,by decide +kernel,by decide +kernel⟩
theorem A4 {CP:Addr}(D:Df K mg "lets_same" si)(T:Bt K w mg aB)(Lf:Fnc P w K mg base "is_same_paper" ["one","thing"] 5 rD)(Ld:nZ P w K mg base "look_at_same" ["one","other","paper"] 6 (lM CP))(Lv:Fnc P w K mg base "is_unlike_paper" ["thing"] 2 rj)(Lu:nZ P w K mg base "look_at_unlike" ["one","other","mine","theirs"] 4 (lK CP))(Kw:XMk P w K mg base "NoPaper" CP ["word","at"] 1):nZ P w K mg base "lets_same" ["one","other","thing"] 7 (lO CP):=by
 have sc:=yQ
 refine D.okX sc (fun _ _ _ _ _ _ us hl=>by obtain ⟨_,_,_,rfl⟩:=oA hl;rfl) (fun vs H Q E h=>?_) (fun f Kv A outer s H vs Q E hr h=>?_)
 ·obtain ⟨n,e,u,o,x,d,rfl,_⟩:=h
  rfl
 ·obtain ⟨n,e,u,o,x,d,rfl,hx,hd,U,O,k0,k1⟩:=h
  have KJ:=aT
  refine ⟨_,(JF (JK (J9 (Kd Lf hr (by decide) rfl (JP (pv 0) (JP (pv 2) af))) (fun _=>rfl)) (JQ (Ka (@qp _ _ _ _ _ _ _ _ _ _ _ _ Ld hr (by decide) fj rfl (JP (pv 0) (JP (pv 1) (JP (pv 2) af))) (by decide) (by rfl) (by rfl)))) (JQ (JK (J9 (Kd Lv hr (by decide) rfl (JP (pv 2) af)) (fun _=>rfl)) (JQ (Ka (@qp _ _ _ _ _ _ _ _ _ _ _ _ Lu hr (by decide) fj rfl (JP (pv 0) (JP (pv 1) (JP (JN aO (pv 2) aj (fun _ _=>rfl)) (JP (JN aO (pv 2) aj (fun _ _=>rfl)) af)))) (by decide) (by rfl) (by rfl)))) (JQ (Kl bX rfl (Km Kw hr (by decide) rfl (JP ax (JP aj af)))))))) (JQ (JR bK))),?_⟩
  refine ⟨_,rfl,_,rfl,n,e,u,x,d,rfl,U,hx,hd,fun H1 s1=>⟨_,rfl,?_⟩⟩
  cases hc:oz n d with
  | none =>
   have e1:smB n u.length d=false:=by rw [iA U.h6,hc]
   have e2:jq d=false:=by rw [fz (n:=n),hc]
   have e3:du n u o d=some (("shape":Str),0):=by unfold du;rw [hc]
   rw [e1]
   refine et ?_
   refine ⟨_,rfl,e,x,d,rfl,hx.same s1,hd,fun H2 s2=>⟨_,rfl,?_⟩⟩
   rw [e2]
   refine et ?_
   have s2:=s1.trans s2
   exact ⟨rfl,by decide,fun b' dx K3 hd ne=>⟨b',CP,some dx,true,rfl,by rw [ar ne.symm,ag],Kw.ca.1,k1 "shape" 0 e3 b' _ (eC (k:=0) K3 hd ne) (s2.trans (bS K3 hd))⟩⟩
  | some t =>
  have e3:du n u o d=gZ u o t:=by unfold du;rw [hc]
  rw [e3] at k0 k1
  obtain ⟨a,rfl,hG⟩:=rG hx (dO hc)
  cases hG with
  | @same ss p f' x =>
   have e1:smB n u.length d=decide (0≤p∧p < (u.length:Int)):=by rw [iA U.h6,hc]
   have e2:jq d=false:=by rw [fz (n:=n),hc]
   rw [e1]
   by_cases c:0≤p∧p < (u.length:Int)
   ·obtain ⟨p,rfl⟩:=ET c.1
    rw [Eh c]
    refine bW ?_
    exact ⟨_,rfl,_,rfl,_,rfl,n,a,u,o,ss,p,f',rfl,x.to fun b xs e=>s1 _ _ e,U,O,by omega,fun hn H2 s2=>k0 hn _ (s1.trans s2),fun z k hz b H2 hx s2=>k1 z k hz b H2 hx (s1.trans s2)⟩
   ·rw [Ed c]
    refine et ?_
    refine ⟨_,rfl,e,_,d,rfl,hx.same s1,hd,fun H2 s2=>⟨_,rfl,?_⟩⟩
    rw [e2]
    refine et ?_
    have s2:=s1.trans s2
    exact ⟨rfl,by decide,fun b' dx K3 hd ne=>⟨b',CP,some dx,true,rfl,by rw [ar ne.symm,ag],Kw.ca.1,k1 "shape" 0 (gQ c) b' _ (eC (k:=0) K3 hd ne) (s2.trans (bS K3 hd))⟩⟩
  | @unl i j hU =>
   have e1:smB n u.length d=false:=by rw [iA U.h6,hc]
   have e2:jq d=true:=by rw [fz (n:=n),hc]
   rw [e1]
   refine et ?_
   refine ⟨_,rfl,e,_,d,rfl,hx.same s1,hd,fun H2 s2=>⟨_,rfl,?_⟩⟩
   rw [e2]
   refine bW ?_
   have h2:H2 a=_:=s2 _ _ (s1 _ _ hU)
   have s2:=s1.trans s2
   exact ⟨_,rfl,_,rfl,_,rfl,a,_,_,_,rfl,rfl,SqT.of h2,rfl,_,rfl,a,_,_,_,rfl,rfl,SqT.of h2,rfl,u,o,i,j,rfl,U.srf,O.srf,fun hn H3 s3=>k0 hn _ (s2.trans s3),fun z k hz b H3 hx s3=>k1 z k hz b H3 hx (s2.trans s3)⟩
end
section
variable {P:Program} {w:World} {K:PySem.W.Frag} {mg:Str→Option Value} {base:Heap} {aB:Addr}
theorem vt (l:List L)(e g x:L)(b:Bool):sld (l++[x]) e g b=sld l e g b++(if x=g then (if b then [x,e] else [e,x]) else if x=e then [] else [x]):=by
 unfold sld
 rw [Gz,HU,List.flatMap_nil,Fs]
theorem sj (e g:L)(b:Bool):∀ l:List L,(sld l e g b).length≤2*l.length
 | []=>E5 _
 | x::r=>by
  have ih:=sj e g b r
  have:sld (x::r) e g b=(if x=g then (if b then [x,e] else [e,x]) else if x=e then [] else [x])++sld r e g b:=rfl
  rw [this,Ec,EA]
  have:(if x=g then (if b then [x,e] else [e,x]) else if x=e then [] else [x]:List L).length≤2:=by
   split
   ·cases b <;> exact Eg _
   ·split
    ·exact E5 _
    ·show 1≤2
     decide
  omega
theorem yR {α:Type}(a b:α)(sd:Int):atI [a,b] (if decide (V.int sd=V.int 1)=true then 1 else 0)=some (if decide (sd=1)=true then b else a):=by
 by_cases h:sd=1
 ·rw [Eh (EX V.int h),Eh h];rfl
 ·rw [Ed (fun z=>h (V.int.inj z)),Ed h];rfl
abbrev so:Stmt:=top 47
theorem yS:aC ["_law_row","_law_place","_law_side","_law_goal","_law_found","_law_sign"] ["_law_row","_law_place","_law_side"] (aq so):=⟨rfl,rfl,rfl,by decide +kernel,rfl,by decide +kernel,by decide +kernel⟩
theorem A5 (D:Df K mg "_law_slid" so)(T:Bt K w mg aB)(KA:Fnc P w K mg base "_law_back" ["_law_word"] 1 sN):Fnc P w K mg base "_law_slid" ["_law_row","_law_place","_law_side"] 2 gO:=by
 have sc:=yS
 refine D.ok sc (fun _ _ _ _ _ _ us hl=>by obtain ⟨_,_,_,rfl⟩:=oA hl;rfl) (fun vs H Q E h=>?_) (fun f Kv A outer s H vs Q E hr h=>?_)
 ·obtain ⟨u,z,sd,rfl,_⟩:=h
  rfl
 ·obtain ⟨u,z,sd,rfl,KN,KU,k⟩:=h
  have KJ:=aT
  have hw:(toS u).length≤sizeLine:=by rw [ah];omega
  refine ⟨_,(JF (JK (J8 (Ki (Kh (@iI _ _ _ _ _ _ _ _ _ _ _ _ oS iH aj (pv 1) (JO ay (by rfl) T.len Ep (JP (pv 0) af)) (by with_unfolding_all rfl))) (Kj (JL cj (JN dk (pv 0) (JI dD (JI bC (pv 1) (pv 2)) (JO ay (by rfl) T.len Ep (JP (pv 0) af))) (fun _ _=>rfl)) (Kd KA hr (by decide) rfl (JP (JN dk (pv 0) (pv 1) (fun _ _=>rfl)) af)) (aM _))))) (JQ (JR hJ)) aI) (JF (JM (3) sc.nd rfl (Or.inl rfl) (Kd KA hr (by decide) rfl (JP (JN dk (pv 0) (JI dD (JI bC (pv 1) (pv 2)) (JO ay (by rfl) T.len Ep (JP (pv 0) af))) (fun _ _=>rfl)) af))) (JF (JM (4) sc.nd rfl (Or.inl rfl) ax) (JF (J1 EU rfl (J5 (pv 0)) (J0 (5) sc.nd rfl (Or.inl rfl)) (JQ (JK (JL cj (pv 5) (pv 3) (aM _)) (JQ (JM (4) sc.nd rfl (Or.inl rfl) (JI aU (pv 4) (JN aZ (JV (JP (JI aU (JN dk (pv 0) (pv 1) (fun _ _=>rfl)) (pv 5)) (JP (JI aU (pv 5) (JN dk (pv 0) (pv 1) (fun _ _=>rfl))) af))) (JS gq (by rfl) T.int pK (JP (JW cj (pv 2) aj (aM _)) af)) (fun _ _=>rfl))))) (JQ (JK (JL dW (pv 5) (JN dk (pv 0) (pv 1) (fun _ _=>rfl)) (aM _)) (JQ (JM (4) sc.nd rfl (Or.inl rfl) (JI aU (pv 4) (pv 5)))) aI))))) (JQ (JR (pv 4))))))),?_⟩
  rcases dM (u:=u) (z:=z) (sd:=sd) with ⟨e0,off⟩ | ⟨i,e,rfl,he⟩
  ·rw [e0] at k
   by_cases h0:0≤z
   ·refine ⟨_,rfl,_,_,rfl,rfl,_,rfl,jJ (Eh h0) ?_⟩
    exact ⟨_,rfl,_,rfl,hw,_,_,rfl,rfl,_,rfl,jJ (by rw [ah,Ed (by omega)];rfl) (k _ (av.refl _))⟩
   ·exact ⟨_,rfl,_,_,rfl,rfl,_,rfl,k8 (Ed h0) ⟨_,rfl,gM (bW (k _ (av.refl _)))⟩⟩
  have k1:∀ H',av H H'→a9 u i sd=inv e→Q .non H':=fun H' s' h=>by
   have:=k H' s'
   rw [eQ he,if_pos h] at this
   exact this
  have k2:∀ H',av H H'→a9 u i sd≠inv e→Q (tx (sld u e (inv (a9 u i sd)) (decide (sd=1)))) H':=fun H' s' h=>by
   have:=k H' s'
   rw [eQ he,if_neg h] at this
   exact this
  have hi:i < u.length:=(Ef.mp he).1
  have ae:atI (toS u).cps.toList (i:Int)=some (cp e):=cW rfl he
  have h1:=Gq ((i:Int)+sd) (show (u.length:Int)≠0 by omega)
  have ha:atI (toS u).cps.toList (((i:Int)+sd) % ((toS u).length:Int))=some (cp (a9 u i sd)):=by
   rw [ah]
   exact cW (k:=(((i:Int)+sd) % (u.length:Int)).toNat) (by omega) (ji KN i sd)
  have hp:(fun x j:Int=>0 < j) ((i:Int)+sd) ((toS u).length:Int):=by show (0:Int) < ((toS u).length:Int);rw [ah];omega
  refine ⟨_,rfl,_,_,rfl,rfl,_,rfl,jJ (Eh (by omega)) ?_⟩
  refine ⟨_,rfl,_,rfl,hw,_,_,rfl,rfl,_,rfl,k8 (by rw [ah,Eh (by omega)];rfl) ?_⟩
  refine ⟨_,rfl,_,rfl,_,rfl,_,_,rfl,rfl,_,rfl,_,rfl,hw,_,_,rfl,rfl,hp,_,_,_,rfl,rfl,hw,ha,?_⟩
  refine ⟨_,rfl,_,rfl,_,_,_,rfl,rfl,hw,ae,[e],rfl,(by show 1≤5000;decide),fun H1 s1=>⟨rfl,_,rfl,?_⟩⟩
  show if decide (tx [a9 u i sd]=tx (bk [e]))=true then _ else _
  rw [j6,eO]
  refine iO (fun h=>?_) (fun h=>?_)
  ·have h:a9 u i sd=inv e:=by simpa using h
   exact k1 _ s1 h
  ·have h:¬ a9 u i sd=inv e:=by simpa using h
   refine ⟨_,rfl,_,rfl,_,rfl,_,_,rfl,rfl,_,rfl,_,rfl,hw,_,_,rfl,rfl,hp,_,_,_,rfl,rfl,hw,ha,[a9 u i sd],rfl,(by show 1≤5000;decide),fun H2 s2=>?_⟩
   rw [eO]
   refine ⟨_,rfl,_,rfl,iV (z:=toS u) (fun j σ H'=>∃ (v:Option V),σ = [some (tx u),some (.int (i:Int)),some (.int sd),some (tx [inv (a9 u i sd)]),some (tx (sld (u.take j) e (inv (a9 u i sd)) (decide (sd=1)))),v]∧av H H') ⟨none,rfl,s1.trans s2⟩ ?_ ?_⟩
   ·rintro j c σ H3 hc ⟨v,rfl,s3⟩
    obtain ⟨x,hx,ex⟩:=cV hc
    rw [ex]
    have hj:j < u.length:=(Ef.mp hx).1
    have hz:=sj e (inv (a9 u i sd)) (decide (sd=1)) (u.take j)
    have hz2:(u.take j).length≤12:=by rw [EB];omega
    have eS:=vt (u.take j) e (inv (a9 u i sd)) x (decide (sd=1))
    rw [← b_ hx] at eS
    rw [eS]
    generalize sld (u.take j) e (inv (a9 u i sd)) (decide (sd=1))=Z at hz ⊢
    generalize inv (a9 u i sd)=g
    refine ⟨_,rfl,_,rfl,rfl,_,rfl,?_⟩
    show if decide (tx [x]=tx [g])=true then _ else _
    rw [j6]
    refine iO (fun h=>?_) (fun h=>?_)
    ·have h:x=g:=by simpa using h
     refine ⟨_,rfl,_,rfl,_,rfl,_,_,_,rfl,rfl,hw,ae,_,rfl,_,_,rfl,rfl,(by rw [ah];show 1+1≤_;omega),?_⟩
     refine ⟨_,rfl,_,rfl,_,rfl,_,_,_,rfl,rfl,hw,ae,_,_,rfl,rfl,(by rw [ah];show 1+1≤_;omega),(au (n:=2) (by decide)),fun p hp=>?_⟩
     refine ⟨_,rfl,rfl,.inr ⟨_,rfl,p,_,_,_,rfl,rfl,SqL.of ag,yR _ _ sd,?_⟩⟩
     rw [if_pos h]
     cases decide (sd=1) with
     | true =>
      refine ⟨_,_,rfl,rfl,(by rw [ig,aN,ah,ah,Ec];show _+(1+1)≤_;omega),?_⟩
      rw [ig,aN,aN]
      exact ⟨_,rfl,s3.then hp⟩
     | false =>
      refine ⟨_,_,rfl,rfl,(by rw [ig,aN,ah,ah,Ec];show _+(1+1)≤_;omega),?_⟩
      rw [ig,aN,aN]
      exact ⟨_,rfl,s3.then hp⟩
    ·have h:¬ x=g:=by simpa using h
     rw [if_neg h]
     refine ⟨_,rfl,_,rfl,_,rfl,_,_,_,rfl,rfl,hw,ae,rfl,_,rfl,?_⟩
     show if (!decide (tx [x]=tx [e]))=true then _ else _
     rw [j6]
     refine iO (fun h2=>?_) (fun h2=>?_)
     ·have h2:¬ x=e:=by simpa using h2
      rw [if_neg h2]
      refine ⟨_,rfl,_,rfl,_,_,rfl,rfl,(by rw [ah,ah];show _+1≤_;omega),?_⟩
      rw [aN]
      exact ⟨_,rfl,s3⟩
     ·have h2:x=e:=by simpa using h2
      rw [if_pos h2,Fs]
      exact ⟨_,rfl,s3⟩
   ·rintro σ H3 ⟨v,rfl,s3⟩
    rw [bw,Fx]
    exact ⟨_,rfl,k2 _ s3 h⟩
end
section
variable {P:Program} {w:World} {K:PySem.W.Frag} {mg:Str→Option Value} {base:Heap} {aB:Addr}
open Su
theorem vv (Rs:List (List L))(v:List L):atI ((Rs++[v]).map tx) ((((Rs++[v]).map tx).length:Int) - 1)=some (tx v):=by
 have hl:((Rs++[v]).map tx).length=Rs.length+1:=by simp
 have:=fb (xs:=(Rs++[v]).map tx) (j:=Rs.length) (v:=tx v) (by simp)
 rw [hl,show ((Rs.length+1:Nat):Int) - 1=(Rs.length:Int) by omega]
 exact this
theorem yT {r:Int}(h0:0≤r)(h1:r < 2):∃ sd:Int,atI [V.int 1,V.int (-1)] r=some (.int sd)∧(sd=1 ∨ sd = -1):=by
 have:r=0 ∨ r=1:=by omega
 rcases this with rfl | rfl
 ·exact ⟨1,rfl,.inl rfl⟩
 ·exact ⟨-1,rfl,.inr rfl⟩
abbrev jC:Stmt:=top 48
theorem sq:aC ["_law_feed_here","_law_row","_law_most","_law_slides_here","_law_rows","_law_k","_law_place","_law_side","_law_after"] ["_law_feed_here","_law_row","_law_most"] (aq jC):=⟨rfl,rfl,rfl,by decide +kernel,rfl,by decide +kernel,by decide +kernel⟩
theorem vw (D:Df K mg "_law_slides" jC)(T:Bt K w mg aB)(Ku:Fnc P w K mg base "_law_draw" ["_law_feed_here","_law_many"] 1 dH)(KF:Fnc P w K mg base "_law_slid" ["_law_row","_law_place","_law_side"] 2 gO):Fnc P w K mg base "_law_slides" ["_law_feed_here","_law_row","_law_most"] 3 lN:=by
 have sc:=sq
 refine D.ok sc (fun _ _ _ _ _ _ us hl=>by obtain ⟨_,_,_,rfl⟩:=oA hl;rfl) (fun vs H Q E h=>?_) (fun f Kv A outer s H vs Q E hr h=>?_)
 ·obtain ⟨d,u,mm,rfl,_⟩:=h
  rfl
 ·obtain ⟨d,u,mm,rfl,m16,F,U,k⟩:=h
  have KJ:=aT
  have hlu:=U.le
  have hlp:=FM.mpr U.ne
  have hw:(toS u).length≤sizeLine:=by rw [ah];omega
  refine ⟨_,(JF (JM (3) sc.nd rfl (Or.inl rfl) (JV af)) (JF (JM (4) sc.nd rfl (Or.inl rfl) (JV (JP (pv 1) af))) (JF (J1 EU rfl (Ko rfl T.range (JP (JI hV (Kd Ku hr (by decide) rfl (JP (pv 0) (JP (JI bC (pv 2) aj) af))) (JS gq (by rfl) T.int pK (JP (JW zx (JO ay (by rfl) T.len Ep (JP (pv 1) af)) aj (aM _)) af))) af)) (J0 (5) sc.nd rfl (Or.inl rfl)) (JF (JM (6) sc.nd rfl (Or.inl rfl) (Kd Ku hr (by decide) rfl (JP (pv 0) (JP (JO ay (by rfl) T.len Ep (JP (pv 1) af)) af)))) (JF (JM (7) sc.nd rfl (Or.inl rfl) (JN aZ (JV (JP aj (JP (J_ eG aj) af))) (Kd Ku hr (by decide) rfl (JP (pv 0) (JP aj af))) (fun _ _=>rfl))) (JF (JM (8) sc.nd rfl (Or.inl rfl) (Kd KF hr (by decide) rfl (JP (JN aZ (pv 4) (JI fF (JO aE (by rfl) T.len Ep (JP (pv 4) af)) aj) (fun _ _=>rfl)) (JP (pv 6) (JP (pv 7) af))))) (JQ (JK (JL oU (pv 8) hJ (aM _)) (JF (Ka (JX EY Fi Fj bQ (pv 3) (JP (Kp (JP (pv 6) (JP (pv 7) af))) af))) (JQ (Ka (JX EY Fi Fj bQ (pv 4) (JP (pv 8) af))))) aI)))))) (JQ (JR (Kp (JP (pv 3) (JP (pv 4) af)))))))),?_⟩
  refine ⟨(by show 0≤sizeLine;decide),fun l1 Li=>?_⟩
  have n1:=F.ne Li
  have s1:av H (upd H l1 (.lst [])):=av.new Li
  have f1:(upd H l1 (.lst [])) l1=some (.lst (([]:List Addr).map V.ref)):=ag
  generalize upd H l1 (.lst [])=H1 at s1 f1 ⊢
  refine ⟨_,rfl,(au (n:=1) (by decide)),fun l2 KS=>?_⟩
  have hl20:=none_of s1 KS
  have n2:=F.ne hl20
  have n12:l1≠l2:=aw f1 KS
  have s2:=s1.trans (av.new (o:=.lst [tx u]) KS)
  have g1:=(av.new (o:=.lst [tx u]) KS) _ _ f1
  have f2:(upd H1 l2 (.lst [tx u])) l2=some (.lst (([]++[u]:List (List L)).map tx)):=ag
  generalize upd H1 l2 (.lst [tx u])=H2 at s2 f2 g1 ⊢
  have F2:=F.same s2
  refine ⟨_,rfl,_,rfl,_,_,rfl,rfl,d,_,rfl,F2,by omega,by omega,fun r H3 r0 r1 F3 sb3=>?_⟩
  have g1:=sb3 _ _ n1 g1
  have f2:=sb3 _ _ n2 f2
  have sb3:a_ d H H3:=s2.b.trans sb3
  have hmul:∀ b:Bool,∃ m:Nat,r*(if b=true then 1 else 0)=(m:Int)∧m≤mm:=by
   intro b
   cases b with
   | false=>exact ⟨0,by simp,E5 _⟩
   | true=>exact ⟨r.toNat,by rw [if_pos rfl];omega,by omega⟩
  refine ⟨_,rfl,_,rfl,hw,_,_,rfl,rfl,.inr ⟨_,rfl,_,_,rfl,rfl,?_,?_⟩⟩
  ·cases decide ((2:Int) < ((toS u).length:Int)) with
   | true=>exact Or.inr ⟨by decide,by decide⟩
   | false=>exact Or.inr ⟨by decide,by decide⟩
  obtain ⟨m,em,hm⟩:=hmul (decide ((2:Int) < ((toS u).length:Int)))
  rw [em]
  refine ⟨_,rfl,by omega,by omega,?_⟩
  rw [EH]
  refine bP (lo:=0) (n:=m) (fun i σ H'=>∃ (vk v6 v7 v8:Option V) (ss:List Sd) (ps:List Addr) (Rs:List (List L)) (v:List L),σ = [some (.ref d),some (tx u),some (.int (mm:Int)),some (.ref l1),some (.ref l2),vk,v6,v7,v8] ∧
   H' l1=some (.lst (ps.map V.ref))∧H' l2=some (.lst ((Rs++[v]).map tx))∧Rs.length=ss.length∧(v.Perm u∧wlk u ss=some v∧kz u ss (Rs++[v]))∧lC H' ps ss∧(∀ s∈ss,s.2=1 ∨ s.2 = -1)∧ss.length≤i∧Fd H' d∧a_ d H H') ⟨none,none,none,none,[],[],[],u,rfl,g1,f2,rfl,⟨.refl _,rfl,uU u⟩,lC.nil _,(fun _ h=>by cases h),Eg _,F3,sb3⟩ ?_ ?_
  ·rintro i σ H4 hi ⟨vk,v6,v7,v8,ss,ps,Rs,v,rfl,q1,q2,hR,hP,hS,hD,hss,F4,Ln⟩
   obtain ⟨pv,hwk,hrk⟩:=hP
   have hlv:=pv.length_eq
   have srf:=U.perm pv
   refine ⟨_,rfl,_,rfl,_,rfl,hw,d,_,rfl,F4,by rw [ah];omega,by rw [ah];omega,fun pl H5 p0 p1 F5 sb5=>?_⟩
   rw [ah] at p1
   obtain ⟨pl,rfl⟩:=ET p0
   have q1:=sb5 _ _ (F4.nl q1) q1
   have q2:=sb5 _ _ (F4.nl q2) q2
   have hS:=hS.to (H':=H5) fun b xs e=>sb5 _ _ (F4.neT e) e
   have sb5:=Ln.trans sb5
   refine ⟨_,rfl,(au (n:=2) (by decide)),fun p hp=>?_⟩
   have np:=F5.ne hp
   have sp:av H5 (upd H5 p (.lst [.int 1,.int (-1)])):=av.new hp
   have fp:(upd H5 p (.lst [.int 1,.int (-1)])) p=some (.lst [.int 1,.int (-1)]):=ag
   have F6:=F5.same sp
   have sb6:=sb5.trans sp.b (d:=d)
   have q1:=sp _ _ q1
   have q2:=sp _ _ q2
   have hS:=hS.same sp
   refine ⟨_,rfl,d,_,rfl,F6,by decide,by decide,fun sr H7 t0 t1 F7 sb7=>?_⟩
   obtain ⟨sd,hsd,hs1⟩:=yT t0 t1
   refine ⟨p,_,_,_,rfl,rfl,SqL.of (sb7 _ _ np fp),hsd,?_⟩
   have q1:=sb7 _ _ (F6.nl q1) q1
   have q2:=sb7 _ _ (F6.nl q2) q2
   have hS:=hS.to (H':=H7) fun b xs e=>sb7 _ _ (F6.neT e) e
   have sb7:=sb6.trans sb7
   refine ⟨_,rfl,_,rfl,l2,_,rfl,.inl (SqL.of q2),_,_,rfl,rfl,l2,_,_,_,rfl,rfl,SqL.of q2,vv Rs v,_,rfl,_,rfl,v,(pl:Int),sd,rfl,srf.ne,by omega,fun H8 s8=>?_⟩
   cases e:slW v (pl:Int) sd with
   | none =>
    refine ⟨_,rfl,rfl,_,rfl,k8 rfl ?_⟩
    exact ⟨_,_,_,_,ss,ps,Rs,v,rfl,s8 _ _ q1,s8 _ _ q2,hR,⟨pv,hwk,hrk⟩,hS.same s8,hD,by omega,F7.same s8,sb7.trans s8.b⟩
   | some v2 =>
    refine ⟨_,rfl,rfl,_,rfl,jJ rfl ?_⟩
    have pv2:=(eR srf e).trans pv
    have q1:=s8 _ _ q1
    have q2:=s8 _ _ q2
    have hS:=hS.same s8
    have F8:=F7.same s8
    have sb8:=sb7.trans s8.b (d:=d)
    refine ⟨_,rfl,.inl ⟨rfl,_,SqL.of q1⟩,_,rfl,_,rfl,(au (n:=2) (by decide)),fun t ht=>?_⟩
    have st:av H8 (upd H8 t (.tup [.int (pl:Int),.int sd])):=av.new ht
    have ft:(upd H8 t (.tup [.int (pl:Int),.int sd])) t=some (.tup [.int (pl:Int),.int sd]):=ag
    have q1:=st _ _ q1
    have q2:=st _ _ q2
    have hS:=hS.same st
    have F9:=F8.same st
    have sb9:=sb8.trans st.b (d:=d)
    generalize upd H8 t (.tup [.int (pl:Int),.int sd])=H9 at ft q1 q2 hS F9 sb9 ⊢
    have hps:=hS.len
    refine ⟨l1,_,_,rfl,rfl,q1,(by rw [Ea];omega),?_⟩
    have tupk:∀ {G:Hp} {l:Addr} {xs ys:List V} {o:HO},G l=some (.lst xs)→∀ b zs,G b=some (.tup zs)→(upd G l o) b=some (.tup zs):=fun {G l xs ys o} hl b zs e=>by
     rw [ar (gX e hl (by intro z;cases z))];exact e
    have ft:=tupk (ys:=[]) (o:=.lst (ps.map V.ref++[.ref t])) q1 _ _ ft
    have hS:=hS.to (H':=upd H9 l1 (.lst (ps.map V.ref++[.ref t]))) (tupk (ys:=[]) q1)
    have F10:=rL (o:=.lst (ps.map V.ref++[.ref t])) F9 q1 n1
    have q2:(upd H9 l1 (.lst (ps.map V.ref++[.ref t]))) l2=_:=(ar n12.symm).trans q2
    have q1:(upd H9 l1 (.lst (ps.map V.ref++[.ref t]))) l1=some (.lst ((ps++[t]).map V.ref)):=by rw [EG];exact ag
    have sb10:a_ d H (upd H9 l1 (.lst (ps.map V.ref++[.ref t]))):=fun b o nb e=>by rw [ar (aw e Li)];exact sb9 _ _ nb e
    generalize upd H9 l1 (.lst (ps.map V.ref++[.ref t]))=H10 at ft q1 q2 hS F10 sb10 ⊢
    refine ⟨_,rfl,.inl ⟨rfl,_,SqL.of q2⟩,_,rfl,l2,_,_,rfl,rfl,q2,(by rw [Ea,Ec,En];omega),?_⟩
    refine ⟨_,_,_,_,ss++[((pl,sd):Sd)],ps++[t],Rs++[v],v2,rfl,?_,?_,?_,?_,?_,?_,?_,?_,?_⟩
    ·rw [ar n12];exact q1
    ·rw [ag,EG,EG,EG]
     rfl
    ·rw [Ec,Ec,hR];rfl
    ·have ew:wlk u (ss++[((pl,sd):Sd)])=some v2:=by rw [m_ hwk];exact e
     exact ⟨pv2,ew,q8 hrk hR ew⟩
    ·exact (hS.snoc (s:=((pl,sd):Sd)) ft).to (tupk (ys:=[]) q2)
    ·intro x hx
     rcases EL.mp hx with hx | hx
     ·exact hD x hx
     ·rw [Eu.mp hx];exact hs1
    ·rw [Ec,En];omega
    ·exact qO F10 q2 n2
    ·exact fun b o nb e=>by rw [ar (aw e hl20)];exact sb10 _ _ nb e
  ·rintro σ H4 ⟨vk,v6,v7,v8,ss,ps,Rs,v,rfl,q1,q2,hR,hP,hS,hD,hss,F4,Ln⟩
   refine ⟨_,rfl,_,rfl,(au (n:=2) (by decide)),fun rr hrr=>?_⟩
   have sn:av H4 (upd H4 rr (.tup [.ref l1,.ref l2])):=av.new hrr
   exact k rr l1 l2 ss ps Rs v _ (F4.same sn) (Ln.trans sn.b) ag (sn _ _ q1) (hS.same sn) hD (by omega) (sn _ _ q2) hR hP.2.1 hP.1 hP.2.2
end
@[irreducible] def sml (m:Int):List L:=([0,1,2,3,4,5]:List L).take m.toNat
theorem kI {m:Int}(h:1≤m):Txt.slice ("abcdef":Str) none (some m)=toS (sml m):=by
 rw [← tT,a7,gE _ (by omega)]
 unfold sml
 rfl
theorem yU {k x:Nat}(hk:k≤6)(hx:x < k):(sml (k:Int))[x]? = some (lt6 x):=by
 have q:∀ x:Fin 6,([0,1,2,3,4,5]:List L)[x.val]? = some (lt6 x.val):=by decide
 unfold sml
 rw [Jb (by omega)]
 exact q ⟨x,by omega⟩
theorem su {k:Nat}(hk:k≤6):(sml (k:Int)).length=k:=by
 unfold sml
 rw [EB]
 show min _ 6=k
 omega
theorem jD {k:Nat}(hk:k≤6):sml (k:Int)=(List.range k).map lt6:=by
 apply Gu
 intro i
 by_cases hi:i < k
 ·rw [yU hk hi,Er,Ga hi]
  rfl
 ·rw [Fu (by rw [su hk];omega),Fu (by simp;omega)]
section
variable {P:Program} {w:World} {K:PySem.W.Frag} {mg:Str→Option Value} {base:Heap} {aB:Addr}
open Su
theorem A6 {n:Nat}{h:L→L}{i:Nat}(hi:i < n):((nmS n h).map tx)[i]? = some (tx [h (lt6 i)]):=by
 unfold nmS
 rw [Er,Er,Ga hi];rfl
theorem nr (x:L):(x.val < 6→lt6 (x.val % 6)=x)∧(¬ x.val < 6→lt6 (x.val % 6)=inv x):=by revert x; decide
abbrev jE:Stmt:=top 50
theorem sv:aC ["_law_row","_law_place","_law_names_here","_law_found","_law_sign","_law_own"] ["_law_row","_law_place","_law_names_here"] (aq jE):=⟨rfl,rfl,rfl,by decide +kernel,rfl,by decide +kernel,by decide +kernel⟩
theorem vx (D:Df K mg "_law_called" jE)(T:Bt K w mg aB)(KA:Fnc P w K mg base "_law_back" ["_law_word"] 1 sN):Fnc P w K mg base "_law_called" ["_law_row","_law_place","_law_names_here"] 2 gh:=by
 have sc:=sv
 refine D.ok sc (fun _ _ _ _ _ _ us hl=>by obtain ⟨_,_,_,rfl⟩:=oA hl;rfl) (fun vs H Q E h=>?_) (fun f Kv A outer s H vs Q E hr h=>?_)
 ·obtain ⟨n,p,v,nm,h,rfl,_⟩:=h
  rfl
 ·obtain ⟨n,p,v,nm,h,rfl,hnm,R,hp,hiv,k⟩:=h
  have KJ:=aT
  have vl:=R.row.len
  have h6:=R.h6
  have hvl:(toS v).length≤sizeLine:=by rw [ah];omega
  have RB:Rw n (rot v p):=R.perm (jj v p)
  have bl:=RB.row.len
  refine ⟨_,(JF (JM (3) sc.nd rfl (Or.inl rfl) ax) (JF (J1 EU rfl (J5 (JI aU (JT dm (pv 0) (JU (pv 1)) aX) (JT dm (pv 0) aX (JU (pv 1))))) (J0 (4) sc.nd rfl (Or.inl rfl)) (JF (JM (5) sc.nd rfl (Or.inl rfl) (JN aO (pv 2) (JX EC Ic Ie jc ax (JP (J6 EC GK GL fY (pv 4)) af)) (fun _ _=>rfl))) (JQ (JM (3) sc.nd rfl (Or.inl rfl) (JI aU (pv 3) (@fT _ _ _ _ _ _ _ _ (JL jM (pv 4) ax rfl) (pv 5) (Kd KA hr (by decide) rfl (JP (pv 5) af)))))))) (JQ (JR (pv 3))))),?_⟩
  refine ⟨_,rfl,_,rfl,_,rfl,_,rfl,hvl,_,rfl,_,rfl,_,rfl,_,rfl,hvl,_,_,rfl,rfl,?_,?_⟩
  all_goals rw [a7,a7,cX _ (by omega),gE _ (by omega),EH]
  ·rw [ah,ah,Fv,EB];omega
  rw [aN]
  have er:v.drop p++v.take p=rot v p:=rfl
  rw [er]
  obtain ⟨b,hb⟩:∃ b,b=rot v p:=⟨_,rfl⟩
  rw [← hb] at RB bl k ⊢
  refine ⟨_,rfl,iV (z:=toS b) (fun i σ H'=>∃ c4 c5,σ = [some (tx v),some (.int (p:Int)),some (.ref nm),some (tx ((b.take i).map h)),c4,c5]∧av H H') ⟨none,none,rfl,av.refl _⟩ ?_ ?_⟩
  ·rintro i c σ H1 hc ⟨c4,c5,rfl,s1⟩
   obtain ⟨x,hx,e⟩:=cV hc
   rw [e]
   have xn:=RB.row.ins x (Es hx)
   have hi:i < b.length:=(Ef.mp hx).1
   have hsl:((b.take i).map h).length≤12:=by rw [Ea,EB];omega
   have at1:atI ((nmS n h).map tx) ((x.val % 6:Nat):Int)=some (tx [h (lt6 (x.val % 6))]):=fb (A6 xn)
   refine ⟨_,rfl,rfl,_,rfl,rfl,_,rfl,rfl,(by rw [ah];show 1≤5592405;decide),_,_,rfl,rfl,?_⟩
   rw [uJ]
   refine ⟨nm,_,_,_,rfl,rfl,SqT.of (s1 _ _ hnm),at1,?_⟩
   refine ⟨_,rfl,_,rfl,_,_,rfl,rfl,_,rfl,?_⟩
   rw [mG]
   have eI:∀ y,y=h x→tx ((b.take i).map h++[y])=tx ((b.take (i+1)).map h):=fun y e=>by rw [b_ hx,EG,e];rfl
   refine iO (fun h'=>?_) (fun h'=>?_)
   ·have h':x.val < 6:=by simpa using h'
    refine ⟨_,rfl,_,_,rfl,rfl,(by rw [ah,ah];show _+1≤_;omega),?_⟩
    rw [aN]
    refine ⟨some (.str (toS [x])),some (tx [h (lt6 (x.val % 6))]),?_,s1⟩
    rw [← eI _ (show h (lt6 (x.val % 6))=h x by rw [(nr x).1 h'])]
    rfl
   ·have h':¬ x.val < 6:=by simpa using h'
    refine ⟨_,rfl,[h (lt6 (x.val % 6))],rfl,(by show 1≤5000;decide),fun H2 s2=>⟨_,_,rfl,rfl,(by rw [ah,ah,cL];show _+1≤_;omega),?_⟩⟩
    rw [aN,eO]
    refine ⟨some (.str (toS [x])),some (tx [h (lt6 (x.val % 6))]),?_,s1.trans s2⟩
    rw [← eI _ (show inv (h (lt6 (x.val % 6)))=h x by rw [(nr x).2 h',hiv,bB])]
    rfl
  ·rintro σ H1 ⟨c4,c5,rfl,s1⟩
   rw [bw,Fx]
   exact ⟨_,rfl,k _ s1⟩
def nmF (n:Nat)(cs:List L)(x:L):L:=if x.val % 6 < n then (if x.val < 6 then cs.getD (x.val % 6) 0 else inv (cs.getD (x.val % 6) 0)) else x
theorem jF:∀ x:L,(inv x).val % 6=x.val % 6∧((inv x).val < 6 ↔ ¬ x.val < 6):=by decide
theorem yV:∀ x y:L,x.val % 6=y.val % 6→x=y ∨ x=inv y:=by decide
theorem A7 {n:Nat}{cs:List L}(hl:cs.length=n)(hp:(cs.map fun c:L=>c.val % 6).Perm (List.range n)):Nm n (nmF n cs)∧nmS n (nmF n cs)=cs.map fun c=>[c]:=by
 have h6:∀ x:L,x.val % 6 < 6:=fun x=>Nat.mod_lt _ (by decide)
 have cget:∀ i,i < n→cs[i]? = some (cs.getD i 0):=fun i hi=>by
  rw [Ew,Ee (by omega)];rfl
 have cmod:∀ i,i < n→(cs.getD i 0).val % 6 < n:=fun i hi=>by
  have:(cs.getD i 0).val % 6∈List.range n:=hp.mem_iff.mp (ED.mpr ⟨_,Es (cget i hi),rfl⟩)
  exact FH.mp this
 have cinj:∀ i j,i < n→j < n→(cs.getD i 0).val % 6=(cs.getD j 0).val % 6→i=j:=fun i j hi hj e=>by
  have nd:(cs.map fun c:L=>c.val % 6).Nodup:=hp.nodup_iff.mpr GG
  have key:∀ k,k < n→(cs.map fun c:L=>c.val % 6).idxOf ((cs.getD k 0).val % 6)=k:=fun k hk=>by
   have g:(cs.map fun c:L=>c.val % 6)[k]? = some ((cs.getD k 0).val % 6):=by rw [Er,cget k hk];rfl
   obtain ⟨h1,h2⟩:=Ef.mp g
   rw [← h2]
   exact List.Nodup.idxOf_getElem nd _ h1
  rw [← key i hi,← key j hj,e]
 have hm:∀ x:L,x.val % 6 < n→(nmF n cs x).val % 6=(cs.getD (x.val % 6) 0).val % 6:=fun x hx=>by
  unfold nmF
  rw [if_pos hx]
  split
  ·rfl
  ·exact (jF _).1
 have hiv:∀ x,nmF n cs (inv x)=inv (nmF n cs x):=fun x=>by
  unfold nmF
  obtain ⟨m1,m2⟩:=jF x
  rw [m1]
  by_cases c:x.val % 6 < n
  ·rw [if_pos c,if_pos c]
   by_cases d:x.val < 6
   ·rw [if_pos d,if_neg (fun q=>m2.mp q d)]
   ·rw [if_neg d,if_pos (m2.mpr d),bB]
  ·rw [if_neg c,if_neg c]
 refine ⟨⟨hiv,fun x y hx hy e=>?_,fun x hx=>by rw [hm x hx];exact cmod _ hx⟩,?_⟩
 ·have e2:=cinj _ _ hx hy (by rw [← hm x hx,← hm y hy,e])
  rcases yV x y e2 with q | q
  ·exact q
  ·subst q
   rw [hiv] at e
   exact absurd e (mD _)
 ·refine Gu fun i=>?_
  by_cases hi:i < n
  ·unfold nmS
   rw [Er,Ga hi,Er,cget i hi]
   show some [nmF n cs (lt6 i)]=some [cs.getD i 0]
   by_cases i6:i < 6
   ·have v:=cZ i6
    unfold nmF
    rw [v,Jl i6,if_pos hi,if_pos i6]
   ·-- there are no more than six
    exfalso
    have:(6:Nat)∈cs.map fun c:L=>c.val % 6:=hp.mem_iff.mpr (FH.mpr (by omega))
    obtain ⟨c,_,e⟩:=ED.mp this
    have:=h6 c
    omega
  ·rw [Fu (by rw [nmS_len];omega),Fu (by rw [Ea];omega)]
abbrev jG:Stmt:=top 51
theorem sx:aC ["_law_feed_here","_law_many","_law_left","_law_found","_law_k","_law_sign"] ["_law_feed_here","_law_many"] (aq jG):=⟨rfl,rfl,rfl,by decide +kernel,rfl,by decide +kernel,by decide +kernel⟩
theorem vz (D:Df K mg "_law_names" jG)(T:Bt K w mg aB)(Ku:Fnc P w K mg base "_law_draw" ["_law_feed_here","_law_many"] 1 dH):Fnc P w K mg base "_law_names" ["_law_feed_here","_law_many"] 2 jn:=by
 have sc:=sx
 refine D.ok sc (fun _ _ _ _ _ _ us hl=>by obtain ⟨_,_,rfl⟩:=lU hl;rfl) (fun vs H Q E h=>?_) (fun f Kv A outer s H vs Q E hr h=>?_)
 ·obtain ⟨d,n,rfl,_⟩:=h
  rfl
 ·obtain ⟨d,n,rfl,F,h1,h6,k⟩:=h
  have KJ:=aT
  refine ⟨_,(JF (JM (2) sc.nd rfl (Or.inl rfl) (JS (@bI _ rfl) (by rfl) T.list fN (JP (JT dm ax aX (JU (pv 1))) af))) (JF (JM (3) sc.nd rfl (Or.inl rfl) (JV af)) (JF (J1 EU rfl (Ko rfl T.range (JP (pv 1) af)) (J0 (4) sc.nd rfl (Or.inl rfl)) (JF (JM (5) sc.nd rfl (Or.inl rfl) (JX EY Ia Ib mn (pv 2) (JP (Kd Ku hr (by decide) rfl (JP (pv 0) (JP (JO aE (by rfl) T.len Ep (JP (pv 2) af)) af))) af))) (JQ (Ka (JX EY Fi Fj bQ (pv 3) (JP (JN aZ (JV (JP (pv 5) (JP (J6 EC GI GJ fX (pv 5)) af))) (Kd Ku hr (by decide) rfl (JP (pv 0) (JP aj af))) (fun _ _=>rfl)) af)))))) (JQ (JR (JS cS (by rfl) T.tuple bN (JP (pv 3) af))))))),?_⟩
  refine ⟨_,rfl,_,rfl,_,rfl,(by rw [mK];omega),?_⟩
  rw [kI (by omega)]
  have hsl:=su h6
  refine ⟨_,rfl,(by rw [ah,hsl];omega),fun l hl=>?_⟩
  rw [iE]
  have nl:=F.ne hl
  have f0:(upd H l (.lst (dq (sml (n:Int))))) l=some (.lst (dq (sml (n:Int)))):=ag
  have s0:=av.new (o:=.lst (dq (sml (n:Int)))) hl
  generalize upd H l (.lst (dq (sml (n:Int))))=H0 at f0 s0 ⊢
  refine ⟨(by show 0≤sizeLine;decide),fun l2 KS=>?_⟩
  have hl20:=none_of s0 KS
  have n2:=F.ne hl20
  have n12:l≠l2:=aw f0 KS
  have s1:=s0.trans (av.new (o:=.lst []) KS)
  have f1:=av.new (o:=.lst []) KS _ _ f0
  have g1:(upd H0 l2 (.lst [])) l2=some (.lst ((([]:List L).map fun c=>[c]).map tx)):=ag
  generalize upd H0 l2 (.lst [])=H1 at s1 f1 g1 ⊢
  refine ⟨_,rfl,_,rfl,by omega,by omega,?_⟩
  rw [EH]
  have p0:((([]:List L).map fun c:L=>c.val % 6)++(sml (n:Int)).map fun c:L=>c.val % 6).Perm (List.range n):=by
   rw [jD h6,Fl]
   refine List.Perm.of_eq ?_
   show (List.range n).map _=_
   refine (List.map_congr_left (g:=id) fun i hi=>?_).trans (List.map_id _)
   have:=FH.mp hi
   show (lt6 i).val % 6=i
   rw [cZ (by omega),Jl (by omega)]
  have q0:∀ y∈sml (n:Int),y.val < 6:=by
   rw [jD h6]
   intro y hy
   obtain ⟨i,hi,rfl⟩:=ED.mp hy
   have:=FH.mp hi
   rw [cZ (by omega)]
   omega
  refine bP (lo:=0) (n:=n) (fun i σ H'=>∃ (v4 v5:Option V) (left cs:List L),σ = [some (.ref d),some (.int (n:Int)),some (.ref l),some (.ref l2),v4,v5]∧H' l=some (.lst (dq left))∧H' l2=some (.lst ((cs.map fun c=>[c]).map tx))∧((cs.map fun c:L=>c.val % 6)++left.map fun c:L=>c.val % 6).Perm (List.range n)∧(∀ y∈left,y.val < 6)∧cs.length=i∧Fd H' d∧a_ d H H')
   ⟨none,none,sml (n:Int),[],rfl,f1,g1,p0,q0,rfl,F.same s1,s1.b⟩ ?_ ?_
  ·rintro i σ H2 hi ⟨v4,v5,left,cs,rfl,f2,g2,pW,qW,hcs,F2,sb2⟩
   have hll:left.length=n - i:=by
    have:=pW.length_eq
    rw [Ec,Ea,Ea,FB,hcs] at this
    omega
   refine ⟨_,rfl,.inl ⟨rfl,_,SqL.of f2⟩,_,rfl,_,rfl,l,_,rfl,.inl (SqL.of f2),d,_,rfl,F2,by rw [bb];omega,by rw [bb];omega,fun r H3 r0 r1 F3 sb3=>?_⟩
   rw [bb] at r1
   have f3:=sb3 _ _ nl f2
   have g3:=sb3 _ _ n2 g2
   have hrk:r.toNat < left.length:=by omega
   have gy:left[r.toNat]? = some left[r.toNat]:=Ee hrk
   generalize left[r.toNat]=y at gy
   have hy6:=qW y (Es gy)
   refine ⟨l,_,r,r.toNat,tx [y],rfl,rfl,f3,by omega,by omega,(kT (by unfold ixN;rw [if_pos r0,if_pos (by rw [bb];omega)])).1,(by unfold dq;rw [Er,gy];rfl),?_⟩
   rw [iF]
   have hy:V.str (toS [y])∈dq left:=by
    unfold dq
    exact ED.mpr ⟨y,Es gy,rfl⟩
   have F4:=rT (o:=.lst (dq (left.eraseIdx r.toNat))) F3 f3 nl hy
   have Ln:a_ d H (upd H3 l (.lst (dq (left.eraseIdx r.toNat)))):=fun b o n' e=>by
    rw [ar (aw e hl)]
    exact sb3 _ _ n' (sb2 _ _ n' e)
   have f4:(upd H3 l (.lst (dq (left.eraseIdx r.toNat)))) l=some (.lst (dq (left.eraseIdx r.toNat))):=ag
   have g4:(upd H3 l (.lst (dq (left.eraseIdx r.toNat)))) l2=_:=(ar n12.symm).trans g3
   generalize upd H3 l (.lst (dq (left.eraseIdx r.toNat)))=H4 at F4 Ln f4 g4 ⊢
   refine ⟨_,rfl,.inl ⟨rfl,_,SqL.of g4⟩,_,rfl,_,rfl,rfl,_,rfl,rfl,(by rw [ah];show 1≤5592405;decide),(au (n:=2) (by decide)),fun p hp=>?_⟩
   rw [gG hy6]
   have sp:=av.new (o:=.lst [tx [y],tx [inv y]]) hp
   have fp:(upd H4 p (.lst [tx [y],tx [inv y]])) p=some (.lst [tx [y],tx [inv y]]):=ag
   have np:=F4.ne hp
   have F5:=F4.same sp
   have f5:=sp _ _ f4
   have g5:=sp _ _ g4
   have sb5:=Ln.trans sp.b (d:=d)
   refine ⟨_,rfl,d,_,rfl,F5,by decide,by decide,fun r2 H6 t0 t1 F6 sb6=>?_⟩
   have f6:=sb6 _ _ nl f5
   have g6:=sb6 _ _ n2 g5
   have fp6:=sb6 _ _ np fp
   have sb6:=sb5.trans sb6
   obtain ⟨z,hz,hz2⟩:∃ z:L,atI [tx [y],tx [inv y]] r2=some (tx [z])∧(z=y ∨ z=inv y):=by
    have:r2=0 ∨ r2=1:=by omega
    rcases this with rfl | rfl
    ·exact ⟨y,rfl,.inl rfl⟩
    ·exact ⟨inv y,rfl,.inr rfl⟩
   have zm:z.val % 6=y.val % 6:=by rcases hz2 with e | e <;> rw [e];exact (jF y).1
   refine ⟨p,_,_,_,rfl,rfl,SqL.of fp6,hz,l2,_,_,rfl,rfl,g6,(by rw [Ea,Ea,hcs];omega),?_⟩
   refine ⟨_,_,left.eraseIdx r.toNat,cs++[z],rfl,?_,?_,?_,fun x hx=>qW x (List.mem_of_mem_eraseIdx hx),by rw [Ec,hcs];rfl,qO F6 g6 n2,fun b o n' e=>?_⟩
   ·rw [ar n12];exact f6
   ·rw [ag,EG,EG];rfl
   ·refine List.Perm.trans ?_ pW
    rw [EG,HK]
    refine List.Perm.append_left _ ?_
    show ((z.val % 6)::(left.eraseIdx r.toNat).map fun c:L=>c.val % 6).Perm _
    rw [zm]
    exact ((fE gy).map fun c:L=>c.val % 6).symm
   ·rw [ar (aw e hl20)]
    exact sb6 _ _ n' e
  ·rintro σ H2 ⟨v4,v5,left,cs,rfl,f2,g2,pW,qW,hcs,F2,sb2⟩
   have hll:left.length=0:=by
    have:=pW.length_eq
    rw [Ec,Ea,Ea,FB,hcs] at this
    omega
   have:left=[]:=GF hll
   subst this
   rw [Hl,Fs] at pW
   obtain ⟨N,eN⟩:=A7 hcs pW
   refine ⟨_,rfl,l2,_,rfl,.inl ⟨SqL.of g2,fun t ht=>?_⟩⟩
   have st:=av.new (o:=.tup ((cs.map fun c=>[c]).map tx)) ht
   exact k t (nmF n cs) _ (by rw [ag,eN]) N (F2.same st) (sb2.trans st.b)
end
section
variable {P:Program} {w:World} {K:PySem.W.Frag} {mg:Str→Option Value} {base:Heap} {aB:Addr}
open Su
abbrev yW:Stmt:=top 52
theorem A8:aC ["_law_thing"] ["_law_thing"] (aq yW):=⟨rfl,rfl,rfl,by decide +kernel,rfl,by decide +kernel,by decide +kernel⟩
theorem CM (D:Df K mg "_law_is_whole" yW)(T:Bt K w mg aB)(Tbool:mg "bool" = none):Fnc P w K mg base "_law_is_whole" ["_law_thing"] 1 (eg K):=by
 have sc:=A8
 refine D.ok sc (fun _ _ _ _ _ _ us hl=>by obtain ⟨_,rfl⟩:=lT hl;rfl) (fun vs H Q E h=>?_) (fun f Kv A outer s H vs Q E hr h=>?_)
 ·obtain ⟨x,rfl,_⟩:=h
  rfl
 ·obtain ⟨x,rfl,⟨ty,e1,e2,hx⟩,k⟩:=h
  rw [hx] at k
  refine ⟨_,(JQ (JR (Ke (JO (@ba _ (K) rfl) (by rfl) T.isinstance aA (JP (pv 0) (JP (Kf (.ty "int") rfl T.int pK rfl) af))) (Kg (@oK _ _ _ _ (JO (@ba _ (K) rfl) (by rfl) T.isinstance aA (JP (pv 0) (JP (Kf (.ty "bool") rfl Tbool wB rfl) af)))))))),?_⟩
  refine ⟨_,rfl,_,_,_,_,rfl,ty,e1,_,rfl,?_⟩
  rename_i b1 b2
  cases b1 with
  | false=>exact nJ k
  | true=>exact pw ⟨_,rfl,_,_,_,_,rfl,ty,e2,_,rfl,k⟩
theorem A9:∀ n:Nat,n < 7→Txt.upper (toS ((List.range n).map lt6))=toS (bk ((List.range n).map lt6)).reverse:=by decide +kernel
theorem CN:∀ n:Nat,n < 7→toS ((List.range n).map lt6++(bk ((List.range n).map lt6)).reverse)=toS (sg (n:Int)):=by decide +kernel
theorem yX:∀ n:Nat,n < 7→sortedS (((List.range n).map lt6).map fun x=>toS [x])=true:=by decide +kernel
theorem yY:∀ x:L,Txt.lower (toS [x])=toS [lt6 (x.val % 6)]:=by decide +kernel
abbrev md:Stmt:=top 53
theorem vA:aC ["_law_row","_law_thing","_law_one","_law_small"] ["_law_row","_law_thing"] (aq md):=⟨rfl,rfl,rfl,by decide +kernel,rfl,by decide +kernel,by decide +kernel⟩
theorem yZ (D:Df K mg "_law_is_shape" md)(T:Bt K w mg aB)(K8:Fnc P w K mg base "_law_is_whole" ["_law_thing"] 1 (eg K)):Fnc P w K mg base "_law_is_shape" ["_law_row","_law_thing"] 2 js:=by
 have sc:=vA
 refine D.ok sc (fun _ _ _ _ _ _ us hl=>by obtain ⟨_,_,rfl⟩:=lU hl;rfl) (fun vs H Q E h=>?_) (fun f Kv A outer s H vs Q E hr h=>?_)
 ·obtain ⟨n,e,u,x,d,rfl,_⟩:=h
  rfl
 ·obtain ⟨n,e,u,x,d,rfl,U,hx,hd3,k⟩:=h
  have KJ:=aT
  have ul:=U.row.len
  have u6:=U.h6
  have n1:=U.h1
  have KU:(toS u).length≤sizeLine:=by rw [ah];omega
  refine ⟨_,(@ai _ _ _ _ _ (@a6 _ _ _ _ _ _ _ _ (@PW.pt _ _ _ (@cE _ _ _ _ _ _ _ (@bh _ _ _ _ (@aR _ _ _ (@ao _ _ _ _ _ _ _ _ _ (@ba _ (K) rfl) (by rfl) T.isinstance aA (@aa _ _ _ _ _ (pv 1) (@aa _ _ _ _ _ (@bo _ _ (.ty "tuple") _ _ rfl T.tuple bN rfl (by decide) (by decide)) af (by rfl)) (by rfl)) (by decide) (by decide) (by rfl) (by rfl)) (fun _=>rfl))) (@cE _ _ _ _ _ _ _ (@aG _ _ _ _ _ _ _ _ iH (@ao _ _ _ _ _ _ _ _ _ aE (by rfl) T.len Ep (@aa _ _ _ _ _ (pv 1) af (by rfl)) (by decide) (by decide) (by rfl) (by rfl)) aj (aM _)) (@dh _ _ _ _ (@bh _ _ _ _ (@aR _ _ _ (@ao _ _ _ _ _ _ _ _ _ (@ba _ (K) rfl) (by rfl) T.isinstance aA (@aa _ _ _ _ _ (@aK _ _ _ _ _ _ _ aO (pv 1) aj (fun _ _=>rfl)) (@aa _ _ _ _ _ (@bo _ _ (.ty "str") _ _ rfl T.str tX rfl (by decide) (by decide)) af (by rfl)) (by rfl)) (by decide) (by decide) (by rfl) (by rfl)) (fun _=>rfl))))))) (@ak _ _ _ (@aD _ _ _ _ bK)) aI) (@ai _ _ _ _ _ (@a6 _ _ _ _ _ _ _ _ (@aG _ _ _ _ _ _ _ _ cj (@aK _ _ _ _ _ _ _ aO (pv 1) aj (fun _ _=>rfl)) ax (aM _)) (@ak _ _ _ (@aD _ _ _ _ (@cH _ _ _ _ _ _ _ (@bE _ _ _ _ _ _ _ _ cj (@ao _ _ _ _ _ _ _ _ _ aE (by rfl) T.len Ep (@aa _ _ _ _ _ (pv 1) af (by rfl)) (by decide) (by decide) (by rfl) (by rfl)) aj (aM _)) (@cH _ _ _ _ _ _ _ (@aH _ _ _ _ _ _ _ _ _ _ _ K8 hr (by decide) rfl (@aa _ _ _ _ _ (@aK _ _ _ _ _ _ _ aO (pv 1) aj (fun _ _=>rfl)) af (by rfl)) (by decide) (by rfl) (by rfl)) (@dA _ _ _ _ _ (@aH _ _ _ _ _ _ _ _ _ _ _ K8 hr (by decide) rfl (@aa _ _ _ _ _ (@aK _ _ _ _ _ _ _ aO (pv 1) aj (fun _ _=>rfl)) af (by rfl)) (by decide) (by rfl) (by rfl))))))) aI) (@ai _ _ _ _ _ (@a6 _ _ _ _ _ _ _ _ (@PW.pt _ _ _ (@cE _ _ _ _ _ _ _ (@aG _ _ _ _ _ _ _ _ dW (@aK _ _ _ _ _ _ _ aO (pv 1) aj (fun _ _=>rfl)) ax (aM _)) (@cE _ _ _ _ _ _ _ (@aG _ _ _ _ _ _ _ _ dW (@ao _ _ _ _ _ _ _ _ _ aE (by rfl) T.len Ep (@aa _ _ _ _ _ (pv 1) af (by rfl)) (by decide) (by decide) (by rfl) (by rfl)) aj (aM _)) (@cE _ _ _ _ _ _ _ (@bh _ _ _ _ (@aR _ _ _ (@ao _ _ _ _ _ _ _ _ _ (@ba _ (K) rfl) (by rfl) T.isinstance aA (@aa _ _ _ _ _ (@aK _ _ _ _ _ _ _ aO (pv 1) aj (fun _ _=>rfl)) (@aa _ _ _ _ _ (@bo _ _ (.ty "tuple") _ _ rfl T.tuple bN rfl (by decide) (by decide)) af (by rfl)) (by rfl)) (by decide) (by decide) (by rfl) (by rfl)) (fun _=>rfl))) (@dh _ _ _ _ (@aG _ _ _ _ _ _ _ _ zx (@ao _ _ _ _ _ _ _ _ _ aE (by rfl) T.len Ep (@aa _ _ _ _ _ (@aK _ _ _ _ _ _ _ aO (pv 1) aj (fun _ _=>rfl)) af (by rfl)) (by decide) (by decide) (by rfl) (by rfl)) aj (aM _))))))) (@ak _ _ _ (@aD _ _ _ _ bK)) aI) (@ai _ _ _ _ _ (@bD _ _ _ _ _ _ _ _ EU rfl (@dC _ _ _ _ (@aK _ _ _ _ _ _ _ aO (pv 1) aj (fun _ _=>rfl))) (@aF _ _ (2) _ sc.nd rfl (Or.inl rfl) (by first | exact .inl rfl | exact .inr rfl | assumption)) (@ai _ _ _ _ _ (@a6 _ _ _ _ _ _ _ _ (@PW.pt _ _ _ (@cE _ _ _ _ _ _ _ (@bh _ _ _ _ (@aR _ _ _ (@ao _ _ _ _ _ _ _ _ _ (@ba _ (K) rfl) (by rfl) T.isinstance aA (@aa _ _ _ _ _ (pv 2) (@aa _ _ _ _ _ (@bo _ _ (.ty "tuple") _ _ rfl T.tuple bN rfl (by decide) (by decide)) af (by rfl)) (by rfl)) (by decide) (by decide) (by rfl) (by rfl)) (fun _=>rfl))) (@cE _ _ _ _ _ _ _ (@aG _ _ _ _ _ _ _ _ dW (@ao _ _ _ _ _ _ _ _ _ aE (by rfl) T.len Ep (@aa _ _ _ _ _ (pv 2) af (by rfl)) (by decide) (by decide) (by rfl) (by rfl)) aj (aM _)) (@cE _ _ _ _ _ _ _ (@bh _ _ _ _ (@aR _ _ _ (@aH _ _ _ _ _ _ _ _ _ _ _ K8 hr (by decide) rfl (@aa _ _ _ _ _ (@aK _ _ _ _ _ _ _ aO (pv 2) aj (fun _ _=>rfl)) af (by rfl)) (by decide) (by rfl) (by rfl)) (fun _=>rfl))) (@dh _ _ _ _ (@bh _ _ _ _ (@aR _ _ _ (@aH _ _ _ _ _ _ _ _ _ _ _ K8 hr (by decide) rfl (@aa _ _ _ _ _ (@aK _ _ _ _ _ _ _ aO (pv 2) aj (fun _ _=>rfl)) af (by rfl)) (by decide) (by rfl) (by rfl)) (fun _=>rfl)))))))) (@ak _ _ _ (@aD _ _ _ _ bK)) aI) (@ak _ _ _ (@a6 _ _ _ _ _ _ _ _ (@aG _ _ _ _ _ _ _ _ fJ (@aK _ _ _ _ _ _ _ aO (pv 2) aj (fun _ _=>rfl)) (@aP _ _ _ _ _ (@aa _ _ _ _ _ aj (@aa _ _ _ _ _ (@iG _ _ _ _ _ _ eG aj) af (by rfl)) (by rfl))) rfl) (@ak _ _ _ (@aD _ _ _ _ bK)) aI))) (by intro _ ;rfl)) (@ai _ _ _ _ _ (@a6 _ _ _ _ _ _ _ _ (@PW.pt _ _ _ (@cE _ _ _ _ _ _ _ (@bh _ _ _ _ (@aR _ _ _ (@aH _ _ _ _ _ _ _ _ _ _ _ K8 hr (by decide) rfl (@aa _ _ _ _ _ (@aK _ _ _ _ _ _ _ aO (pv 1) aj (fun _ _=>rfl)) af (by rfl)) (by decide) (by rfl) (by rfl)) (fun _=>rfl))) (@cE _ _ _ _ _ _ _ (@bh _ _ _ _ (@iI _ _ _ _ _ _ _ _ _ _ _ _ oS iH aj (@aK _ _ _ _ _ _ _ aO (pv 1) aj (fun _ _=>rfl)) (@ao _ _ _ _ _ _ _ _ _ ay (by rfl) T.len Ep (@aa _ _ _ _ _ (pv 0) af (by rfl)) (by decide) (by decide) (by rfl) (by rfl)) (by with_unfolding_all rfl))) (@dh _ _ _ _ (@bh _ _ _ _ (@aR _ _ _ (@ao _ _ _ _ _ _ _ _ _ (@ba _ (K) rfl) (by rfl) T.isinstance aA (@aa _ _ _ _ _ (@aK _ _ _ _ _ _ _ aO (pv 1) aj (fun _ _=>rfl)) (@aa _ _ _ _ _ (@bo _ _ (.ty "tuple") _ _ rfl T.tuple bN rfl (by decide) (by decide)) af (by rfl)) (by rfl)) (by decide) (by decide) (by rfl) (by rfl)) (fun _=>rfl))))))) (@ak _ _ _ (@aD _ _ _ _ bK)) aI) (@ai _ _ _ _ _ (@az _ _ (3) _ _ _ _ sc.nd rfl (Or.inr rfl) (@aQ _ _ _ _ _ _ _ _ _ _ dm ax aX (@aY _ _ _ (@aJ _ _ _ _ _ _ _ _ cR (@ao _ _ _ _ _ _ _ _ _ ay (by rfl) T.len Ep (@aa _ _ _ _ _ (pv 0) af (by rfl)) (by decide) (by decide) (by rfl) (by rfl)) aj))) (by rfl) (by first | exact .inl rfl | exact .inr rfl | assumption)) (@ai _ _ _ _ _ (@a6 _ _ _ _ _ _ _ _ (@aG _ _ _ _ _ _ _ _ (@kc _ (by exact hr.units)) (@bH _ _ _ _ _ _ _ (["_law_sign","_law_small"]) (["_law_sign"]) ([3]) _ _ _ _ (@bU _ _ _ _ _ _ rfl (by kernel_rfl)) rfl (@dC _ _ _ _ (@aK _ _ _ _ _ _ _ aO (pv 1) aj (fun _ _=>rfl))) (fun _ _ _ _=>@aF _ _ (0) _ (show (["_law_sign","_law_small"]:List Str).Nodup from by decide +kernel) rfl (Or.inl rfl) (by first | exact .inl rfl | exact .inr rfl | assumption)) (fun _ _ _ _=>(@iT _ _ _ (by exact (@PW.pt _ _ _ (@cE _ _ _ _ _ _ _ (@bh _ _ _ _ (@xP _ _ _ (@ao _ _ _ _ _ _ _ _ _ (@ba _ (K) rfl) (by rfl) T.isinstance aA (@aa _ _ _ _ _ (pv 0) (@aa _ _ _ _ _ (@bo _ _ (.ty "str") _ _ rfl T.str tX rfl (by decide) (by decide)) af (by rfl)) (by rfl)) (by decide) (by decide) (by rfl) (by rfl)) (fun _=>rfl))) (@dh _ _ _ _ (@aG _ _ _ _ _ _ _ _ (@ik _ (K) rfl) (pv 0) (@aW _ _ _ _ _ _ _ _ _ (@bI _ rfl) (by rfl) T.list fN (@aa _ _ _ _ _ (@aJ _ _ _ _ _ _ _ _ aU (pv 1) (@pL _ _ _ _ _ _ _ _ _ (K) rfl EC GI GJ fX (pv 1) (by rfl) (by rfl))) af (by rfl)) (by decide) (by decide) (by rfl) (by rfl)) rfl))))))) (fun _ _ _ _=>by (exact (pv 0))) (by intro _ ;rfl)) (@bc _ _ _ _ af) (aM _)) (@ak _ _ _ (@aD _ _ _ _ bK)) aI) (@ak _ _ _ (@aD _ _ _ _ (@bE _ _ _ _ _ _ _ _ (@uL _ (by exact hr.units)) (@ao _ _ _ _ _ _ _ _ _ fv (by rfl) T.sorted tW (@aa _ _ _ _ _ (@bH _ _ _ _ _ _ _ (["_law_sign"]) (["_law_sign"]) ([]) _ _ _ _ (@bU _ _ _ _ _ _ rfl (by kernel_rfl)) rfl (@dC _ _ _ _ (@aK _ _ _ _ _ _ _ aO (pv 1) aj (fun _ _=>rfl))) (fun _ _ _ _=>@aF _ _ (0) _ (show (["_law_sign"]:List Str).Nodup from by decide +kernel) rfl (Or.inl rfl) (by first | exact .inl rfl | exact .inr rfl | assumption)) (fun _ _ _ _=>bu) (fun _ _ _ _=>by (exact (@pL _ _ _ _ _ _ _ _ _ (K) rfl EC GK GL fY (pv 0) (by rfl) (by rfl)))) (by intro _ ;rfl)) af (by rfl)) (by decide) (by decide) (by rfl) (by rfl)) (@aW _ _ _ _ _ _ _ _ _ (@bI _ rfl) (by rfl) T.list fN (@aa _ _ _ _ _ (pv 3) af (by rfl)) (by decide) (by decide) (by rfl) (by rfl)) (aM _))))))))))),?_⟩
  rcases eU (K:=K) hx with ⟨n',ty,kt,nt⟩ | ⟨a,xs,ds,rfl,ht,rfl,hl,qs⟩
  ·rw [wH nt,rA nt] at k
   exact ⟨_,rfl,_,_,_,_,rfl,ty,kt,_,rfl,gM (bW (k _ (av.refl _)))⟩
  have el:=qs.len
  have no:∀ H',av H H'→smB n u.length (.tuple ds)=false→jq (.tuple ds)=false→Q (.bl false) H':=fun H' s' e1 e2=>by
   rw [e1,e2] at k
   exact k H' s'
  refine ⟨_,rfl,_,_,_,_,rfl,.tup ht,bV,_,rfl,ir ⟨_,rfl,a,_,rfl,.inr (SqT.of ht),_,_,rfl,rfl,_,rfl,?_⟩⟩
  by_cases h3:xs.length < 3
  ·rw [Eh (by omega)]
   exact gM (bW (no _ (av.refl _) (fP (by rintro ⟨z,d1,d2,d3,rfl,_⟩;simp at el;omega)) (eD (by rintro ⟨z,d1,d2,rfl,_⟩;simp at el;omega))))
  rw [Ed (by omega)]
  refine ir ?_
  obtain ⟨x0,xr,rfl⟩:∃ x0 xr,xs=x0::xr:=by
   cases xs with
   | nil=>simp at h3
   | cons x0 xr=>exact ⟨x0,xr,rfl⟩
  cases qs with
  | Kq d0 dr q0 qr =>
  have at0:∀ {y:V} {r:List V},atI (y::r) 0=some y:=fun {y r}=>fb (j:=0) rfl
  rcases rh (K:=K) q0 with ⟨n',ty,kt,nt,ns⟩ | ⟨z,rfl,rfl,hz⟩
  ·refine ⟨_,rfl,a,_,_,_,rfl,rfl,SqT.of ht,at0,_,_,_,_,rfl,ty,kt,_,rfl,bW (no _ (av.refl _) (fP ?_) (eD ?_))⟩
   ·rintro ⟨z,d1,d2,d3,e,_⟩
    exact nt z (E7 e).1
   ·rintro ⟨z,d1,d2,e,_⟩
    exact nt z (E7 e).1
  refine ⟨_,rfl,a,_,_,_,rfl,rfl,SqT.of ht,at0,_,_,_,_,rfl,.str _,i4,_,rfl,et ?_⟩
  refine ⟨_,rfl,a,_,_,_,rfl,rfl,SqT.of ht,at0,rfl,_,rfl,?_⟩
  have elr:xr.length=dr.length:=qr.len
  by_cases c0:z = "unlike"
  ·rw [Eh (EX V.str c0)]
   refine bW ?_
   have e1:smB n u.length (.tuple (.str z::dr))=false:=fP (by rintro ⟨z',d1,d2,d3,e,e'⟩;rw [← GH (E7 e).1,c0] at e';revert e';decide +kernel)
   rw [e1,Bool.false_or] at k
   refine ⟨_,rfl,a,_,rfl,.inr (SqT.of ht),rfl,_,rfl,?_⟩
   by_cases h33:xr.length=2
   rotate_left
   ·refine k8 (Ed (fun q=>h33 (by have:=V.int.inj q;simp at this;omega))) ?_
    rw [eD (by rintro ⟨z',d1,d2,e,_⟩;have:=(E7 e).2;rw [this] at elr;exact h33 elr)] at k
    exact k _ (av.refl _)
   refine jJ (Eh (by rw [EA,h33];rfl)) ?_
   obtain ⟨x1,x2,rfl⟩:∃ x1 x2,xr=[x1,x2]:=by
    match xr,h33 with
    | [x1,x2],_=>exact ⟨x1,x2,rfl⟩
   cases qr with
   | Kq d1 _ q1 qr =>
   cases qr with
   | Kq d2 _ q2 qr =>
   cases qr
   rw [rq c0] at k
   obtain ⟨w1,e1⟩:=g9 (K:=K) q1
   obtain ⟨w2,e2⟩:=g9 (K:=K) q2
   refine ⟨_,rfl,a,_,_,_,rfl,rfl,SqT.of ht,rfl,_,rfl,w1,⟨_,rfl,?_⟩⟩
   rw [e1]
   cases h1:whD d1 with
   | false =>
    rw [h1,FO] at k
    exact nJ (k _ (av.refl _))
   | true =>
    rw [h1,FJ] at k
    refine pw ?_
    refine ⟨_,rfl,a,_,_,_,rfl,rfl,SqT.of ht,rfl,_,rfl,w2,?_⟩
    rw [e2]
    exact k _ (av.refl _)
  rw [Ed (fun q=>c0 (V.str.inj q))]
  refine et ?_
  have e2:jq (.tuple (.str z::dr))=false:=eD (by rintro ⟨z',d1,d2,e,e'⟩;rw [← GH (E7 e).1] at e';exact c0 e')
  rw [e2,GW] at k
  have no:∀ H',av H H'→smB n u.length (.tuple (.str z::dr))=false→Q (.bl false) H':=fun H' s' e1=>by
   rw [e1] at k
   exact k H' s'
  refine ⟨_,rfl,a,_,_,_,rfl,rfl,SqT.of ht,at0,rfl,_,rfl,?_⟩
  by_cases c1:z = "same"
  rotate_left
  ·rw [Ed (fun q=>c1 (V.str.inj q))]
   exact gM (bW (no _ (av.refl _) (fP (by rintro ⟨z',d1,d2,d3,e,e'⟩;rw [← GH (E7 e).1] at e';exact c1 e'))))
  rw [Eh (EX V.str c1)]
  refine ir ?_
  refine ⟨_,rfl,a,_,rfl,.inr (SqT.of ht),rfl,_,rfl,?_⟩
  by_cases h4:xr.length=3
  rotate_left
  ·rw [Ed (fun q=>h4 (by have:=V.int.inj q;simp at this;omega))]
   exact gM (bW (no _ (av.refl _) (fP (by rintro ⟨z',d1,d2,d3,e,e'⟩;have:=(E7 e).2;rw [this] at elr;exact h4 elr))))
  rw [Eh (by rw [EA,h4];rfl)]
  refine ir ?_
  obtain ⟨x1,x2,x3,rfl⟩:∃ x1 x2 x3,xr=[x1,x2,x3]:=by
   match xr,h4 with
   | [x1,x2,x3],_=>exact ⟨x1,x2,x3,rfl⟩
  cases qr with
  | Kq d1 _ q1 qr =>
  cases qr with
  | Kq d2 _ q2 qr =>
  cases qr with
  | Kq d3 _ q3 qr =>
  cases qr
  have nos:∀ H',av H H'→arB d1=false→Q (.bl false) H':=fun H' s' e1=>no H' s' (by
   cases hw:whD d2 with
   | false=>exact rB hw
   | true =>
    obtain ⟨p,_,rfl⟩:=fO q2 hw
    rw [kD c1,e1]
    rfl)
  rcases eU (K:=K) q1 with ⟨n',ty,kt,nt⟩ | ⟨b,ys,es,rfl,hb,rfl,hlb,qb⟩
  ·refine ⟨_,rfl,a,_,_,_,rfl,rfl,SqT.of ht,rfl,_,_,_,_,rfl,ty,kt,_,rfl,gM (bW (nos _ (av.refl _) ?_))⟩
   unfold arB
   split
   ·exact absurd rfl (nt _)
   ·rfl
  have elb:=qb.len
  refine ⟨_,rfl,a,_,_,_,rfl,rfl,SqT.of ht,rfl,_,_,_,_,rfl,.tup hb,bV,_,rfl,ir ?_⟩
  refine ⟨_,rfl,a,_,_,_,rfl,rfl,SqT.of ht,rfl,b,_,rfl,.inr (SqT.of hb),_,_,rfl,rfl,_,rfl,?_⟩
  by_cases h60:60 < ys.length
  ·rw [Eh (by omega)]
   refine bW (nos _ (av.refl _) ?_)
   show (decide (es.length≤60) && _)=false
   rw [Ed (by omega)]
   rfl
  rw [Ed (by omega)]
  refine et ?_
  have bad:∀ {i:Nat} {dy:PyData},es[i]? = some dy→slB dy=false→arB (.tuple es)=false:=fun {i dy} h1 h2=>by
   show (decide (es.length≤60) && es.all slB)=false
   have:es.all slB=false:=by
    cases h:es.all slB with
    | false=>rfl
    | true =>
     rw [FK] at h
     rw [h dy (Es h1)] at h2
     cases h2
   rw [this,Jz]
  refine ⟨_,rfl,a,_,_,_,rfl,rfl,SqT.of ht,rfl,b,rfl,⟨_,SqT.of hb⟩,kQ (xs:=ys) (fun i σ H'=>∃ c2 c3,σ = [some (tx u),some (.ref a),c2,c3]∧(∀ j dy,j < i→es[j]? = some dy→slB dy=true)∧av H H') ⟨none,none,rfl,(fun j dy h=>by omega),av.refl _⟩ (fun i σ H' hi ⟨_,_,_,_,s1⟩=>SqT.of (s1 _ _ hb)) ?_ ?_⟩
  ·rintro i y σ H1 hy ⟨c2,c3,rfl,K4,s1⟩
   obtain ⟨dy,hdy,qy⟩:=qb.get hy
   have qy:=qy.same s1
   have out:slB dy=false→Q (.bl false) H1:=fun h=>nos _ s1 (bad hdy h)
   rcases eU (K:=K) qy with ⟨n',ty,kt,nt⟩ | ⟨c,zs,fs,rfl,hc,rfl,hlc,qc⟩
   ·refine ⟨_,rfl,_,_,_,_,rfl,ty,kt,_,rfl,gM (bW (out ?_))⟩
    unfold slB
    split
    ·exact absurd rfl (nt _)
    ·rfl
   have elc:=qc.len
   refine ⟨_,rfl,_,_,_,_,rfl,.tup hc,bV,_,rfl,ir ⟨_,rfl,c,_,rfl,.inr (SqT.of hc),rfl,_,rfl,?_⟩⟩
   by_cases h2:zs.length=2
   rotate_left
   ·rw [Ed (fun q=>h2 (by have:=V.int.inj q;omega))]
    exact gM (bW (out (ri (by omega))))
   rw [Eh (by rw [h2];rfl)]
   refine ir ?_
   obtain ⟨z0,z1,rfl⟩:∃ z0 z1,zs=[z0,z1]:=by
    match zs,h2 with
    | [z0,z1],_=>exact ⟨z0,z1,rfl⟩
   cases qc with
   | Kq f0 _ p0 qc =>
   cases qc with
   | Kq f1 _ p1 qc =>
   cases qc
   obtain ⟨w0,e0⟩:=g9 (K:=K) p0
   obtain ⟨w1,e1⟩:=g9 (K:=K) p1
   have nowh:(whD f0 && whD f1)=false→slB (.tuple [f0,f1])=false:=fun h=>by
    unfold slB
    split
    ·rename_i e
     cases E3 e
     cases h
    ·rfl
   refine ⟨_,rfl,c,_,_,_,rfl,rfl,SqT.of hc,rfl,_,rfl,w0,⟨_,rfl,?_⟩⟩
   rw [e0]
   cases hw0:whD f0 with
   | false=>exact nkF (gM (bW (out (nowh (by rw [hw0];rfl)))))
   | true =>
   refine nkT (ir ?_)
   refine ⟨_,rfl,c,_,_,_,rfl,rfl,SqT.of hc,rfl,_,rfl,w1,⟨_,rfl,?_⟩⟩
   rw [e1]
   cases hw1:whD f1 with
   | false=>exact nkF (bW (out (nowh (by rw [hw0,hw1];rfl))))
   | true =>
   obtain ⟨i0,rfl,rfl⟩:=fO p0 hw0
   obtain ⟨i1,rfl,rfl⟩:=fO p1 hw1
   refine nkT (et ?_)
   refine ⟨_,rfl,c,_,_,_,rfl,rfl,SqT.of hc,rfl,_,rfl,(au (n:=2) (by decide)),fun p' hp'=>⟨p',_,rfl,.inr (SqT.of ag),rfl,rfl,_,rfl,?_⟩⟩
   have e:inV (.int i1) [.int 1,.int (-1)]=slB (.tuple [.int i0,.int i1]):=by
    have e3:inV (.int i1) [.int 1,.int (-1)]=(decide ((1:Int)=i1) || (decide ((-1:Int)=i1) || false)):=by
     unfold inV eqV
     rfl
    have e4:slB (.tuple [.int i0,.int i1])=decide (i1=1 ∨ i1 = -1):=rfl
    rw [e3,e4,GW,← Bool.decide_or,Hf]
    omega
   rw [if_pos rfl,e]
   cases hs:slB (.tuple [.int i0,.int i1]) with
   | false=>exact bW (nos _ (s1.then hp') (bad hdy hs))
   | true =>
    refine et ⟨_,_,rfl,fun j dy hj hd=>?_,s1.then hp'⟩
    by_cases c:j < i
    ·exact K4 j dy c hd
    ·have:j=i:=by omega
     rw [this,hdy] at hd
     cases hd
     exact hs
  ·rintro σ H1 ⟨c2,c3,rfl,K4,s1⟩
   have har:arB (.tuple es)=true:=by
    show (decide (es.length≤60) && es.all slB)=true
    rw [Eh (by omega),FJ,FK]
    intro dy hdy
    obtain ⟨j,hj,rfl⟩:=GB hdy
    exact K4 j _ (by omega) (Ee hj)
   have g1:=s1 _ _ ht
   obtain ⟨w2,e2w⟩:=g9 (K:=K) (q2.same s1)
   refine ⟨_,rfl,a,_,_,_,rfl,rfl,SqT.of g1,rfl,_,rfl,w2,⟨_,rfl,?_⟩⟩
   rw [e2w]
   cases hw:whD d2 with
   | false=>exact nkF (gM (bW (no _ s1 (rB hw))))
   | true =>
   obtain ⟨p,rfl,rfl⟩:=fO q2 hw
   rw [kD c1,har,FJ] at k
   refine nkT (ir ?_)
   refine ⟨_,rfl,a,_,_,_,rfl,rfl,SqT.of g1,rfl,_,_,rfl,rfl,_,rfl,?_⟩
   by_cases p0:0≤p
   rotate_left
   ·rw [Ed (fun q=>p0 q.1),FO] at k
    exact k8 (Ed p0) ⟨_,rfl,nkF (gM (bW (k _ s1)))⟩
   refine jJ (Eh p0) ⟨_,rfl,_,rfl,KU,_,_,rfl,rfl,_,rfl,?_⟩
   by_cases p1:p < ((toS u).length:Int)
   rotate_left
   ·rw [Ed p1]
    rw [ah] at p1
    rw [Ed (fun q=>p1 q.2),FO] at k
    exact nkF (gM (bW (k _ s1)))
   rw [Eh p1]
   rw [ah] at p1
   rw [Eh ⟨p0,p1⟩,FJ] at k
   refine nkT (ir ?_)
   have q3:=q3.same s1
   rcases eU (K:=K) q3 with ⟨n',ty,kt,nt⟩ | ⟨b3,zs,fs,rfl,hz3,rfl,hl3,qz⟩
   ·have:nmB n d3=false:=kA (by rintro ⟨ls,e,_⟩;exact nt _ e)
    rw [this] at k
    exact ⟨_,rfl,a,_,_,_,rfl,rfl,SqT.of g1,rfl,_,_,_,_,rfl,ty,kt,_,rfl,bW (k _ s1)⟩
   refine ⟨_,rfl,a,_,_,_,rfl,rfl,SqT.of g1,rfl,_,_,_,_,rfl,.tup hz3,bV,_,rfl,et ?_⟩
   have elz:=qz.len
   have hd3:fs.length≤60:=hd3
   have c6:("abcdef":Str).length≤sizeLine:=by rw [mK];omega
   have en:((toS u).length:Int) / 2=(n:Int):=by rw [ah];omega
   refine ⟨_,rfl,_,rfl,KU,_,_,rfl,rfl,⟨by decide,by decide⟩,_,rfl,_,rfl,c6,?_⟩
   rw [en,kI (by omega),jD u6]
   obtain ⟨B,hB⟩:∃ B,B=(List.range n).map lt6:=⟨_,rfl⟩
   have bl:B.length=n:=by rw [hB,Ea,FB]
   have eu:=A9 n (by omega)
   have es':=CN n (by omega)
   have ss':=yX n (by omega)
   have lowp:=fun ls hi=>yo (n:=n) u6 (ls:=ls) hi
   rw [← hB] at eu es' ss' ⊢
   rw [← hB] at lowp
   refine ⟨_,rfl,a,_,_,_,rfl,rfl,SqT.of g1,rfl,b3,rfl,⟨_,SqT.of hz3⟩,?_⟩
   refine cy (xs:=zs) (own:=["_law_sign"]) (cap:=[3]) (fun i ws σ H'=>∃ v:Option V,σ = [v,some (tx B)]∧(ws=[] ↔ ∀ j dy,j < i→fs[j]? = some dy→okE n dy=true)∧ws.length≤i∧av H1 H') ⟨none,rfl,⟨fun _ j dy h=>by omega,fun _=>rfl⟩,Eg _,av.refl _⟩ (fun i ws σ H' hi ⟨v,_,_,e,_⟩=>e) (by omega) (fun i ws σ H' ⟨_,_,_,_,s2⟩=>SqT.of (s2 _ _ hz3)) ?_ ?_
   ·rintro i ws σ H2 y N hy ⟨v,rfl,hws,hlw,s2⟩ hN
    obtain ⟨dy,hdy,qy⟩:=qz.get hy
    have qy:=qy.same s2
    have badN:okE n dy=false→∀ H3,av H2 H3→N (ws++[y]) [some y,some (tx B)] H3:=fun hb H3 s3=>hN _ _ _ ⟨_,rfl,⟨fun h=>by simp at h,fun h=>by rw [h i dy (by omega) hdy] at hb;cases hb⟩,by rw [Ec,En];omega,s2.trans s3⟩
    have okN:okE n dy=true→∀ H3,av H2 H3→N ws [some y,some (tx B)] H3:=fun hb H3 s3=>hN _ _ _ ⟨_,rfl,⟨fun h j dz hj hd=>by
     by_cases c:j < i
     ·exact hws.mp h j dz c hd
     ·have:j=i:=by omega
      rw [this,hdy] at hd
      cases hd
      exact hb,fun h=>hws.mpr fun j dz hj hd=>h j dz (by omega) hd⟩,by omega,s2.trans s3⟩
    rcases rh (K:=K) qy with ⟨n',ty,kt,nt,ns⟩ | ⟨zt,rfl,rfl,hzt⟩
    ·refine ⟨_,rfl,_,_,_,_,rfl,ty,kt,_,rfl,gM ?_⟩
     rw [if_pos rfl]
     exact ⟨_,rfl,badN (ym nt) _ (av.refl _)⟩
    refine ⟨_,rfl,_,_,_,_,rfl,.str _,i4,_,rfl,ir ?_⟩
    refine ⟨_,rfl,_,rfl,_,rfl,rfl,_,rfl,rfl,(by rw [ah,bl];omega),_,_,rfl,rfl,?_,?_⟩
    ·rw [eu,ah,ah,GA,cL,bl];omega
    rw [eu,aN,es']
    refine ⟨_,rfl,(by rw [ah,ka (by omega) (by omega)];omega),fun p' hp'=>⟨p',_,rfl,.inl (SqL.of ag),rfl,nS _,_,rfl,?_⟩⟩
    rw [if_pos rfl,uZ (by omega) (e:=a) (H:=H)]
    cases hk:okE n (.str zt) with
    | false =>
     rw [if_pos (by rfl)]
     exact ⟨_,rfl,badN hk _ (av.new hp')⟩
    | true =>
     rw [if_neg (by decide)]
     exact okN hk _ (av.new hp')
   ·rintro ws σ H2 l ⟨v,rfl,hws,hlw,s2⟩ hl
    refine ⟨(by show 0≤sizeLine;decide),fun p' hp'=>⟨l,p',ws,rfl,rfl,av.new hp' _ _ ag,ag,_,rfl,?_⟩⟩
    have s3:=s2.trans ((av.new (o:=.lst ws) hl).trans (av.new (o:=.lst []) hp'))
    generalize upd (upd H2 l (.lst ws)) p' (.lst [])=H3 at s3 ⊢
    by_cases hw0:ws=[]
    rotate_left
    ·have:ws.isEmpty=false:=by cases ws with
      | nil=>exact absurd rfl hw0
      | cons=>rfl
     rw [this]
     have:nmB n (.tuple fs)=false:=AM fun h=>hw0 (hws.mpr fun j dy _ hd=>h dy (Es hd))
     rw [this] at k
     exact bW (k _ (s1.trans s3))
    have h0:=hws.mp hw0
    subst hw0
    refine et ?_
    obtain ⟨ls,rfl,hls⟩:=rH (n:=n) (ds:=fs) fun dy hd=>by
     obtain ⟨j,hj,rfl⟩:=GB hd
     exact h0 j _ (by omega) (Ee hj)
    have hzs:zs=ls.map fun l=>tx [l]:=by
     have:(ls.map fun l=>PyData.str (toS [l]))=(ls.map fun l=>[l]).map fun w=>PyData.str (toS w):=by rw [Fl];rfl
     rw [this] at qz
     rw [rF qz,Fl]
     rfl
    subst hzs
    rw [Ea] at elz hd3
    have low:=lowp ls hls
    have g13:=s3 _ _ g1
    have g43:=s3 _ _ hz3
    refine ⟨_,rfl,a,_,_,_,rfl,rfl,SqT.of g13,rfl,b3,rfl,⟨_,SqT.of g43⟩,?_⟩
    refine cy (xs:=ls.map fun l=>tx [l]) (own:=["_law_sign"]) (cap:=[]) (fun i ys σ H'=>∃ v:Option V,σ = [v]∧ys=((ls.map fun l=>toS [lt6 (l.val % 6)]).take i).map V.str∧H'=H3) ⟨none,rfl,rfl,rfl⟩ (fun i ys σ H' hi ⟨v,_,e,_⟩=>by rw [e,Ea,EB];exact Nat.min_le_left _ _) (by rw [Ea];omega) (fun i ys σ H' ⟨_,_,_,e⟩=>by rw [e];exact SqT.of g43) ?_ ?_
    ·rintro i ys σ H4 y N hy ⟨v,rfl,rfl,rfl⟩ hN
     rw [Er] at hy
     obtain ⟨l1,Li,rfl⟩:=Gd.mp hy
     refine ⟨_,rfl,rfl,_,rfl,rfl,(by rw [ah];show 1≤5592405;decide),hN _ _ _ ⟨_,rfl,?_,rfl⟩⟩
     rw [Gr,Er,Li,EG,yY]
     rfl
    rintro ys σ H4 m ⟨v,rfl,rfl,rfl⟩ hm
    rw [ER (by rw [Ea,Ea];exact Eg _)]
    refine ⟨m,_,rfl,SqL.of ag,by rw [Ea];omega,fun p5 zs hp5 pm st=>?_⟩
    have s5:=(s3.then (o:=.lst ((ls.map fun l=>toS [lt6 (l.val % 6)]).map V.str)) hm).trans (av.new (o:=.lst (zs.map V.str)) hp5)
    have f5:(upd _ p5 (.lst (zs.map V.str))) p5=some (.lst (zs.map V.str)):=ag (H:=upd H4 m (.lst ((ls.map fun l=>toS [lt6 (l.val % 6)]).map V.str)))
    generalize upd (upd H4 m _) p5 (.lst (zs.map V.str))=H5 at s5 f5 ⊢
    refine ⟨_,rfl,_,rfl,(by rw [ah,bl];omega),fun p6 hp6=>?_⟩
    have e6':L2.dI (toS B)=(B.map fun x=>toS [x]).map V.str:=by
     unfold L2.dI
     rw [bt,Fl,Fl]
     rfl
    refine ⟨p5,p6,zs,B.map (fun x=>toS [x]),rfl,rfl,av.new hp6 _ _ f5,by rw [ag,e6'],?_⟩
    have ek:decide (zs=B.map fun x=>toS [x])=nmB n (.tuple (ls.map fun l=>.str (toS [l]))):=by
     rw [Fp,Gj,low]
     exact ⟨fun h=>by rw [← h];exact pm.symm,fun h=>og st ss' (pm.trans h)⟩
    rw [ek]
    exact k _ (s1.trans (s5.then hp6))
end
section
variable {P:Program} {w:World} {K:PySem.W.Frag} {mg:Str→Option Value} {base:Heap} {aB:Addr}
open Su
theorem vB {u:List L}{s:Int × Int}{r:List (Int × Int)}{k:Nat}:c_ u (s::r) k=match slW u s.1 s.2 with | none=>.inr k | some v=>c_ v r (k+1):=rfl
abbrev sy:Stmt:=top 54
theorem y4:aC ["_law_one","_law_other","_law_thing","_law_now","_law_number","_law_slide","_law_row"] ["_law_one","_law_other","_law_thing"] (aq sy):=⟨rfl,rfl,rfl,by decide +kernel,rfl,by decide +kernel,by decide +kernel⟩
theorem A_ (D:Df K mg "_law_due" sy)(T:Bt K w mg aB)(Te:mg "enumerate" = none)(Lp:Fnc P w K mg base "_law_is_shape" ["_law_row","_law_thing"] 2 js)(KF:Fnc P w K mg base "_law_slid" ["_law_row","_law_place","_law_side"] 2 gO)(KI:Fnc P w K mg base "_law_called" ["_law_row","_law_place","_law_names_here"] 2 gh)(KH:Fnc P w K mg base "_law_holes" ["_law_row"] 2 fo):Fnc P w K mg base "_law_due" ["_law_one","_law_other","_law_thing"] 3 kF:=by
 have sc:=y4
 refine D.ok sc (fun _ _ _ _ _ _ us hl=>by obtain ⟨_,_,_,rfl⟩:=oA hl;rfl) (fun vs H Q E h=>?_) (fun f Kv A outer s H vs Q E hr h=>?_)
 ·obtain ⟨n,e0,u,o,x0,d,rfl,_⟩:=h
  rfl
 ·obtain ⟨n,e0,u,o,x0,d,rfl,hx0,hd0,hd3,U,O,k⟩:=h
  have KJ:=aT
  have ul:=U.row.len
  have u6:=U.h6
  have US:=U.srf
  have OS:=O.srf
  refine ⟨_,(JF (JK (Kh (J9 (Kd Lp hr (by decide) rfl (JP (pv 0) (JP (pv 2) af))) (fun _=>rfl))) (JQ (JR (Kp (JP ax (JP aj af))))) aI) (JF (JK (JL cj (JN aO (pv 2) aj (fun _ _=>rfl)) ax (aM _)) (JF (JM (3) sc.nd rfl (Or.inl rfl) (pv 0)) (JF (J1 EU rfl (@v9 _ _ rfl _ _ _ _ _ _ _ rfl Te ee (JP (JN aO (pv 2) aj (fun _ _=>rfl)) af) (by rfl)) (@gm _ _ _ _ _ _ rfl (Kc (J0 (4) sc.nd rfl (Or.inl rfl)) (Kc (J0 (5) sc.nd rfl (Or.inl rfl)) d_)) (by rfl) (by rfl)) (JF (JM (3) sc.nd rfl (Or.inl rfl) (Kd KF hr (by decide) rfl (JP (pv 3) (JP (JN aO (pv 5) aj (fun _ _=>rfl)) (JP (JN aO (pv 5) aj (fun _ _=>rfl)) af))))) (JQ (JK (JL zy (pv 3) hJ (aM _)) (JQ (JR (Kp (JP ax (JP (pv 4) af))))) aI)))) (JQ (JR (@fT _ _ _ _ _ _ _ _ (JL cj (Kd KI hr (by decide) rfl (JP (pv 3) (JP (JN aO (pv 2) aj (fun _ _=>rfl)) (JP (JN aO (pv 2) aj (fun _ _=>rfl)) af)))) (pv 1) (aM _)) bK (Kp (JP ax (JP aj af)))))))) aI) (JF (J1 EU rfl (@Ae _ _ rfl _ _ _ _ _ _ _ rfl Te ee (JP (JV (JP (pv 0) (JP (pv 1) af))) af) (by rfl)) (@gm _ _ _ _ _ _ rfl (Kc (J0 (4) sc.nd rfl (Or.inl rfl)) (Kc (J0 (6) sc.nd rfl (Or.inl rfl)) d_)) (by rfl) (by rfl)) (JQ (JK (JL dW (JO aE (by rfl) T.len Ep (JP (Kd KH hr (by decide) rfl (JP (pv 6) af)) af)) (JN aO (pv 2) (JI bC aj (pv 4)) (fun _ _=>rfl)) (aM _)) (JQ (JR (Kp (JP ax (JP (pv 4) af))))) aI))) (JQ (JR (@fT _ _ _ _ _ _ _ _ (JL (@kj _ (by exact hr.units)) (JN aO (pv 2) aj (fun _ _=>rfl)) (JN aO (pv 2) aj (fun _ _=>rfl)) (aM _)) bK (Kp (JP ax (JP aj af))))))))),?_⟩
  refine ⟨_,rfl,_,rfl,n,e0,u,x0,d,rfl,U,hx0,hd3,fun H1 s1=>⟨_,rfl,?_⟩⟩
  cases hc:oz n d with
  | none =>
   have hn:du n u o d=some (("shape":Str),0):=by
    unfold du
    rw [hc]
   have e1:(smB n u.length d || jq d)=false:=by
    rw [iA U.h6,fz (n:=n),hc]
    rfl
   rw [e1]
   exact nkF (bW ⟨(au (n:=2) (by decide)),fun r hr=>k _ _ (by rw [hn];exact ⟨r,rfl,ag⟩) (s1.then hr)⟩)
  | some t =>
  have hn:du n u o d=gZ u o t:=by
   unfold du
   rw [hc]
  rw [hn] at k
  obtain ⟨a,rfl,hG⟩:=rG hx0 (dO hc)
  have tell:∀ (z:Str) (j:Nat) (H':Hp),gZ u o t=some (z,j)→av H H'→∀ r,H' r=none→Q (.ref r) (upd H' r (.tup [.str z,.int (j:Int)])):=fun z j H' e s r hr=>k _ _ (by rw [e];exact ⟨r,rfl,ag⟩) (s.then hr)
  cases hG with
  | @unl i j h1 =>
   have h1:H a=_:=h1
   have e1:(smB n u.length d || jq d)=true:=by
    rw [iA U.h6,fz (n:=n),hc]
    rfl
   rw [e1]
   refine nkT (et ?_)
   have g1:H1 a=_:=s1 _ _ h1
   refine ⟨_,rfl,a,_,_,_,rfl,rfl,SqT.of g1,rfl,rfl,_,rfl,et ?_⟩
   refine ⟨_,rfl,_,rfl,(au (n:=2) (by decide)),fun l hl=>⟨l,rfl,⟨_,SqL.of ag⟩,?_⟩⟩
   have s2:=av.new (o:=.lst [tx u,tx o]) hl
   have f2:(upd H1 l (.lst [tx u,tx o])) l=some (.lst [tx u,tx o]):=ag
   generalize upd H1 l (.lst [tx u,tx o])=H2 at s2 f2 ⊢
   have g2:=s2 _ _ g1
   have eZ:gZ u o (.unl i j)=if i≠((hol u).length:Int) then some (("holes":Str),0) else if j≠((hol o).length:Int) then some ("holes",1) else if i=j then some ("holes",2) else none:=rfl
   rw [eZ] at tell k
   refine xQ (xs:=[tx u,tx o]) (fun m σ H'=>∃ c3 c4 c5 c6:Option V,σ = [some (tx u),some (tx o),some (.ref a),c3,c4,c5,c6]∧(1≤m→i=((hol u).length:Int))∧(2≤m→j=((hol o).length:Int))∧av H2 H') ⟨none,none,none,none,rfl,(fun h=>absurd h (by decide)),(fun h=>absurd h (by decide)),av.refl _⟩ (fun m σ H' hi ⟨_,_,_,_,_,_,_,s3⟩=>SqL.of (s3 _ _ f2)) ?_ ?_
   ·rintro m x σ H3 e hx ⟨c3,c4,c5,c6,rfl,ha,hb,s3⟩ he
    have s4:=s3.then (o:=.tup [.int (m:Int),x]) he
    refine ⟨e,_,rfl,SqT.of ag,rfl,_,_,rfl,_,_,rfl,rfl,?_⟩
    match m,hx with
    | 0,hx =>
     cases hx
     refine ⟨_,rfl,u,rfl,US,fun l5 H5 _ hl5 s5=>⟨l5,_,rfl,.inl (SqL.of hl5),?_⟩⟩
     have s45:=s4.trans s5
     refine ⟨_,rfl,_,rfl,_,_,rfl,rfl,a,_,_,_,rfl,rfl,SqT.of (s45 _ _ g2),rfl,rfl,_,rfl,?_⟩
     rw [Ea]
     by_cases c:i=((hol u).length:Int)
     ·rw [Eh (EX V.int c.symm)]
      exact et ⟨_,_,_,_,rfl,(fun _=>c),(fun h=>absurd h (by decide)),s45⟩
     ·rw [Ed fun z=>c (V.int.inj z).symm]
      exact bW ⟨_,rfl,(au (n:=2) (by decide)),fun r hr=>tell "holes" 0 _ (if_pos c) (s1.trans (s2.trans s45)) r hr⟩
    | 1,hx =>
     cases hx
     refine ⟨_,rfl,o,rfl,OS,fun l5 H5 _ hl5 s5=>⟨l5,_,rfl,.inl (SqL.of hl5),?_⟩⟩
     have s45:=s4.trans s5
     refine ⟨_,rfl,_,rfl,_,_,rfl,rfl,a,_,_,_,rfl,rfl,SqT.of (s45 _ _ g2),rfl,rfl,_,rfl,?_⟩
     rw [Ea]
     have ha:=ha (Eg _)
     by_cases c:j=((hol o).length:Int)
     ·rw [Eh (EX V.int c.symm)]
      exact et ⟨_,_,_,_,rfl,(fun _=>ha),(fun _=>c),s45⟩
     ·rw [Ed fun z=>c (V.int.inj z).symm]
      exact bW ⟨_,rfl,(au (n:=2) (by decide)),fun r hr=>tell "holes" 1 _ ((if_neg fun h=>h ha).trans (if_pos c)) (s1.trans (s2.trans s45)) r hr⟩
   ·rintro σ H3 ⟨c3,c4,c5,c6,rfl,ha,hb,s3⟩
    have ha:=ha (show 1≤2 by decide)
    have hb:=hb (show 2≤2 by decide)
    have g3:=s3 _ _ g2
    refine ⟨_,rfl,a,_,_,_,rfl,rfl,SqT.of g3,rfl,_,rfl,a,_,_,_,rfl,rfl,SqT.of g3,rfl,_,_,.int _,.int _,rfl,rfl,(by show 0≤10;decide),_,rfl,?_⟩
    have en:PyData.eqv (.int i) (.int j)=decide (i=j):=by
     show (i == j)=decide (i=j)
     rw [Fp,FQ,Jg]
    rw [en]
    have e0:(if i≠((hol u).length:Int) then some (("holes":Str),0) else if j≠((hol o).length:Int) then some ("holes",1) else if i=j then some ("holes",2) else none)=if i=j then some (("holes":Str),2) else none:=(if_neg fun h=>h ha).trans (if_neg fun h=>h hb)
    rw [e0] at tell k
    by_cases c:i=j
    ·rw [Eh c]
     exact Dl ⟨(au (n:=2) (by decide)),fun r hr=>tell "holes" 2 _ (if_pos c) (s1.trans (s2.trans s3)) r hr⟩
    ·rw [Ed c]
     rw [if_neg c] at k
     exact Dk (k _ _ rfl (s1.trans (s2.trans s3)))
  | @same ss p f' x =>
   obtain ⟨q,nm,as,h1,h2,h3,h4⟩:=x.ex
   have e1:(smB n u.length d || jq d)=decide (0≤p∧p < (u.length:Int)):=by
    rw [iA U.h6,fz (n:=n),hc]
    exact GW _
   rw [e1]
   by_cases c:0≤p∧p < (u.length:Int)
   rotate_left
   ·rw [Ed c]
    exact nkF (bW ⟨(au (n:=2) (by decide)),fun r hr=>tell "shape" 0 _ (gQ c) s1 r hr⟩)
   rw [Eh c]
   refine nkT (et ?_)
   obtain ⟨p,rfl⟩:=ET c.1
   have KW:p < u.length:=by omega
   rw [jo KW] at tell k
   have g1:=s1 _ _ h1
   have g2:=s1 _ _ h2
   have g4:=s1 _ _ h4
   have h60:=x.len
   refine ⟨_,rfl,a,_,_,_,rfl,rfl,SqT.of g1,rfl,rfl,_,rfl,bW ?_⟩
   refine ⟨_,rfl,_,rfl,a,_,_,_,rfl,rfl,SqT.of g1,rfl,q,rfl,⟨_,SqT.of g2⟩,qe (xs:=as.map V.ref) (fun i σ H'=>∃ (v:List L) (c4 c5 c6:Option V),σ = [some (tx u),some (tx o),some (.ref a),some (tx v),c4,c5,c6]∧Srf v∧c_ u ss 0=c_ v (ss.drop i) i∧av H1 H') ⟨u,none,none,none,rfl,US,rfl,av.refl _⟩ (fun i σ H' hi ⟨_,_,_,_,_,_,_,s2⟩=>SqT.of (s2 _ _ g2)) ?_ ?_⟩
   ·rintro i x σ H2 e hx ⟨v,c4,c5,c6,rfl,VS,hv,s2⟩ he
    have hi:i < ss.length:=by
     have:=(Ef.mp hx).1
     rw [Ea,h3.len] at this
     exact this
    have hg:=Ee hi
    obtain ⟨b,hb1,hb2⟩:=h3.at_ i _ hg
    rw [Er,hb1] at hx
    cases hx
    rw [Gm hi,vB] at hv
    have s3:=s2.then (o:=.tup [.int (i:Int),.ref b]) he
    have hb3:=s3 _ _ (s1 _ _ hb2)
    refine ⟨e,_,rfl,SqT.of ag,rfl,_,_,rfl,_,_,rfl,rfl,?_⟩
    refine ⟨_,rfl,_,rfl,b,_,_,_,rfl,rfl,SqT.of hb3,rfl,_,rfl,b,_,_,_,rfl,rfl,SqT.of hb3,rfl,v,_,_,rfl,VS.ne,VS.le,fun H3 s4=>?_⟩
    cases q1:slW v ss[i].1 ss[i].2 with
    | none =>
     rw [q1] at hv
     have hv:c_ u ss 0 = .inr i:=hv
     rw [hv] at tell
     refine ⟨_,rfl,rfl,_,rfl,bW ?_⟩
     exact ⟨_,rfl,(au (n:=2) (by decide)),fun r hr=>tell "slide" i _ rfl (s1.trans (s3.trans s4)) r hr⟩
    | some v2 =>
     rw [q1] at hv
     refine ⟨_,rfl,rfl,_,rfl,et ?_⟩
     exact ⟨v2,_,_,_,rfl,VS.perm (eR VS q1),hv,s3.trans s4⟩
   ·rintro σ H2 ⟨v,c4,c5,c6,rfl,VS,hv,s2⟩
    rw [Ea,h3.len,Ih] at hv
    have hv:c_ u ss 0 = .inl v:=hv
    have W:=U.perm (gP ss US hv)
    have wl:=W.row.len
    rw [hv] at tell k
    have tell:∀ (z:Str) (j:Nat) (H':Hp),(if (rot v p).map f'=o then none else some (("row":Str),0))=some (z,j)→av H H'→∀ r,H' r=none→Q (.ref r) (upd H' r (.tup [.str z,.int (j:Int)])):=tell
    have k:∀ x H',CD (if (rot v p).map f'=o then none else some (("row":Str),0)) H' x→av H H'→Q x H':=k
    refine ⟨_,rfl,_,rfl,a,_,_,_,rfl,rfl,SqT.of (s2 _ _ g1),rfl,_,rfl,a,_,_,_,rfl,rfl,SqT.of (s2 _ _ g1),rfl,n,p,_,nm,f',rfl,s2 _ _ g4,W,by omega,x.nm.iv,fun H3 s3=>⟨_,rfl,rfl,_,rfl,?_⟩⟩
    by_cases c:(rot v p).map f'=o
    ·rw [if_pos c] at k
     rw [c,Eh rfl]
     exact Dk (k _ _ rfl (s1.trans (s2.trans s3)))
    ·rw [Ed fun z=>c (ie z)]
     exact Dl ⟨(au (n:=2) (by decide)),fun r hr=>tell "row" 0 _ (if_neg c) (s1.trans (s2.trans s3)) r hr⟩
end
section
variable {P:Program} {w:World} {K:PySem.W.Frag} {mg:Str→Option Value} {base:Heap} {aB:Addr}
abbrev sA:Stmt:=top 55
theorem y6:aC ["_law_one","_law_other","_law_thing","_law_found","e","_law_others"] ["_law_one","_law_other","_law_thing"] (aq sA):=⟨rfl,rfl,rfl,by decide +kernel,rfl,by decide +kernel,by decide +kernel⟩
structure Do (K:PySem.W.Frag) (mg:Str→Option Value) (CT CR:Addr) (bmT bmR:List Value) (c:Nat→Addr):Prop where
 nT:mg "NoPaper" = some (.ref CT)
 nR:mg "RingError" = some (.ref CR)
 nV:mg "ValueError" = none
 n0:mg "NoBand" = some (.ref (c 0))
 n1:mg "NoSlide" = some (.ref (c 1))
 n2:mg "NoStep" = some (.ref (c 2))
 n3:mg "NoSurface" = some (.ref (c 3))
 n4:mg "NoRow" = some (.ref (c 4))
 n5:mg "NoWay" = some (.ref (c 5))
 xT:XCl K CT bmT
 up:(Value.ref CT::bmT).contains (.ref CR)=true
 k0:PySem.W.kitOne K (.ref CT) (.ref (c 0))=some false
 k1:PySem.W.kitOne K (.ref CT) (.ref (c 1))=some false
 k2:PySem.W.kitOne K (.ref CT) (.ref (c 2))=some false
 k3:PySem.W.kitOne K (.ref CT) (.ref (c 3))=some false
 k4:PySem.W.kitOne K (.ref CT) (.ref (c 4))=some false
 k5:PySem.W.kitOne K (.ref CT) (.ref (c 5))=some false
 kt:PySem.W.kitOne K (.ref CT) (.ref CT)=some true
 kv:PySem.W.kitOne K (.ref CT) (.type "ValueError")=some true
 ca:XCa K CT
 xw:PySem.W.findIn K (.ref CT) "word" = some none
 xa:PySem.W.findIn K (.ref CT) "at" = some none
theorem Ba {CT CR:Addr}{bmT bmR:List Value}{c:Nat→Addr}(D:Df K mg "_law_let" sA)(T:Bt K w mg aB)(C:Do K mg CT CR bmT bmR c)(xR:XCl K CR bmR)(F_lets:nZ P w K mg base "lets_same" ["one","other","thing"] 7 (lO CT)):Fnc P w K mg base "_law_let" ["_law_one","_law_other","_law_thing"] 8 kF:=by
 have sc:=y6
 have cNoPaper:=C.nT
 have cRingError:=C.nR
 have TV:=C.nV
 have cNoBand:=C.n0
 have K_:=C.n1
 have cNoStep:=C.n2
 have cNoSurface:=C.n3
 have cNoRow:=C.n4
 have cNoWay:=C.n5
 refine D.ok sc (fun _ _ _ _ _ _ us hl=>by obtain ⟨_,_,_,rfl⟩:=oA hl;rfl) (fun vs H Q E h=>?_) (fun f Kv A outer s H vs Q E hr h=>?_)
 ·obtain ⟨n,e0,u,o,x0,d,rfl,_⟩:=h
  rfl
 ·obtain ⟨n,e0,u,o,x0,d,rfl,hx0,hd0,hd3,U,O,k⟩:=h
  have KJ:=aT
  have hu:=kX hr
  refine ⟨_,(JF (JM (3) sc.nd rfl (Or.inl rfl) hJ) (JF (@An _ _ _ _ (4) _ _ _ _ _ _ _ _ _ rfl rfl sc.nd rfl rfl rfl cRingError xR (fun _=>(@qq _ _ _ _ _ _ _ (3) sc.nd rfl (Or.inl rfl) (@wj _ _ _ _ _ _ _ _ _ _ _ _ F_lets hr (by decide) rfl (JP (pv 0) (JP (pv 1) (JP (pv 2) af))) (by decide) (by rfl) (by rfl)) (by rfl) (by first | exact .inl rfl | exact .inr rfl | assumption))) (fun _=>(JF (JM (5) sc.nd rfl (Or.inl rfl) (JV (JP (JO (@bR _ (K) rfl) (by rfl) T.isinstance aA (JP (pv 4) (JP (Kb (.ref _) rfl cNoBand rfl) af))) (JP (JO (@bR _ (K) rfl) (by rfl) T.isinstance aA (JP (pv 4) (JP (Kb (.ref _) rfl K_ rfl) af))) (JP (JO (@bR _ (K) rfl) (by rfl) T.isinstance aA (JP (pv 4) (JP (Kb (.ref _) rfl cNoStep rfl) af))) (JP (JO (@bR _ (K) rfl) (by rfl) T.isinstance aA (JP (pv 4) (JP (Kb (.ref _) rfl cNoSurface rfl) af))) af)))))) (JF (JM (5) sc.nd rfl (Or.inl rfl) (JI jX (pv 5) (JV (JP (JO (@bR _ (K) rfl) (by rfl) T.isinstance aA (JP (pv 4) (JP (Kb (.ref _) rfl cNoRow rfl) af))) (JP (JO (@bR _ (K) rfl) (by rfl) T.isinstance aA (JP (pv 4) (JP (Kb (.ref _) rfl cNoWay rfl) af))) (JP (@oK _ _ _ _ (JO (@bR _ (K) rfl) (by rfl) T.isinstance aA (JP (pv 4) (JP (Kf (.ty "ValueError") rfl TV kx rfl) af)))) af)))))) (JF (JM (3) sc.nd rfl (Or.inl rfl) ax) (JQ (JK (J8 (@vH _ _ _ _ _ _ _ (@xP _ _ _ (JO (@bR _ (K) rfl) (by rfl) T.isinstance aA (JP (pv 4) (JP (Kb (.ref _) rfl cNoPaper rfl) af))) (fun _=>rfl)) (@oJ _ _ _ _ (JL (@ik _ (K) rfl) bK (pv 5) rfl)))) (JQ (JM (3) sc.nd rfl (Or.inl rfl) (Kp (JP (@wm _ (K) _ _ _ _ rfl (pv 4) rfl) (JP (@wm _ (K) _ _ _ _ rfl (pv 4) rfl) af))))) aI)))))) (by decide)) (JQ (JR (pv 3))))),?_⟩
  refine ⟨_,rfl,_,rfl,_,rfl,n,e0,u,o,x0,d,rfl,hx0,hd0,U,O,fun hn H1 s1=>⟨_,rfl,k _ _ (by rw [hn];rfl) s1⟩,fun z j hz b H1 xs s0=>?_⟩
  obtain ⟨dx,cx,fa,fd⟩:=xs
  refine ⟨b,CT,some dx,cx,bmT,rfl,fa,C.xT,C.up,?_⟩
  refine ⟨_,rfl,b,CT,false,cx,dx,_,_,_,false,rfl,fa,fd,C.ca,(fun u r=>r),C.k0,?_⟩
  refine ⟨_,rfl,b,CT,false,cx,dx,_,_,_,false,rfl,fa,fd,C.ca,(fun u r=>r),C.k1,?_⟩
  refine ⟨_,rfl,b,CT,false,cx,dx,_,_,_,false,rfl,fa,fd,C.ca,(fun u r=>r),C.k2,?_⟩
  refine ⟨_,rfl,b,CT,false,cx,dx,_,_,_,false,rfl,fa,fd,C.ca,(fun u r=>r),C.k3,(au (n:=4) (by decide)),fun l1 Li=>?_⟩
  have s1:av H1 (upd H1 l1 (.lst [.bl false,.bl false,.bl false,.bl false])):=av.new Li
  have f1:(upd H1 l1 (.lst [.bl false,.bl false,.bl false,.bl false])) l1=some (.lst [.bl false,.bl false,.bl false,.bl false]):=ag
  generalize upd H1 l1 (.lst [.bl false,.bl false,.bl false,.bl false])=H2 at s1 f1 ⊢
  have fa2:=s1 _ _ fa
  have fd2:=s1 _ _ fd
  refine ⟨_,rfl,_,rfl,b,CT,false,cx,dx,_,_,_,false,rfl,fa2,fd2,C.ca,(fun u r=>r),C.k4,?_⟩
  refine ⟨_,rfl,b,CT,false,cx,dx,_,_,_,false,rfl,fa2,fd2,C.ca,(fun u r=>r),C.k5,?_⟩
  refine ⟨_,rfl,b,CT,false,cx,dx,_,_,_,true,rfl,fa2,fd2,C.ca,(fun u r=>r),C.kv,?_⟩
  refine ⟨_,rfl,(au (n:=3) (by decide)),fun l2 KS=>?_⟩
  have s2:av H2 (upd H2 l2 (.lst [.bl false,.bl false,.bl (!true)])):=av.new KS
  have f2:(upd H2 l2 (.lst [.bl false,.bl false,.bl (!true)])) l2=some (.lst [.bl false,.bl false,.bl (!true)]):=ag
  generalize upd H2 l2 (.lst [.bl false,.bl false,.bl (!true)])=H3 at s2 f2 ⊢
  refine ⟨l1,l2,_,_,rfl,rfl,s2 _ _ f1,f2,(au (n:=7) (by decide)),fun l3 hl3=>?_⟩
  have s3:av H3 (upd H3 l3 (.lst ([.bl false,.bl false,.bl false,.bl false]++[.bl false,.bl false,.bl (!true)]))):=av.new hl3
  have f3:(upd H3 l3 (.lst ([.bl false,.bl false,.bl false,.bl false]++[.bl false,.bl false,.bl (!true)]))) l3=some (.lst [.bl false,.bl false,.bl false,.bl false,.bl false,.bl false,.bl false]):=ag
  generalize upd H3 l3 (.lst ([.bl false,.bl false,.bl false,.bl false]++[.bl false,.bl false,.bl (!true)]))=H4 at s3 f3 ⊢
  have s25:=s2.trans s3
  have fa5:=s25 _ _ fa2
  have fd5:=s25 _ _ fd2
  refine ⟨_,rfl,b,CT,false,cx,dx,_,_,_,true,rfl,fa5,fd5,C.ca,(fun u r=>r),C.kt,_,rfl,Cz ?_⟩
  refine ⟨_,rfl,l3,_,rfl,.inl (SqL.of f3),rfl,rfl,_,rfl,bW ?_⟩
  refine ⟨_,rfl,b,CT,false,cx,dx,_,_,rfl,fa5,fd5,C.ca.1,C.xw,rfl,_,rfl,b,CT,false,cx,dx,_,_,rfl,fa5,fd5,C.ca.1,C.xa,rfl,(au (n:=2) (by decide)),fun p hp=>⟨_,rfl,k (.ref p) _ (by rw [hz];exact ⟨p,rfl,ag⟩) (s0.trans ((s1.trans s25).then hp))⟩⟩
end
section
variable {P:Program} {w:World} {K:PySem.W.Frag} {mg:Str→Option Value} {base:Heap} {aB:Addr}
open Su
def ddZ:Option (Str × Nat)→PyData
 | none=>.bool true
 | some (z,k)=>.tuple [.str z,.int (k:Int)]
theorem Bb:∀ k:Fin 61,(PyData.int ((k.val:Nat):Int)).showable=true∧(PyData.int ((k.val:Nat):Int)).leavesShort 40=true∧(PyData.int ((k.val:Nat):Int)).weight≤10∧(((k.val:Nat):Int)).natAbs.log2 < 1920:=by decide +kernel
theorem vC {k:Nat}(h:k < 61):Sm (.int (k:Int)):=by
 obtain ⟨a,b,c,d⟩:=Bb ⟨k,h⟩
 exact ⟨a,rfl,by show 0≤4;decide,b,EV c (by decide),fun i e=>by cases e;exact d⟩
theorem Bc:∀ z:Str,z = "shape" ∨ z = "slide" ∨ z = "row" ∨ z = "holes"→Sm (.str z):=by
 rintro z (rfl | rfl | rfl | rfl) <;> exact ⟨rfl,rfl,by decide,by decide +kernel,by decide +kernel,fun i e=>by cases e⟩
theorem y7 {u o:List L}{n:Nat}{H:Hp}{a:Addr}{t:Thz}(x:ThZ n H a t){z:Str}{k:Nat}(h:gZ u o t=some (z,k)):(z = "shape" ∨ z = "slide" ∨ z = "row" ∨ z = "holes")∧k < 61:=by
 cases x with
 | @same ss p h' x =>
  by_cases c:0≤p∧p < (u.length:Int)
  ·obtain ⟨p,rfl⟩:=ET c.1
   rw [jo (by omega)] at h
   cases e:c_ u ss 0 with
   | inr j =>
    rw [e] at h
    have h:some (("slide":Str),j)=some (z,k):=h
    cases h
    have:=nc ss e
    have:=x.len
    exact ⟨.inr (.inl rfl),by omega⟩
   | inl w =>
    rw [e] at h
    have h:(if (rot w p).map h'=o then none else some (("row":Str),0))=some (z,k):=h
    split at h
    ·cases h
    ·cases h;exact ⟨.inr (.inr (.inl rfl)),by decide⟩
  ·rw [gQ c] at h
   cases h
   exact ⟨.inl rfl,by decide⟩
 | @unl i j x =>
  have h:(if i≠((hol u).length:Int) then some (("holes":Str),0) else if j≠((hol o).length:Int) then some ("holes",1) else if i=j then some ("holes",2) else none)=some (z,k):=h
  split at h
  ·cases h;exact ⟨.inr (.inr (.inr rfl)),by decide⟩
  ·split at h
   ·cases h;exact ⟨.inr (.inr (.inr rfl)),by decide⟩
   ·split at h
    ·cases h;exact ⟨.inr (.inr (.inr rfl)),by decide⟩
    ·cases h
theorem sC {u o:List L}{n:Nat}{e:Addr}{H:Hp}{x:V}{d:PyData}(q:Ot e H x d){z:Str}{k:Nat}(h:du n u o d=some (z,k)):(z = "shape" ∨ z = "slide" ∨ z = "row" ∨ z = "holes")∧k < 61:=by
 unfold du at h
 cases hc:oz n d with
 | none =>
  rw [hc] at h
  cases h
  exact ⟨.inl rfl,by decide⟩
 | some t =>
  rw [hc] at h
  obtain ⟨a,_,y⟩:=rG q (dO hc)
  exact y7 y h
theorem wR {d:PyData}(h:Sh d)(nt:∀ i,d = .int i→i.natAbs.log2 < 1920):Sho d:=⟨h.sh,(fun c=>by rw [h.nd] at c; cases c),h.dp,h.sz,nt⟩
theorem sD {u o:List L}{n:Nat}{e:Addr}{H:Hp}{x:V}{d:PyData}(q:Ot e H x d):Sho (ddZ (du n u o d)):=by
 cases e1:du n u o d with
 | none=>exact wR ⟨rfl,rfl,by decide,qL (by decide +kernel) (by decide +kernel)⟩ fun i h=>by cases h
 | some r =>
  obtain ⟨z,k⟩:=r
  obtain ⟨h1,h2⟩:=sC q e1
  exact wR (x8 (fun d hd=>by
   rcases Ei.mp hd with rfl | hd
   ·exact Bc z h1
   ·rw [Eu.mp hd];exact vC h2) (by show 2≤100;decide)) fun i h=>by cases h
theorem wU {u o:List L}{n:Nat}{e:Addr}{H H':Hp}{x y:V}{d:PyData}(q:Ot e H x d)(h:CD (du n u o d) H' y):Ot e H' y (ddZ (du n u o d)):=by
 cases e1:du n u o d with
 | none =>
  rw [e1] at h
  have h:y = .bl true:=h
  rw [h];exact .bl true
 | some r =>
  rw [e1] at h
  obtain ⟨z,k⟩:=r
  obtain ⟨h1,h2⟩:=sC q e1
  obtain ⟨r,rfl,hr⟩:=h
  exact .tup hr (by show 2≤70;decide) (.cons (.str z (by rcases h1 with rfl | rfl | rfl | rfl <;> decide)) (.cons (.int _) .nil))
abbrev jH:Stmt:=top 60
theorem sE:aC ["_law_one","_law_other","_law_thing","_law_kept"] ["_law_one","_law_other","_law_thing"] (aq jH):=⟨rfl,rfl,rfl,by decide +kernel,rfl,by decide +kernel,by decide +kernel⟩
theorem vD (D:Df K mg "_law_right" jH)(T:Bt K w mg aB)(F_llet:Fnc P w K mg base "_law_let" ["_law_one","_law_other","_law_thing"] 8 kF)(F_ldue:Fnc P w K mg base "_law_due" ["_law_one","_law_other","_law_thing"] 3 kF):Fnc P w K mg base "_law_right" ["_law_one","_law_other","_law_thing"] 9 gj:=by
 have sc:=sE
 refine D.ok sc (fun _ _ _ _ _ _ us hl=>by obtain ⟨_,_,_,rfl⟩:=oA hl;rfl) (fun vs H Q E h=>?_) (fun f Kv A outer s H vs Q E hr h=>?_)
 ·obtain ⟨n,e0,u,o,x0,d,rfl,_⟩:=h
  rfl
 ·obtain ⟨n,e0,u,o,x0,d,rfl,hx,sh,hd0,hd3,U,O,k⟩:=h
  have KJ:=aT
  refine ⟨_,(JF (JM (3) sc.nd rfl (Or.inl rfl) (JO (@de _ (by exact hr.gd) (by exact hr.units)) (by rfl) T.repr mH (JP (pv 2) af))) (JQ (JR (Ke (JW cj (JO (@de _ (by exact hr.gd) (by exact hr.units)) (by rfl) T.repr mH (JP (Kd F_llet hr (by decide) rfl (JP (pv 0) (JP (pv 1) (JP (pv 2) af)))) af)) (JO (@de _ (by exact hr.gd) (by exact hr.units)) (by rfl) T.repr mH (JP (Kd F_ldue hr (by decide) rfl (JP (pv 0) (JP (pv 1) (JP (pv 2) af)))) af)) (aM _)) (Kg (JW cj (JO (@de _ (by exact hr.gd) (by exact hr.units)) (by rfl) T.repr mH (JP (pv 2) af)) (pv 3) (aM _))))))),?_⟩
  refine ⟨_,rfl,e0,x0,d,rfl,hx,sh,?_⟩
  refine ⟨_,rfl,_,rfl,_,rfl,n,e0,u,o,x0,d,rfl,hx,hd0,hd3,U,O,fun x H1 dx s1=>?_⟩
  refine ⟨e0,x,_,rfl,wU hx dx,sD hx,?_⟩
  refine ⟨_,rfl,_,rfl,_,rfl,n,e0,u,o,x0,d,rfl,hx.same s1,hd0,hd3,U,O,fun y H2 dy s2=>?_⟩
  refine ⟨e0,y,_,rfl,wU (hx.same s1) dy,sD hx,rfl,?_⟩
  have s12:=s1.trans s2
  refine ⟨_,rfl,jJ (Eh rfl) ⟨_,rfl,e0,x0,d,rfl,hx.same s12,sh,_,rfl,rfl,?_⟩⟩
  rw [Eh rfl]
  exact k _ s12
end
section
variable {P:Program} {w:World} {K:PySem.W.Frag} {mg:Str→Option Value} {base:Heap} {aB:Addr}
abbrev y8:Stmt:=top 56
theorem Bd:aC ["_law_feed_here","_law_some"] ["_law_feed_here"] (aq y8):=⟨rfl,rfl,rfl,by decide +kernel,rfl,by decide +kernel,by decide +kernel⟩
def _root_.Kr {a b c d e}:=@bT a b c d e
theorem CO (D:Df K mg "_law_odd" y8)(T:Bt K w mg aB)(Ku:Fnc P w K mg base "_law_draw" ["_law_feed_here","_law_many"] 1 dH):Fnc P w K mg base "_law_odd" ["_law_feed_here"] 2 nk:=by
 have sc:=Bd
 refine D.ok sc (fun _ _ _ _ _ _ us hl=>by obtain ⟨_,rfl⟩:=lT hl;rfl) (fun vs H Q E h=>?_) (fun f Kv A outer s H vs Q E hr h=>?_)
 ·obtain ⟨d,rfl,_⟩:=h
  rfl
 ·obtain ⟨d,rfl,F,k⟩:=h
  have KJ:=aT
  refine ⟨_,(JF (JM (1) sc.nd rfl (Or.inl rfl) (JV (Kr hJ (Kr bK (Kr bK (Kr aj (Kr aj (Kr (J_ eG aj) (Kr ax (Kr ax (Kr ax (Kr (Kp af) (Kr (JV af) (Kr (Kp (JP aj (JP aj af))) (Kr (Kp (JP ax af)) (Kr (JI vJ aj aj) (Kr ax (Kr fV af)))))))))))))))))) (JQ (JR (JN aZ (pv 1) (Kd Ku hr (by decide) rfl (JP (pv 0) (JP aj af))) (fun _ _=>rfl))))),?_⟩
  have S0:av H H:=av.refl H
  refine ⟨_,rfl,(au (n:=0) (by decide)),fun t0 h0=>?_⟩
  have s0:av H (upd H t0 (.tup [])):=av.new h0
  have f0:(upd H t0 (.tup [])) t0=some (.tup []):=ag
  replace S0:=S0.trans s0
  generalize upd H t0 (.tup [])=G0 at s0 f0 S0 ⊢
  clear s0 h0
  refine ⟨(au (n:=0) (by decide)),fun t1 h1=>?_⟩
  have n1:∀ e,H e≠none→t1≠e:=fun e he z=>by
   cases q:H e with
   | none=>exact he q
   | some o=>rw [z,S0 _ _ q] at h1;cases h1
  have s1:av G0 (upd G0 t1 (.lst [])):=av.new h1
  have f1:(upd G0 t1 (.lst [])) t1=some (.lst []):=ag
  replace S0:=S0.trans s1
  replace f0:=s1 _ _ f0
  generalize upd G0 t1 (.lst [])=G1 at s1 f1 f0 S0 ⊢
  clear s1 h1
  refine ⟨(au (n:=2) (by decide)),fun t2 h2=>?_⟩
  have s2:av G1 (upd G1 t2 (.tup [.int 0,.int 1])):=av.new h2
  have f2:(upd G1 t2 (.tup [.int 0,.int 1])) t2=some (.tup [.int 0,.int 1]):=ag
  replace S0:=S0.trans s2
  replace f0:=s2 _ _ f0
  replace f1:=s2 _ _ f1
  generalize upd G1 t2 (.tup [.int 0,.int 1])=G2 at s2 f2 f0 f1 S0 ⊢
  clear s2 h2
  refine ⟨(au (n:=1) (by decide)),fun t3 h3=>?_⟩
  have s3:av G2 (upd G2 t3 (.tup [.str "a"])):=av.new h3
  have f3:(upd G2 t3 (.tup [.str "a"])) t3=some (.tup [.str "a"]):=ag
  replace S0:=S0.trans s3
  replace f0:=s3 _ _ f0
  replace f1:=s3 _ _ f1
  replace f2:=s3 _ _ f2
  generalize upd G2 t3 (.tup [.str "a"])=G3 at s3 f3 f0 f1 f2 S0 ⊢
  clear s3 h3
  refine ⟨_,_,rfl,rfl,⟨by decide,by decide,by decide⟩,fun t4 h4=>?_⟩
  have s4:av G3 (upd G3 t4 (.dK [])):=av.new h4
  have f4:(upd G3 t4 (.dK [])) t4=some (.dK []):=ag
  replace S0:=S0.trans s4
  replace f0:=s4 _ _ f0
  replace f1:=s4 _ _ f1
  replace f2:=s4 _ _ f2
  replace f3:=s4 _ _ f3
  generalize upd G3 t4 (.dK [])=G4 at s4 f4 f0 f1 f2 f3 S0 ⊢
  clear s4 h4
  refine ⟨(au (n:=16) (by decide)),fun m hm=>?_⟩
  have F4:=F.same S0
  have s5:=av.new (o:=.lst [.non,.bl true,.bl false,.int 0,.int 1,.int (-1),.str "same",.str "a",.str "",.ref t0,.ref t1,.ref t2,.ref t3,.int (10 ^ (30:Int).toNat),.str "A",.ref t4]) hm
  have f5:(upd G4 m (.lst [.non,.bl true,.bl false,.int 0,.int 1,.int (-1),.str "same",.str "a",.str "",.ref t0,.ref t1,.ref t2,.ref t3,.int (10 ^ (30:Int).toNat),.str "A",.ref t4])) m=some (.lst [.non,.bl true,.bl false,.int 0,.int 1,.int (-1),.str "same",.str "a",.str "",.ref t0,.ref t1,.ref t2,.ref t3,.int (10 ^ (30:Int).toNat),.str "A",.ref t4]):=ag
  have nm:=F4.ne hm
  have F5:=F4.same s5
  replace S0:=S0.trans s5
  replace f0:=s5 _ _ f0
  replace f1:=s5 _ _ f1
  replace f2:=s5 _ _ f2
  replace f3:=s5 _ _ f3
  replace f4:=s5 _ _ f4
  generalize upd G4 m _=G5 at s5 f5 f0 f1 f2 f3 f4 F5 S0 ⊢
  refine ⟨_,rfl,_,rfl,d,_,rfl,F5,by decide,by decide,fun r H1 r0 r1 F1 sb1=>?_⟩
  have g:∀ e,H e≠none→Ot e G5 (.ref t1) (.list []):=fun e he=>.lst f1 (n1 e he) (by show 0≤70;decide) .nil
  have key:∃ x y f,atI [.non,.bl true,.bl false,.int 0,.int 1,.int (-1),.str "same",.str "a",.str "",.ref t0,.ref t1,.ref t2,.ref t3,.int (10 ^ (30:Int).toNat),.str "A",.ref t4] r=some x∧Odd f y∧∀ e,H e≠none→Ot e G5 x y:=by
   have:r=0 ∨ r=1 ∨ r=2 ∨ r=3 ∨ r=4 ∨ r=5 ∨ r=6 ∨ r=7 ∨ r=8 ∨ r=9 ∨ r=10 ∨ r=11 ∨ r=12 ∨ r=13 ∨ r=14 ∨ r=15:=by omega
   rcases this with rfl | rfl | rfl | rfl | rfl | rfl | rfl | rfl | rfl | rfl | rfl | rfl | rfl | rfl | rfl | rfl
   ·exact ⟨_,.none,false,rfl,bJ rfl rfl (fun ds z=>by cases z) (fun i z=>by cases z),fun e _=>.non⟩
   ·exact ⟨_,.bool true,false,rfl,bJ rfl rfl (fun ds z=>by cases z) (fun i z=>by cases z),fun e _=>.bl _⟩
   ·exact ⟨_,.bool false,false,rfl,bJ rfl rfl (fun ds z=>by cases z) (fun i z=>by cases z),fun e _=>.bl _⟩
   ·exact ⟨_,.int 0,false,rfl,bJ (by decide +kernel) rfl (fun ds z=>by cases z) (fun i z=>by cases z;decide),fun e _=>.int _⟩
   ·exact ⟨_,.int 1,false,rfl,bJ (by decide +kernel) rfl (fun ds z=>by cases z) (fun i z=>by cases z;decide),fun e _=>.int _⟩
   ·exact ⟨_,.int (-1),false,rfl,bJ (by decide +kernel) rfl (fun ds z=>by cases z) (fun i z=>by cases z;decide),fun e _=>.int _⟩
   ·exact ⟨_,.str "same",false,rfl,bJ (by decide +kernel) rfl (fun ds z=>by cases z) (fun i z=>by cases z),fun e _=>.str _ (by decide)⟩
   ·exact ⟨_,.str "a",false,rfl,bJ (by decide +kernel) rfl (fun ds z=>by cases z) (fun i z=>by cases z),fun e _=>.str _ (by decide)⟩
   ·exact ⟨_,.str "",false,rfl,bJ (by decide +kernel) rfl (fun ds z=>by cases z) (fun i z=>by cases z),fun e _=>.str _ (by decide)⟩
   ·exact ⟨_,.tuple [],false,rfl,lQ rfl rfl (by decide),fun e _=>.tup f0 (by show 0≤70;decide) .nil⟩
   ·exact ⟨_,.list [],false,rfl,rK rfl (fun z=>by cases z) (fun ds z=>by cases z) (fun i z=>by cases z),g⟩
   ·exact ⟨_,.tuple [.int 0,.int 1],false,rfl,lQ (by decide +kernel) rfl (by decide),fun e _=>.tup f2 (by show 2≤70;decide) (.cons (.int _) (.cons (.int _) .nil))⟩
   ·exact ⟨_,.tuple [.str "a"],false,rfl,lQ (by decide +kernel) rfl (by decide),fun e _=>.tup f3 (by show 1≤70;decide) (.cons (.str _ (by decide)) .nil)⟩
   ·exact ⟨_,.int (10 ^ 30),false,rfl,bJ (by decide +kernel) rfl (fun ds z=>by cases z) (fun i z=>by cases z;decide +kernel),fun e _=>.int _⟩
   ·exact ⟨_,.str "A",false,rfl,bJ (by decide +kernel) rfl (fun ds z=>by cases z) (fun i z=>by cases z),fun e _=>.str _ (by decide)⟩
   ·exact ⟨_,.dict [],true,rfl,u3,fun e _=>.void f4⟩
  obtain ⟨x,y,fl,hat,ho,hot⟩:=key
  refine ⟨m,_,_,x,rfl,rfl,SqL.of (sb1 _ _ (F5.nl f5) f5),hat,?_⟩
  exact k x fl y H1 ho (fun e he=>(hot e he).sb F5 sb1) F1 (S0.b.trans sb1)
abbrev y9:Stmt:=top 57
theorem Be:aC ["_law_feed_here","_law_row","_law_thing","_law_at","_law_way"] ["_law_feed_here","_law_row","_law_thing"] (aq y9):=⟨rfl,rfl,rfl,by decide +kernel,rfl,by decide +kernel,by decide +kernel⟩
theorem CQ (D:Df K mg "_law_put" y9)(T:Bt K w mg aB)(Ku:Fnc P w K mg base "_law_draw" ["_law_feed_here","_law_many"] 1 dH):Fnc P w K mg base "_law_put" ["_law_feed_here","_law_row","_law_thing"] 2 rJ:=by
 have sc:=Be
 refine D.ok sc (fun _ _ _ _ _ _ us hl=>by obtain ⟨_,_,_,rfl⟩:=oA hl;rfl) (fun vs H Q E h=>?_) (fun f Kv A outer s H vs Q E hr h=>?_)
 ·obtain ⟨d,r,x,xs,rfl,_⟩:=h
  rfl
 ·obtain ⟨d,r,x,xs,rfl,F,h0,hl,k1,k2⟩:=h
  have KJ:=aT
  refine ⟨_,(JF (JM (3) sc.nd rfl (Or.inl rfl) (Kd Ku hr (by decide) rfl (JP (pv 0) (JP (JI bC (JO aE (by rfl) T.len Ep (JP (pv 1) af)) aj) af)))) (JF (JM (4) sc.nd rfl (Or.inl rfl) (Kd Ku hr (by decide) rfl (JP (pv 0) (JP aj af)))) (JF (JK (JL cj (pv 4) aj (aM _)) (JQ (JR (JI c7 (JT cG (pv 1) aX (JU (pv 3))) (JT cG (pv 1) (JU (JI bC (pv 3) aj)) aX)))) aI) (JF (JK (JL cj (pv 4) aj (aM _)) (JQ (JR (JI c7 (JI c7 (JT cG (pv 1) aX (JU (pv 3))) (Kp (JP (pv 2) af))) (JT cG (pv 1) (JU (pv 3)) aX)))) aI) (JF (JK (JL cj (pv 4) aj (aM _)) (JQ (JR (JI c7 (JI c7 (JT cG (pv 1) aX (JU (pv 3))) (Kp (JP (pv 2) af))) (JT cG (pv 1) (JU (JI bC (pv 3) aj)) aX)))) aI) (JQ (JR (JN aZ (JV (JP (@x_ _ _ _ _ _ _ _ (pv 1) (J_ eG aj)) (JP (JS cu (by rfl) T.list fN (JP (pv 1) af)) af))) (JI fF (pv 4) aj) (fun _ _=>rfl))))))))),?_⟩
  refine ⟨_,rfl,_,rfl,r,_,rfl,.inr (SqT.of h0),_,_,rfl,rfl,d,_,rfl,F,by omega,by omega,fun m H1 m0 m1 F1 sb1=>?_⟩
  obtain ⟨m,rfl⟩:=ET m0
  have hm:m≤xs.length:=by omega
  refine ⟨_,rfl,d,_,rfl,F1,by decide,by decide,fun way H2 w0 w1 F2 sb2=>?_⟩
  have sb:=sb1.trans sb2
  have hr2:=sb _ _ (F.neT h0) h0
  have em:(m:Int)+1=((m+1:Nat):Int):=by omega
  have tk:=fun (G:Hp) (a:Addr) (ys:List V) (g:G a=some (.tup ys)) (s:av H2 G) (q:∀ y∈ys,y∈xs ∨ y=x) (l:ys.length≤xs.length+1)=>k1 a ys G g q l (F2.same s) (sb.trans s.b)
  have inT:∀ y∈xs.take m,y∈xs ∨ y=x:=fun y hy=>.inl (Ip hy)
  have inD:∀ j,∀ y∈xs.drop j,y∈xs ∨ y=x:=fun j y hy=>.inl (List.mem_of_mem_drop hy)
  have inX:∀ y∈[x],y∈xs ∨ y=x:=fun y hy=>.inr (Eu.mp hy)
  have inA:∀ {A B:List V},(∀ y∈A,y∈xs ∨ y=x)→(∀ y∈B,y∈xs ∨ y=x)→∀ y∈A++B,y∈xs ∨ y=x:=fun a b y hy=>(EL.mp hy).elim (a y) (b y)
  have lt:(xs.take m).length≤m:=List.length_take_le m xs
  have ld:∀ j,(xs.drop j).length=xs.length - j:=fun j=>Fv
  refine ⟨_,rfl,rfl,_,rfl,iO (fun _=>?A) (fun nb=>?B)⟩
  case A =>
   refine ⟨_,rfl,_,rfl,_,rfl,r,xs,rfl,hr2,fun a H3 s3 h3=>?_⟩
   rw [gb] at h3
   refine ⟨_,rfl,_,rfl,_,_,rfl,rfl,_,rfl,r,_,rfl,s3 _ _ hr2,fun b H4 s4 h4=>?_⟩
   rw [em,fC] at h4
   exact ⟨a,b,_,_,rfl,rfl,s4 _ _ h3,h4,(by rw [ld];omega),fun p H5 s5 h5=>tk H5 p _ h5 (s3.trans (s4.trans s5)) (inA inT (inD _)) (by rw [Ec,ld];omega)⟩
  refine ⟨_,rfl,rfl,_,rfl,iO (fun _=>?C) (fun nd=>?D)⟩
  case C =>
   refine ⟨_,rfl,_,rfl,_,rfl,r,xs,rfl,hr2,fun a H3 s3 h3=>?_⟩
   rw [gb] at h3
   refine ⟨_,rfl,(au (n:=1) (by decide)),fun c hc=>?_⟩
   have sc:=av.new (o:=.tup [x]) hc
   have fc:(upd H3 c (.tup [x])) c=some (.tup [x]):=ag
   generalize upd H3 c (.tup [x])=H4 at sc fc ⊢
   refine ⟨a,c,_,_,rfl,rfl,sc _ _ h3,fc,(by rw [En];omega),fun p H5 s5 h5=>?_⟩
   refine ⟨_,rfl,_,rfl,_,rfl,r,_,rfl,s5 _ _ (sc _ _ (s3 _ _ hr2)),fun b H6 s6 h6=>?_⟩
   rw [fC] at h6
   exact ⟨p,b,_,_,rfl,rfl,s6 _ _ h5,h6,(by rw [Ec,En,ld];omega),fun q H7 s7 h7=>tk H7 q _ h7 (s3.trans (sc.trans (s5.trans (s6.trans s7)))) (inA (inA inT inX) (inD _)) (by rw [Ec,Ec,En,ld];omega)⟩
  refine ⟨_,rfl,rfl,_,rfl,iO (fun _=>?E) (fun nf=>?F)⟩
  case E =>
   refine ⟨_,rfl,_,rfl,_,rfl,r,xs,rfl,hr2,fun a H3 s3 h3=>?_⟩
   rw [gb] at h3
   refine ⟨_,rfl,(au (n:=1) (by decide)),fun c hc=>?_⟩
   have sc:=av.new (o:=.tup [x]) hc
   have fc:(upd H3 c (.tup [x])) c=some (.tup [x]):=ag
   generalize upd H3 c (.tup [x])=H4 at sc fc ⊢
   refine ⟨a,c,_,_,rfl,rfl,sc _ _ h3,fc,(by rw [En];omega),fun p H5 s5 h5=>?_⟩
   refine ⟨_,rfl,_,rfl,_,_,rfl,rfl,_,rfl,r,_,rfl,s5 _ _ (sc _ _ (s3 _ _ hr2)),fun b H6 s6 h6=>?_⟩
   rw [em,fC] at h6
   exact ⟨p,b,_,_,rfl,rfl,s6 _ _ h5,h6,(by rw [Ec,En,ld];omega),fun q H7 s7 h7=>tk H7 q _ h7 (s3.trans (sc.trans (s5.trans (s6.trans s7)))) (inA (inA inT inX) (inD _)) (by rw [Ec,Ec,En,ld];omega)⟩
  obtain ⟨y,hy,ey⟩:∃ y:Nat,y≤1∧way=(y:Int)+3:=by
   have z0:way≠0:=fun z=>nb (by rw [z];exact Eh rfl)
   have z1:way≠1:=fun z=>nd (by rw [z];exact Eh rfl)
   have z2:way≠2:=fun z=>nf (by rw [z];exact Eh rfl)
   exact ⟨(way - 3).toNat,by omega,by omega⟩
  refine ⟨_,rfl,_,rfl,r,xs,rfl,rfl,hr2,fun a ha=>?_⟩
  have s3:=av.new (o:=.tup xs.reverse) ha
  have f3:(upd H2 a (.tup xs.reverse)) a=some (.tup xs.reverse):=ag
  generalize upd H2 a (.tup xs.reverse)=H3 at s3 f3 ⊢
  refine ⟨_,rfl,r,xs,rfl,.inr (SqT.of (s3 _ _ hr2)),fun b hb=>?_⟩
  have nb0:H b=none:=by
   cases q:H b with
   | none=>rfl
   | some o =>
    have:=s3 _ _ (sb b o ((F2.same s3).ne hb) q)
    rw [this] at hb
    cases hb
  have s4:=av.new (o:=.lst xs) hb
  have f4:(upd H3 b (.lst xs)) b=some (.lst xs):=ag
  have f3:=s4 _ _ f3
  generalize upd H3 b (.lst xs)=H4 at s4 f4 f3 ⊢
  refine ⟨(au (n:=2) (by decide)),fun l hl=>?_⟩
  have s5:=av.new (o:=.lst [.ref a,.ref b]) hl
  have f5:(upd H4 l (.lst [.ref a,.ref b])) l=some (.lst [.ref a,.ref b]):=ag
  have f4:=s5 _ _ f4
  have f3:=s5 _ _ f3
  have s35:=s3.trans (s4.trans s5)
  generalize upd H4 l (.lst [.ref a,.ref b])=H5 at s5 f5 f4 f3 s35 ⊢
  refine ⟨_,rfl,_,_,rfl,rfl,?_⟩
  match y,hy with
  | 0,_ =>
   refine ⟨l,_,_,.ref a,rfl,rfl,SqL.of f5,(by rw [ey];rfl),?_⟩
   exact tk H5 a _ f3 s35 (fun y hy=>.inl (List.mem_reverse.mp hy)) (by rw [GA];omega)
  | 1,_ =>
   refine ⟨l,_,_,.ref b,rfl,rfl,SqL.of f5,(by rw [ey];rfl),?_⟩
   exact k2 b H5 nb0 f4 (F2.same s35) (sb.trans s35.b)
end
section
variable {P:Program} {w:World} {K:PySem.W.Frag} {mg:Str→Option Value} {base:Heap} {aB:Addr}
open Su
abbrev mh:Stmt:=top 58
theorem vE:aC ["_law_feed_here","_law_paper","_law_row","_law_word","_law_slides_here","_law_place","_law_names_here","_law_way","_law_some"] ["_law_feed_here","_law_paper","_law_row"] (aq mh):=⟨rfl,rfl,rfl,by decide +kernel,rfl,by decide +kernel,by decide +kernel⟩
theorem y_ (D:Df K mg "_law_bent_same" mh)(T:Bt K w mg aB)(Ku:Fnc P w K mg base "_law_draw" ["_law_feed_here","_law_many"] 1 dH)(KR:Fnc P w K mg base "_law_odd" ["_law_feed_here"] 2 nk)(F_put:Fnc P w K mg base "_law_put" ["_law_feed_here","_law_row","_law_thing"] 2 rJ):Fnc P w K mg base "_law_bent_same" ["_law_feed_here","_law_paper","_law_row"] 3 jv:=by
 have sc:=vE
 refine D.ok sc (fun _ _ _ _ _ _ us hl=>by obtain ⟨_,_,_,rfl⟩:=oA hl;rfl) (fun vs H Q E h=>?_) (fun f Kv A outer s H vs Q E hr h=>?_)
 ·obtain ⟨d,e,a,n,u,ss,p,g,rfl,_⟩:=h
  rfl
 ·obtain ⟨d,e,a,n,u,ss,p,g,rfl,F,he,x,U,n2,KW,nz,h8,k⟩:=h
  have KJ:=aT
  have ul:=U.row.len
  have u6:=U.h6
  have KU:(toS u).length≤sizeLine:=by rw [ah];omega
  obtain ⟨q,nm,as,h1,h2,h3,h4⟩:=x.ex
  have sg:=x.sg
  have al:as.length≤8:=by rw [h3.len];exact h8
  have nl:((nmS n g).map tx).length=n:=by rw [Ea,nmS_len]
  have w0:W8 d e a q nm as ss (p:Int) n g H (fun _ _=>True) [] H:=⟨F,he,h1,h2,h3,h4,a_.refl _ _,fun y hy=>by cases hy⟩
  have cw:∀ (fl:Bool) (G:Hp),Cf fl e G (.str "same"):=fun fl G=>eW (by decide +kernel) (by decide)
  have cv:∀ (fl:Bool) (G:Hp),Cf fl e G (.str "unlike"):=fun fl G=>eW (by decide +kernel) (by decide)
  have cq:∀ {R S G} (fl:Bool),W8 d e a q nm as ss (p:Int) n g H R S G→Cf fl e G (.ref q):=fun fl w=>nq w.h2 (eX w.h3 sg nz) (by rw [Ea];omega)
  have cn:∀ {R S G} (fl:Bool),W8 d e a q nm as ss (p:Int) n g H R S G→Cf fl e G (.ref nm):=fun fl w=>nq w.h4 gk (by omega)
  have cp:∀ (fl:Bool) (G:Hp),Cf fl e G (.int (p:Int)):=fun fl G=>dn (by omega) (by omega)
  have fin:∀ {R S} {G:Hp} (fl:Bool) (w:W8 d e a q nm as ss (p:Int) n g H R S G) (r:Addr) (x1 x2 x3:V),Mo d R→G r=none→Cm fl e G x1→Cm fl e G x2→Cm fl e G x3→Q (.ref r) (upd G r (.tup [.str "same",x1,x2,x3])):=fun fl w r x1 x2 x3 m hr c1 c2 c3=>by
   have w':=w.new m (.tup [.str "same",x1,x2,x3]) hr
   have s:=av.new (o:=.tup [.str "same",x1,x2,x3]) hr
   refine k _ _ (jt ag (cw fl _) (fun y hy=>?_) (by show 3≤5;decide)) w'.F w'.sb
   simp only [Ei,Ek,EW] at hy
   rcases hy with rfl | rfl | rfl
   ·exact c1.same s
   ·exact c2.same s
   ·exact c3.same s
  refine ⟨_,(@ai _ _ _ _ _ (@vI _ _ _ _ _ _ (pv 1) (@gm _ _ _ _ _ _ rfl (@bf _ _ _ _ _ (@aF _ _ (3) _ sc.nd rfl (Or.inl rfl) (by first | exact .inl rfl | exact .inr rfl | assumption)) (@bf _ _ _ _ _ (@aF _ _ (4) _ sc.nd rfl (Or.inl rfl) (by first | exact .inl rfl | exact .inr rfl | assumption)) (@bf _ _ _ _ _ (@aF _ _ (5) _ sc.nd rfl (Or.inl rfl) (by first | exact .inl rfl | exact .inr rfl | assumption)) (@bf _ _ _ _ _ (@aF _ _ (6) _ sc.nd rfl (Or.inl rfl) (by first | exact .inl rfl | exact .inr rfl | assumption)) d_ (by rfl)) (by rfl)) (by rfl)) (by rfl)) (by rfl) (by rfl)) (by rfl) (by rfl) (by rfl)) (@ai _ _ _ _ _ (@az _ _ (7) _ _ _ _ sc.nd rfl (Or.inl rfl) (@aH _ _ _ _ _ _ _ _ _ _ _ Ku hr (by decide) rfl (@aa _ _ _ _ _ (pv 0) (@aa _ _ _ _ _ aj af (by rfl)) (by rfl)) (by decide) (by rfl) (by rfl)) (by rfl) (by first | exact .inl rfl | exact .inr rfl | assumption)) (@ai _ _ _ _ _ (@a6 _ _ _ _ _ _ _ _ (@aG _ _ _ _ _ _ _ _ iH (pv 7) aj (aM _)) (@ai _ _ _ _ _ (@az _ _ (8) _ _ _ _ sc.nd rfl (Or.inl rfl) (@bc _ _ _ _ (@bT _ _ _ _ _ (@aP _ _ _ _ _ (@aa _ _ _ _ _ (@aJ _ _ _ _ _ _ _ _ fF (@aH _ _ _ _ _ _ _ _ _ _ _ Ku hr (by decide) rfl (@aa _ _ _ _ _ (pv 0) (@aa _ _ _ _ _ (@aJ _ _ _ _ _ _ _ _ bC (@ao _ _ _ _ _ _ _ _ _ ay (by rfl) T.len Ep (@aa _ _ _ _ _ (pv 2) af (by rfl)) (by decide) (by decide) (by rfl) (by rfl)) aj) af (by rfl)) (by rfl)) (by decide) (by rfl) (by rfl)) aj) (@aa _ _ _ _ _ aj af (by rfl)) (by rfl))) (@bT _ _ _ _ _ (@aP _ _ _ _ _ (@aa _ _ _ _ _ (@aH _ _ _ _ _ _ _ _ _ _ _ Ku hr (by decide) rfl (@aa _ _ _ _ _ (pv 0) (@aa _ _ _ _ _ (@ao _ _ _ _ _ _ _ _ _ ay (by rfl) T.len Ep (@aa _ _ _ _ _ (pv 2) af (by rfl)) (by decide) (by decide) (by rfl) (by rfl)) af (by rfl)) (by rfl)) (by decide) (by rfl) (by rfl)) (@aa _ _ _ _ _ (@iG _ _ _ _ _ _ eG aj) af (by rfl)) (by rfl))) (@bT _ _ _ _ _ (@aP _ _ _ _ _ (@aa _ _ _ _ _ aj (@aa _ _ _ _ _ aj af (by rfl)) (by rfl))) (@bT _ _ _ _ _ (@aP _ _ _ _ _ (@aa _ _ _ _ _ bK (@aa _ _ _ _ _ aj af (by rfl)) (by rfl))) (@bT _ _ _ _ _ (@aP _ _ _ _ _ (@aa _ _ _ _ _ aj (@aa _ _ _ _ _ bK af (by rfl)) (by rfl))) af (by rfl)) (by rfl)) (by rfl)) (by rfl)) (by rfl))) (by rfl) (by first | exact .inl rfl | exact .inr rfl | assumption)) (@ai _ _ _ _ _ (@az _ _ (8) _ _ _ _ sc.nd rfl (Or.inl rfl) (@aJ _ _ _ _ _ _ _ _ jX (pv 8) (@bc _ _ _ _ (@aa _ _ _ _ _ (@aP _ _ _ _ _ (@aa _ _ _ _ _ aj (@aa _ _ _ _ _ ax af (by rfl)) (by rfl))) (@aa _ _ _ _ _ (@aP _ _ _ _ _ (@aa _ _ _ _ _ aj (@aa _ _ _ _ _ aj (@aa _ _ _ _ _ aj af (by rfl)) (by rfl)) (by rfl))) (@aa _ _ _ _ _ (@bc _ _ _ _ (@aa _ _ _ _ _ aj (@aa _ _ _ _ _ aj af (by rfl)) (by rfl))) (@aa _ _ _ _ _ (@aH _ _ _ _ _ _ _ _ _ _ _ KR hr (by decide) rfl (@aa _ _ _ _ _ (pv 0) af (by rfl)) (by decide) (by rfl) (by rfl)) af (by rfl)) (by rfl)) (by rfl)) (by rfl)))) (by rfl) (by first | exact .inl rfl | exact .inr rfl | assumption)) (@ak _ _ _ (@aD _ _ _ _ (@aP _ _ _ _ _ (@aa _ _ _ _ _ (pv 3) (@aa _ _ _ _ _ (@aH _ _ _ _ _ _ _ _ _ _ _ F_put hr (by decide) rfl (@aa _ _ _ _ _ (pv 0) (@aa _ _ _ _ _ (pv 4) (@aa _ _ _ _ _ (@aK _ _ _ _ _ _ _ aZ (pv 8) (@aH _ _ _ _ _ _ _ _ _ _ _ Ku hr (by decide) rfl (@aa _ _ _ _ _ (pv 0) (@aa _ _ _ _ _ aj af (by rfl)) (by rfl)) (by decide) (by rfl) (by rfl)) (fun _ _=>rfl)) af (by rfl)) (by rfl)) (by rfl)) (by decide) (by rfl) (by rfl)) (@aa _ _ _ _ _ (pv 5) (@aa _ _ _ _ _ (pv 6) af (by rfl)) (by rfl)) (by rfl)) (by rfl))))))) aI) (@ai _ _ _ _ _ (@a6 _ _ _ _ _ _ _ _ (@aG _ _ _ _ _ _ _ _ cj (pv 7) aj (aM _)) (@ai _ _ _ _ _ (@az _ _ (8) _ _ _ _ sc.nd rfl (Or.inl rfl) (@bc _ _ _ _ (@bT _ _ _ _ _ (@aJ _ _ _ _ _ _ _ _ bC (pv 5) aj) (@bT _ _ _ _ _ (@aJ _ _ _ _ _ _ _ _ fF (pv 5) aj) (@bT _ _ _ _ _ (@ao _ _ _ _ _ _ _ _ _ ay (by rfl) T.len Ep (@aa _ _ _ _ _ (pv 2) af (by rfl)) (by decide) (by decide) (by rfl) (by rfl)) (@bT _ _ _ _ _ aj (@bT _ _ _ _ _ bK (@bT _ _ _ _ _ ax (@bT _ _ _ _ _ (@iG _ _ _ _ _ _ eG aj) (@bT _ _ _ _ _ (@aH _ _ _ _ _ _ _ _ _ _ _ KR hr (by decide) rfl (@aa _ _ _ _ _ (pv 0) af (by rfl)) (by decide) (by rfl) (by rfl)) af (by rfl)) (by rfl)) (by rfl)) (by rfl)) (by rfl)) (by rfl)) (by rfl)) (by rfl))) (by rfl) (by first | exact .inl rfl | exact .inr rfl | assumption)) (@ak _ _ _ (@aD _ _ _ _ (@aP _ _ _ _ _ (@aa _ _ _ _ _ (pv 3) (@aa _ _ _ _ _ (pv 4) (@aa _ _ _ _ _ (@aK _ _ _ _ _ _ _ aZ (pv 8) (@aH _ _ _ _ _ _ _ _ _ _ _ Ku hr (by decide) rfl (@aa _ _ _ _ _ (pv 0) (@aa _ _ _ _ _ aj af (by rfl)) (by rfl)) (by decide) (by rfl) (by rfl)) (fun _ _=>rfl)) (@aa _ _ _ _ _ (pv 6) af (by rfl)) (by rfl)) (by rfl)) (by rfl)))))) aI) (@ai _ _ _ _ _ (@a6 _ _ _ _ _ _ _ _ (@aG _ _ _ _ _ _ _ _ iH (pv 7) aj (aM _)) (@ai _ _ _ _ _ (@az _ _ (8) _ _ _ _ sc.nd rfl (Or.inl rfl) (@bc _ _ _ _ (@bT _ _ _ _ _ ax (@bT _ _ _ _ _ ax (@bT _ _ _ _ _ ax (@bT _ _ _ _ _ (@aK _ _ _ _ _ _ _ dk ax (@aJ _ _ _ _ _ _ _ _ cR (@ao _ _ _ _ _ _ _ _ _ ay (by rfl) T.len Ep (@aa _ _ _ _ _ (pv 2) af (by rfl)) (by decide) (by decide) (by rfl) (by rfl)) aj) (fun _ _=>rfl)) (@bT _ _ _ _ _ ax (@bT _ _ _ _ _ ax (@bT _ _ _ _ _ (@aH _ _ _ _ _ _ _ _ _ _ _ KR hr (by decide) rfl (@aa _ _ _ _ _ (pv 0) af (by rfl)) (by decide) (by rfl) (by rfl)) (@bT _ _ _ _ _ (@fK _ _ _ _ _ _ _ _ _ EC GI GJ fX (@aK _ _ _ _ _ _ _ aO (pv 6) aj (fun _ _=>rfl)) (by rfl) (by rfl)) af (by rfl)) (by rfl)) (by rfl)) (by rfl)) (by rfl)) (by rfl)) (by rfl)) (by rfl))) (by rfl) (by first | exact .inl rfl | exact .inr rfl | assumption)) (@ak _ _ _ (@aD _ _ _ _ (@aP _ _ _ _ _ (@aa _ _ _ _ _ (pv 3) (@aa _ _ _ _ _ (pv 4) (@aa _ _ _ _ _ (pv 5) (@aa _ _ _ _ _ (@aH _ _ _ _ _ _ _ _ _ _ _ F_put hr (by decide) rfl (@aa _ _ _ _ _ (pv 0) (@aa _ _ _ _ _ (pv 6) (@aa _ _ _ _ _ (@aK _ _ _ _ _ _ _ aZ (pv 8) (@aH _ _ _ _ _ _ _ _ _ _ _ Ku hr (by decide) rfl (@aa _ _ _ _ _ (pv 0) (@aa _ _ _ _ _ aj af (by rfl)) (by rfl)) (by decide) (by rfl) (by rfl)) (fun _ _=>rfl)) af (by rfl)) (by rfl)) (by rfl)) (by decide) (by rfl) (by rfl)) af (by rfl)) (by rfl)) (by rfl)) (by rfl)))))) aI) (@ai _ _ _ _ _ (@a6 _ _ _ _ _ _ _ _ (@aG _ _ _ _ _ _ _ _ cj (pv 7) aj (aM _)) (@ai _ _ _ _ _ (@az _ _ (8) _ _ _ _ sc.nd rfl (Or.inl rfl) (@bc _ _ _ _ (@bT _ _ _ _ _ (@aQ _ _ _ _ _ _ _ _ _ _ cG (pv 1) aX (@aY _ _ _ aj)) (@bT _ _ _ _ _ (@aJ _ _ _ _ _ _ _ _ c7 (pv 1) (@aP _ _ _ _ _ (@aa _ _ _ _ _ aj af (by rfl)))) (@bT _ _ _ _ _ (@aW _ _ _ _ _ _ _ _ _ cu (by rfl) T.list fN (@aa _ _ _ _ _ (pv 1) af (by rfl)) (by decide) (by decide) (by rfl) (by rfl)) (@bT _ _ _ _ _ (@aJ _ _ _ _ _ _ _ _ c7 (@aP _ _ _ _ _ (@aa _ _ _ _ _ ax af (by rfl))) (@aQ _ _ _ _ _ _ _ _ _ _ cG (pv 1) (@aY _ _ _ aj) aX)) (@bT _ _ _ _ _ (@aP _ _ _ _ _ (@aa _ _ _ _ _ ax (@aa _ _ _ _ _ (pv 5) (@aa _ _ _ _ _ (pv 5) af (by rfl)) (by rfl)) (by rfl))) af (by rfl)) (by rfl)) (by rfl)) (by rfl)) (by rfl))) (by rfl) (by first | exact .inl rfl | exact .inr rfl | assumption)) (@ak _ _ _ (@aD _ _ _ _ (@aK _ _ _ _ _ _ _ aZ (pv 8) (@aH _ _ _ _ _ _ _ _ _ _ _ Ku hr (by decide) rfl (@aa _ _ _ _ _ (pv 0) (@aa _ _ _ _ _ aj af (by rfl)) (by rfl)) (by decide) (by rfl) (by rfl)) (fun _ _=>rfl))))) aI) (@ak _ _ _ (@aD _ _ _ _ (@aH _ _ _ _ _ _ _ _ _ _ _ F_put hr (by decide) rfl (@aa _ _ _ _ _ (pv 0) (@aa _ _ _ _ _ (pv 1) (@aa _ _ _ _ _ (@aH _ _ _ _ _ _ _ _ _ _ _ KR hr (by decide) rfl (@aa _ _ _ _ _ (pv 0) af (by rfl)) (by decide) (by rfl) (by rfl)) af (by rfl)) (by rfl)) (by rfl)) (by decide) (by rfl) (by rfl)))))))))),?_⟩
  refine ⟨_,rfl,a,_,rfl,SqT.of h1,rfl,_,_,rfl,_,_,rfl,_,_,rfl,_,_,rfl,rfl,?_⟩
  refine ⟨_,rfl,d,_,rfl,F,by decide,by decide,fun way H1 y0 y1 F1 sb1=>?_⟩
  have w1:=w0.step Mo.tr F1 sb1
  refine ⟨_,rfl,_,_,rfl,rfl,_,rfl,iO (fun _=>?A) (fun nA=>?B)⟩
  case A =>
   have w1:=w1.clr fun G y=>∃ f,Ck f e G y
   refine ⟨_,rfl,_,rfl,_,rfl,KU,_,_,rfl,rfl,d,_,rfl,w1.F,by rw [ah];omega,by rw [ah];omega,fun b0 H2 b00 b01 F2 sb2=>⟨_,_,rfl,rfl,(au (n:=2) (by decide)),fun t1 ht1=>?_⟩⟩
   rw [ah] at b01
   have w2:=w1.step Mo.ck F2 sb2
   have w3:=(w2.new Mo.ck (.tup [.int (b0 - 1),.int 1]) ht1).add ⟨false,ju (f:=false) (e:=e) ag (by omega) (by omega) (.inl rfl)⟩
   generalize upd H2 t1 (.tup [.int (b0 - 1),.int 1])=H3 at w3 ⊢
   refine ⟨_,rfl,_,rfl,_,rfl,KU,d,_,rfl,w3.F,by rw [ah];omega,by rw [ah];omega,fun b1 H4 b10 b11 F4 Ln=>?_⟩
   rw [ah] at b11
   have w4:=w3.step Mo.ck F4 Ln
   refine ⟨_,rfl,(au (n:=2) (by decide)),fun t2 ht2=>?_⟩
   have w5:=(w4.new Mo.ck (.tup [.int b1,.int (-1)]) ht2).add ⟨false,ju (f:=false) (e:=e) ag (by omega) (by omega) (.inr rfl)⟩
   generalize upd H4 t2 (.tup [.int b1,.int (-1)])=H5 at w5 ⊢
   refine ⟨(au (n:=2) (by decide)),fun t3 ht3=>?_⟩
   have w6:=(w5.new Mo.ck (.tup [.int 0,.int 2]) ht3).add ⟨false,iB (f:=false) (e:=e) ag (.cons (.int _) (.cons (.int _) .nil)) (by show 2≤3;decide) (by decide +kernel) rfl⟩
   generalize upd H5 t3 (.tup [.int 0,.int 2])=H6 at w6 ⊢
   refine ⟨(au (n:=2) (by decide)),fun t4 ht4=>?_⟩
   have w7:=(w6.new Mo.ck (.tup [.bl true,.int 1]) ht4).add ⟨false,iB (f:=false) (e:=e) ag (.cons (.bl _) (.cons (.int _) .nil)) (by show 2≤3;decide) (by decide +kernel) rfl⟩
   generalize upd H6 t4 (.tup [.bl true,.int 1])=H7 at w7 ⊢
   refine ⟨(au (n:=2) (by decide)),fun t5 ht5=>?_⟩
   have w8:=(w7.new Mo.ck (.tup [.int 0,.bl true]) ht5).add ⟨false,iB (f:=false) (e:=e) ag (.cons (.int _) (.cons (.bl _) .nil)) (by show 2≤3;decide) (by decide +kernel) rfl⟩
   generalize upd H7 t5 (.tup [.int 0,.bl true])=H8 at w8 ⊢
   refine ⟨(au (n:=5) (by decide)),fun l1 Li=>?_⟩
   have w9:=w8.new Mo.ck (.lst [.ref t1,.ref t2,.ref t3,.ref t4,.ref t5]) Li
   have f1:(upd H8 l1 (.lst [.ref t1,.ref t2,.ref t3,.ref t4,.ref t5])) l1=some (.lst [.ref t1,.ref t2,.ref t3,.ref t4,.ref t5]):=ag
   generalize upd H8 l1 (.lst [.ref t1,.ref t2,.ref t3,.ref t4,.ref t5])=H9 at w9 f1 ⊢
   refine ⟨_,rfl,(au (n:=2) (by decide)),fun t6 ht6=>?_⟩
   have w10:=(w9.new Mo.ck (.tup [.int 1,.str "1"]) ht6).add ⟨false,iB (f:=false) (e:=e) ag (.cons (.int _) (.cons (.str _ (by decide)) .nil)) (by show 2≤3;decide) (by decide +kernel) rfl⟩
   have f1:=av.new (o:=.tup [.int 1,.str "1"]) ht6 _ _ f1
   generalize upd H9 t6 (.tup [.int 1,.str "1"])=H10 at w10 f1 ⊢
   refine ⟨(au (n:=3) (by decide)),fun t7 ht7=>?_⟩
   have w11:=(w10.new Mo.ck (.tup [.int 0,.int 1,.int 1]) ht7).add ⟨false,iB (f:=false) (e:=e) ag (.cons (.int _) (.cons (.int _) (.cons (.int _) .nil))) (by show 3≤3;decide) (by decide +kernel) rfl⟩
   have f1:=av.new (o:=.tup [.int 0,.int 1,.int 1]) ht7 _ _ f1
   generalize upd H10 t7 (.tup [.int 0,.int 1,.int 1])=H11 at w11 f1 ⊢
   refine ⟨(au (n:=2) (by decide)),fun t8 ht8=>?_⟩
   have w12:=(w11.new Mo.ck (.lst [.int 0,.int 1]) ht8).add ⟨false,AO (e:=e) ag (w11.ne ht8) (.cons (.int _) (.cons (.int _) .nil)) (by show 2≤3;decide) (by decide +kernel)⟩
   have f1:=av.new (o:=.lst [.int 0,.int 1]) ht8 _ _ f1
   generalize upd H11 t8 (.lst [.int 0,.int 1])=H12 at w12 f1 ⊢
   refine ⟨_,rfl,d,rfl,w12.F,fun z fl yd H13 ho hot F13 sb13=>?_⟩
   have f1:=sb13 _ _ (w12.F.nl f1) f1
   have w13:=(w12.step Mo.ck F13 sb13).add ⟨fl,ho.ck (hot e w12.he)⟩
   refine ⟨(au (n:=4) (by decide)),fun l2 KS=>?_⟩
   have w14:=w13.new Mo.ck (.lst [.ref t6,.ref t7,.ref t8,z]) KS
   have f1:=av.new (o:=.lst [.ref t6,.ref t7,.ref t8,z]) KS _ _ f1
   have f2:(upd H13 l2 (.lst [.ref t6,.ref t7,.ref t8,z])) l2=some (.lst [.ref t6,.ref t7,.ref t8,z]):=ag
   generalize upd H13 l2 (.lst [.ref t6,.ref t7,.ref t8,z])=H14 at w14 f1 f2 ⊢
   refine ⟨l1,l2,_,_,rfl,rfl,f1,f2,(au (n:=9) (by decide)),fun l3 hl3=>?_⟩
   have w15:=w14.new Mo.ck (.lst ([.ref t1,.ref t2,.ref t3,.ref t4,.ref t5]++[.ref t6,.ref t7,.ref t8,z])) hl3
   have f3:(upd H14 l3 (.lst ([.ref t1,.ref t2,.ref t3,.ref t4,.ref t5]++[.ref t6,.ref t7,.ref t8,z]))) l3=some (.lst [.ref t1,.ref t2,.ref t3,.ref t4,.ref t5,.ref t6,.ref t7,.ref t8,z]):=ag
   generalize upd H14 l3 (.lst ([.ref t1,.ref t2,.ref t3,.ref t4,.ref t5]++[.ref t6,.ref t7,.ref t8,z]))=H15 at w15 f3 ⊢
   refine ⟨_,rfl,_,rfl,_,rfl,_,rfl,_,rfl,d,_,rfl,w15.F,by decide,by decide,fun c H16 c0 c1 F16 sb16=>?_⟩
   have f3:=sb16 _ _ (w15.F.nl f3) f3
   have w16:=w15.step Mo.ck F16 sb16
   obtain ⟨y,hat,hy⟩:=ip (xs:=[.ref t1,.ref t2,.ref t3,.ref t4,.ref t5,.ref t6,.ref t7,.ref t8,z]) c0 (by show c < ((9:Nat):Int);omega)
   obtain ⟨fy,hc⟩:=w16.el y hy
   refine ⟨l3,_,_,y,rfl,rfl,SqL.of f3,hat,?_⟩
   refine ⟨d,q,y,_,rfl,w16.F,w16.h2,(by rw [Ea];omega),fun r ys G hr' hys hyl FG sG=>?_,fun r G hr0 hr' FG sG=>?_⟩
   ·have wG:=w16.step Mo.ck FG sG
    rw [Ea] at hyl
    refine ⟨_,rfl,_,rfl,(au (n:=4) (by decide)),fun v hv=>fin fy wG v _ _ _ Mo.ck hv (wN hr' (fun i hi=>?_) (by omega)) (cp fy _).cm (cn fy wG).cm⟩
    rcases hys i hi with h | rfl
    ·exact (eX wG.h3 sg nz i h).ck
    ·exact hc.sb w16.F sG
   ·have wG:=w16.step Mo.ck FG sG
    exact ⟨_,rfl,_,rfl,(au (n:=4) (by decide)),fun v hv=>fin false wG v _ _ _ Mo.ck hv (wO hr' (w16.ne hr0) (fun i hi=>(eX wG.h3 sg nz i hi).ck) (by rw [Ea];omega)) (cp false _).cm (cn false wG).cm⟩
  have mo:Mo d fun G y=>∃ f,Cf f e G y:=fun _ _ F s _ ⟨f,h⟩=>⟨f,h.sb F s⟩
  refine ⟨_,rfl,rfl,_,rfl,iO (fun _=>?C) (fun nC=>?D)⟩
  case C =>
   refine ⟨_,rfl,_,_,rfl,rfl,_,rfl,_,_,rfl,rfl,_,rfl,_,rfl,KU,_,rfl,_,rfl,d,rfl,w1.F,fun z fl yd H2 ho hot F2 sb2=>⟨(au (n:=8) (by decide)),fun l hl=>?_⟩⟩
   have w2:=(w1.clr fun G y=>∃ f,Cf f e G y).step mo F2 sb2
   have w2:=w2.add ⟨fl,ho.cf (hot e w1.he)⟩
   have w3:=w2.new mo (.lst [.int ((p:Int)+1),.int ((p:Int) - 1),.int ((toS u).length:Int),.int 0,.bl true,.str "0",.int (-1),z]) hl
   have f3:(upd H2 l (.lst [.int ((p:Int)+1),.int ((p:Int) - 1),.int ((toS u).length:Int),.int 0,.bl true,.str "0",.int (-1),z])) l=some (.lst [.int ((p:Int)+1),.int ((p:Int) - 1),.int ((toS u).length:Int),.int 0,.bl true,.str "0",.int (-1),z]):=ag
   generalize upd H2 l (.lst [.int ((p:Int)+1),.int ((p:Int) - 1),.int ((toS u).length:Int),.int 0,.bl true,.str "0",.int (-1),z])=H3 at w3 f3 ⊢
   refine ⟨_,rfl,_,rfl,_,rfl,_,rfl,d,_,rfl,w3.F,by decide,by decide,fun c H4 c0 c1 F4 Ln=>?_⟩
   have f3:=Ln _ _ (w3.F.nl f3) f3
   have w4:=w3.step mo F4 Ln
   obtain ⟨y,hat,hy⟩:=ip (xs:=[.int ((p:Int)+1),.int ((p:Int) - 1),.int ((toS u).length:Int),.int 0,.bl true,.str "0",.int (-1),z]) c0 (by show c < ((8:Nat):Int);omega)
   obtain ⟨fy,hc⟩:∃ f,Cf f e H4 y:=by
    rw [ah] at hy
    simp only [Ei,Ek,EW] at hy
    rcases hy with rfl | rfl | rfl | rfl | rfl | rfl | rfl | rfl
    ·exact ⟨false,dn (by omega) (by omega)⟩
    ·exact ⟨false,dn (by omega) (by omega)⟩
    ·exact ⟨false,dn (by omega) (by omega)⟩
    ·exact ⟨false,dn (by omega) (by omega)⟩
    ·exact ⟨false,AN true⟩
    ·exact ⟨false,eW (by decide +kernel) (by decide)⟩
    ·exact ⟨false,dn (by omega) (by omega)⟩
    ·exact w4.el _ (Eu.mpr rfl)
   exact ⟨l,_,_,y,rfl,rfl,SqL.of f3,hat,_,rfl,(au (n:=4) (by decide)),fun v hv=>fin fy w4 v _ _ _ mo hv (cq fy w4).cm hc.cm (cn fy w4).cm⟩
  refine ⟨_,rfl,_,_,rfl,rfl,_,rfl,iO (fun _=>?E) (fun nE=>?G)⟩
  case E =>
   have e2:((toS u).length:Int) / 2=(n:Int):=by rw [ah];omega
   obtain ⟨c1,hc1,ch1,cl1⟩:∃ c,atI ("abcdefg":Str).cps.toList ((toS u).length / 2:Int)=some c∧jK (.str ⟨#[c]⟩)=true∧(⟨#[c]⟩:Str).length≤60:=by
    rw [e2]
    have:n=2 ∨ n=3 ∨ n=4 ∨ n=5 ∨ n=6:=by omega
    rcases this with rfl | rfl | rfl | rfl | rfl <;> exact ⟨_,rfl,by decide +kernel,by decide +kernel⟩
   have mk:=Mo.ck (d:=d) (e:=e)
   refine ⟨_,rfl,_,rfl,KU,_,_,rfl,rfl,⟨by decide,by decide⟩,_,_,c1,rfl,rfl,(au (n:=7) (by decide)),hc1,?_⟩
   refine ⟨_,rfl,d,rfl,w1.F,fun z fl yd H2 ho hot F2 sb2=>?_⟩
   have w2:=(w1.clr fun G y=>∃ f,Ck f e G y).step mk F2 sb2
   have w2:=w2.add ⟨fl,ho.ck (hot e w1.he)⟩
   obtain ⟨y0,hat0,hy0⟩:=ip (xs:=(nmS n g).map tx) (q:=0) (by decide) (by omega)
   obtain ⟨c2,rfl⟩:∃ c:L,y0=tx [c]:=by
    obtain ⟨u',hu,rfl⟩:=ED.mp hy0
    unfold nmS at hu
    obtain ⟨i,_,rfl⟩:=ED.mp hu
    exact ⟨_,rfl⟩
   refine ⟨_,rfl,nm,_,_,_,rfl,rfl,SqT.of w2.h4,hat0,rfl,_,rfl,rfl,(by rw [ah];show 1≤5592405;decide),(au (n:=8) (by decide)),fun l hl=>?_⟩
   obtain ⟨u1,u2⟩:=AQ c2
   generalize Txt.upper (toS [c2])=up at u1 u2 hl ⊢
   have w3:=w2.new mk (.lst [.str "a",.str "A",.str "b",.str ⟨#[c1]⟩,.str "ab",.str "",z,.str up]) hl
   have f3:(upd H2 l (.lst [.str "a",.str "A",.str "b",.str ⟨#[c1]⟩,.str "ab",.str "",z,.str up])) l=some (.lst [.str "a",.str "A",.str "b",.str ⟨#[c1]⟩,.str "ab",.str "",z,.str up]):=ag
   generalize upd H2 l (.lst [.str "a",.str "A",.str "b",.str ⟨#[c1]⟩,.str "ab",.str "",z,.str up])=H3 at w3 f3 ⊢
   refine ⟨_,rfl,_,rfl,_,rfl,_,rfl,_,rfl,_,rfl,_,rfl,d,_,rfl,w3.F,by decide,by decide,fun c H4 c0 c1' F4 Ln=>?_⟩
   have f3:=Ln _ _ (w3.F.nl f3) f3
   have w4:=w3.step mk F4 Ln
   obtain ⟨y,hat,hy⟩:=ip (xs:=[.str "a",.str "A",.str "b",.str ⟨#[c1]⟩,.str "ab",.str "",z,.str up]) c0 (by show c < ((8:Nat):Int);omega)
   obtain ⟨fy,hc⟩:∃ f,Ck f e H4 y:=by
    simp only [Ei,Ek,EW] at hy
    rcases hy with rfl | rfl | rfl | rfl | rfl | rfl | rfl | rfl
    ·exact ⟨false,gR (by decide +kernel) (by decide)⟩
    ·exact ⟨false,gR (by decide +kernel) (by decide)⟩
    ·exact ⟨false,gR (by decide +kernel) (by decide)⟩
    ·exact ⟨false,gR ch1 cl1⟩
    ·exact ⟨false,gR (by decide +kernel) (by decide)⟩
    ·exact ⟨false,gR (by decide +kernel) (by decide)⟩
    ·exact w4.el _ (Eu.mpr rfl)
    ·exact ⟨false,gR u1 u2⟩
   refine ⟨l,_,_,y,rfl,rfl,SqL.of f3,hat,?_⟩
   refine ⟨d,nm,y,_,rfl,w4.F,w4.h4,(by omega),fun r ys G hr' hys hyl FG sG=>?_,fun r G hr0 hr' FG sG=>?_⟩
   ·have wG:=w4.step mk FG sG
    refine ⟨(au (n:=4) (by decide)),fun v hv=>fin fy wG v _ _ _ mk hv (cq fy wG).cm (cp fy _).cm (wN hr' (fun i hi=>?_) (by omega))⟩
    rcases hys i hi with h | rfl
    ·exact (gk i h).ck
    ·exact hc.sb w4.F sG
   ·have wG:=w4.step mk FG sG
    exact ⟨(au (n:=4) (by decide)),fun v hv=>fin false wG v _ _ _ mk hv (cq false wG).cm (cp false _).cm (wO hr' (w4.ne hr0) (fun i hi=>(gk i hi).ck) (by omega))⟩
  refine ⟨_,rfl,rfl,_,rfl,iO (fun _=>?I) (fun nI=>?J)⟩
  case I =>
   have mt:=Mo.th (d:=d) (e:=e)
   have w1:=w1.clr fun G y=>Thn e G y
   have cs:∀ {S} {G:Hp} (w:W8 d e a q nm as ss (p:Int) n g H (fun G y=>Thn e G y) S G) (fl:Bool),Cf fl e G (.str "same")∧Cf fl e G (.ref q)∧Cf fl e G (.int (p:Int))∧Cf fl e G (.ref nm):=fun w fl=>⟨cw fl _,cq fl w,cp fl _,cn fl w⟩
   have m4:∀ {S} {G:Hp} (w:W8 d e a q nm as ss (p:Int) n g H (fun G y=>Thn e G y) S G) (fl:Bool),∀ y∈[V.str "same",.ref q,.int (p:Int),.ref nm],Cf fl e G y:=fun w fl y hy=>by
    obtain ⟨c1,c2,c3,c4⟩:=cs w fl
    simp only [Ei,Ek,EW] at hy
    rcases hy with rfl | rfl | rfl | rfl <;> assumption
   refine ⟨_,rfl,_,rfl,a,_,rfl,w1.h1,fun t1 H2 s2 ht1=>?_⟩
   have w2:=w1.sm mt s2
   have ht1:H2 t1=some (.tup ([V.str "same",.ref q,.int (p:Int),.ref nm].take 3)):=ht1
   have w2:=w2.add (fD (f:=false) ht1 (fun y hy=>m4 w2 false y (Ip hy)) (by show 3≤6;decide))
   refine ⟨_,rfl,(au (n:=1) (by decide)),fun t2 ht2=>?_⟩
   have w3:=w2.new mt (.tup [.int 0]) ht2
   have f2:(upd H2 t2 (.tup [.int 0])) t2=some (.tup [.int 0]):=ag
   generalize upd H2 t2 (.tup [.int 0])=H3 at w3 f2 ⊢
   refine ⟨a,t2,_,_,rfl,rfl,w3.h1,f2,(by show 4+1≤sizeLine;omega),fun t3 H4 s4 ht3=>?_⟩
   have w4:=w3.sm mt s4
   have w4:=w4.add (fD (f:=false) ht3 (fun y hy=>(EL.mp hy).elim (m4 w4 false y) fun h=>by rw [Eu.mp h];exact dn (by decide) (by decide)) (by show 5≤6;decide))
   refine ⟨_,rfl,a,_,rfl,.inr (SqT.of w4.h1),fun t4 ht4=>?_⟩
   have w5:=w4.new mt (.lst [.str "same",.ref q,.int (p:Int),.ref nm]) ht4
   have w5:=w5.add (lR ag (w4.ne ht4) (fun y hy=>(m4 w5 false y hy).cm) (by show 4≤6;decide))
   generalize upd H4 t4 (.lst [.str "same",.ref q,.int (p:Int),.ref nm])=H5 at w5 ⊢
   refine ⟨(au (n:=1) (by decide)),fun t5 ht5=>?_⟩
   have w6:=w5.new mt (.tup [.str "unlike"]) ht5
   have f5:(upd H5 t5 (.tup [.str "unlike"])) t5=some (.tup [.str "unlike"]):=ag
   generalize upd H5 t5 (.tup [.str "unlike"])=H6 at w6 f5 ⊢
   refine ⟨_,rfl,_,rfl,a,_,rfl,w6.h1,fun t6 H7 s7 ht6=>?_⟩
   have w7:=w6.sm mt s7
   have ht6:H7 t6=some (.tup [.ref q,.int (p:Int),.ref nm]):=ht6
   refine ⟨t5,t6,_,_,rfl,rfl,s7 _ _ f5,ht6,(by show 1+3≤sizeLine;omega),fun t7 H8 s8 ht7=>?_⟩
   have w8:=w7.sm mt s8
   have w8:=w8.add (fD (f:=false) ht7 (fun y hy=>(EL.mp hy).elim (fun h=>by rw [Eu.mp h];exact cv false _) fun h=>m4 w8 false y (Ej _ h)) (by show 4≤6;decide))
   refine ⟨_,rfl,_,rfl,(au (n:=3) (by decide)),fun t8 ht8=>?_⟩
   have w9:=w8.new mt (.tup [.str "unlike",.int (p:Int),.int (p:Int)]) ht8
   have w9:=w9.add (fD (f:=false) ag (fun y hy=>by
    simp only [Ei,Ek,EW] at hy
    rcases hy with rfl | rfl | rfl
    ·exact cv false _
    ·exact cp false _
    ·exact cp false _) (by show 3≤6;decide))
   generalize upd H8 t8 (.tup [.str "unlike",.int (p:Int),.int (p:Int)])=H9 at w9 ⊢
   refine ⟨(au (n:=5) (by decide)),fun l hl=>?_⟩
   have w10:=w9.new mt (.lst [.ref t1,.ref t3,.ref t4,.ref t7,.ref t8]) hl
   have f3:(upd H9 l (.lst [.ref t1,.ref t3,.ref t4,.ref t7,.ref t8])) l=some (.lst [.ref t1,.ref t3,.ref t4,.ref t7,.ref t8]):=ag
   generalize upd H9 l (.lst [.ref t1,.ref t3,.ref t4,.ref t7,.ref t8])=H10 at w10 f3 ⊢
   refine ⟨_,rfl,_,rfl,d,_,rfl,w10.F,by decide,by decide,fun c H11 c0 c1 F11 sb11=>?_⟩
   have f3:=sb11 _ _ (w10.F.nl f3) f3
   have w11:=w10.step mt F11 sb11
   obtain ⟨y,hat,hy⟩:=ip (xs:=[.ref t1,.ref t3,.ref t4,.ref t7,.ref t8]) c0 (by show c < ((5:Nat):Int);omega)
   exact ⟨l,_,_,y,rfl,rfl,SqL.of f3,hat,k _ _ (w11.el y hy) w11.F w11.sb⟩
  refine ⟨_,rfl,_,rfl,_,rfl,d,rfl,w1.F,fun z fl yd H2 ho hot F2 sb2=>?_⟩
  have w2:=w1.step Mo.tr F2 sb2
  have hz:=ho.cf (hot e w1.he)
  refine ⟨d,a,z,_,rfl,w2.F,w2.h1,(by show 4≤60;decide),fun r ys G hr' hys hyl FG sG=>?_,fun r G hr0 hr' FG sG=>?_⟩
  ·have wG:=w2.step Mo.tr FG sG
   refine k _ _ (fD (f:=fl) hr' (fun y hy=>?_) (by have hyl:ys.length≤5:=hyl;omega)) wG.F wG.sb
   rcases hys y hy with h | rfl
   ·simp only [Ei,Ek,EW] at h
    rcases h with rfl | rfl | rfl | rfl
    ·exact cw fl _
    ·exact cq fl wG
    ·exact cp fl _
    ·exact cn fl wG
   ·exact hz.sb w2.F sG
  ·have wG:=w2.step Mo.tr FG sG
   refine k _ _ (lR hr' (w2.ne hr0) (fun y hy=>?_) (by show 4≤6;decide)) wG.F wG.sb
   simp only [Ei,Ek,EW] at hy
   rcases hy with rfl | rfl | rfl | rfl
   ·exact (cw false _).cm
   ·exact (cq false wG).cm
   ·exact (cp false _).cm
   ·exact (cn false wG).cm
end
section
variable {P:Program} {w:World} {K:PySem.W.Frag} {mg:Str→Option Value} {base:Heap} {aB:Addr}
open Su
abbrev sF:Stmt:=top 59
theorem za:aC ["_law_feed_here","_law_one","_law_other","_law_many","_law_paper","_law_some"] ["_law_feed_here","_law_one","_law_other"] (aq sF):=⟨rfl,rfl,rfl,by decide +kernel,rfl,by decide +kernel,by decide +kernel⟩
theorem Bf (D:Df K mg "_law_bent_unlike" sF)(T:Bt K w mg aB)(Ku:Fnc P w K mg base "_law_draw" ["_law_feed_here","_law_many"] 1 dH)(KH:Fnc P w K mg base "_law_holes" ["_law_row"] 2 fo):Fnc P w K mg base "_law_bent_unlike" ["_law_feed_here","_law_one","_law_other"] 3 jw:=by
 have sc:=za
 refine D.ok sc (fun _ _ _ _ _ _ us hl=>by obtain ⟨_,_,_,rfl⟩:=oA hl;rfl) (fun vs H Q E h=>?_) (fun f Kv A outer s H vs Q E hr h=>?_)
 ·obtain ⟨d,e,n,u,o,rfl,_⟩:=h
  rfl
 ·obtain ⟨d,e,n,u,o,rfl,F,he,U,O,k⟩:=h
  have KJ:=aT
  refine ⟨_,(JF (@pZ _ (3) _ _ _ _ _ _ _ _ _ (["_law_row"]) (["_law_row"]) ([]) _ _ _ _ sc.nd rfl (Or.inl rfl) (JZ rfl (by kernel_rfl)) rfl (Kk (Kp (JP (pv 1) (JP (pv 2) af)))) (fun _ _ _ _=>J0 (0) (show (["_law_row"]:List Str).Nodup from by decide +kernel) rfl (Or.inl rfl)) (fun _ _ _ _=>bu) (fun _ _ _ _=>by (exact (JO (@jl _ (K) rfl) (by rfl) T.len Ep (JP (Kd KH hr (by decide) rfl (JP (pv 0) af)) af)))) (by intro _ ;rfl) (by rfl) (by first | exact .inl rfl | exact .inr rfl | assumption)) (JF (JM (4) sc.nd rfl (Or.inl rfl) (Kp (JP ax (JP (JI fF (JI bC (JN aZ (pv 3) aj (fun _ _=>rfl)) (Kd Ku hr (by decide) rfl (JP (pv 0) (JP aj af)))) aj) (JP (JI fF (JI bC (JN aZ (pv 3) aj (fun _ _=>rfl)) (Kd Ku hr (by decide) rfl (JP (pv 0) (JP aj af)))) aj) af))))) (JF (JM (5) sc.nd rfl (Or.inl rfl) (JV (Kr (Kp (JP ax (JP (JN aZ (pv 3) aj (fun _ _=>rfl)) (JP (JN aZ (pv 3) aj (fun _ _=>rfl)) af)))) (Kr (Kp (JP ax (JP (JN aZ (pv 3) aj (fun _ _=>rfl)) (JP (JN aZ (pv 3) aj (fun _ _=>rfl)) af)))) (Kr (pv 4) (Kr (pv 4) (Kr (JI c7 (Kp (JP ax af)) (JT cG (pv 4) (JU aj) aX)) af))))))) (JF (JM (5) sc.nd rfl (Or.inl rfl) (JI jX (pv 5) (JV (Kr (JT cG (pv 4) aX (JU aj)) (Kr (JI c7 (pv 4) (Kp (JP aj af))) (Kr (Kp (JP ax (JP (JN aZ (pv 3) aj (fun _ _=>rfl)) (JP bK af)))) (Kr (Kp (JP ax (JP ax (JP (JN aZ (pv 3) aj (fun _ _=>rfl)) af)))) (Kr (JS cu (by rfl) T.list fN (JP (pv 4) af)) af)))))))) (JQ (JR (JN aZ (pv 5) (Kd Ku hr (by decide) rfl (JP (pv 0) (JP aj af))) (fun _ _=>rfl)))))))),?_⟩
  have mt:=Mo.th (d:=d) (e:=e)
  have w0:W9 d e H (fun G y=>Thn e G y) [] H:=⟨F,he,a_.refl _ _,fun y hy=>by cases hy⟩
  have a1:((hol u).length:Int)≤12∧((hol o).length:Int)≤12:=by
   have q1:(hol u).length≤u.length:=jg u u.length
   have q2:(hol o).length≤o.length:=jg o o.length
   have:=U.row.len
   have:=O.row.len
   have:=U.h6
   omega
  obtain ⟨m0,hm0⟩:∃ z:Int,z=((hol u).length:Int):=⟨_,rfl⟩
  obtain ⟨m1,hm1⟩:∃ z:Int,z=((hol o).length:Int):=⟨_,rfl⟩
  refine ⟨_,rfl,_,rfl,(au (n:=2) (by decide)),fun pt hpt=>⟨pt,rfl,⟨_,SqT.of ag⟩,?_⟩⟩
  have w1:=w0.new mt (.tup [tx u,tx o]) hpt
  have f1:(upd H pt (.tup [tx u,tx o])) pt=some (.tup [tx u,tx o]):=ag
  generalize upd H pt (.tup [tx u,tx o])=H1 at w1 f1 ⊢
  refine cy (xs:=[tx u,tx o]) (own:=["_law_row"]) (cap:=[]) (fun i ys σ H'=>∃ v:Option V,σ = [v]∧ys=([V.int m0,.int m1].take i)∧av H1 H') ⟨none,rfl,rfl,av.refl _⟩ (fun i ys σ H' hi ⟨v,_,e,_⟩=>by rw [e];exact List.length_take_le _ _) (au (n:=2) (by decide)) (fun i ys σ H' ⟨_,_,_,q⟩=>SqT.of (q _ _ f1)) ?_ ?_
  ·rintro i ys σ H2 y N hy ⟨v,rfl,rfl,s2⟩ hN
   match i,hy with
   | 0,hy =>
    cases hy
    refine ⟨_,rfl,u,rfl,U.srf,fun l5 H5 _ hl5 s5=>⟨l5,_,rfl,.inl (SqL.of hl5),?_⟩⟩
    rw [Ea,← hm0]
    exact hN _ _ _ ⟨_,rfl,rfl,s2.trans s5⟩
   | 1,hy =>
    cases hy
    refine ⟨_,rfl,o,rfl,O.srf,fun l5 H5 _ hl5 s5=>⟨l5,_,rfl,.inl (SqL.of hl5),?_⟩⟩
    rw [Ea,← hm1]
    exact hN _ _ _ ⟨_,rfl,rfl,s2.trans s5⟩
  rintro ys σ H2 l ⟨v,rfl,rfl,s2⟩ hl
  have w2:=(w1.sm mt s2).new mt (.lst [.int m0,.int m1]) hl
  have fm:(upd H2 l (.lst [.int m0,.int m1])) l=some (.lst [.int m0,.int m1]):=ag
  show CW _ _ _ _ (upd H2 l (.lst [.int m0,.int m1]))
  generalize upd H2 l (.lst [.int m0,.int m1])=H3 at w2 fm ⊢
  refine ⟨_,rfl,l,_,_,_,rfl,rfl,SqL.of fm,rfl,_,rfl,d,_,rfl,w2.F,by decide,by decide,fun b0 H4 b00 b01 F4 Ln=>?_⟩
  have fm:=Ln _ _ (w2.F.nl fm) fm
  have w4:=w2.step mt F4 Ln
  refine ⟨_,_,rfl,rfl,_,_,rfl,rfl,_,rfl,l,_,_,_,rfl,rfl,SqL.of fm,rfl,_,rfl,d,_,rfl,w4.F,by decide,by decide,fun b1 H5 b10 b11 F5 sb5=>?_⟩
  have fm:=sb5 _ _ (w4.F.nl fm) fm
  have w5:=w4.step mt F5 sb5
  obtain ⟨j0,ej0⟩:∃ z:Int,z=m0+b0 - 1:=⟨_,rfl⟩
  obtain ⟨j1,ej1⟩:∃ z:Int,z=m1+b1 - 1:=⟨_,rfl⟩
  have B:(-20≤m0∧m0≤70)∧(-20≤m1∧m1≤70)∧(-20≤j0∧j0≤70)∧(-20≤j1∧j1≤70):=by omega
  obtain ⟨B0,B1,B2,B3⟩:=B
  refine ⟨_,_,rfl,rfl,_,_,rfl,rfl,?_⟩
  rw [← ej0,← ej1]
  refine ⟨(au (n:=3) (by decide)),fun pa hpa=>?_⟩
  have w6:=w5.new mt (.tup [.str "unlike",.int j0,.int j1]) hpa
  have fm:=av.new (o:=.tup [.str "unlike",.int j0,.int j1]) hpa _ _ fm
  have fp:(upd H5 pa (.tup [.str "unlike",.int j0,.int j1])) pa=some (.tup [.str "unlike",.int j0,.int j1]):=ag
  have w6:=w6.add (cB ag (fun y hy=>by simp only [Ei,Ek,EW] at hy;rcases hy with rfl | rfl | rfl <;> first | exact .inr (.inl rfl) | exact .inr (.inr (.inr (.inr ⟨_,rfl,B2.1,B2.2⟩))) | exact .inr (.inr (.inr (.inr ⟨_,rfl,B3.1,B3.2⟩)))) (by show 3≤6;decide))
  generalize upd H5 pa (.tup [.str "unlike",.int j0,.int j1])=H6 at w6 fm fp ⊢
  refine ⟨_,rfl,l,_,_,_,rfl,rfl,SqL.of fm,rfl,_,rfl,l,_,_,_,rfl,rfl,SqL.of fm,rfl,(au (n:=3) (by decide)),fun t1 ht1=>?_⟩
  have w7:=w6.new mt (.tup [.str "unlike",.int m0,.int m1]) ht1
  have fm:=av.new (o:=.tup [.str "unlike",.int m0,.int m1]) ht1 _ _ fm
  have fp:=av.new (o:=.tup [.str "unlike",.int m0,.int m1]) ht1 _ _ fp
  have w7:=w7.add (cB ag (fun y hy=>by simp only [Ei,Ek,EW] at hy;rcases hy with rfl | rfl | rfl <;> first | exact .inr (.inl rfl) | exact .inr (.inr (.inr (.inr ⟨_,rfl,B0.1,B0.2⟩))) | exact .inr (.inr (.inr (.inr ⟨_,rfl,B1.1,B1.2⟩)))) (by show 3≤6;decide))
  generalize upd H6 t1 (.tup [.str "unlike",.int m0,.int m1])=H7 at w7 fm fp ⊢
  refine ⟨_,rfl,l,_,_,_,rfl,rfl,SqL.of fm,rfl,_,rfl,l,_,_,_,rfl,rfl,SqL.of fm,rfl,(au (n:=3) (by decide)),fun t2 ht2=>?_⟩
  have w8:=w7.new mt (.tup [.str "unlike",.int m1,.int m0]) ht2
  have fm:=av.new (o:=.tup [.str "unlike",.int m1,.int m0]) ht2 _ _ fm
  have fp:=av.new (o:=.tup [.str "unlike",.int m1,.int m0]) ht2 _ _ fp
  have w8:=w8.add (cB ag (fun y hy=>by simp only [Ei,Ek,EW] at hy;rcases hy with rfl | rfl | rfl <;> first | exact .inr (.inl rfl) | exact .inr (.inr (.inr (.inr ⟨_,rfl,B1.1,B1.2⟩))) | exact .inr (.inr (.inr (.inr ⟨_,rfl,B0.1,B0.2⟩)))) (by show 3≤6;decide))
  generalize upd H7 t2 (.tup [.str "unlike",.int m1,.int m0])=H8 at w8 fm fp ⊢
  refine ⟨_,rfl,_,rfl,(au (n:=1) (by decide)),fun t3 ht3=>?_⟩
  have w9:=w8.new mt (.tup [.str "same"]) ht3
  have fm:=av.new (o:=.tup [.str "same"]) ht3 _ _ fm
  have fp:=av.new (o:=.tup [.str "same"]) ht3 _ _ fp
  have f3:(upd H8 t3 (.tup [.str "same"])) t3=some (.tup [.str "same"]):=ag
  generalize upd H8 t3 (.tup [.str "same"])=H9 at w9 fm fp f3 ⊢
  refine ⟨_,rfl,_,rfl,pa,_,rfl,fp,fun t4 H10 s4 ht4=>?_⟩
  have w10:=w9.sm mt s4
  have fm:=s4 _ _ fm
  have fp:=s4 _ _ fp
  have f3:=s4 _ _ f3
  have ht4:H10 t4=some (.tup [.int j0,.int j1]):=ht4
  refine ⟨t3,t4,_,_,rfl,rfl,f3,ht4,(by show 1+2≤sizeLine;omega),fun t5 H11 s5 ht5=>?_⟩
  have w11:=w10.sm mt s5
  have fm:=s5 _ _ fm
  have fp:=s5 _ _ fp
  have ht5:H11 t5=some (.tup [.str "same",.int j0,.int j1]):=ht5
  have w11:=w11.add (cB ht5 (fun y hy=>by simp only [Ei,Ek,EW] at hy;rcases hy with rfl | rfl | rfl <;> first | exact .inl rfl | exact .inr (.inr (.inr (.inr ⟨_,rfl,B2.1,B2.2⟩))) | exact .inr (.inr (.inr (.inr ⟨_,rfl,B3.1,B3.2⟩)))) (by show 3≤6;decide))
  refine ⟨(au (n:=5) (by decide)),fun l1 Li=>?_⟩
  have w12:=w11.new mt (.lst [.ref t1,.ref t2,.ref pa,.ref pa,.ref t5]) Li
  have fm:=av.new (o:=.lst [.ref t1,.ref t2,.ref pa,.ref pa,.ref t5]) Li _ _ fm
  have fp:=av.new (o:=.lst [.ref t1,.ref t2,.ref pa,.ref pa,.ref t5]) Li _ _ fp
  have f1:(upd H11 l1 (.lst [.ref t1,.ref t2,.ref pa,.ref pa,.ref t5])) l1=some (.lst [.ref t1,.ref t2,.ref pa,.ref pa,.ref t5]):=ag
  generalize upd H11 l1 (.lst [.ref t1,.ref t2,.ref pa,.ref pa,.ref t5])=H12 at w12 fm fp f1 ⊢
  refine ⟨_,rfl,_,rfl,_,rfl,pa,_,rfl,fp,fun t6 H13 s6 ht6=>?_⟩
  have w13:=w12.sm mt s6
  have fm:=s6 _ _ fm
  have fp:=s6 _ _ fp
  have f1:=s6 _ _ f1
  have ht6:H13 t6=some (.tup [.str "unlike",.int j0]):=ht6
  have w13:=w13.add (cB ht6 (fun y hy=>by simp only [Ei,Ek,EW] at hy;rcases hy with rfl | rfl <;> first | exact .inr (.inl rfl) | exact .inr (.inr (.inr (.inr ⟨_,rfl,B2.1,B2.2⟩)))) (by show 2≤6;decide))
  refine ⟨_,rfl,(au (n:=1) (by decide)),fun t7 ht7=>?_⟩
  have w14:=w13.new mt (.tup [.int 0]) ht7
  have fm:=av.new (o:=.tup [.int 0]) ht7 _ _ fm
  have fp:=av.new (o:=.tup [.int 0]) ht7 _ _ fp
  have f1:=av.new (o:=.tup [.int 0]) ht7 _ _ f1
  have f7:(upd H13 t7 (.tup [.int 0])) t7=some (.tup [.int 0]):=ag
  generalize upd H13 t7 (.tup [.int 0])=H14 at w14 fm fp f1 f7 ⊢
  refine ⟨pa,t7,_,_,rfl,rfl,fp,f7,(by show 3+1≤sizeLine;omega),fun t8 H15 s8 ht8=>?_⟩
  have w15:=w14.sm mt s8
  have fm:=s8 _ _ fm
  have fp:=s8 _ _ fp
  have f1:=s8 _ _ f1
  have ht8:H15 t8=some (.tup [.str "unlike",.int j0,.int j1,.int 0]):=ht8
  have w15:=w15.add (cB ht8 (fun y hy=>by simp only [Ei,Ek,EW] at hy;rcases hy with rfl | rfl | rfl | rfl <;> first | exact .inr (.inl rfl) | exact .inr (.inr (.inr (.inr ⟨_,rfl,B2.1,B2.2⟩))) | exact .inr (.inr (.inr (.inr ⟨_,rfl,B3.1,B3.2⟩))) | exact .inr (.inr (.inr (.inr ⟨_,rfl,(by decide:(-20:Int)≤0),(by decide:(0:Int)≤70)⟩)))) (by show 4≤6;decide))
  refine ⟨_,rfl,l,_,_,_,rfl,rfl,SqL.of fm,rfl,(au (n:=3) (by decide)),fun t9 ht9=>?_⟩
  have w16:=w15.new mt (.tup [.str "unlike",.int m0,.bl true]) ht9
  have fm:=av.new (o:=.tup [.str "unlike",.int m0,.bl true]) ht9 _ _ fm
  have fp:=av.new (o:=.tup [.str "unlike",.int m0,.bl true]) ht9 _ _ fp
  have f1:=av.new (o:=.tup [.str "unlike",.int m0,.bl true]) ht9 _ _ f1
  have w16:=w16.add (cB ag (fun y hy=>by simp only [Ei,Ek,EW] at hy;rcases hy with rfl | rfl | rfl <;> first | exact .inr (.inl rfl) | exact .inr (.inr (.inr (.inr ⟨_,rfl,B0.1,B0.2⟩))) | exact .inr (.inr (.inr (.inl rfl)))) (by show 3≤6;decide))
  generalize upd H15 t9 (.tup [.str "unlike",.int m0,.bl true])=H16 at w16 fm fp f1 ⊢
  refine ⟨_,rfl,l,_,_,_,rfl,rfl,SqL.of fm,rfl,(au (n:=3) (by decide)),fun t10 ht10=>?_⟩
  have w17:=w16.new mt (.tup [.str "unlike",.str "1",.int m1]) ht10
  have fm:=av.new (o:=.tup [.str "unlike",.str "1",.int m1]) ht10 _ _ fm
  have fp:=av.new (o:=.tup [.str "unlike",.str "1",.int m1]) ht10 _ _ fp
  have f1:=av.new (o:=.tup [.str "unlike",.str "1",.int m1]) ht10 _ _ f1
  have w17:=w17.add (cB ag (fun y hy=>by simp only [Ei,Ek,EW] at hy;rcases hy with rfl | rfl | rfl <;> first | exact .inr (.inl rfl) | exact .inr (.inr (.inl rfl)) | exact .inr (.inr (.inr (.inr ⟨_,rfl,B1.1,B1.2⟩)))) (by show 3≤6;decide))
  generalize upd H16 t10 (.tup [.str "unlike",.str "1",.int m1])=H17 at w17 fm fp f1 ⊢
  refine ⟨_,rfl,pa,_,rfl,.inr (SqT.of fp),fun t11 ht11=>?_⟩
  have n11:=w17.ne ht11
  have w18:=w17.new mt (.lst [.str "unlike",.int j0,.int j1]) ht11
  have fm:=av.new (o:=.lst [.str "unlike",.int j0,.int j1]) ht11 _ _ fm
  have fp:=av.new (o:=.lst [.str "unlike",.int j0,.int j1]) ht11 _ _ fp
  have f1:=av.new (o:=.lst [.str "unlike",.int j0,.int j1]) ht11 _ _ f1
  have w18:=w18.add (lR ag n11 (fun y hy=>by simp only [Ei,Ek,EW] at hy;rcases hy with rfl | rfl | rfl;exact (eW (by decide +kernel) (by decide)).cm;exact (dn B2.1 B2.2).cm;exact (dn B3.1 B3.2).cm) (by show 3≤6;decide))
  generalize upd H17 t11 (.lst [.str "unlike",.int j0,.int j1])=H18 at w18 fm fp f1 ⊢
  refine ⟨(au (n:=5) (by decide)),fun l2 KS=>?_⟩
  have w19:=w18.new mt (.lst [.ref t6,.ref t8,.ref t9,.ref t10,.ref t11]) KS
  have fm:=av.new (o:=.lst [.ref t6,.ref t8,.ref t9,.ref t10,.ref t11]) KS _ _ fm
  have fp:=av.new (o:=.lst [.ref t6,.ref t8,.ref t9,.ref t10,.ref t11]) KS _ _ fp
  have f1:=av.new (o:=.lst [.ref t6,.ref t8,.ref t9,.ref t10,.ref t11]) KS _ _ f1
  have f2:(upd H18 l2 (.lst [.ref t6,.ref t8,.ref t9,.ref t10,.ref t11])) l2=some (.lst [.ref t6,.ref t8,.ref t9,.ref t10,.ref t11]):=ag
  generalize upd H18 l2 (.lst [.ref t6,.ref t8,.ref t9,.ref t10,.ref t11])=H19 at w19 fm fp f1 f2 ⊢
  refine ⟨l1,l2,_,_,rfl,rfl,f1,f2,(by show 5+5≤sizeLine;omega),fun l3 hl3=>?_⟩
  have w20:=w19.new mt (.lst ([.ref t1,.ref t2,.ref pa,.ref pa,.ref t5]++[.ref t6,.ref t8,.ref t9,.ref t10,.ref t11])) hl3
  have f3:(upd H19 l3 (.lst ([.ref t1,.ref t2,.ref pa,.ref pa,.ref t5]++[.ref t6,.ref t8,.ref t9,.ref t10,.ref t11]))) l3=some (.lst [.ref t1,.ref t2,.ref pa,.ref pa,.ref t5,.ref t6,.ref t8,.ref t9,.ref t10,.ref t11]):=ag
  generalize upd H19 l3 (.lst ([.ref t1,.ref t2,.ref pa,.ref pa,.ref t5]++[.ref t6,.ref t8,.ref t9,.ref t10,.ref t11]))=H20 at w20 f3 ⊢
  refine ⟨_,rfl,_,rfl,d,_,rfl,w20.F,by decide,by decide,fun c H21 c0 c1 Fz sbz=>?_⟩
  have f3:=sbz _ _ (w20.F.nl f3) f3
  have wz:=w20.step mt Fz sbz
  obtain ⟨y,hat,hy⟩:=ip (xs:=[.ref t1,.ref t2,.ref pa,.ref pa,.ref t5,.ref t6,.ref t8,.ref t9,.ref t10,.ref t11]) c0 (by show c < ((10:Nat):Int);omega)
  refine ⟨l3,_,_,y,rfl,rfl,SqL.of f3,hat,k _ _ (wz.el y ?_) wz.F wz.sb⟩
  simp only [Ei,EL,Ek,EW,false_or] at hy ⊢
  rcases hy with rfl | rfl | rfl | rfl | rfl | rfl | rfl | rfl | rfl | rfl <;> simp
end
section
variable {P:Program} {w:World} {K:PySem.W.Frag} {mg:Str→Option Value} {base:Heap} {aB:Addr}
open Su
abbrev sH:Stmt:=top 61
theorem zb:aC ["_law_feed_here","_law_row","_law_some","_law_slides_here","_law_now","_law_k","_law_slide","_law_own","_law_many","_law_place"] ["_law_feed_here","_law_row"] (aq sH):=⟨rfl,rfl,rfl,by decide +kernel,rfl,by decide +kernel,by decide +kernel⟩
theorem Bg (D:Df K mg "_law_long_right" sH)(T:Bt K w mg aB)(Ku:Fnc P w K mg base "_law_draw" ["_law_feed_here","_law_many"] 1 dH)(KF:Fnc P w K mg base "_law_slid" ["_law_row","_law_place","_law_side"] 2 gO)(KG:Fnc P w K mg base "_law_right" ["_law_one","_law_other","_law_thing"] 9 gj):Fnc P w K mg base "_law_long_right" ["_law_feed_here","_law_row"] 10 lS:=by
 have sc:=zb
 refine D.ok sc (fun _ _ _ _ _ _ us hl=>by obtain ⟨_,_,rfl⟩:=lU hl;rfl) (fun vs H Q E h=>?_) (fun f Kv A outer s H vs Q E hr h=>?_)
 ·obtain ⟨d,n,u,rfl,_⟩:=h
  rfl
 ·obtain ⟨d,n,u,rfl,F,U,n2,n3,k⟩:=h
  have KJ:=aT
  refine ⟨_,(JF (@pZ _ (2) _ _ _ _ _ _ _ _ _ (["_law_place","_law_row"]) (["_law_place"]) ([1]) _ _ _ _ sc.nd rfl (Or.inl rfl) (JZ rfl (by kernel_rfl)) rfl (Ko rfl T.range (JP (JI fF (JO ay (by rfl) T.len Ep (JP (pv 1) af)) aj) af)) (fun _ _ _ _=>J0 (0) (show (["_law_place","_law_row"]:List Str).Nodup from by decide +kernel) rfl (Or.inl rfl)) (fun _ _ _ _=>(@iT _ _ _ (by exact (JL oU (Kd KF hr (by decide) rfl (JP (pv 1) (JP (pv 0) (JP aj af)))) hJ (aM _))))) (fun _ _ _ _=>by (exact (pv 0))) (by intro _ ;rfl) (by rfl) (by first | exact .inl rfl | exact .inr rfl | assumption)) (JF (JM (3) sc.nd rfl (Or.inl rfl) (JV af)) (JF (JM (4) sc.nd rfl (Or.inl rfl) (pv 1)) (JF (J1 EU rfl (Ko rfl T.range (JP aj af)) (J0 (5) sc.nd rfl (Or.inl rfl)) (JF (JM (6) sc.nd rfl (Or.inl rfl) (Kp (JP (JN aZ (pv 2) aj (fun _ _=>rfl)) (JP aj af)))) (JF (JK (JL dW (pv 4) (pv 1) (aM _)) (JQ (JM (6) sc.nd rfl (Or.inl rfl) (Kp (JP (JX EC Ic Ie jc (pv 4) (JP (JN dk (pv 1) (JN aZ (pv 2) aj (fun _ _=>rfl)) (fun _ _=>rfl)) af)) (JP (J_ eG aj) af))))) aI) (JF (Ka (JX EY Fi Fj bQ (pv 3) (JP (pv 6) af))) (JQ (JM (4) sc.nd rfl (Or.inl rfl) (Kd KF hr (by decide) rfl (JP (pv 4) (JP (JN aO (pv 6) aj (fun _ _=>rfl)) (JP (JN aO (pv 6) aj (fun _ _=>rfl)) af)))))))))) (JF (JM (7) sc.nd rfl (Or.inl rfl) (JS (@fQ _ rfl) (by rfl) T.tuple bN (JP (JT dm ax aX (JU (JI cR (JO ay (by rfl) T.len Ep (JP (pv 1) af)) aj))) af))) (JF (J1 EU rfl (Kk (Kp (JP aj (JP aj af)))) (J0 (8) sc.nd rfl (Or.inl rfl)) (JQ (J1 EU rfl (Kk (Kp (JP aj (JP (Kd Ku hr (by decide) rfl (JP (pv 0) (JP (JO ay (by rfl) T.len Ep (JP (pv 1) af)) af))) af)))) (J0 (9) sc.nd rfl (Or.inl rfl)) (JQ (JK (Kh (J9 (Kd KG hr (by decide) rfl (JP (pv 1) (JP (pv 1) (JP (Kp (JP ax (JP (JS cS (by rfl) T.tuple bN (JP (JT o6 (pv 3) aX (JU (pv 8))) af)) (JP (pv 9) (JP (pv 7) af))))) af)))) (fun _=>rfl))) (JQ (JR bK)) aI))))) (JQ (JR bK)))))))),?_⟩
  have ul:=U.row.len
  have US:=U.srf
  have KU:(toS u).length≤sizeLine:=by rw [ah];omega
  have en:(((toS u).length:Int) - 1).toNat=u.length - 1:=by rw [ah];omega
  refine ⟨_,rfl,_,rfl,KU,_,_,rfl,rfl,_,rfl,by rw [ah];omega,by rw [ah];omega,?_⟩
  rw [en]
  refine cT (own:=["_law_place"]) (cap:=[1]) (J:=Itr 0 (u.length - 1)) (u.length - 1) (fun i ys σ H'=>∃ v:Option V,σ = [v,some (tx u)]∧ys.length≤i∧(∀ y∈ys,∃ k:Nat,y = .int (k:Int)∧k+1 < u.length∧(slW u (k:Int) 1).isSome=true)∧(∀ k < i,(slW u ((k:Nat):Int) 1).isSome=true→ys≠[])∧av H H') ⟨none,rfl,Eg _,(fun _ h=>by cases h),(fun k h=>absurd h (Nat.not_lt_zero k)),av.refl _⟩ (fun i ys σ H' hi ⟨_,_,e,_⟩=>e) (by omega) (fun i ys σ H' hi _=>hi) (fun ys σ H' _=>Eg _) ?_ ?_
  ·rintro i ys σ H1 x H2 N' hi ⟨v,rfl,hl,hy,hn,s1⟩ ⟨rfl,rfl⟩ hN
   have e0:(0:Int)+(i:Int)=(i:Int):=JE _
   rw [e0]
   refine ⟨_,rfl,_,rfl,u,_,_,rfl,US.ne,US.le,fun H4 s4=>⟨rfl,_,rfl,?_⟩⟩
   cases q:slW u (i:Int) 1 with
   | none =>
    exact hN _ _ _ ⟨_,rfl,by omega,hy,fun k hk hs=>by
     by_cases c:k=i
     ·subst c;rw [q] at hs;cases hs
     ·exact hn k (by omega) hs,s1.trans s4⟩
   | some v2 =>
    exact ⟨_,rfl,hN _ _ _ ⟨_,rfl,by rw [Ec];exact Nat.add_le_add_right hl 1,fun y h=>by
     rcases EL.mp h with h | h
     ·exact hy y h
     ·exact ⟨i,Eu.mp h,by omega,by rw [q];rfl⟩,fun k hk hs=>by simp,s1.trans s4⟩⟩
  rintro ys σ H1 ls ⟨_,rfl,hl,hy,hn,s1⟩ hls
  have F2:=(F.same s1).new (o:=.lst ys) hls
  have gs:(upd H1 ls (.lst ys)) ls=some (.lst ys):=ag
  have nls:=F2.nl gs
  generalize upd H1 ls (.lst ys)=H2 at F2 gs ⊢
  obtain ⟨i1,hi1,his⟩:=ou US (by omega)
  have KN:=hn i1 (by omega) his
  obtain ⟨y0,r0,rfl⟩:∃ y r,ys=y::r:=by
   cases ys with
   | nil=>exact absurd rfl KN
   | cons y r=>exact ⟨y,r,rfl⟩
  obtain ⟨i0,rfl,hi0,his⟩:=hy y0 Ex
  have hat0:atI (V.int (i0:Int)::r0) 0=some (.int (i0:Int)):=fb (xs:=V.int (i0:Int)::r0) (j:=0) rfl
  generalize V.int (i0:Int)::r0=ys at hat0 gs ⊢
  have he:=Ee (show i0 < u.length by omega)
  have hf:=Ee hi0
  have hnf:=u5 he hf his
  obtain ⟨v,j,hv,hj,pm,hb⟩:=iD US he hf hnf
  generalize u[i0]=e at he hj hb
  have VS:=US.perm pm
  have vl:=pm.length_eq
  have hev:e∈v:=Es hj
  refine ⟨(au (n:=0) (by decide)),fun l hl=>?_⟩
  have F3:=F2.new (o:=.lst []) hl
  have nll:ls≠l:=fun z=>by rw [z,hl] at gs;cases gs
  have gs:=av.new (o:=.lst []) hl _ _ gs
  have gl:(upd H2 l (.lst [])) l=some (.lst (([]:List Addr).map V.ref)):=ag
  have nld:=F2.ne hl
  generalize upd H2 l (.lst [])=H3 at F3 gs gl ⊢
  refine ⟨_,rfl,_,rfl,by decide,by decide,bP (lo:=0) (n:=61) (fun k σ H'=>∃ (nw:List L) (c5 c6:Option V) (as:List Addr),σ = [some (.ref d),some (tx u),some (.ref ls),some (.ref l),some (tx nw),c5,c6,none,none,none]∧(nw=u ∨ nw=v)∧H' l=some (.lst (as.map V.ref))∧as.length=k∧(∀ b∈as,∃ z s:Int,H' b=some (.tup [.int z,.int s])∧-1≤z∧z≤13∧(s=1 ∨ s = -1))∧H' ls=some (.lst ys)∧Fd H' d) ⟨u,none,none,[],rfl,.inl rfl,gl,rfl,(fun _ h=>by cases h),gs,F3⟩ ?_ ?_⟩
  ·rintro k σ H5 hk ⟨nw,c5,c6,as,rfl,hnw,gl,la,ha,gs,F5⟩
   have nwl:nw.length=u.length:=hnw.elim (fun z=>by rw [z]) fun z=>by rw [z,vl]
   have nwe:nw≠[]:=fun z=>by rw [z] at nwl;have:(0:Nat)=u.length:=nwl;omega
   refine ⟨_,rfl,ls,_,_,_,rfl,rfl,SqL.of gs,hat0,(au (n:=2) (by decide)),fun t ht=>?_⟩
   have st:=av.new (o:=.tup [.int (i0:Int),.int 1]) ht
   have ft:(upd H5 t (.tup [.int (i0:Int),.int 1])) t=some (.tup [.int (i0:Int),.int 1]):=ag
   have gl:=st _ _ gl
   have gs:=st _ _ gs
   have ha:∀ b∈as,∃ z s:Int,(upd H5 t (.tup [.int (i0:Int),.int 1])) b=some (.tup [.int z,.int s])∧-1≤z∧z≤13∧(s=1 ∨ s = -1):=fun b hb=>by
    obtain ⟨z,s,h1,h2⟩:=ha b hb
    exact ⟨z,s,st _ _ h1,h2⟩
   have F6:=F5.same st
   generalize upd H5 t (.tup [.int (i0:Int),.int 1])=H6 at ft gl gs ha F6 ⊢
   refine ⟨_,rfl,_,rfl,rfl,_,rfl,?_⟩
   by_cases c:nw=u
   case' pos =>
    have dd:decide (tx nw=tx u)=true:=by rw [c];exact Eh rfl
    rw [dd]
    refine et ?_
    obtain ⟨z,sd,w,ft,z1,z2,z3,hw,hw2⟩:∃ (z sd:Int) (w:List L),H6 t=some (.tup [.int z,.int sd])∧-1≤z∧z≤13∧(sd=1 ∨ sd = -1)∧slW nw z sd=some w∧(w=u ∨ w=v):=⟨_,_,v,ft,by omega,by omega,.inl rfl,by rw [c];exact hv,.inr rfl⟩
   case' neg =>
    have cv:=hnw.resolve_left c
    rw [Ed (fun z=>c (ie z))]
    refine bW ?_
    refine ⟨_,rfl,rfl,_,rfl,_,rfl,ls,_,_,_,rfl,rfl,SqL.of gs,hat0,_,_,cp e,rfl,rfl,KU,cW rfl he,_,_,rfl,rfl,?_⟩
    have ef:Txt.find (toS nw) ⟨#[cp e]⟩=(v.idxOf e:Int):=by rw [cv];exact uQ hev
    rw [ef]
    refine ⟨_,rfl,(au (n:=2) (by decide)),fun t ht=>?_⟩
    have st:=av.new (o:=.tup [.int (v.idxOf e:Int),.int (-1)]) ht
    have ft:(upd H6 t (.tup [.int (v.idxOf e:Int),.int (-1)])) t=some (.tup [.int (v.idxOf e:Int),.int (-1)]):=ag
    have gl:=st _ _ gl
    have gs:=st _ _ gs
    have ha:∀ b∈as,∃ z s:Int,(upd H6 t (.tup [.int (v.idxOf e:Int),.int (-1)])) b=some (.tup [.int z,.int s])∧-1≤z∧z≤13∧(s=1 ∨ s = -1):=fun b hb=>by
     obtain ⟨z,s,h1,h2⟩:=ha b hb
     exact ⟨z,s,st _ _ h1,h2⟩
    have F6:=F6.same st
    generalize upd H6 t (.tup [.int (v.idxOf e:Int),.int (-1)])=H6 at ft gl gs ha F6 ⊢
    obtain ⟨z,sd,w,ft,z1,z2,z3,hw,hw2⟩:∃ (z sd:Int) (w:List L),H6 t=some (.tup [.int z,.int sd])∧-1≤z∧z≤13∧(sd=1 ∨ sd = -1)∧slW nw z sd=some w∧(w=u ∨ w=v):=by
     have q1:v.idxOf e < v.length:=Ji.mpr hev
     have q2:v[v.idxOf e]? = some e:=by rw [Ee q1,List.getElem_idxOf]
     exact ⟨_,_,u,ft,by omega,by omega,.inr rfl,by rw [cv];exact hb _ q2,.inl rfl⟩
   all_goals
    refine ⟨_,rfl,.inl ⟨rfl,_,SqL.of gl⟩,_,rfl,l,_,_,rfl,rfl,gl,(by rw [Ea];omega),?_⟩
    rw [← List.map_singleton (f:=V.ref),← EG]
    have tupk:∀ (b:Addr) (ys:List V),H6 b=some (.tup ys)→(upd H6 l (.lst ((as++[t]).map V.ref))) b=some (.tup ys):=fun b ys e=>by
     rw [ar (gX e gl (by intro z;cases z))];exact e
    have F7:Fd (upd H6 l (.lst ((as++[t]).map V.ref))) d:=rL F6 gl nld
    have g7:(upd H6 l (.lst ((as++[t]).map V.ref))) l=some (.lst ((as++[t]).map V.ref)):=ag
    have gs:(upd H6 l (.lst ((as++[t]).map V.ref))) ls=some (.lst ys):=by rw [ar nll];exact gs
    have ft:=tupk _ _ ft
    have ha:∀ b∈as++[t],∃ z s:Int,(upd H6 l (.lst ((as++[t]).map V.ref))) b=some (.tup [.int z,.int s])∧-1≤z∧z≤13∧(s=1 ∨ s = -1):=fun b hb=>by
     rcases EL.mp hb with hb | hb
     ·obtain ⟨z,s,h1,h2⟩:=ha b hb
      exact ⟨z,s,tupk _ _ h1,h2⟩
     ·rw [Eu.mp hb]
      exact ⟨z,sd,ft,z1,z2,z3⟩
    generalize upd H6 l (.lst ((as++[t]).map V.ref))=H7 at F7 g7 gs ft ha ⊢
    refine ⟨_,rfl,_,rfl,t,_,_,_,rfl,rfl,SqT.of ft,rfl,_,rfl,t,_,_,_,rfl,rfl,SqT.of ft,rfl,nw,z,sd,rfl,nwe,by rw [nwl];exact US.le,fun H8 s8=>?_⟩
    rw [hw]
    exact ⟨w,_,_,as++[t],rfl,hw2,s8 _ _ g7,by rw [Ec,la];rfl,(fun b hb=>by
     obtain ⟨z,s,h1,h2⟩:=ha b hb
     exact ⟨z,s,s8 _ _ h1,h2⟩),s8 _ _ gs,F7.same s8⟩
  ·rintro σ H5 ⟨nw,c5,c6,as,rfl,hnw,gl,la,ha,gs,F5⟩
   have e2:((toS u).length:Int) / 2=(n:Int):=by rw [ah];omega
   obtain ⟨ow,ol⟩:=yp n2 n3
   refine ⟨_,rfl,_,rfl,KU,_,_,rfl,rfl,⟨by decide,by decide⟩,_,rfl,?_⟩
   rw [e2]
   refine ⟨_,rfl,(au (n:=6) (by decide)),_,rfl,(by omega),fun p hp=>?_⟩
   rw [ow]
   have cz:∀ {G:Hp},∀ y∈(List.range n).map (fun i=>tx [lt6 i]),Cl false d G y:=fun {G} y hy=>by
    obtain ⟨i,_,rfl⟩:=ED.mp hy
    have c:=iC (lt6 i)
    obtain ⟨_,_,_,_,_,y⟩:=eV c
    exact ⟨_,.str _ (by rw [ah];show 1≤60;decide),g_ c fun _=>rfl,y⟩
   have lz:((List.range n).map (fun i=>tx [lt6 i])).length≤60:=by rw [Ea,FB];omega
   have sp:=av.new (o:=.tup ((List.range n).map fun i=>tx [lt6 i])) hp
   have fp:(upd H5 p (.tup ((List.range n).map fun i=>tx [lt6 i]))) p=some (.tup ((List.range n).map fun i=>tx [lt6 i])):=ag
   have F6:=F5.same sp
   have gl:=sp _ _ gl
   have ha:∀ b∈as,∃ z s:Int,(upd H5 p (.tup ((List.range n).map fun i=>tx [lt6 i]))) b=some (.tup [.int z,.int s])∧-1≤z∧z≤13∧(s=1 ∨ s = -1):=fun b hb=>by
    obtain ⟨z,s,h1,h2⟩:=ha b hb
    exact ⟨z,s,sp _ _ h1,h2⟩
   generalize upd H5 p (.tup ((List.range n).map fun i=>tx [lt6 i]))=H6 at fp F6 gl ha ⊢
   refine ⟨(au (n:=2) (by decide)),fun pt hpt=>?_⟩
   have st:=av.new (o:=.tup [.int 60,.int 61]) hpt
   have ft:(upd H6 pt (.tup [.int 60,.int 61])) pt=some (.tup [.int 60,.int 61]):=ag
   have F7:=F6.same st
   have gl:=st _ _ gl
   have fp:=st _ _ fp
   have ha:∀ b∈as,∃ z s:Int,(upd H6 pt (.tup [.int 60,.int 61])) b=some (.tup [.int z,.int s])∧-1≤z∧z≤13∧(s=1 ∨ s = -1):=fun b hb=>by
    obtain ⟨z,s,h1,h2⟩:=ha b hb
    exact ⟨z,s,st _ _ h1,h2⟩
   generalize upd H6 pt (.tup [.int 60,.int 61])=H7 at ft F7 gl fp ha ⊢
   refine ⟨pt,rfl,⟨_,SqT.of ft⟩,kQ (xs:=[.int 60,.int 61]) (fun m σ H'=>∃ (c8 c9:Option V),σ = [some (.ref d),some (tx u),some (.ref ls),some (.ref l),some (tx nw),c5,c6,some (.ref p),c8,c9]∧H' l=some (.lst (as.map V.ref))∧(∀ b∈as,∃ z s:Int,H' b=some (.tup [.int z,.int s])∧-1≤z∧z≤13∧(s=1 ∨ s = -1))∧H' p=some (.tup ((List.range n).map fun i=>tx [lt6 i]))∧H' pt=some (.tup [.int 60,.int 61])∧Fd H' d) ⟨none,none,rfl,gl,ha,fp,ft,F7⟩ (fun m σ H' hi ⟨_,_,_,_,_,_,q,_⟩=>SqT.of q) ?_ ?_⟩
   ·rintro m x σ H8 hx ⟨c8,c9,rfl,gl,ha,fp,ft,F8⟩
    obtain ⟨mm,rfl,hmm⟩:∃ mm:Nat,x = .int (mm:Int)∧mm≤61:=by
     have:=Es hx
     simp only [Ei,Ek,EW] at this
     rcases this with rfl | rfl
     ·exact ⟨60,rfl,by decide⟩
     ·exact ⟨61,rfl,by decide⟩
    refine ⟨_,rfl,_,rfl,_,rfl,KU,d,_,rfl,F8,by rw [ah];omega,by rw [ah];omega,fun r H9 r0' r1 F9 sb9=>⟨(au (n:=2) (by decide)),fun p2 hp2=>?_⟩⟩
    rw [ah] at r1
    have s2:=av.new (o:=.tup [.int 0,.int r]) hp2
    have f2:(upd H9 p2 (.tup [.int 0,.int r])) p2=some (.tup [.int 0,.int r]):=ag
    have F10:=F9.same s2
    have gl:=s2 _ _ (sb9 _ _ (F8.nl gl) gl)
    have fp:=s2 _ _ (sb9 _ _ (F8.neT fp) fp)
    have ft:=s2 _ _ (sb9 _ _ (F8.neT ft) ft)
    have ha:∀ b∈as,∃ z s:Int,(upd H9 p2 (.tup [.int 0,.int r])) b=some (.tup [.int z,.int s])∧-1≤z∧z≤13∧(s=1 ∨ s = -1):=fun b hb=>by
     obtain ⟨z,s,h1,h2⟩:=ha b hb
     exact ⟨z,s,s2 _ _ (sb9 _ _ (F8.neT h1) h1),h2⟩
    generalize upd H9 p2 (.tup [.int 0,.int r])=H10 at f2 F10 gl fp ft ha ⊢
    refine ⟨p2,rfl,⟨_,SqT.of f2⟩,kQ (xs:=[.int 0,.int r]) (fun m σ H'=>∃ (c9:Option V),σ = [some (.ref d),some (tx u),some (.ref ls),some (.ref l),some (tx nw),c5,c6,some (.ref p),some (.int (mm:Int)),c9]∧av H10 H') ⟨c9,rfl,av.refl _⟩ (fun m σ H' hi ⟨_,_,q⟩=>SqT.of (q _ _ f2)) ?_ ?_⟩
    ·rintro m x σ H11 hx ⟨c9,rfl,s11⟩
     obtain ⟨z,rfl,z1,z2⟩:∃ z:Int,x = .int z∧-20≤z∧z≤70:=by
      have:=Es hx
      simp only [Ei,Ek,EW] at this
      rcases this with rfl | rfl
      ·exact ⟨0,rfl,by decide,by decide⟩
      ·exact ⟨r,rfl,by omega,by omega⟩
     refine ⟨_,rfl,_,rfl,_,rfl,_,rfl,_,rfl,l,_,rfl,SqL.of (s11 _ _ gl),fun q hq=>⟨q,_,rfl,.inl ⟨SqL.of ag,fun q2 hq2=>?_⟩⟩⟩
     rw [gb,← JA] at hq2 ⊢
     have s12:=s11.then (o:=.lst ((as.take mm).map V.ref)) hq
     generalize upd H11 q (.lst ((as.take mm).map V.ref))=H12 at s12 hq2 ⊢
     have s13:=s12.then (o:=.tup ((as.take mm).map V.ref)) hq2
     have f13:(upd H12 q2 (.tup ((as.take mm).map V.ref))) q2=some (.tup ((as.take mm).map V.ref)):=ag
     generalize upd H12 q2 (.tup ((as.take mm).map V.ref))=H13 at s13 f13 ⊢
     refine ⟨_,rfl,_,rfl,(au (n:=4) (by decide)),fun rr hrr=>?_⟩
     have s14:=av.new (o:=.tup [.str "same",.ref q2,.int z,.ref p]) hrr
     have f14:(upd H13 rr (.tup [.str "same",.ref q2,.int z,.ref p])) rr=some (.tup [.str "same",.ref q2,.int z,.ref p]):=ag
     have s114:=s13.trans s14
     have f13:=s14 _ _ f13
     generalize upd H13 rr (.tup [.str "same",.ref q2,.int z,.ref p])=H14 at s114 f13 f14 ⊢
     obtain ⟨dd,o1,o2,o3,o4⟩:=u7 (e:=d) f14 f13 (fun y hy=>by
      obtain ⟨b,hb,rfl⟩:=ED.mp hy
      obtain ⟨z,s,h1,h2,h3,h4⟩:=ha b (Ip hb)
      exact ju (s114 _ _ h1) h2 h3 h4) (by rw [Ea,EB];omega) (s114 _ _ fp) cz lz z1 z2
     exact ⟨n,d,u,u,_,dd,rfl,o1,o2,o3,o4,U,U,fun H15 s15=>⟨_,rfl,nkT (et ⟨_,rfl,s114.trans s15⟩)⟩⟩
    ·rintro σ H11 ⟨c9,rfl,s11⟩
     exact ⟨_,_,rfl,s11 _ _ gl,(fun b hb=>by
      obtain ⟨z,s,h1,h2⟩:=ha b hb
      exact ⟨z,s,s11 _ _ h1,h2⟩),s11 _ _ fp,s11 _ _ ft,F10.same s11⟩
   ·rintro σ H8 ⟨c8,c9,rfl,gl,ha,fp,ft,F8⟩
    exact k _
end
inductive sJ (K:PySem.W.Frag)(vs:List V)(H:Hp)(Q:VK)(KC:XK):Prop
 | mk:∀ (a:Addr) (ns:List Int),(vs=[.ref a])→(SqL K H a (ns.map V.int))→(ns.length≤63)→(∀ H',Q (.bl true) H')→sJ K vs H Q KC
section
variable {P:Program} {w:World} {K:PySem.W.Frag} {mg:Str→Option Value} {base:Heap} {aB:Addr}
open Su
theorem vF {H:Hp}{as:List Addr}{ss:List Sd}(h:lC H as ss):SlZ H as (ss.map fun s=>((s.1:Int),s.2)):=⟨by rw [Ea]; exact h.len,fun k s hk=>by
 rw [Er] at hk
 cases e:ss[k]? with
 | none=>rw [e] at hk;cases hk
 | some x =>
  rw [e] at hk
  cases hk
  exact h.at_ k x e⟩
theorem sL (Rs:List (List L))(v:List L):atI ((Rs++[v]).map tx) ((((Rs++[v]).map tx).length:Int) - 1)=some (tx v):=by
 have hl:((Rs++[v]).map tx).length=Rs.length+1:=by simp
 have:=fb (xs:=(Rs++[v]).map tx) (j:=Rs.length) (v:=tx v) (by simp)
 rw [hl,show ((Rs.length+1:Nat):Int) - 1=(Rs.length:Int) by omega]
 exact this
theorem wV:∀ (ss:List Sd) {u w:List L},Srf u→wlk u ss=some w→∀ s∈ss,s.1 < 12
 | [],u,w,U,h,s,hs=>by cases hs
 | x::r,u,w,U,h,s,hs=>by
  unfold wlk at h
  cases e:slW u (x.1:Int) x.2 with
  | none=>rw [e] at h;cases h
  | some v =>
   rw [e] at h
   rcases Ei.mp hs with rfl | hs
   ·obtain ⟨j,c,hj,hc,_⟩:=uP e
    have:=(Ef.mp hc).1
    have:=U.le
    omega
   ·exact wV r (U.perm (eR U e)) h s hs
theorem Thn.fresh {e l:Addr}{H:Hp}{x:V}{o:HO}(h:Thn e H x)(hl:H l=none):Thn l (L2.upd H l o) x:=by
 obtain ⟨d,a,b⟩:=h
 have s:=av.new (o:=o) hl
 exact ⟨d,a.to (fun a xs h=>s _ _ h) (fun a xs _ h=>⟨s _ _ h,fun z=>by rw [z,hl] at h;cases h⟩) fun a h=>s _ _ h,b⟩
theorem Thn.app {l:Addr}{H:Hp}{x:V}{xs ys:List V}(h:Thn l H x)(hl:H l=some (.lst xs)):Thn l (L2.upd H l (.lst ys)) x:=by
 obtain ⟨d,a,b⟩:=h
 exact ⟨d,a.to (fun a xs h=>by rw [ar (gX h hl (by intro z;cases z))];exact h) (fun a xs n h=>⟨by rw [ar n];exact h,n⟩) (fun a h=>by rw [ar (gX h hl (by intro z;cases z))];exact h),b⟩
abbrev kJ:Stmt:=top 62
theorem Bh:aC ["_law_script","_law_feed_here","_law_k","_law_one","_law_slides_here","_law_rows","_law_place","_law_names_here","_law_other","_law_paper","_law_things","_law_turn"] ["_law_script"] (aq kJ):=⟨rfl,rfl,rfl,by decide +kernel,rfl,by decide +kernel,by decide +kernel⟩
theorem CU {f:Addr}{fd:FuncData}(D:Fun K "law" "law" kJ f fd)(T:Bt K w mg aB)(F_feed:Fnc P w K mg base "_law_feed" ["_law_script"] 1 (pJ K))(Ku:Fnc P w K mg base "_law_draw" ["_law_feed_here","_law_many"] 1 dH)(K9:Fnc P w K mg base "_law_surface" ["_law_feed_here","_law_many"] 2 lD)(La:Fnc P w K mg base "_law_slides" ["_law_feed_here","_law_row","_law_most"] 3 lN)(Lc:Fnc P w K mg base "_law_names" ["_law_feed_here","_law_many"] 2 jn)(KI:Fnc P w K mg base "_law_called" ["_law_row","_law_place","_law_names_here"] 2 gh)(KR:Fnc P w K mg base "_law_odd" ["_law_feed_here"] 2 nk)(Ly:Fnc P w K mg base "_law_bent_same" ["_law_feed_here","_law_paper","_law_row"] 3 jv)(F_bunl:Fnc P w K mg base "_law_bent_unlike" ["_law_feed_here","_law_one","_law_other"] 3 jw)(KG:Fnc P w K mg base "_law_right" ["_law_one","_law_other","_law_thing"] 9 gj)(F_long:Fnc P w K mg base "_law_long_right" ["_law_feed_here","_law_row"] 10 lS):jI P w K mg base CX0 11 f fd ["_law_script"] (sJ K):=by
 have sc:=Bh
 refine D.ok sc (fun vs H Q E h=>?_) (fun Kv A outer s H vs Q E hr h=>?_)
 ·obtain ⟨a,ns,rfl,_⟩:=h
  rfl
 ·obtain ⟨a,ns,rfl,hS,hlen,k⟩:=h
  have KJ:=aT
  refine ⟨_,(@ai _ _ _ _ _ (@az _ _ (1) _ _ _ _ sc.nd rfl (Or.inr rfl) (@aH _ _ _ _ _ _ _ _ _ _ _ F_feed hr (by decide) rfl (@aa _ _ _ _ _ (pv 0) af (by rfl)) (by decide) (by rfl) (by rfl)) (by rfl) (by first | exact .inl rfl | exact .inr rfl | assumption)) (@ai _ _ _ _ _ (@bD _ _ _ _ _ _ _ _ EU rfl (@bA _ _ _ _ _ _ rfl T.range (@aa _ _ _ _ _ aj af (by rfl)) (by rfl)) (@aF _ _ (2) _ sc.nd rfl (Or.inl rfl) (by first | exact .inl rfl | exact .inr rfl | assumption)) (@ai _ _ _ _ _ (@az _ _ (3) _ _ _ _ sc.nd rfl (Or.inr rfl) (@aH _ _ _ _ _ _ _ _ _ _ _ K9 hr (by decide) rfl (@aa _ _ _ _ _ (pv 1) (@aa _ _ _ _ _ (@aJ _ _ _ _ _ _ _ _ bC aj (@aH _ _ _ _ _ _ _ _ _ _ _ Ku hr (by decide) rfl (@aa _ _ _ _ _ (pv 1) (@aa _ _ _ _ _ aj af (by rfl)) (by rfl)) (by decide) (by rfl) (by rfl))) af (by rfl)) (by rfl)) (by decide) (by rfl) (by rfl)) (by rfl) (by first | exact .inl rfl | exact .inr rfl | assumption)) (@ai _ _ _ _ _ (@vI _ _ _ _ _ _ (@aH _ _ _ _ _ _ _ _ _ _ _ La hr (by decide) rfl (@aa _ _ _ _ _ (pv 1) (@aa _ _ _ _ _ (pv 3) (@aa _ _ _ _ _ aj af (by rfl)) (by rfl)) (by rfl)) (by decide) (by rfl) (by rfl)) (@gm _ _ _ _ _ _ rfl (@bf _ _ _ _ _ (@aF _ _ (4) _ sc.nd rfl (Or.inl rfl) (by first | exact .inl rfl | exact .inr rfl | assumption)) (@bf _ _ _ _ _ (@aF _ _ (5) _ sc.nd rfl (Or.inl rfl) (by first | exact .inl rfl | exact .inr rfl | assumption)) d_ (by rfl)) (by rfl)) (by rfl) (by rfl)) (by rfl) (by rfl) (by rfl)) (@ai _ _ _ _ _ (@az _ _ (6) _ _ _ _ sc.nd rfl (Or.inl rfl) (@aH _ _ _ _ _ _ _ _ _ _ _ Ku hr (by decide) rfl (@aa _ _ _ _ _ (pv 1) (@aa _ _ _ _ _ (@ao _ _ _ _ _ _ _ _ _ ay (by rfl) T.len Ep (@aa _ _ _ _ _ (pv 3) af (by rfl)) (by decide) (by decide) (by rfl) (by rfl)) af (by rfl)) (by rfl)) (by decide) (by rfl) (by rfl)) (by rfl) (by first | exact .inl rfl | exact .inr rfl | assumption)) (@ai _ _ _ _ _ (@az _ _ (7) _ _ _ _ sc.nd rfl (Or.inl rfl) (@aH _ _ _ _ _ _ _ _ _ _ _ Lc hr (by decide) rfl (@aa _ _ _ _ _ (pv 1) (@aa _ _ _ _ _ (@aJ _ _ _ _ _ _ _ _ cR (@ao _ _ _ _ _ _ _ _ _ ay (by rfl) T.len Ep (@aa _ _ _ _ _ (pv 3) af (by rfl)) (by decide) (by decide) (by rfl) (by rfl)) aj) af (by rfl)) (by rfl)) (by decide) (by rfl) (by rfl)) (by rfl) (by first | exact .inl rfl | exact .inr rfl | assumption)) (@ai _ _ _ _ _ (@az _ _ (8) _ _ _ _ sc.nd rfl (Or.inr rfl) (@aH _ _ _ _ _ _ _ _ _ _ _ KI hr (by decide) rfl (@aa _ _ _ _ _ (@aK _ _ _ _ _ _ _ aZ (pv 5) (@aJ _ _ _ _ _ _ _ _ fF (@ao _ _ _ _ _ _ _ _ _ aE (by rfl) T.len Ep (@aa _ _ _ _ _ (pv 5) af (by rfl)) (by decide) (by decide) (by rfl) (by rfl)) aj) (fun _ _=>rfl)) (@aa _ _ _ _ _ (pv 6) (@aa _ _ _ _ _ (pv 7) af (by rfl)) (by rfl)) (by rfl)) (by decide) (by rfl) (by rfl)) (by rfl) (by first | exact .inl rfl | exact .inr rfl | assumption)) (@ai _ _ _ _ _ (@a6 _ _ _ _ _ _ _ _ (@aG _ _ _ _ _ _ _ _ cj (@aH _ _ _ _ _ _ _ _ _ _ _ Ku hr (by decide) rfl (@aa _ _ _ _ _ (pv 1) (@aa _ _ _ _ _ aj af (by rfl)) (by rfl)) (by decide) (by rfl) (by rfl)) aj (aM _)) (@ak _ _ _ (@az _ _ (8) _ _ _ _ sc.nd rfl (Or.inr rfl) (@aH _ _ _ _ _ _ _ _ _ _ _ K9 hr (by decide) rfl (@aa _ _ _ _ _ (pv 1) (@aa _ _ _ _ _ (@aJ _ _ _ _ _ _ _ _ cR (@ao _ _ _ _ _ _ _ _ _ ay (by rfl) T.len Ep (@aa _ _ _ _ _ (pv 3) af (by rfl)) (by decide) (by decide) (by rfl) (by rfl)) aj) af (by rfl)) (by rfl)) (by decide) (by rfl) (by rfl)) (by rfl) (by first | exact .inl rfl | exact .inr rfl | assumption))) aI) (@ai _ _ _ _ _ (@az _ _ (9) _ _ _ _ sc.nd rfl (Or.inl rfl) (@aP _ _ _ _ _ (@aa _ _ _ _ _ ax (@aa _ _ _ _ _ (@aW _ _ _ _ _ _ _ _ _ cS (by rfl) T.tuple bN (@aa _ _ _ _ _ (pv 4) af (by rfl)) (by decide) (by decide) (by rfl) (by rfl)) (@aa _ _ _ _ _ (pv 6) (@aa _ _ _ _ _ (pv 7) af (by rfl)) (by rfl)) (by rfl)) (by rfl))) (by rfl) (by first | exact .inl rfl | exact .inr rfl | assumption)) (@ai _ _ _ _ _ (@az _ _ (10) _ _ _ _ sc.nd rfl (Or.inl rfl) (@bc _ _ _ _ (@aa _ _ _ _ _ (pv 9) (@aa _ _ _ _ _ (@aH _ _ _ _ _ _ _ _ _ _ _ KR hr (by decide) rfl (@aa _ _ _ _ _ (pv 1) af (by rfl)) (by decide) (by rfl) (by rfl)) af (by rfl)) (by rfl))) (by rfl) (by first | exact .inl rfl | exact .inr rfl | assumption)) (@ai _ _ _ _ _ (@bD _ _ _ _ _ _ _ _ EU rfl (@bA _ _ _ _ _ _ rfl T.range (@aa _ _ _ _ _ aj af (by rfl)) (by rfl)) (@aF _ _ (11) _ sc.nd rfl (Or.inl rfl) (by first | exact .inl rfl | exact .inr rfl | assumption)) (@ak _ _ _ (@bL _ _ _ _ (@cK _ _ _ _ _ _ _ _ _ _ _ _ EY Fi Fj bQ (pv 10) (@aa _ _ _ _ _ (@aH _ _ _ _ _ _ _ _ _ _ _ Ly hr (by decide) rfl (@aa _ _ _ _ _ (pv 1) (@aa _ _ _ _ _ (pv 9) (@aa _ _ _ _ _ (pv 3) af (by rfl)) (by rfl)) (by rfl)) (by decide) (by rfl) (by rfl)) af (by rfl)) (by rfl) (by rfl) (by rfl) (by rfl) (by rfl)) (by rfl))) (by intro _ ;rfl)) (@ai _ _ _ _ _ (@az _ _ (10) _ _ _ _ sc.nd rfl (Or.inl rfl) (@aJ _ _ _ _ _ _ _ _ jX (pv 10) (@bH _ _ _ _ _ _ _ (["_law_turn","_law_feed_here","_law_one","_law_other"]) (["_law_turn"]) ([1,3,8]) _ _ _ _ (@bU _ _ _ _ _ _ rfl (by kernel_rfl)) rfl (@bA _ _ _ _ _ _ rfl T.range (@aa _ _ _ _ _ aj af (by rfl)) (by rfl)) (fun _ _ _ _=>@aF _ _ (0) _ (show (["_law_turn","_law_feed_here","_law_one","_law_other"]:List Str).Nodup from by decide +kernel) rfl (Or.inl rfl) (by first | exact .inl rfl | exact .inr rfl | assumption)) (fun _ _ _ _=>bu) (fun _ _ _ _=>by (exact (@aH _ _ _ _ _ _ _ _ _ _ _ F_bunl hr (by decide) rfl (@aa _ _ _ _ _ (pv 1) (@aa _ _ _ _ _ (pv 2) (@aa _ _ _ _ _ (pv 3) af (by rfl)) (by rfl)) (by rfl)) (by decide) (by rfl) (by rfl)))) (by intro _ ;rfl))) (by rfl) (by first | exact .inl rfl | exact .inr rfl | assumption)) (@ak _ _ _ (@a6 _ _ _ _ _ _ _ _ (@aG _ _ _ _ _ _ _ _ (@kc _ (by exact hr.units)) (@bH _ _ _ _ _ _ _ (["_law_thing","_law_one","_law_other"]) (["_law_thing"]) ([3,8]) _ _ _ _ (@bU _ _ _ _ _ _ rfl (by kernel_rfl)) rfl (@wY _ _ _ _ (pv 10)) (fun _ _ _ _=>@aF _ _ (0) _ (show (["_law_thing","_law_one","_law_other"]:List Str).Nodup from by decide +kernel) rfl (Or.inl rfl) (by first | exact .inl rfl | exact .inr rfl | assumption)) (fun _ _ _ _=>(@iT _ _ _ (by exact (@bh _ _ _ _ (@xP _ _ _ (@aH _ _ _ _ _ _ _ _ _ _ _ KG hr (by decide) rfl (@aa _ _ _ _ _ (pv 1) (@aa _ _ _ _ _ (pv 2) (@aa _ _ _ _ _ (pv 0) af (by rfl)) (by rfl)) (by rfl)) (by decide) (by rfl) (by rfl)) (fun _=>rfl)))))) (fun _ _ _ _=>by (exact aj)) (by intro _ ;rfl)) (@bc _ _ _ _ af) (aM _)) (@ak _ _ _ (@aD _ _ _ _ bK)) aI)))))))))))) (by intro _ ;rfl)) (@ak _ _ _ (@aD _ _ _ _ (@aH _ _ _ _ _ _ _ _ _ _ _ F_long hr (by decide) rfl (@aa _ _ _ _ _ (pv 1) (@aa _ _ _ _ _ (@aH _ _ _ _ _ _ _ _ _ _ _ K9 hr (by decide) rfl (@aa _ _ _ _ _ (pv 1) (@aa _ _ _ _ _ (@aJ _ _ _ _ _ _ _ _ bC aj (@aH _ _ _ _ _ _ _ _ _ _ _ Ku hr (by decide) rfl (@aa _ _ _ _ _ (pv 1) (@aa _ _ _ _ _ aj af (by rfl)) (by rfl)) (by decide) (by rfl) (by rfl))) af (by rfl)) (by rfl)) (by decide) (by rfl) (by rfl)) af (by rfl)) (by rfl)) (by decide) (by rfl) (by rfl)))))),?_⟩
  refine ⟨_,rfl,a,ns,rfl,hS,hlen,fun d H1 _ F1 s1=>?_⟩
  refine ⟨_,rfl,by decide,by decide,bP (lo:=0) (n:=2) (fun i σ H'=>∃ b2 b3 b4 b5 b6 b7 b8 b9 b10 b11:Option V,σ = [some (.ref a),some (.ref d),b2,b3,b4,b5,b6,b7,b8,b9,b10,b11]∧Fd H' d) ⟨_,_,_,_,_,_,_,_,_,_,rfl,F1⟩ ?_ ?_⟩
  ·rintro i σ H2 hi ⟨b2,b3,b4,b5,b6,b7,b8,b9,b10,b11,rfl,F2⟩
   refine ⟨_,rfl,_,rfl,d,_,rfl,F2,by decide,by decide,fun r H3 r0 r1 F3 sb3=>⟨_,_,rfl,rfl,?_⟩⟩
   obtain ⟨n0,rfl⟩:=ET r0
   obtain ⟨n,hn⟩:∃ n:Nat,n=n0+2:=⟨_,rfl⟩
   have en:(2:Int)+(n0:Int)=(n:Int):=by omega
   refine ⟨d,n,by rw [en];rfl,F3,by omega,by omega,fun u H4 R K4 F4 Ln=>?_⟩
   have U:Rw n u:=⟨R,K4,by omega,by omega⟩
   have ul:=U.row.len
   have KU:(toS u).length≤sizeLine:=by rw [ah];omega
   refine ⟨_,rfl,_,rfl,d,u,8,rfl,by decide,F4,U.srf,fun r1 la lb ss ps Rs v H5 F5 sb5 hr' ha hss hsg hsl hb hR hwk hpm _=>?_⟩
   refine ⟨r1,_,rfl,SqT.of hr',rfl,_,_,rfl,_,_,rfl,rfl,?_⟩
   refine ⟨_,rfl,_,rfl,_,rfl,KU,d,_,rfl,F5,by rw [ah];omega,by rw [ah];omega,fun pl H6 p0 p1 F6 sb6=>?_⟩
   rw [ah] at p1
   obtain ⟨pl,rfl⟩:=ET p0
   have ha:=sb6 _ _ (F5.nl ha) ha
   have hb:=sb6 _ _ (F5.nl hb) hb
   have hss:=hss.to (H':=H6) fun b xs e=>sb6 _ _ (F5.neT e) e
   have e2:((toS u).length:Int) / 2=(n:Int):=by rw [ah];omega
   refine ⟨_,rfl,_,rfl,_,rfl,KU,_,_,rfl,rfl,⟨by decide,by decide⟩,d,n,by rw [e2];rfl,F6,by omega,by omega,fun t h H7 ht N F7 sb7=>?_⟩
   have ha:=sb7 _ _ (F6.nl ha) ha
   have hb:=sb7 _ _ (F6.nl hb) hb
   have hss:=hss.to (H':=H7) fun b xs e=>sb7 _ _ (F6.neT e) e
   have V':Rw n v:=U.perm hpm
   have vl:=V'.row.len
   refine ⟨_,rfl,_,rfl,lb,_,rfl,.inl (SqL.of hb),_,_,rfl,rfl,lb,_,_,_,rfl,rfl,SqL.of hb,sL Rs v,_,rfl,_,rfl,n,pl,v,t,h,rfl,ht,V',by omega,N.iv,fun H8 s8=>?_⟩
   obtain ⟨o,ho⟩:∃ o,o=(rot v pl).map h:=⟨_,rfl⟩
   have O:Rw n o:=by rw [ho];exact N.rw (V'.perm (jj v pl))
   rw [← ho]
   have ha8:=s8 _ _ ha
   have hss8:=hss.same s8
   have ht8:=s8 _ _ ht
   have F8:=F7.same s8
   refine ⟨_,rfl,d,_,rfl,F8,by decide,by decide,fun zz H9 zz0 zz1 F9 sb9=>?_⟩
   have ha8:=sb9 _ _ (F8.nl ha8) ha8
   have hss8:=hss8.to (H':=H9) fun b xs e=>sb9 _ _ (F8.neT e) e
   have ht8:=sb9 _ _ (F8.neT ht8) ht8
   refine ⟨rfl,_,rfl,iO (fun _=>?A) (fun _=>?B)⟩
   case' A =>
    refine ⟨_,rfl,_,rfl,_,rfl,KU,_,_,rfl,rfl,⟨by decide,by decide⟩,d,n,by rw [e2];rfl,F9,by omega,by omega,fun o HX Ro hallo FX sbX=>?_⟩
    have O:Rw n o:=⟨Ro,hallo,by omega,by omega⟩
    have ha8:=sbX _ _ (F9.nl ha8) ha8
    have hss8:=hss8.to (H':=HX) fun b xs e=>sbX _ _ (F9.neT e) e
    have ht8:=sbX _ _ (F9.neT ht8) ht8
   case' B =>
    generalize H9=HX at F9 ha8 hss8 ht8 ⊢
    have FX:=F9
   all_goals
    refine ⟨_,rfl,la,_,rfl,.inl ⟨SqL.of ha8,fun q hq=>?_⟩⟩
    have s9:=av.new (o:=.tup (ps.map V.ref)) hq
    have f9:(upd HX q (.tup (ps.map V.ref))) q=some (.tup (ps.map V.ref)):=ag
    have FY:=FX.same s9
    have hss9:=hss8.same s9
    have ht9:=s9 _ _ ht8
    generalize upd HX q (.tup (ps.map V.ref))=HY at f9 FY hss9 ht9 ⊢
    clear s9
    refine ⟨_,rfl,_,rfl,(au (n:=4) (by decide)),fun pa hpa=>?_⟩
    have s10:=av.new (o:=.tup [.str "same",.ref q,.int (pl:Int),.ref t]) hpa
    have f10:(upd HY pa (.tup [.str "same",.ref q,.int (pl:Int),.ref t])) pa=some (.tup [.str "same",.ref q,.int (pl:Int),.ref t]):=ag
    have F10:=FY.same s10
    have hss10:=hss9.same s10
    have ht10:=s10 _ _ ht9
    have f910:=s10 _ _ f9
    generalize upd HY pa (.tup [.str "same",.ref q,.int (pl:Int),.ref t])=H10 at f10 F10 hss10 ht10 f910 ⊢
    obtain ⟨sz,hsz⟩:∃ sz,sz=ss.map fun s=>((s.1:Int),s.2):=⟨_,rfl⟩
    have P0':TsZ n H10 pa sz (pl:Int) h:=⟨⟨q,t,ps,f10,f910,by rw [hsz];exact vF hss10,ht10⟩,fun z hz=>by
     rw [hsz] at hz
     obtain ⟨x,hx,rfl⟩:=ED.mp hz
     exact hsg x hx,by rw [hsz,Ea];omega,N⟩
    have nz:yg sz (pl:Int):=⟨fun z hz=>by
     rw [hsz] at hz
     obtain ⟨x,hx,rfl⟩:=ED.mp hz
     have:=wV ss U.srf hwk x hx
     show -1≤(x.1:Int)∧(x.1:Int)≤12
     omega,by omega,by omega⟩
    have l8:sz.length≤8:=by rw [hsz,Ea];exact hsl
    clear hss8 hss9 hss10 hss hsz
    refine ⟨_,rfl,_,rfl,d,rfl,F10,fun z fl yd H11 ho hot F11 sb11=>⟨(au (n:=2) (by decide)),fun lt KB=>?_⟩⟩
    have hd10:H10 d≠none:=by
     obtain ⟨_,_,_,_,_,h1,_⟩:=F10.ex
     rw [h1];exact fun z=>by cases z
    have P11:TsZ n H11 pa sz (pl:Int) h:=P0'.to fun b xs e=>sb11 _ _ (F10.neT e) e
    have c1:Thn d H11 (.ref pa):=by
     obtain ⟨q',nm,as,h1,h2,h3,h4⟩:=P11.ex
     have hasl:as.length≤8:=by rw [h3.len];exact l8
     refine jt (f:=false) h1 (eW (by decide +kernel) (by decide)) (fun y hy=>?_) (by show 3≤5;decide)
     simp only [Ei,Ek,EW] at hy
     rcases hy with rfl | rfl | rfl
     ·exact (nq h2 (eX h3 P11.sg nz) (by rw [Ea];omega)).cm
     ·exact (dn (by omega) (by omega)).cm
     ·exact (nq h4 gk (by rw [Ea,nmS_len];omega)).cm
    have c2:Thn d H11 z:=ho.thn (hot d hd10)
    have st:=av.new (o:=.lst [.ref pa,z]) KB
    have ft:(upd H11 lt (.lst [.ref pa,z])) lt=some (.lst [.ref pa,z]):=ag
    have c1:Thn lt (upd H11 lt (.lst [.ref pa,z])) (.ref pa):=c1.fresh KB
    have c2:Thn lt (upd H11 lt (.lst [.ref pa,z])) z:=c2.fresh KB
    have F12:=F11.same st
    have P12:=P11.to (H':=upd H11 lt (.lst [.ref pa,z])) fun b xs e=>st _ _ e
    have nlt:=F11.ne KB
    generalize upd H11 lt (.lst [.ref pa,z])=H12 at ft c1 c2 F12 P12 ⊢
    refine ⟨_,rfl,by decide,by decide,bP (lo:=0) (n:=10) (fun j σ H'=>∃ (b11:Option V) (xs:List V),σ = [some (.ref a),some (.ref d),some (.int (0+(i:Int))),some (tx u),some (.ref la),some (.ref lb),some (.int (pl:Int)),some (.ref t),some (tx o),some (.ref pa),some (.ref lt),b11]∧H' lt=some (.lst xs)∧xs.length=2+j∧.ref pa∈xs∧(∀ x∈xs,Thn lt H' x)∧TsZ n H' pa sz (pl:Int) h∧Fd H' d) ⟨_,[.ref pa,z],rfl,ft,rfl,Ex,(fun x hx=>by
     simp only [Ei,Ek,EW] at hx
     rcases hx with rfl | rfl <;> assumption),P12,F12⟩ ?_ ?_⟩
    ·rintro j σ H13 hj ⟨b11,xs,rfl,gt,lj,mp,ok,P13,F13⟩
     refine ⟨_,rfl,.inl ⟨rfl,_,SqL.of gt⟩,_,rfl,_,rfl,_,rfl,d,lt,pa,n,u,sz,pl,h,rfl,F13,(by rw [gt];exact fun z=>by cases z),P13,U,by omega,by omega,nz,l8,fun x H14 th F14 sb14=>?_⟩
     have gt:=sb14 _ _ (F13.nl gt) gt
     refine ⟨lt,_,_,rfl,rfl,gt,(by omega),?_⟩
     refine ⟨_,xs++[x],rfl,ag,by rw [Ec,lj];rfl,E1 _ mp,(fun y hy=>?_),P13.to fun b zs e=>?_,F14.upd gt nlt mp⟩
     ·rcases EL.mp hy with hy | hy
      ·exact ((ok y hy).sb F13 sb14).app gt
      ·rw [Eu.mp hy];exact th.app gt
     ·have e:=sb14 _ _ (F13.neT e) e
      rw [ar (gX e gt (by intro z;cases z))];exact e
    rintro σ H13 ⟨b11,xs,rfl,gt,lj,mp,ok,P13,F13⟩
    refine ⟨_,rfl,_,rfl,by decide,by decide,?_⟩
    refine cT (own:=["_law_turn"]) (cap:=[1,3,8]) (J:=Itr 0 (4:Int).toNat) 4 (fun i ys σ H'=>∃ (v:Option V),σ = [v,some (.ref d),some (tx u),some (tx o)]∧ys.length=i∧(∀ y∈ys,Thn lt H' y)∧Fd H' d∧a_ d H13 H') ⟨none,rfl,rfl,(fun _ h=>by cases h),F13,a_.refl _ _⟩ (fun i ys σ H' hi ⟨_,_,e,_⟩=>by rw [e];exact Eg _) (by omega) (fun i ys σ H' hi _=>hi) (fun ys σ H' _=>Eg _) ?_ ?_
    ·rintro i ys σ HA w HB N' hi ⟨v0,rfl,hl,hok,FA,sbA⟩ ⟨rfl,rfl⟩ hN
     have gA:=sbA _ _ (F13.nl gt) gt
     exact ⟨_,rfl,_,rfl,_,rfl,d,lt,n,u,o,rfl,FA,(by rw [gA];exact fun z=>by cases z),U,O,fun x HC th FC sbC=>hN _ _ _ ⟨_,rfl,by rw [Ec,hl];rfl,fun y hy=>by
      rcases EL.mp hy with hy | hy
      ·exact (hok y hy).sb FA sbC
      ·rw [Eu.mp hy];exact th,FC,sbA.trans sbC⟩⟩
    rintro ys σ HA c ⟨v0,rfl,hl,hok,FA,sbA⟩ hc
    have sc':=av.new (o:=.lst ys) hc
    have fc:(upd HA c (.lst ys)) c=some (.lst ys):=ag
    have gc:=sc' _ _ (sbA _ _ (F13.nl gt) gt)
    have FC:=FA.same sc'
    have okA:∀ y∈xs++ys,Thn lt (upd HA c (.lst ys)) y:=fun y hy=>(EL.mp hy).elim (fun hy=>((ok y hy).sb F13 sbA).same sc') fun hy=>(hok y hy).same sc'
    generalize upd HA c (.lst ys)=HC at fc gc FC okA ⊢
    refine ⟨lt,c,_,_,rfl,rfl,gc,fc,(by omega),fun l2 KS=>?_⟩
    have F15:=FC.new (o:=.lst (xs++ys)) KS
    have f15:(upd HC l2 (.lst (xs++ys))) l2=some (.lst (xs++ys)):=ag
    have okB:∀ y∈xs++ys,Thn l2 (upd HC l2 (.lst (xs++ys))) y:=fun y hy=>(okA y hy).fresh KS
    have lxy:(xs++ys).length=16:=by rw [Ec,lj,hl]
    generalize upd HC l2 (.lst (xs++ys))=H15 at F15 f15 okB ⊢
    generalize xs++ys=ws at f15 okB lxy
    refine ⟨_,rfl,l2,rfl,⟨_,SqL.of f15⟩,?_⟩
    refine pY (xs:=ws) (own:=["_law_thing"]) (cap:=[3,8]) (fun k ys σ H'=>∃ (v:Option V),σ = [v,some (tx u),some (tx o)]∧ys=[]∧av H15 H') ⟨none,rfl,rfl,av.refl _⟩ (fun k ys σ H' _ ⟨_,_,e,_⟩=>by rw [e];exact E5 _) (by omega) (fun i ys σ H' ⟨_,_,_,q⟩=>SqL.of (q _ _ f15)) ?_ ?_
    ·rintro k' ys σ HG z N' hz ⟨v0,rfl,rfl,sG⟩ hN
     obtain ⟨dd,o1,o2,o3,o4⟩:=(okB z (Es hz)).same sG
     exact ⟨_,rfl,_,rfl,_,rfl,n,l2,u,o,z,dd,rfl,o1,o2,o3,o4,U,O,fun HI sI=>⟨_,rfl,nkT (hN _ _ _ ⟨_,rfl,rfl,sG.trans sI⟩)⟩⟩
    rintro ys σ HG c2 ⟨v0,rfl,rfl,sG⟩ hc2
    have s20:=av.new (o:=.lst []) hc2
    have f20:(upd HG c2 (.lst [])) c2=some (.lst []):=ag
    generalize upd HG c2 (.lst [])=HH at s20 f20 ⊢
    refine ⟨by show 0≤sizeLine;omega,fun c3 hc3=>⟨c2,c3,_,rfl,rfl,av.new hc3 _ _ f20,ag,_,rfl,et ?_⟩⟩
    have sK:=(sG.trans s20).then (o:=.lst []) hc3
    exact ⟨_,_,_,_,_,_,_,_,_,_,rfl,F15.same sK⟩
  ·rintro σ H2 ⟨b2,b3,b4,b5,b6,b7,b8,b9,b10,b11,rfl,F2⟩
   refine ⟨_,rfl,_,rfl,_,rfl,d,_,rfl,F2,by decide,by decide,fun r H3 r0 r1 F3 sb3=>⟨_,_,rfl,rfl,?_⟩⟩
   obtain ⟨m,rfl⟩:=ET r0
   have em:(2:Int)+(m:Int)=((m+2:Nat):Int):=by omega
   refine ⟨d,m+2,by rw [em];rfl,F3,by omega,by omega,fun u H4 R K4 F4 Ln=>?_⟩
   exact ⟨d,m+2,u,rfl,F4,⟨R,K4,by omega,by omega⟩,by omega,by omega,fun H5=>k _⟩
end
theorem CV {K:PySem.W.Frag}{h:Heap}{mg:Str→Option Value}{x:Str}{st:Stmt}{f:Addr}{oc:Value}{od an:Option Addr}{K2:Array (Option Value)}{kV doc pm Kv ct:Value}(X:K.In h)(G:h.Ns mainGlobals mg)(a:PySem.W.nsIn K mainGlobals x=some (some (.ref f)))
  (l:K.lookup f=some ⟨oc,od,.func (PySem.W.fnOf x x (bM st) (br st) (aq st) .none kV doc pm an Kv ct),K2⟩) (c:PySem.W.codeIn K Kv x=true) (k:PySem.W.keepIn K (.ref f)=true):Df K mg x st:=⟨f,_,E6 X G a,my l c k⟩
inductive DI (K:PySem.W.Frag)(x:Str)(st:Stmt):Prop
 | mk {f:Addr} {oc:Value} {od an:Option Addr} {K2:Array (Option Value)} {kV doc pm Kv ct:Value} (a:PySem.W.nsIn K mainGlobals x=some (some (.ref f))) (l:K.lookup f=some ⟨oc,od,.func (PySem.W.fnOf x x (bM st) (br st) (aq st) .none kV doc pm an Kv ct),K2⟩) (c:PySem.W.codeIn K Kv x=true) (k:PySem.W.keepIn K (.ref f)=true):DI K x st
theorem DI.df {K:PySem.W.Frag}{h:Heap}{mg:Str→Option Value}{x:Str}{st:Stmt}(d:DI K x st)(X:K.In h)(G:h.Ns mainGlobals mg):Df K mg x st:=by
 cases d with
 | mk a l c k=>exact CV X G a l c k
inductive DL where
 | n
 | c (x:Str) (st:Stmt) (r:DL)
def DIs (K:PySem.W.Frag):DL→Prop
 | .n=>True
 | .c x st r=>DI K x st∧DIs K r
theorem DIs.on {K:PySem.W.Frag}{x:Str}{st:Stmt}{r:DL}{f:Addr}{oc:Value}{od an:Option Addr}{K2:Array (Option Value)}{kV doc pm Kv ct:Value}(a:PySem.W.nsIn K mainGlobals x=some (some (.ref f)))(l:K.lookup f=some ⟨oc,od,.func (PySem.W.fnOf x x (bM st) (br st) (aq st) .none kV doc pm an Kv ct),K2⟩)(c:PySem.W.codeIn K Kv x=true)(k:PySem.W.keepIn K (.ref f)=true)(hr:DIs K r):DIs K (.c x st r):=⟨.mk a l c k,hr⟩
theorem Bi {l:PySem.W.OpenLaw}{w:World}{K:PySem.W.Frag}{h:Heap}{mg:Str→Option Value}{fa:Addr}(X:K.In h)(G:h.Ns mainGlobals mg)(hfa:mg "law" = some (.ref fa))
  {f43:Addr} {od43 an43:Option Addr} {sl43:Array (Option Value)} {oc43 kV43 dc43 pm43 cd43 ct43:Value} {aB:Addr} {es:Array DictEntry} {en:Nat} {tS:Tok} {tL:Tok}       {CR:Addr} {ddCR:Option Addr} {cdCR:ClassData} {sCR0 sCR1 sCR2 sCR3 sCR5:Option Value}         {nsCR:Addr} {onCR:Value} {dnCR:Option Addr} {esCR:Array DictEntry} {nnCR:Nat} {snCR:Array (Option Value)}         {CT:Addr} {ddCT:Option Addr} {cdCT:ClassData} {sCT0 sCT1 sCT2 sCT3 sCT5:Option Value}          {fCT:Addr} {ocCT kVCT dcCT pmCT cvCT ctCT:Value} {odCT anCT:Option Addr} {slCT:Array (Option Value)}    {CP:Addr} {ddCP:Option Addr} {cdCP:ClassData} {sCP0 sCP1 sCP2 sCP3 sCP5:Option Value}           {fCP:Addr} {ocCP kVCP dcCP pmCP cvCP ctCP:Value} {odCP anCP:Option Addr} {slCP:Array (Option Value)}    {ck0:Addr} {dk0:Option Addr} {xk0:ClassData} {sk0:Array (Option Value)}   {ck2:Addr} {dk2:Option Addr} {xk2:ClassData} {sk2:Array (Option Value)}   {ck3:Addr} {dk3:Option Addr} {xk3:ClassData} {sk3:Array (Option Value)}   {ck4:Addr} {dk4:Option Addr} {xk4:ClassData} {sk4:Array (Option Value)}   {ck5:Addr} {dk5:Option Addr} {xk5:ClassData} {sk5:Array (Option Value)}     {t0 t1 t2 t3 t4 t5 t6 t7 t8 t9 t10 t11:Tok}
  (hs:DIs K (.c "is_letter" jy <| .c "is_word" rR <| .c "number_of" yy <| .c "back" rO <| .c "is_reduced" lW <| .c "reduced" yw <| .c "holes" l0 <| .c "hole_from" rS <| .c "is_map" lX <| .c "mapped" jx <| .c "slid" lZ <| .c "can_slide" yC <| .c "neighbour" CJ <| .c "moved" lY <| .c "is_whole" l7 <| .c "lets_same" si <| .c "is_same_paper" jA <| .c "are_slides" l9 <| .c "is_slide" rX <| .c "is_names" rY <| .c "is_unlike_paper" l_ <| .c "look_at_same" jB <| .c "row_behind" se <| .c "look_at_unlike" ma <| .c "_law_feed" rN <| .c "_law_draw" rM <| .c "_law_back" lV <| .c "_law_surface" rV <| .c "_law_slid" so <| .c "_law_slides" jC <| .c "_law_holes" jz <| .c "_law_called" jE <| .c "_law_names" jG <| .c "_law_is_whole" yW <| .c "_law_is_shape" md <| .c "_law_due" sy <| .c "_law_let" sA <| .c "_law_odd" y8 <| .c "_law_put" y9 <| .c "_law_bent_same" mh <| .c "_law_bent_unlike" sF <| .c "_law_right" jH <| .c "_law_long_right" sH <| .n))
  (a43:PySem.W.nsIn K mainGlobals "law" = some (some (.ref f43)))
  (l43:K.lookup f43=some ⟨oc43,od43,.func (PySem.W.fnOf "law" "law" (bM kJ) (br kJ) (aq kJ) .none kV43 dc43 pm43 an43 cd43 ct43),sl43⟩)
  (c43:PySem.W.codeIn K cd43 "law" = true)
  (k43:PySem.W.keepIn K (.ref f43)=true)
  (z_len:PySem.W.nsIn K mainGlobals "len" = some none)
  (z_repr:PySem.W.nsIn K mainGlobals "repr" = some none)
  (z_abs:PySem.W.nsIn K mainGlobals "abs" = some none)
  (z_max:PySem.W.nsIn K mainGlobals "max" = some none)
  (z_int:PySem.W.nsIn K mainGlobals "int" = some none)
  (z_list:PySem.W.nsIn K mainGlobals "list" = some none)
  (z_range:PySem.W.nsIn K mainGlobals "range" = some none)
  (z_reversed:PySem.W.nsIn K mainGlobals "reversed" = some none)
  (z_min:PySem.W.nsIn K mainGlobals "min" = some none)
  (z_sorted:PySem.W.nsIn K mainGlobals "sorted" = some none)
  (z_tuple:PySem.W.nsIn K mainGlobals "tuple" = some none)
  (z_isinstance:PySem.W.nsIn K mainGlobals "isinstance" = some none)
  (z_all:PySem.W.nsIn K mainGlobals "all" = some none)
  (z_str:PySem.W.nsIn K mainGlobals "str" = some none)
  (z_zip:PySem.W.nsIn K mainGlobals "zip" = some none)
  (aBk:PySem.W.nsIn K mainGlobals "BACKS" = some (some (.ref aB)))
  (lB:K.lookup aB=some ⟨.type "dict",none,.dict es en,#[]⟩)
  (kB:PySem.W.KeysLit w.params es.toList)
  (aS:PySem.W.nsIn K mainGlobals "SMALL" = some (some (.str "abcdef" tS)))
  (aL:PySem.W.nsIn K mainGlobals "MOST_SLIDES" = some (some (.int 60 tL)))
  (zS:PySem.W.nsIn K mainGlobals "set" = some none)
  (zE:PySem.W.nsIn K mainGlobals "enumerate" = some none)
  (z_bool:PySem.W.nsIn K mainGlobals "bool" = some none)
  (kN:es.toList.map Bp=i5)
  (lo:(aB == sysModules)=false)
  (zV:PySem.W.nsIn K mainGlobals "ValueError" = some none)
  (aCR:PySem.W.nsIn K mainGlobals "RingError" = some (some (.ref CR)))
  (lCR:K.lookup CR=some ⟨.type "type",ddCR,.cls cdCR,#[sCR0,sCR1,sCR2,sCR3,some (.builtin "ValueError.__new__"),sCR5]⟩)
  (mCR:cdCR.mro = .ref CR::bmV)
  (eCR:cdCR.hasDel=false)
  (dCR:cdCR.hasDict=true)
  (kCR:PySem.W.keepIn K (.ref CR)=true)
  (saCR:PySem.W.findIn K (.ref CR) "__setattr__" = some (some (.builtin "object.__setattr__")))
  (gaCR:PySem.W.findIn K (.ref CR) "__getattribute__" = some (some (.builtin "BaseException.__getattribute__")))
  (gnCR:PySem.W.findIn K (.ref CR) "__getattr__" = some (none))
  (caCR:PySem.W.findIn K (.ref CR) "__class__" = some (some (.builtin "object.__class__")))
  (nCR:cdCR.ns=nsCR)
  (oCR:K.lookup nsCR=some ⟨onCR,dnCR,.dict esCR nnCR,snCR⟩)
  (pCR:(esCR.toList.all fun e=>match e.key with | .str _ _=>true | _=>false)=true)
  (qCR:PySem.W.nsIn K nsCR "__init__" = some none)
  (rdCR:PySem.W.readsIn K CR (.type "type")=true)
  (atCR:PySem.W.findCls K (.ref CR) (.type "type") "__init__" = some (.val (.builtin "ValueError.__init__")))
  (gtCR:PySem.W.specialIn K (.ref CR) "__getattribute__" = some (some (.builtin "type.__getattribute__")))
  (hdI:PySem.W.handedIn (.builtin "ValueError.__init__")=true)
  (cgt:PySem.W.specialIn K (.builtin "object.__class__") "__get__" = some (some (.builtin "getset_descriptor.__get__")))
  (ctk:PySem.W.takesIn K (.builtin "object.__class__")=some true)
  (aCT:PySem.W.nsIn K mainGlobals "NoSlide" = some (some (.ref CT)))
  (lCT:K.lookup CT=some ⟨.type "type",ddCT,.cls cdCT,#[sCT0,sCT1,sCT2,sCT3,some (.builtin "ValueError.__new__"),sCT5]⟩)
  (mCT:cdCT.mro = .ref CT :: .ref CR::bmV)
  (eCT:cdCT.hasDel=false)
  (dCT:cdCT.hasDict=true)
  (kCT:PySem.W.keepIn K (.ref CT)=true)
  (saCT:PySem.W.findIn K (.ref CT) "__setattr__" = some (some (.builtin "object.__setattr__")))
  (gaCT:PySem.W.findIn K (.ref CT) "__getattribute__" = some (some (.builtin "BaseException.__getattribute__")))
  (gnCT:PySem.W.findIn K (.ref CT) "__getattr__" = some (none))
  (caCT:PySem.W.findIn K (.ref CT) "__class__" = some (some (.builtin "object.__class__")))
  (xCT0:PySem.W.findIn K (.ref CT) "place" = some none)
  (iCT:PySem.W.findIn K (.ref CT) "__init__" = some (some (.ref fCT)))
  (uCT:K.lookup fCT=some ⟨ocCT,odCT,.func (PySem.W.fnOf "__init__" "NoSlide.__init__" (bM gT) (br gT) (aq gT) .none kVCT dcCT pmCT anCT cvCT ctCT),slCT⟩)
  (vCT:PySem.W.codeIn K cvCT "NoSlide.__init__" = true)
  (wCT:PySem.W.keepIn K (.ref fCT)=true)
  (jCT:PySem.W.isFn K (.ref fCT)=true)
  (aCP:PySem.W.nsIn K mainGlobals "NoPaper" = some (some (.ref CP)))
  (lCP:K.lookup CP=some ⟨.type "type",ddCP,.cls cdCP,#[sCP0,sCP1,sCP2,sCP3,some (.builtin "ValueError.__new__"),sCP5]⟩)
  (mCP:cdCP.mro = .ref CP :: .ref CR::bmV)
  (eCP:cdCP.hasDel=false)
  (dCP:cdCP.hasDict=true)
  (kCP:PySem.W.keepIn K (.ref CP)=true)
  (saCP:PySem.W.findIn K (.ref CP) "__setattr__" = some (some (.builtin "object.__setattr__")))
  (gaCP:PySem.W.findIn K (.ref CP) "__getattribute__" = some (some (.builtin "BaseException.__getattribute__")))
  (gnCP:PySem.W.findIn K (.ref CP) "__getattr__" = some (none))
  (caCP:PySem.W.findIn K (.ref CP) "__class__" = some (some (.builtin "object.__class__")))
  (xCP0:PySem.W.findIn K (.ref CP) "word" = some none)
  (xCP1:PySem.W.findIn K (.ref CP) "at" = some none)
  (iCP:PySem.W.findIn K (.ref CP) "__init__" = some (some (.ref fCP)))
  (uCP:K.lookup fCP=some ⟨ocCP,odCP,.func (PySem.W.fnOf "__init__" "NoPaper.__init__" (bM gU) (br gU) (aq gU) .none kVCP dcCP pmCP anCP cvCP ctCP),slCP⟩)
  (vCP:PySem.W.codeIn K cvCP "NoPaper.__init__" = true)
  (wCP:PySem.W.keepIn K (.ref fCP)=true)
  (jCP:PySem.W.isFn K (.ref fCP)=true)
  (ak0:PySem.W.nsIn K mainGlobals "NoBand" = some (some (.ref ck0)))
  (lk0:K.lookup ck0=some ⟨.type "type",dk0,.cls xk0,sk0⟩)
  (nk0:(Value.ref CT :: .ref CR::bmV).contains (.ref ck0)=false)
  (mk0:(Value.ref CP :: .ref CR::bmV).contains (.ref ck0)=false)
  (ak2:PySem.W.nsIn K mainGlobals "NoStep" = some (some (.ref ck2)))
  (lk2:K.lookup ck2=some ⟨.type "type",dk2,.cls xk2,sk2⟩)
  (nk2:(Value.ref CT :: .ref CR::bmV).contains (.ref ck2)=false)
  (mk2:(Value.ref CP :: .ref CR::bmV).contains (.ref ck2)=false)
  (ak3:PySem.W.nsIn K mainGlobals "NoSurface" = some (some (.ref ck3)))
  (lk3:K.lookup ck3=some ⟨.type "type",dk3,.cls xk3,sk3⟩)
  (nk3:(Value.ref CT :: .ref CR::bmV).contains (.ref ck3)=false)
  (mk3:(Value.ref CP :: .ref CR::bmV).contains (.ref ck3)=false)
  (ak4:PySem.W.nsIn K mainGlobals "NoRow" = some (some (.ref ck4)))
  (lk4:K.lookup ck4=some ⟨.type "type",dk4,.cls xk4,sk4⟩)
  (nk4:(Value.ref CT :: .ref CR::bmV).contains (.ref ck4)=false)
  (mk4:(Value.ref CP :: .ref CR::bmV).contains (.ref ck4)=false)
  (ak5:PySem.W.nsIn K mainGlobals "NoWay" = some (some (.ref ck5)))
  (lk5:K.lookup ck5=some ⟨.type "type",dk5,.cls xk5,sk5⟩)
  (nk5:(Value.ref CT :: .ref CR::bmV).contains (.ref ck5)=false)
  (mk5:(Value.ref CP :: .ref CR::bmV).contains (.ref ck5)=false)
  (nk1:(Value.ref CT :: .ref CR::bmV).contains (.ref CP)=false)
  (mk1:(Value.ref CP :: .ref CR::bmV).contains (.ref CT)=false)
  (gl0:PySem.W.nsIn K aB "a" = some (some (.str "A" t0)))
  (gl1:PySem.W.nsIn K aB "b" = some (some (.str "B" t1)))
  (gl2:PySem.W.nsIn K aB "c" = some (some (.str "C" t2)))
  (gl3:PySem.W.nsIn K aB "d" = some (some (.str "D" t3)))
  (gl4:PySem.W.nsIn K aB "e" = some (some (.str "E" t4)))
  (gl5:PySem.W.nsIn K aB "f" = some (some (.str "F" t5)))
  (gl6:PySem.W.nsIn K aB "A" = some (some (.str "a" t6)))
  (gl7:PySem.W.nsIn K aB "B" = some (some (.str "b" t7)))
  (gl8:PySem.W.nsIn K aB "C" = some (some (.str "c" t8)))
  (gl9:PySem.W.nsIn K aB "D" = some (some (.str "d" t9)))
  (gl10:PySem.W.nsIn K aB "E" = some (some (.str "e" t10)))
  (gl11:PySem.W.nsIn K aB "F" = some (some (.str "f" t11))) :
  ∃ fd:FuncData,(∀ (s:Shared) (v:Value),BindsTo s fd ⟨[v],[]⟩ [("_law_script",v)])∧∀ base:Heap,K.In base→base.Ns mainGlobals mg→jI l.prog w K mg base CX0 11 fa fd ["_law_script"] (sJ K):=by
 have e:=hfa.symm.trans (E6 X G a43)
 cases e
 have gB:∀ x:L,∃ t,PySem.W.nsIn K aB (toS [x])=some (some (.str (toS [inv x]) t)):=by
  have q:∀ (x:L) (u v:Str) (t:Tok),PySem.W.nsIn K aB u=some (some (.str v t))→toS [x]=u→toS [inv x]=v→∃ t,PySem.W.nsIn K aB (toS [x])=some (some (.str (toS [inv x]) t)):=fun x u v t g e1 e2=>⟨t,by rw [e1,e2];exact g⟩
  intro x
  match x with
  | ⟨0,_⟩=>exact q 0 "a" "A" _ gl0 (by decide +kernel) (by decide +kernel)
  | ⟨1,_⟩=>exact q 1 "b" "B" _ gl1 (by decide +kernel) (by decide +kernel)
  | ⟨2,_⟩=>exact q 2 "c" "C" _ gl2 (by decide +kernel) (by decide +kernel)
  | ⟨3,_⟩=>exact q 3 "d" "D" _ gl3 (by decide +kernel) (by decide +kernel)
  | ⟨4,_⟩=>exact q 4 "e" "E" _ gl4 (by decide +kernel) (by decide +kernel)
  | ⟨5,_⟩=>exact q 5 "f" "F" _ gl5 (by decide +kernel) (by decide +kernel)
  | ⟨6,_⟩=>exact q 6 "A" "a" _ gl6 (by decide +kernel) (by decide +kernel)
  | ⟨7,_⟩=>exact q 7 "B" "b" _ gl7 (by decide +kernel) (by decide +kernel)
  | ⟨8,_⟩=>exact q 8 "C" "c" _ gl8 (by decide +kernel) (by decide +kernel)
  | ⟨9,_⟩=>exact q 9 "D" "d" _ gl9 (by decide +kernel) (by decide +kernel)
  | ⟨10,_⟩=>exact q 10 "E" "e" _ gl10 (by decide +kernel) (by decide +kernel)
  | ⟨11,_⟩=>exact q 11 "F" "f" _ gl11 (by decide +kernel) (by decide +kernel)
 have T:Bt K w mg aB:=⟨EJ X G z_len,EJ X G z_repr,EJ X G z_abs,EJ X G z_max,EJ X G z_int,EJ X G z_list,EJ X G z_range,EJ X G z_reversed,EJ X G z_min,EJ X G z_sorted,EJ X G z_tuple,EJ X G z_isinstance,EJ X G z_all,EJ X G z_str,EJ X G z_zip,E6 X G aBk,⟨es,en,lB,kB⟩,gB⟩
 have B:Bk K aB:=B8 lo lB kB kN
 have S:∃ t,mg "SMALL" = some (.str "abcdef" t):=⟨_,E6 X G aS⟩
 have ML:∃ t,mg "MOST_SLIDES" = some (.int 60 t):=⟨_,E6 X G aL⟩
 have Tset:mg "set" = none:=EJ X G zS
 have Te:mg "enumerate" = none:=EJ X G zE
 have Tb:mg "bool" = none:=EJ X G z_bool
 have XCR:XCl K CR bmV:=qu lCR mCR eCR dCR gK kCR
 have ACR:XAt K CR:=⟨⟨_,XCR⟩,saCR,gaCR,gnCR⟩
 have GCR:mg "RingError" = some (.ref CR):=E6 X G aCR
 have BCR:uB K CR:=⟨rdCR,atCR,gtCR,hdI⟩
 have XCT:XCl K CT (.ref CR::bmV):=qu lCT mCT eCT dCT (mU lCR (by rw [nCR];exact qt oCR pCR) (by rw [nCR];exact qCR) gK) kCT
 have ACT:XAt K CT:=⟨⟨_,XCT⟩,saCT,gaCT,gnCT⟩
 have CCT:XCa K CT:=⟨ACT,caCT,cgt,ctk⟩
 have ICT:=fun base:Heap=>vo (P:=l.prog) (w:=w) (mg:=mg) (base:=base) (my uCT vCT wCT) BCR GCR ACT xCT0
 have MCT:∀ base:Heap,XMk l.prog w K mg base "NoSlide" CT ["place"] 1:=fun base=>⟨E6 X G aCT,CCT,by intro f hf;simp only [Ei,Ek,EW] at hf;rcases hf with rfl <;> assumption,⟨_,_,_,XCT,iCT,jCT,(ICT base).1,(ICT base).2⟩⟩
 have XCP:XCl K CP (.ref CR::bmV):=qu lCP mCP eCP dCP (mU lCR (by rw [nCR];exact qt oCR pCR) (by rw [nCR];exact qCR) gK) kCP
 have ACP:XAt K CP:=⟨⟨_,XCP⟩,saCP,gaCP,gnCP⟩
 have CCP:XCa K CP:=⟨ACP,caCP,cgt,ctk⟩
 have ICP:=fun base:Heap=>r_ (P:=l.prog) (w:=w) (mg:=mg) (base:=base) (my uCP vCP wCP) BCR GCR ACP xCP0 xCP1
 have MCPH:∀ base:Heap,CB l.prog w K mg base "NoPaper" CP ["word","at"] 1:=fun base=>⟨E6 X G aCP,CCP,⟨_,_,_,XCP,iCP,jCP,(ICP base).1,(ICP base).2⟩⟩
 have MCP:∀ base:Heap,XMk l.prog w K mg base "NoPaper" CP ["word","at"] 1:=fun base=>⟨E6 X G aCP,CCP,by intro f hf;simp only [Ei,Ek,EW] at hf;rcases hf with rfl | rfl <;> assumption,⟨_,_,_,XCP,iCP,jCP,(ICP base).1,(ICP base).2.ok (fun vs H Q E h=>by obtain ⟨a,ys,b,c,e,hl,ea,k⟩:=h;exact ⟨a,ys,b,c,e,hl,ea,k⟩)⟩⟩
 have TCM:Do K mg CP CR (.ref CR::bmV) bmV (fun n=>[ck0,CT,ck2,ck3,ck4,ck5].getD n ck0):=⟨E6 X G aCP,E6 X G aCR,EJ X G zV,E6 X G ak0,E6 X G aCT,E6 X G ak2,E6 X G ak3,E6 X G ak4,E6 X G ak5,XCP,by simp,(dU XCP lk0).trans (EX some mk0),(dU XCP lCT).trans (EX some mk1),(dU XCP lk2).trans (EX some mk2),(dU XCP lk3).trans (EX some mk3),(dU XCP lk4).trans (EX some mk4),(dU XCP lk5).trans (EX some mk5),uO,Ao X XCP rfl rfl,CCP,xCP0,xCP1⟩
 refine ⟨PySem.W.fnOf "law" "law" (bM kJ) (br kJ) (aq kJ) .none kV43 dc43 pm43 an43 cd43 ct43,fun s v=>.of_eq rfl,fun base _ _=>?_⟩
 obtain ⟨h0,h1,h2,h3,h4,h5,h6,h7,h8,h9,h10,h11,h12,h13,h14,h15,h16,h17,h18,h19,h20,h21,h22,h23,h24,h25,h26,h27,h28,h29,h30,h31,h32,h33,h34,h35,h36,h37,h38,h39,h40,h41,h42,_⟩:=hs
 have Le:=va (P:=l.prog) (w:=w) (base:=base) (h0.df X G) T B
 have Ll:=CI (P:=l.prog) (w:=w) (base:=base) (h2.df X G) T S
 have F_word:=AX (P:=l.prog) (w:=w) (base:=base) (h1.df X G) T Le Ll
 have Ky:=AU (P:=l.prog) (w:=w) (base:=base) (h3.df X G) T
 have Lw:=yA (P:=l.prog) (w:=w) (base:=base) (h4.df X G) T
 have F_red:=CH (P:=l.prog) (w:=w) (base:=base) (h5.df X G) T
 have F_hole:=AZ (P:=l.prog) (w:=w) (base:=base) (h7.df X G) T Ky
 have K1:=yG (P:=l.prog) (w:=w) (base:=base) (h6.df X G) T F_hole
 have Lx:=yB (P:=l.prog) (w:=w) (base:=base) (h8.df X G) T F_word Lw
 have Lb:=u_ (P:=l.prog) (w:=w) (base:=base) (h9.df X G) T S Ky F_red
 have F_nb:=D7 (P:=l.prog) (w:=w) (base:=base) (h12.df X G) T
 have F_can:=CL (P:=l.prog) (w:=w) (base:=base) (h11.df X G) T Ky F_nb
 have Lr:=yD (P:=l.prog) (w:=w) (base:=base) (h13.df X G) T Ky F_nb
 have Lq:=yE (P:=l.prog) (w:=w) (base:=base) (h10.df X G) T F_can Lr (MCT _)
 have Kz:=yJ (P:=l.prog) (w:=w) (base:=base) (h14.df X G) T Tb
 have F_issl:=A1 (P:=l.prog) (w:=w) (base:=base) (h18.df X G) T Kz
 have Lz:=yL (P:=l.prog) (w:=w) (base:=base) (h17.df X G) T ML F_issl
 have F_isnm:=A2 (P:=l.prog) (w:=w) (base:=base) (h19.df X G) T Tset Lx Ll
 have Lv:=yN (P:=l.prog) (w:=w) (base:=base) (h20.df X G) T Kz
 have Lf:=vn (P:=l.prog) (w:=w) (base:=base) (h16.df X G) T Lz Kz F_isnm
 have F_rowb:=A3 (P:=l.prog) (w:=w) (base:=base) (h22.df X G) T Te (E6 X G aCT) XCT Lq (MCPH _)
 have Ld:=vp (P:=l.prog) (w:=w) (base:=base) (h21.df X G) T F_rowb Lb (MCP _)
 have Lu:=yP (P:=l.prog) (w:=w) (base:=base) (h23.df X G) T K1 (MCP _)
 have F_lets:=A4 (P:=l.prog) (w:=w) (base:=base) (h15.df X G) T Lf Ld Lv Lu (MCP _)
 have F_feed:=AS (P:=l.prog) (w:=w) (base:=base) (h24.df X G) T
 have Ku:=AR (P:=l.prog) (w:=w) (base:=base) (h25.df X G) T
 have KA:=yu (P:=l.prog) (w:=w) (base:=base) (h26.df X G)
 have K9:=A0 (P:=l.prog) (w:=w) (base:=base) (h27.df X G) T Ku
 have KF:=A5 (P:=l.prog) (w:=w) (base:=base) (h28.df X G) T KA
 have La:=vw (P:=l.prog) (w:=w) (base:=base) (h29.df X G) T Ku KF
 have KH:=vh (P:=l.prog) (w:=w) (base:=base) (h30.df X G) T KA
 have KI:=vx (P:=l.prog) (w:=w) (base:=base) (h31.df X G) T KA
 have Lc:=vz (P:=l.prog) (w:=w) (base:=base) (h32.df X G) T Ku
 have K8:=CM (P:=l.prog) (w:=w) (base:=base) (h33.df X G) T Tb
 have Lp:=yZ (P:=l.prog) (w:=w) (base:=base) (h34.df X G) T K8
 have F_ldue:=A_ (P:=l.prog) (w:=w) (base:=base) (h35.df X G) T Te Lp KF KI KH
 have F_llet:=Ba (P:=l.prog) (w:=w) (base:=base) (h36.df X G) T TCM XCR F_lets
 have KG:=vD (P:=l.prog) (w:=w) (base:=base) (h41.df X G) T F_llet F_ldue
 have KR:=CO (P:=l.prog) (w:=w) (base:=base) (h37.df X G) T Ku
 have F_put:=CQ (P:=l.prog) (w:=w) (base:=base) (h38.df X G) T Ku
 have Ly:=y_ (P:=l.prog) (w:=w) (base:=base) (h39.df X G) T Ku KR F_put
 have F_bunl:=Bf (P:=l.prog) (w:=w) (base:=base) (h40.df X G) T Ku KH
 have F_long:=Bg (P:=l.prog) (w:=w) (base:=base) (h42.df X G) T Ku KF KG
 exact CU (my l43 c43 k43) T F_feed Ku K9 La Lc KI KR Ly F_bunl KG F_long
theorem D8 {l:PySem.W.OpenLaw}{q:Program}{loose:List Str}{XP:(Str→Option Value)→Heap→Prop}{YP:World→Heap→Prop}{d:DefRec}{K:Params→PySem.W.Frag}(hn:l.most=some 63)(hdf:d.params.defaults=[])
  (hY:∀ (w:World) (h:Heap),YP w h→(K w.params).In h)
  (F:∀ (w:World) (mg:Str→Option Value) (fa:Addr) (h:Heap),(K w.params).In h→h.Ns mainGlobals mg→mg d.name=some (.ref fa) →
   ∃ fd:FuncData,(∀ (s:Shared) (u:Value),BindsTo s fd ⟨[u],[]⟩ [("_law_script",u)])∧∀ base:Heap,(K w.params).In base→base.Ns mainGlobals mg→jI l.prog w (K w.params) mg base CX0 11 fa fd ["_law_script"] (sJ (K w.params))) :
  PySem.W.WalkO q loose XP YP l.row.toRowW d [] (fun f vs=>PySem.call f vs) :=
 L2.pk (n:=63) (k:=11) (x:="_law_script") (CX:=fun _=>CX0) (sp:=fun w=>sJ (K w.params)) hn (by decide) hdf ⟨rfl,by decide,by decide,rfl⟩ hY F (fun _ _ a ns hl _ hS=>⟨a,ns,rfl,hS,hl,fun _=>rfl⟩) fun _ _ _ _ _ z=>z
end Kx
namespace Kx
open PySem
def Bj (s:String):Str:=⟨⟨PySem.W.R.mapR Char.toNat (PySem.W.S.toListS s)⟩⟩
theorem vG:Str.ofString=Bj:=by
 funext s
 rw [Str.ofString_eq_toList,PySem.W.S.toListS_eq]
 show _=(⟨⟨PySem.W.R.mapR Char.toNat (PySem.W.S.toListS s)⟩⟩:Str)
 rw [← PySem.W.R.mapR_eq]
def apG (G:(String→Str)→Program)(x:String→Str):Program:=G x
def Gs:{ G:(String→Str)→Program // apG G Str.ofString=PySem.Challenge.pw_ringwords_k67_same_papers_bent }:=by
 refine ⟨?G,?h⟩
 case h =>
  delta PySem.Challenge.pw_ringwords_k67_same_papers_bent
  generalize Str.ofString=x
  exact rfl
end Kx
def PySem.W.Fast.tw17662963621393440699:PySem.Program:=Kx.Gs.1 Kx.Bj
theorem PySem.W.Fast.te17662963621393440699:PySem.Challenge.pw_ringwords_k67_same_papers_bent=PySem.W.Fast.tw17662963621393440699:=Kx.Gs.2.symm.trans (EX (Kx.apG Kx.Gs.1) Kx.vG)
namespace PySem.W.Fast
theorem te17892705158635557214:True:=trivial
theorem tw16930339132557792250:True:=trivial
theorem tw15547055907371982195:True:=trivial
theorem tw4596428620268900242:True:=trivial
theorem tw13678897888195349266:True:=trivial
theorem tw5353755660528164491:True:=trivial
theorem tw12656259073506913851:True:=trivial
theorem tw16721899334386007804:True:=trivial
theorem tw3899444593599145139:True:=trivial
theorem tw10011928608675816060:True:=trivial
theorem tw4247492420955584131:True:=trivial
theorem tw2301729460743831831:True:=trivial
theorem tw5542759707161442197:True:=trivial
theorem tw14832361336503240413:True:=trivial
theorem tw8046374068920222494:True:=trivial
theorem tw11248161970113657619:True:=trivial
theorem tw4065985007994976122:True:=trivial
theorem tw378832190060985614:True:=trivial
theorem tw6739448719647805603:True:=trivial
theorem tw17446652285151076513:True:=trivial
theorem tw1965321914954541821:True:=trivial
theorem tw9187410196258760538:True:=trivial
theorem tw15396049167019767454:True:=trivial
theorem tw12232639400438618669:True:=trivial
theorem tw1560049214624928907:True:=trivial
theorem tw8376712665229766483:True:=trivial
theorem tw3279295315051519187:True:=trivial
theorem tw2235702803702794986:True:=trivial
theorem tw2016512506287043668:True:=trivial
theorem tw2660666110646370281:True:=trivial
theorem tw10782464735635521779:True:=trivial
theorem tw5063433318205263870:True:=trivial
theorem tw8594758974491459834:True:=trivial
theorem tw3178474210056475504:True:=trivial
theorem tw14107306641231170821:True:=trivial
theorem tw2197503181013504190:True:=trivial
theorem tw17962981570460798217:True:=trivial
theorem tw15261244615108082058:True:=trivial
theorem tw503262129301222245:True:=trivial
theorem tw10173453677098940825:True:=trivial
theorem tw8776044113441542500:True:=trivial
theorem tw7876029243554380872:True:=trivial
theorem tw13972109734531875678:True:=trivial
theorem tw8364448893492517505:True:=trivial
theorem tw17947939391276045086:True:=trivial
theorem tw12262309725242803507:True:=trivial
theorem tw5258139802948276412:True:=trivial
theorem tw232950144329073272:True:=trivial
theorem tw18432747226362622122:True:=trivial
theorem tw6435179171924896017:True:=trivial
theorem tw12918214055195150631:True:=trivial
theorem tw17454513093170575583:True:=trivial
theorem tw16563181042795198460:True:=trivial
theorem tw11059254729565155060:True:=trivial
theorem tw12810263193039240841:True:=trivial
theorem tw1705629183346917321:True:=trivial
theorem tw15794734493910519329:True:=trivial
theorem tw11810407957000544481:True:=trivial
theorem tw10058265787565973783:True:=trivial
theorem tw11171274797367768650:True:=trivial
theorem tw10045998915637025491:True:=trivial
theorem tw27682492054016788:True:=trivial
theorem tw16272039377883199358:True:=trivial
theorem tw4479706237640955681:True:=trivial
theorem tw15367947535759972900:True:=trivial
theorem tw16632223799709320151:True:=trivial
theorem tw8906295775045538331:True:=trivial
theorem tw5202112609440037171:True:=trivial
theorem tw16074394850443731326:True:=trivial
theorem tw18134427387238431071:True:=trivial
theorem tw10943012673830818177:True:=trivial
theorem tw1177924088579942808:True:=trivial
theorem tw12843405019362659967:True:=trivial
theorem tw5450517674776383165:True:=trivial
theorem tw2882261116683012067:True:=trivial
theorem tw4190567538665524492:True:=trivial
theorem tw6910834146097649301:True:=trivial
theorem tw7859909450499824491:True:=trivial
theorem tw18007094320742018966:True:=trivial
theorem tw8109097123674091333:True:=trivial
theorem tw15323661489849511574:True:=trivial
theorem tw5463943661035541197:True:=trivial
theorem tw17030253961918254670:True:=trivial
theorem tw10139969294083665151:True:=trivial
theorem tw6898268789410976351:True:=trivial
theorem tw7071506869830000200:True:=trivial
theorem tw13813635971631668737:True:=trivial
theorem tw116583261206506475:True:=trivial
theorem tw3898911461608121499:True:=trivial
theorem tw14550706333477322594:True:=trivial
theorem tw11382001605834250237:True:=trivial
theorem tw15097447449510729182:True:=trivial
theorem tw17377655620493505411:True:=trivial
theorem tw5465456840210562266:True:=trivial
theorem tw9984814028270999297:True:=trivial
theorem tw1100762452147797037:True:=trivial
theorem tw17142759514577118421:True:=trivial
theorem tw16203107702485423267:True:=trivial
theorem tw8001452889798137306:True:=trivial
theorem tw7444667761988285168:True:=trivial
theorem tw11691464843875311867:True:=trivial
theorem tw16407934042229378118:True:=trivial
theorem tw14021788594120105062:True:=trivial
theorem tw18293182506527492499:True:=trivial
theorem tw4895094979845534797:True:=trivial
theorem tw7197989289616591893:True:=trivial
theorem tw370271066974897848:True:=trivial
theorem tw4142482950469956674:True:=trivial
theorem tw12724183592081218502:True:=trivial
theorem tw5561495949904920602:True:=trivial
theorem tw16099445993903441882:True:=trivial
theorem tw14441212238893112303:True:=trivial
theorem tw4676882407575829087:True:=trivial
theorem tw3924579226971056703:True:=trivial
theorem tw12638349925183924979:True:=trivial
theorem tw8408816693434158740:True:=trivial
theorem tw14424813541132645599:True:=trivial
theorem tw6687116817704025696:True:=trivial
theorem tw12782844669810833060:True:=trivial
theorem tw3302486602471581580:True:=trivial
theorem tw4945985893325730146:True:=trivial
theorem tw446832927907366867:True:=trivial
theorem tw15178975879018158734:True:=trivial
theorem tw17565641619148291417:True:=trivial
theorem tw1907463926426114017:True:=trivial
theorem tw11049945016080953244:True:=trivial
theorem tw1264160439096773886:True:=trivial
theorem tw9393117923913009059:True:=trivial
theorem tw5339554405862840261:True:=trivial
theorem tw15395674342388290068:True:=trivial
theorem tw11762413747981923826:True:=trivial
theorem tw16176322128873604966:True:=trivial
theorem tw14014264034342457036:True:=trivial
theorem tw497206294423866997:True:=trivial
theorem tw7779432521529689446:True:=trivial
theorem tw14406593774132939717:True:=trivial
theorem tw9449232014094088025:True:=trivial
theorem tw22298908309800953:True:=trivial
theorem tw6913102368965794802:True:=trivial
theorem tw6233275199700299337:True:=trivial
theorem tw8451549060660126699:True:=trivial
theorem tw10908278053006726002:True:=trivial
theorem tw1050570035666553787:True:=trivial
theorem tw9701848105527194629:True:=trivial
theorem tw13974193973783159312:True:=trivial
theorem tw11940927074253956759:True:=trivial
theorem tw6809824368782837236:True:=trivial
theorem tw6593995798615416547:True:=trivial
theorem tw1597282235642265088:True:=trivial
theorem tw5546040394557079013:True:=trivial
end PySem.W.Fast
open PySem PySem.W PyProof.Rows
set_option maxRecDepth 100000 in
set_option maxHeartbeats 0 in
theorem PySem.Challenge.cw_ringwords_k67_same_papers_bent_holds : PySem.Challenge.rw_ringwords_k67_same_papers_bent.Holds := by
 w_on; o_law; k_head; (case hw=>w_witness2)
 k_fill
 refine Kx.D8 (l:=PySem.Challenge.rw_ringwords_k67_same_papers_bent) rfl rfl (fun w h Y=>PySem.W.kIn_of Y) ?F
 case F =>
  intro w mg fa h KX G hmg
  refine' Kx.Bi KX G hmg ?hs ?a43 ?l43 ?c43 ?k43 ?z_len ?z_repr ?z_abs ?z_max ?z_int ?z_list ?z_range ?z_reversed ?z_min ?z_sorted ?z_tuple ?z_isinstance ?z_all ?z_str ?z_zip ?aBk ?lB ?kB ?aS ?aL ?zS ?zE ?z_bool ?kN ?lo ?zV ?aCR ?lCR ?mCR ?eCR ?dCR ?kCR ?saCR ?gaCR ?gnCR ?caCR ?nCR ?oCR ?pCR ?qCR ?rdCR ?atCR ?gtCR ?hdI ?cgt ?ctk ?aCT ?lCT ?mCT ?eCT ?dCT ?kCT ?saCT ?gaCT ?gnCT ?caCT ?xCT0 ?iCT ?uCT ?vCT ?wCT ?jCT ?aCP ?lCP ?mCP ?eCP ?dCP ?kCP ?saCP ?gaCP ?gnCP ?caCP ?xCP0 ?xCP1 ?iCP ?uCP ?vCP ?wCP ?jCP ?ak0 ?lk0 ?nk0 ?mk0 ?ak2 ?lk2 ?nk2 ?mk2 ?ak3 ?lk3 ?nk3 ?mk3 ?ak4 ?lk4 ?nk4 ?mk4 ?ak5 ?lk5 ?nk5 ?mk5 ?nk1 ?mk1 ?gl0 ?gl1 ?gl2 ?gl3 ?gl4 ?gl5 ?gl6 ?gl7 ?gl8 ?gl9 ?gl10 ?gl11
  (case hs=>(iterate 43 (refine' Kx.DIs.on ?_ ?_ ?_ ?_ ?_; rotate_left 10; k_is; k_is; k_is; k_is)); exact trivial)
  (case a43 | l43 | c43 | k43 | z_len | z_repr | z_abs | z_max | z_int | z_list | z_range | z_reversed | z_min | z_sorted | z_tuple | z_isinstance | z_all | z_str | z_zip | aBk | lB=>k_is)
  (case kB=>exact ⟨⟨_,_,rfl,rfl⟩,⟨_,_,rfl,rfl⟩,⟨_,_,rfl,rfl⟩,⟨_,_,rfl,rfl⟩,⟨_,_,rfl,rfl⟩,⟨_,_,rfl,rfl⟩,⟨_,_,rfl,rfl⟩,⟨_,_,rfl,rfl⟩,⟨_,_,rfl,rfl⟩,⟨_,_,rfl,rfl⟩,⟨_,_,rfl,rfl⟩,⟨_,_,rfl,rfl⟩,trivial⟩)
  (case aS | aL | zS | zE | z_bool=>k_is)
  (case kN | lo=>rfl)
  (case zV | aCR | lCR=>k_is)
  (case mCR | eCR | dCR=>rfl)
  (case kCR | saCR | gaCR | gnCR | caCR=>k_is)
  (case nCR=>rfl)
  (case oCR=>k_is)
  (case pCR=>rfl)
  (case qCR | rdCR | atCR | gtCR=>k_is)
  (case hdI=>rfl)
  (case cgt | ctk | aCT | lCT=>k_is)
  (case mCT | eCT | dCT=>rfl)
  (case kCT | saCT | gaCT | gnCT | caCT | xCT0 | iCT | uCT | vCT | wCT | jCT | aCP | lCP=>k_is)
  (case mCP | eCP | dCP=>rfl)
  (case kCP | saCP | gaCP | gnCP | caCP | xCP0 | xCP1 | iCP | uCP | vCP | wCP | jCP | ak0 | lk0=>k_is)
  (case nk0 | mk0=>rfl)
  (case ak2 | lk2=>k_is)
  (case nk2 | mk2=>rfl)
  (case ak3 | lk3=>k_is)
  (case nk3 | mk3=>rfl)
  (case ak4 | lk4=>k_is)
  (case nk4 | mk4=>rfl)
  (case ak5 | lk5=>k_is)
  (case nk5 | mk5 | nk1 | mk1=>rfl)
  (case gl0 | gl1 | gl2 | gl3 | gl4 | gl5 | gl6 | gl7 | gl8 | gl9 | gl10 | gl11=>k_is)
end
