import PyProof.Rows.All
import Wide.All
import OpenK.AllK
import Wide.FinOn
import Lean
import PyProof.EqAt
import PyProof.EqKinds
import PyProof.TupleCall
import KE.KRevIter
import PyProof.Rows.SortShellK
import PyProof.Rows.SortRunsK
import PyProof.FString5
import PyProof.NeData
import PyProof.TupleOfStr
import PyProof.IsRules
import PySem.Challenge.RW_ringwords_k95_whole_holes_cross_nothing
set_option Elab.async false
set_option linter.all false
set_option maxRecDepth 100000
set_option maxHeartbeats 0
noncomputable section
def fu:=@List.getElem?_eq_getElem
def D9:=@PySem.wpAny_bind
def D_:=@PySem.Heap.get?_push_of_some
def Ea:=@decide_eq_false
def Eb:=@List.length_append
def Ec:=@List.mem_singleton
def Ed:=@List.getElem?_eq_some_iff
def Ee:=@decide_eq_true
def Ef:=@Array.length_toList
def Eg:=@List.mem_cons_of_mem
def Eh:=@decide_eq_true_iff
def Ei:=@Nat.le_refl
def Ej:=@List.length_map
def Ek:=@List.append_assoc
def El:=@Option.some.inj
def Em:=@PySem.Heap.get?_push_size
def En:=@PyProof.Rows.wpS_bind
def Eo:=@PySem.Heap.lt_size
def Ep:=@PySem.wpAny_pure
def Er:=@List.mem_cons_self
def Es:=@List.length_take
def Et:=@List.mem_cons
def Eu:=@PyProof.Rows.wpS_pure
def Ew:=@List.mem_append
def Ex:=@List.mem_append_right
def Ey:=@congrArg
def Ez:=@Int.emod_lt_of_pos
def EA:=@Bool.eq_iff_iff
def EB:=@Bool.false_eq_true
def EC:=@List.size_toArray
def ED:=@List.getElem?_append_right
def EE:=@List.getD_eq_getElem?_getD
def EF:=@List.length_cons
def EG:=@List.nodup_cons
def EH:=@Bool.false_ne_true
def EI:=@List.take_append_drop
def EJ:=@PySem.F.plainAttrs_str
def EK:=@PySem.boot_len
def EL:=@Nat.lt_of_lt_of_le
def EM:=@Int.emod_nonneg
def EN:=@List.not_mem_nil
def EO:=@List.map_cons
def ER:=@List.mem_append_left
def ES:=@List.length_singleton
def ET:=@List.length_pos_iff
def EU:=@List.mem_map
def EV:=@Bool.false_and
def EW:=@Nat.ne_of_lt
def EX:=@PySem.W.mg_none_of
def EY:=@List.mem_of_getElem?
def EZ:=@Bool.true_and
def E1:=@Nat.zero_le
def E2:=@Int.toNat_natCast
def E3:=@List.getElem?_append_left
def E4:=@List.drop_eq_getElem_cons
def E5:=@Array.getElem?_toList
def E6:=@List.getElem?_take_of_lt
def E7:=@List.flatten_cons
def E8:=@List.getElem?_drop
def E9:=@List.take_of_length_le
def E_:=@List.map_append
def Fb:=@List.length_drop
def Fc:=@List.getElem_mem
def Fe:=@PySem.PassesOwn.never
def Ff:=@List.getElem?_map
def Fg:=@List.eq_nil_of_length_eq_zero
def Fh:=@List.nodup_append
def Fi:=@List.perm_append_comm
def Fj:=@Nat.mod_eq_of_lt
def Fk:=@PySem.wpAny_truthy_bool
def Fl:=@List.length_nil
def Fm:=@PyProof.Rows.wpS_forRange
def Fn:=@Int.eq_ofNat_of_zero_le
def Fo:=@Int.emod_eq_of_lt
def Fp:=@List.map_map
def Fq:=@PySem.Heap.get?_update_other
def Fs:=@Nat.lt_irrefl
def Ft:=@Nat.le_trans
def Fu:=@List.getElem?_eq_none
def Fv:=@List.all_eq_true
def Fw:=@Array.toList_extract
def Fx:=@List.getElem?_of_mem
def Fy:=@List.Perm.append_right
def Fz:=@PySem.F.slot_str_index
def FA:=@PySem.F.type_str_index
def FB:=@PySem.W.kia_one
def FC:=@List.append_nil
def FD:=@PyProof.Rows.KeyOrd.kle_refl
def FE:=@List.pairwise_iff_getElem
def FF:=@if_false
def FG:=@Bool.and_eq_true
def FH:=@List.Perm.append_left
def FI:=@PySem.Heap.size_push
def FJ:=@List.nodup_nil
def FK:=@PyProof.Rows.callWith_type1
def FL:=@PySem.mem_of_lookup
def FM:=@or_false
def FN:=@List.mem_filter
def FO:=@List.cons_lt_cons_iff
def FP:=@List.zip_cons_cons
def FQ:=@List.getElem_idxOf
def FR:=@PySem.wpAny_call_entry
def FS:=@PySem.wpAny_field
def FT:=@List.perm_middle
def FU:=@List.mem_flatten
def FV:=@List.reverse_reverse
def FW:=@PyProof.Rows.wpS_mono
def FX:=@PyProof.Rows.F.plain_set_update_loop
def FY:=@Int.add_emod
def FZ:=@PySem.wpAny_mono
def F0:=@List.replicate_succ
def F8:=@List.idxOf_lt_length_of_mem
def F_:=@PySem.codeAny_builtin
def Ga:=@List.drop_eq_nil_of_le
def Gb:=@if_true
def Ge:=@Array.getElem?_eq_some_iff
def Gf:=@Array.perm_iff_toList_perm
def Gg:=@Nat.lt_succ_self
def Gh:=@PySem.wpAny_rule
def Gi:=@List.countP_cons
def Gj:=@decide_eq_decide
def Gk:=@PySem.wpAny_setField_rec
def Gm:=@List.cons.inj
def Gn:=@List.eq_nil_or_concat
def Gp:=@List.concat_eq_append
def Gq:=@PySem.Around.under_plainId
def Gr:=@PySem.wpAny_passesOwn
def Gu:=@Option.isSome_iff_exists
def Gv:=@of_decide_eq_true
def Gw:=@Nat.lt_succ_of_lt
def Gx:=@Array.toList_push
def Gy:=@decide_eq_true_eq
def Gz:=@Int.add_zero
def GA:=@PySem.wpAny_getItem_str_slice
def GB:=@PySem.wpAny_callSpecial?_slot
def GC:=@Nat.add_sub_cancel_left
def GD:=@List.flatten_append
def GE:=@PySem.F.plainAttrs_list
def GF:=@List.take_length
def GG:=@List.any_eq_true
def GH:=@PyProof.Rows.KeyOrd.kle_trans
def GI:=@Bool.not_eq_true
def GJ:=@List.mem_range
def GK:=@Bool.and_false
def GL:=@beq_iff_eq
def GM:=@List.append_eq_nil_iff
def GN:=@List.pairwise_cons
def GO:=@List.find?_cons
def GP:=@PySem.builtinLookup_eq_fast
def GQ:=@List.any_eq_false
def GS:=@List.take_add_one
def GT:=@PySem.wpAny_holding
def GU:=@PyProof.Rows.KeyOrd.kle_of_klt
def GV:=@List.flatMap_cons
def GW:=@List.mem_of_mem_drop
def GX:=@List.mem_of_mem_take
def GY:=@Array.getElem?_eq_getElem
def GZ:=@PySem.wpAny_seqItems
def G0:=@List.Perm.refl
def G1:=@PyProof.Rows.F.entry_set_update_loop
def G2:=@List.getLast?_eq_getElem?
def G3:=@List.zipIdx_cons
def G4:=@Prod.ext
def G5:=@List.length_erase_of_mem
def G6:=@PyProof.Rows.wpS_modify
def G7:=@PySem.F.slot_list_extend
def G8:=@PySem.F.type_list_extend
def G9:=@PySem.W.mg_of
def G_:=@List.forIn_cons
def Ha:=@PySem.wpAny_newList
def Hb:=@PySem.wpAny_pyIter_ascii
def Hc:=@PySem.wpAny_attempt
def Hd:=@PySem.Obj.data_mapFields
def He:=@PySem.wpAny_nextOf_ascii_item
def Hf:=@List.getElem?_take
def Hg:=@PyProof.Rows.KK_mirror_equal
def Hh:=@List.length_eq_zero_iff
def Hi:=@List.drop_of_length_le
def Hj:=@List.flatten_singleton
def Hk:=@List.head?_eq_getElem?
def Hl:=@PySem.wpAny_pyIter_list
def Hm:=@PySem.sizeLine_eq
def Hn:=@not_false_eq_true
def Ho:=@Int.emod_add_emod
def Hq:=@Nat.le_of_lt
def Hr:=@Nat.ne_of_gt
def Hs:=@List.map_nil
def Ht:=@Nat.add_comm
def Hu:=@PySem.Txt.slice_le
def Hv:=@PySem.Heap.get?_update_self
def Hw:=@List.getElem?_reverse
def Hx:=@Nat.sub_self
def Hy:=@Nat.mod_self
def Hz:=@PyProof.Rows.listItems_at
def HH:=@PySem.F.slot_str_join
def HJ:=@PySem.F.type_str_join
def HK:=@List.lookup_cons
def HL:=@Nat.zero_lt_succ
def HM:=@PySem.wpAny_updateSeq_pair
def HN:=@List.Pairwise.filter
def HP:=@List.dropLast_concat_getLast
def HQ:=@Bool.not_true
def HR:=@List.countP_eq_length_filter
def HS:=@List.filterMap_cons
def HU:=@PySem.wpAny_execs_nil
def HV:=@PySem.post_val_or_str
def HW:=@PySem.typeLookup_type
def HX:=@PySem.wpAny_of_eq
def HY:=@PySem.Heap.SameBut.update
def HZ:=@List.count_cons
def H_:=@PySem.F.slot_zip_next
def Ia:=@List.flatMap_append
def Ib:=@PyProof.Rows.wpS_get
def Ic:=@Array.toList_append
def Ie:=@List.sublist_flatten_of_mem
def Ig:=@PySem.Calls.Name_function_global
def Ih:=@Int.add_mul_emod_self_left
def Ii:=@Array.toList_setIfInBounds
def Ij:=@List.perm_ext_iff_of_nodup
def Ik:=@PySem.wpAny_pyIter_tuple
def Il:=@List.mem_filterMap
def Im:=@PySem.codeAny_mono
def Io:=@PySem.wpAny_Call_Name_kw
def Ip:=@PySem.tupleKind_room_in1
def Ir:=@List.all_map
def Iu:=@Int.mul_zero
def Iy:=@List.append_of_mem
def Iz:=@PySem.isSubtype_type
def IA:=@List.drop_zero
def IB:=@List.mapM_cons
def IC:=@PySem.Calls.call_function_entry
def ID:=@Classical.byContradiction
def IE:=@PySem.AutoSeq1.sub_tuple_tuple
def IF:=@PySem.typeIs_str
def IG:=@List.reverse_cons
def IH:=@Nat.mod_lt
def II:=@PySem.EqBoolInt.of_rcne
def IJ:=@Nat.lt_trichotomy
def IK:=@Bool.eq_false_iff
def IL:=@PySem.Paired.length
def IM:=@Nat.le_succ
def IP:=@PySem.wpAny_onRaise
def IQ:=@Int.add_assoc
def IR:=@List.pairwise_singleton
def IS:=@List.getElem?_cons_succ
def IT:=@PyProof.Rows.listUpdate_at
def IU:=@List.getLast?_cons_cons
def IV:=@Int.ofNat.inj
def IW:=@decide_eq_false_iff_not
def IY:=@Int.neg_neg
def IZ:=@Option.getD_none
def I_:=@List.drop_length
def Ja:=@List.getElem_map
def Jb:=@List.getElem?_set_self
def Jc:=@PySem.W.cellsFrom_some
def Jd:=@Array.getElem?_eq_none
def Je:=@PySem.F.slot_str_upper
def Jf:=@PySem.F.type_str_upper
def Jg:=@PySem.F.slot_str_lower
def Jh:=@PySem.F.type_str_lower
def Ji:=@PySem.F.slot_str_count
def Jj:=@PySem.F.type_str_count
def Jk:=@List.of_mem_zip
def Jl:=@List.foldl_cons
def Jm:=@PySem.wpAny_specialOf
def Jn:=@List.cons.injEq
def Jo:=@Nat.not_lt_zero
def Jp:=@List.range_succ
def Jq:=@Int.zero_add
def Jr:=@Nat.zero_add
def Js:=@Array.Perm.refl
def Jt:=@PySem.call_meets
def Ju:=@PyProof.Rows.wpS_lift
def Jv:=@PySem.wpAny_setField
def Jw:=@PySem.wpAny_runValue
def Jx:=@List.lt_irrefl
def Jy:=@List.not_lt
def Jz:=@Bool.or_false
def JA:=@List.any_cons
def JB:=@Bool.false_or
def JC:=@List.map_take
def JD:=@List.map_drop
def JE:=@List.all_cons
def JF:=@Nat.add_assoc
def JG:=@Nat.succ_mul
def JH:=@Nat.lt_trans
def JI:=@Nat.sub_zero
def JJ:=@getElem?_pos
def JK:=@Int.ofNat_lt
def JL:=@and_true
namespace L2
open PySem PySem.Spec PyProof.Rows
abbrev Key:=Sum Int Str
def mW:Key→Value→Bool
 | .inl k,v=>Value.isInt k v
 | .inr x,v=>Value.isStrOf x v
def Do (w:World):Key→Int
 | .inl k=>hashInt k
 | .inr x=>hashStr w x
theorem a7:∀ {k:Key} {v:Value},mW k v=true→(∃ i t,k=Sum.inl i∧v=Value.int i t) ∨ (∃ x t,k=Sum.inr x∧v=Value.str x t)
 | .inl i,v,h=>by
  obtain ⟨t,e⟩:=Value.isInt_shape (k:=i) (v:=v) h
  exact .inl ⟨i,t,rfl,e⟩
 | .inr x,v,h=>by
  obtain ⟨t,e⟩:=Value.isStrOf_shape (x:=x) (v:=v) h
  exact .inr ⟨x,t,rfl,e⟩
theorem oj (i:Int)(t:Tok):mW (.inl i) (.int i t)=true:=by simp [mW,Value.isInt]
theorem om (x:Str)(t:Tok):mW (.inr x) (.str x t)=true:=by simp [mW,Value.isStrOf]
theorem yT (a b:Int):decide ((Sum.inl a:Key)=Sum.inl b)=(a == b):=by
 by_cases e:a=b
 ·subst e;simp
 ·have h:¬ (Sum.inl a:Key)=Sum.inl b:=fun q=>e (Sum.inl.inj q)
  rw [Ea h]
  exact (beq_eq_false_iff_ne.mpr e).symm
theorem yU (a b:Str):decide ((Sum.inr a:Key)=Sum.inr b)=decide (a=b):=by
 by_cases e:a=b
 ·subst e;simp
 ·have h:¬ (Sum.inr a:Key)=Sum.inr b:=fun q=>e (Sum.inr.inj q)
  rw [Ea h,Ea e]
theorem yV (a:Int)(b:Str):decide ((Sum.inl a:Key)=Sum.inr b)=false:=Ea (fun q=>nomatch q)
theorem yW (a:Str)(b:Int):decide ((Sum.inr a:Key)=Sum.inl b)=false:=Ea (fun q=>nomatch q)
def bb (prog:Program)(w:World):PySem.KeyKind prog w Key where
 is:=mW
 hash:=Do w
 inj:=fun v a b ha hb=>by
  rcases a7 ha with ⟨i,t,rfl,rfl⟩ | ⟨x,t,rfl,rfl⟩
  ·rcases a7 hb with ⟨j,u,rfl,e⟩ | ⟨y,u,rfl,e⟩
   ·injection e with e1 _;rw [e1]
   ·exact nomatch e
  ·rcases a7 hb with ⟨j,u,rfl,e⟩ | ⟨y,u,rfl,e⟩
   ·exact nomatch e
   ·injection e with e1 _;rw [e1]
 byValue:=fun k v h=>by
  rcases a7 h with ⟨i,t,rfl,rfl⟩ | ⟨x,t,rfl,rfl⟩ <;> rfl
 pyHash:=fun hv h=>by
  rcases a7 hv with ⟨i,t,rfl,rfl⟩ | ⟨x,t,rfl,rfl⟩
  ·exact wpAny_pyHash_int h
  ·exact wpAny_pyHash_str h
 eqBool:=fun hu hv h=>by
  rcases a7 hu with ⟨i,t,rfl,rfl⟩ | ⟨x,t,rfl,rfl⟩
  ·rcases a7 hv with ⟨j,u,rfl,rfl⟩ | ⟨y,u,rfl,rfl⟩
   ·rw [yT] at h;exact wpAny_eqBool_int h
   ·rw [yV] at h;exact SeqAt.EqAt.int_str i t y u _ _ _ _ h
  ·rcases a7 hv with ⟨j,u,rfl,rfl⟩ | ⟨y,u,rfl,rfl⟩
   ·rw [yW] at h;exact SeqAt.EqAt.str_int x t j u _ _ _ _ h
   ·rw [yU] at h;exact wpAny_eqBool_str h
 «strs»:=fun k x t v h=>by
  rcases a7 h with ⟨i,u,rfl,e⟩ | ⟨y,u,rfl,e⟩
  ·exact nomatch e
  ·injection e with e1 _
   subst e1
   cases v <;> rfl
theorem j5 (prog:Program)(w:World)(i:Int)(t:Tok):(bb prog w).is (.inl i) (.int i t)=true:=oj i t
theorem j6 (prog:Program)(w:World)(x:Str)(t:Tok):(bb prog w).is (.inr x) (.str x t)=true:=om x t
inductive V where
 | non | bl (b:Bool) | int (i:Int) | str (x:Str) | byt (b:Array UInt8) | flt (b:UInt64) | ref (a:Addr) | ty (n:String)
 deriving DecidableEq
def bq:V→Value→Prop
 | .non,u=>u=Value.none
 | .bl b,u=>u=Value.bool b
 | .int i,u=>∃ t,u=Value.int i t
 | .str x,u=>∃ t,u=Value.str x t
 | .byt b,u=>∃ t,u=Value.bytes b t
 | .flt b,u=>∃ t,u=Value.float b t
 | .ref a,u=>u=Value.ref a
 | .ty n,u=>u=Value.type n
abbrev ba:List V→List Value→Prop:=Paired bq
theorem ba.length {xs:List V}{us:List Value}(r:ba xs us):xs.length=us.length:=IL r
theorem ba.get:∀ {xs:List V} {us:List Value} {i:Nat} {x:V},ba xs us→xs[i]? = some x→∃ u,us[i]? = some u∧bq x u
 | _,_,_,_,.nil,e=>by simp at e
 | _,_,0,_,.cons r _,e=>by simp at e;subst e;exact ⟨_,rfl,r⟩
 | _,_,i+1,x,.cons _ t,e=>by
  obtain ⟨u,h1,h2⟩:=ba.get (i:=i) (x:=x) t (by simpa using e)
  exact ⟨u,by simpa using h1,h2⟩
theorem ba.append:∀ {xs ys:List V} {us ws:List Value},ba xs us→ba ys ws→ba (xs++ys) (us++ws)
 | _,_,_,_,.nil,s=>s
 | _,_,_,_,.cons r t,s=>.cons r (ba.append t s)
theorem ba.take:∀ {xs:List V} {us:List Value} (n:Nat),ba xs us→ba (xs.take n) (us.take n)
 | _,_,0,_=>.nil
 | _,_,_+1,.nil=>.nil
 | _,_,n+1,.cons r t=>.cons r (ba.take n t)
theorem ba.drop:∀ {xs:List V} {us:List Value} (n:Nat),ba xs us→ba (xs.drop n) (us.drop n)
 | _,_,0,r=>r
 | _,_,_+1,.nil=>.nil
 | _,_,n+1,.cons _ t=>ba.drop n t
def oo:Option V→Option Value→Prop
 | some v,some u=>bq v u
 | none,none=>True
 | _,_=>False
def KV {κ:Type}:List (κ × V)→List (κ × Value)→Prop:=Paired fun (p:κ × V) (q:κ × Value)=>p.1=q.1∧bq p.2 q.2
def kV:Key→V
 | .inl i=>.int i
 | .inr x=>.str x
inductive HO where
 | lst (xs:List V)
 | tup (xs:List V)
 | dK (Km:List (Key × V)) | dT (Km:List (List Key × V))
 | set (S:Int→Bool) (n:Nat)
 | ins (C dx:Addr) (fs:List (Str × V))
 | own (x:Addr)
 | xd (fs:List (Str × V))
 | met (f x:Addr)
 | rng (lo hi:Int)
 | frz (o:Obj) (u:HO)
 | tbl (ps:Array Value)
 | ext (φ:Heap→Prop)
abbrev Hp:=Addr→Option HO
def upd (H:Hp)(a:Addr)(o:HO):Hp:=fun b=>if b=a then some o else H b
theorem ah {H:Hp}{a:Addr}{o:HO}:upd H a o a=some o:=by unfold upd; rw [if_pos rfl]
theorem aH {H:Hp}{a b:Addr}{o:HO}(h:b≠a):upd H a o b=H b:=by unfold upd; rw [if_neg h]
theorem g6 {H:Hp}{a:Addr}{o u:HO}:upd (upd H a o) a u=upd H a u:=by
 funext b;unfold upd;split <;> rfl
theorem vU {H:Hp}{a b:Addr}{o u:HO}(h:H a=some o)(h':H b=some u)(d:o≠u):a≠b:=by
 intro e;subst e;rw [h] at h';exact d (El h')
theorem ax {H:Hp}{a b:Addr}{o:HO}(h:H a=some o)(h':H b=none):a≠b:=by
 intro e;subst e;rw [h] at h';cases h'
section
variable (P:Program) (w:World)
def NoD (h:Heap)(a:Addr):Prop:=∃ o,h.get? a=some o∧o.dict=none
theorem NoD.new (h:Heap)(o:Obj)(e:o.dict=none)(hf:o.isFreed=false:=by rfl):NoD (h.push o) h.objs.size:=⟨o,Em _ hf,e⟩
def br (H:Hp)(h:Heap)(a:Addr):HO→Prop
 | .lst xs=>xs.length≤sizeLine∧∃ (its:List Value) (n:Nat),ba xs its∧h.get? a=some { cls:=.type "list",data:=.seq its.toArray n }
 | .tup xs=>xs.length≤sizeLine∧∃ its:List Value,ba xs its∧IsTup h a its.toArray∧NoD h a
 | .dK Km=>Km.length≤sizeLine∧(a == sysModules)=false∧∃ vs,KV Km vs∧h.DictOf (bb P w) a vs
 | .dT Km=>Km.length≤sizeLine∧(a == sysModules)=false∧∃ xs:List (List Key × Addr × Value),
   Paired (fun (p:List Key × V) (q:List Key × Addr × Value)=>p.1=q.1∧H q.2.1=some (.tup (p.1.map kV))∧bq p.2 q.2.2) Km xs ∧
   ∃ o es ep,h.get? a=some o∧o.ExactDict∧o.data = .dict es ep∧es.toList=xs.map (entryOfKey (tupleKind (bb P w)))∧(xs.map (·.1)).Nodup
 | .set S n=>h.SetOf (intKind P w) a S n
 | .ins C dx fs=>H dx=some (.own a)∧fs.length≤1000∧dx≠a∧h.get? a=some (PySem.W.instObj C dx) ∧
   ∃ mA,h.Ns1 dx mA∧(∀ f,oo (fs.lookup f) (mA f))∧PySem.Within mA (fs.map (·.1))
 | .own _=>∃ o,h.get? a=some o
 | .xd fs=>∃ mA,h.Ns1 a mA∧∀ f,oo (fs.lookup f) (mA f)
 | .rng lo hi=>∃ t u v,h.get? a=some { cls:=.type "range",data:=.fields #[.int lo t,.int hi u,.int 1 v] }
 | .frz o u=>h.get? a=some o∧br H h a u
 | .tbl ps=>h.get? a=some { cls:=.none,data:=.fields ps }
 | .met f x=>h.get? a=some (PySem.W.methodObj (.ref f) (.ref x))
 | .ext φ=>φ h∧(∃ o,h.get? a=some o)∧∀ h1 h2:Heap,φ h1→(∀ o,h1.get? a=some o→h2.get? a=some o)→φ h2
def HOk (H:Hp)(h:Heap):Prop:=∀ a o,H a=some o→br P w H h a o
end
section
variable {P:Program} {w:World} {H H':Hp} {h h':Heap} {a:Addr} {o:HO}
theorem br.lt (x:br P w H h a o):a < h.objs.size:=by
 cases o with
 | lst xs=>obtain ⟨_,_,_,_,e⟩:=x;exact Eo e
 | tup xs=>obtain ⟨_,_,_,p,_⟩:=x;exact p.lt
 | dK Km=>obtain ⟨_,_,_,_,o,_,_,e,_⟩:=x;exact Eo e
 | dT Km=>obtain ⟨_,_,_,_,o,_,_,e,_⟩:=x;exact Eo e
 | set S n=>obtain ⟨o,_,_,_,e,_⟩:=x;exact Eo e
 | ins C dx fs=>obtain ⟨_,_,_,e,_⟩:=x;exact Eo e
 | own y=>obtain ⟨_,e⟩:=x;exact Eo e
 | xd fs=>obtain ⟨_,⟨_,_,_,e,_⟩,_⟩:=x;exact Eo e
 | rng lo hi=>obtain ⟨_,_,_,e⟩:=x;exact Eo e
 | frz ob u=>obtain ⟨e,_⟩:=x;exact Eo e
 | tbl ps=>exact Eo (show h.get? a=some _ from x)
 | met f y=>exact Eo (show h.get? a=some _ from x)
 | ext φ=>obtain ⟨_,⟨_,e⟩,_⟩:=x;exact Eo e
theorem Paired.mapP {α β:Type}{F G:α→β→Prop}:∀ {l₁:List α} {l₂:List β},Paired F l₁ l₂→(∀ a b,F a b→G a b)→Paired G l₁ l₂
 | _,_,.nil,_=>.nil
 | _,_,.cons r t,f=>.cons (f _ _ r) (Paired.mapP t f)
theorem br.stay (x:br P w H h a o)(k:∀ b u,(b=a ∨ H b=some (.own a))→h.get? b=some u→h'.get? b=some u)
  (ho:∀ b,H b=some (.own a)→H' b=some (.own a)) (ht:∀ b xs,H b=some (.tup xs)→H' b=some (.tup xs)):br P w H' h' a o:=by
 induction o with
 | lst xs=>obtain ⟨z,its,n,r,e⟩:=x;exact ⟨z,its,n,r,k _ _ (.inl rfl) e⟩
 | tup xs=>obtain ⟨z,its,r,⟨ob,e,c⟩,o2,e2,c2⟩:=x;exact ⟨z,its,r,⟨ob,k _ _ (.inl rfl) e,c⟩,o2,k _ _ (.inl rfl) e2,c2⟩
 | dK Km=>obtain ⟨z,y,vs,r,ob,es,ep,e,c⟩:=x;exact ⟨z,y,vs,r,ob,es,ep,k _ _ (.inl rfl) e,c⟩
 | dT Km =>
  obtain ⟨z,y,xs,r,ob,es,ep,e,c⟩:=x
  exact ⟨z,y,xs,Paired.mapP r fun p q z=>⟨z.1,ht _ _ z.2.1,z.2.2⟩,ob,es,ep,k _ _ (.inl rfl) e,c⟩
 | set S n=>obtain ⟨ob,es,ep,t,e,c⟩:=x;exact ⟨ob,es,ep,t,k _ _ (.inl rfl) e,c⟩
 | ins C dx fs =>
  obtain ⟨d,z,ne,e,mA,⟨od,es,ep,e2,c⟩,r⟩:=x
  exact ⟨ho _ d,z,ne,k _ _ (.inl rfl) e,mA,⟨od,es,ep,k _ _ (.inr d) e2,c⟩,r⟩
 | own y=>obtain ⟨ob,e⟩:=x;exact ⟨ob,k _ _ (.inl rfl) e⟩
 | xd fs=>obtain ⟨mA,⟨od,es,ep,e,c⟩,r⟩:=x;exact ⟨mA,⟨od,es,ep,k _ _ (.inl rfl) e,c⟩,r⟩
 | rng lo hi=>obtain ⟨t,u,v,e⟩:=x;exact ⟨t,u,v,k _ _ (.inl rfl) e⟩
 | frz ob u ih=>obtain ⟨e,q⟩:=x;exact ⟨k _ _ (.inl rfl) e,ih q⟩
 | tbl ps =>
  have e:h.get? a=some { cls:=.none,data:=.fields ps }:=x
  show h'.get? a=some { cls:=.none,data:=.fields ps }
  exact k a _ (.inl rfl) e
 | met f y =>
  have e:h.get? a=some (PySem.W.methodObj (.ref f) (.ref y)):=x
  show h'.get? a=some (PySem.W.methodObj (.ref f) (.ref y))
  exact k a _ (.inl rfl) e
 | ext φ=>obtain ⟨p,⟨o,e⟩,st⟩:=x;exact ⟨st _ _ p fun o q=>k _ _ (.inl rfl) q,⟨o,k _ _ (.inl rfl) e⟩,st⟩
theorem HOk.lt (x:HOk P w H h)(e:H a=some o):a < h.objs.size:=(x a o e).lt
theorem HOk.fresh (x:HOk P w H h)(e:h.objs.size≤a):H a=none:=by
 cases q:H a with
 | none=>rfl
 | some u=>exact absurd (EL (x.lt q) e) (Fs _)
theorem HOk.kept (x:HOk P w H h)(k:∀ b u,h.get? b=some u→h'.get? b=some u):HOk P w H h':=fun a o e =>
 (x a o e).stay (fun b u _ q=>k b u q) (fun _ q=>q) fun _ _ q=>q
theorem HOk.laid (x:HOk P w H h)(k:∀ b u,h.get? b=some u→h'.get? b=some u)(hp:h.objs.size≤a)(new:br P w (upd H a o) h' a o):HOk P w (upd H a o) h':=fun b u e=>by
 have hn:=x.fresh hp
 by_cases hb:b=a
 ·subst hb;rw [ah] at e;cases e;exact new
 ·rw [aH hb] at e
  exact (x b u e).stay (fun c v _ q=>k c v q) (fun c q=>by rw [aH (ax q hn)];exact q) fun c xs q=>by rw [aH (ax q hn)];exact q
end
def Rd (H:Hp)(a:Addr)(u:HO):Prop:=H a=some u ∨ ∃ o,H a=some (.frz o u)
theorem Rd.ok {P:Program}{w:World}{H:Hp}{h:Heap}{a:Addr}{u:HO}(r:Rd H a u)(x:HOk P w H h):br P w H h a u:=by
 rcases r with r | ⟨o,r⟩
 ·exact x a u r
 ·obtain ⟨_,q⟩:=x a _ r
  exact q
def Mut:Option HO→Prop
 | some (.lst _)=>True
 | some (.dK _)=>True
 | some (.dT _)=>True
 | some (.set _ _)=>True
 | some (.ins _ _ _)=>True
 | some (.ext _)=>True
 | _=>False
section
variable {P:Program} {w:World} {H:Hp} {h h':Heap} {x e:Addr} {o':HO}
theorem HOk.write (ok:HOk P w H h)(mu:Mut (H x))(he:e=x ∨ H e=some (.own x))(k:∀ b u,b≠e→h.get? b=some u→h'.get? b=some u)(heo:∃ u,h'.get? e=some u)
  (new:br P w (upd H x o') h' x o'):HOk P w (upd H x o') h':=fun b u q=>by
 have nown:∀ c y,H c=some (.own y)→c≠x:=fun c y r z=>by subst z;rw [r] at mu;exact mu
 have ntup:∀ c xs,H c=some (.tup xs)→c≠x:=fun c xs r z=>by subst z;rw [r] at mu;exact mu
 by_cases hb:b=x
 ·subst hb;rw [ah] at q;cases q;exact new
 ·rw [aH hb] at q
  by_cases hbe:b=e
  ·have q':H b=some (.own x):=by
    rcases he with z | z
    ·exact absurd (hbe.trans z) hb
    ·rw [hbe];exact z
   rw [q] at q';cases q'
   obtain ⟨v,hv⟩:=heo
   exact ⟨v,by rw [hbe];exact hv⟩
  ·refine (ok b u q).stay (fun c v hc r=>k c v ?_ r) (fun c r=>by rw [aH (nown c b r)];exact r) fun c xs r=>by rw [aH (ntup c xs r)];exact r
   rcases hc with rfl | hc
   ·exact hbe
   ·rintro rfl
    rcases he with z | z
    ·exact nown c b hc z
    ·rw [hc] at z;cases z;exact hb rfl
end
structure Un (fs ex:List Addr) (H H':Hp) (h h':Heap):Prop where
 keep:∀ b o,h.get? b=some o→H b=none→b∉fs→b∉ex→h'.get? b=some o
 slot:∀ b o,h.get? b=some o→H b=none→b∈fs→b∉ex→∃ sl,h'.get? b=some { o with slots:=sl }
 free:∀ b o,h.get? b=some o→H b=none→b∉ex→H' b=none
 there:∀ b o,h.get? b=some o→b∉ex→∃ o',h'.get? b=some o'
 tups:∀ b xs,H b=some (.tup xs)→H' b=some (.tup xs)
 frzs:∀ b o u,H b=some (.frz o u)→H' b=some (.frz o u)
 tbls:∀ b ps,H b=some (.tbl ps)→∃ more,H' b=some (.tbl (ps++more))
section
variable {fs fs' ex ex':List Addr} {H H1 H2:Hp} {h h1 h2 h':Heap} {a x e:Addr} {o:HO}
theorem Un.any (u:Un fs ex H H1 h h1){b:Addr}{ob:Obj}(q:h.get? b=some ob)(n:H b=none)(hx:b∉ex):∃ sl,h1.get? b=some { ob with slots:=sl }:=by
 by_cases hb:b∈fs
 ·exact u.slot b ob q n hb hx
 ·exact ⟨ob.slots,u.keep b ob q n hb hx⟩
theorem Un.kept (k:∀ b u,h.get? b=some u→h'.get? b=some u):Un fs ex H H h h' :=
 ⟨fun b ob q _ _ _=>k b ob q,fun b ob q _ _ _=>⟨ob.slots,k b ob q⟩,fun _ _ _ n _=>n,fun b ob q _=>⟨ob,k b ob q⟩,fun _ _ q=>q,fun _ _ _ q=>q,fun _ ps q=>⟨#[],by rw [q];simp⟩⟩
theorem Un.refl:Un fs ex H H h h:=Un.kept fun _ _ q=>q
theorem Un.laid (k:∀ b u,h.get? b=some u→h'.get? b=some u)(hp:h.objs.size≤a)(hn:H a=none):Un fs ex H (upd H a o) h h' where
 keep:=fun b u q _ _ _=>k b u q
 slot:=fun b u q _ _ _=>⟨u.slots,k b u q⟩
 free:=fun b u q n _=>by rw [aH (EW (EL (Eo q) hp))];exact n
 there:=fun b u q _=>⟨u,k b u q⟩
 tups:=fun b xs q=>by rw [aH (ax q hn)];exact q
 frzs:=fun b u xs q=>by rw [aH (ax q hn)];exact q
 tbls:=fun b ps q=>⟨#[],by rw [aH (ax q hn),q];simp⟩
theorem Un.write (mu:Mut (H x))(he:e=x ∨ H e=some (.own x))(k:∀ b u,b≠e→h.get? b=some u→h'.get? b=some u)(heo:∃ u,h'.get? e=some u):Un fs ex H (upd H x o) h h':=by
 have hx:∀ b,H b=none→b≠x:=fun b n z=>by subst z;rw [n] at mu;exact mu
 have hb:∀ b,H b=none→b≠e:=fun b n z=>by
  subst z
  rcases he with r | r
  ·exact hx b n r
  ·rw [n] at r;cases r
 have hm:∀ b u,H b=some u→¬ Mut (some u)→b≠x:=fun b u q nm z=>by subst z;rw [q] at mu;exact nm mu
 refine ⟨fun b u q n _ _=>k b u (hb b n) q,fun b u q n _ _=>⟨u.slots,k b u (hb b n) q⟩,fun b u q n _=>by rw [aH (hx b n)];exact n,fun b u q _=>?_,
  fun b xs q=>by rw [aH (hm b _ q fun z=>z)];exact q,fun b u xs q=>by rw [aH (hm b _ q fun z=>z)];exact q,fun b ps q=>⟨#[],by rw [aH (hm b _ q fun z=>z),q];simp⟩⟩
 by_cases hbe:b=e
 ·subst hbe;exact heo
 ·exact ⟨u,k b u hbe q⟩
end
def trk (h:Heap)(H:Hp):List Addr:=(List.range h.objs.size).filter fun a=>(H a).isSome
def sM (h:Heap)(H:Hp):Heap:=PySem.W.hideAll h (trk h H)
theorem oq (h:Heap)(H:Hp):(sM h H).objs.size=h.objs.size:=PySem.W.hideAll_size _ _
theorem sN {h:Heap}{H:Hp}{b:Addr}{o:Obj}(e:h.get? b=some o)(n:H b=none):(sM h H).get? b=some o :=
 PySem.W.hideAll_get _ e fun hm=>by
  have q:(H b).isSome=true:=(FN.mp hm).2
  rw [n] at q;simp at q
theorem vV {h:Heap}{H:Hp}{b:Addr}{o:Obj}(e:(sM h H).get? b=some o):h.get? b=some o∧H b=none:=by
 have e':h.get? b=some o:=PySem.W.of_hideAll (trk h H) e
 refine ⟨e',?_⟩
 cases q:H b with
 | none=>rfl
 | some x =>
  have hm:b∈trk h H:=FN.mpr ⟨GJ.mpr (Eo e'),by simp [q]⟩
  have z:(sM h H).get? b=none:=PySem.W.hideAll_none (trk h H) hm
  rw [z] at e;cases e
structure Mod (K:PySem.W.Frag) (mg:Str→Option Value) (base:Heap):Prop where
 kin:K.In base
 glob:base.Ns mainGlobals mg
 blt:∃ mb,base.Ns builtinsNs mb∧∀ x:Str,x ≠ "__name__"→mb x=bootBuiltins x
 nolimit:base.NoLimit
/-- the context: a def's body (or a comprehension's block) running. base: fixed through the whole law;s₀,H₀: the entry;outer: the frames whose slots others may change (a def's callers);stack: all frames that run;
  ex: iterators that were made ahead of the entry and are walked here (a comprehension's);fn: the names whose cells were made at the entry (a def: all;a comprehension's block: its own);calm: not within an except suite;pn: Kl that every state bears;xe: what is wanted of an exception that leaves the code -/
structure Cx where
 prog:Program
 w:World
 K:PySem.W.Frag
 mg:Str→Option Value
 base:Heap
 A:Around
 N:List Str
 s₀:Shared
 H₀:Hp
 env:Env
 outer:List Env
 stack:List Env
 ex:List Addr
 fn:Str→Bool
 calm:Bool
 pn:List (Addr × Obj)
 xe:Value→Shared→Prop
def frs (l:List Env):List Addr:=l.filterMap (·.frame)
abbrev Cx.fs (X:Cx):List Addr:=frs X.outer
def Vis (sc:Scope)(x:Str):Prop:=sc.names.lookup x=some .local ∨ sc.names.lookup x=some .cell ∨ sc.names.lookup x=some .free
def Loc (sc:Scope)(x:Str):Prop:=sc.names.lookup x=some .local ∨ sc.names.lookup x=some .cell
def Dp (env:Env)(h:Heap)(m:Str→Option Value)(x:Str)(u:Value):Prop :=
 (env.kindOf x=some .local∧m x=some u) ∨ ((env.kindOf x=some .cell ∨ env.kindOf x=some .free)∧∃ c,env.cells.lookup x=some c∧h.IsCell c (some u))
structure Cx.Ok (X:Cx):Prop where
 mod:Mod X.K X.mg X.base
 kind:X.env.scope.kind = .function
 glob:X.env.globals=mainGlobals
 blt:X.env.builtins=builtinsNs
 above:X.s₀.heap.objs.size≤X.env.locals
 inj:∀ x y c,X.env.cells.lookup x=some c→X.env.cells.lookup y=some c→x=y
 has:∀ x,(X.env.kindOf x=some .cell ∨ X.env.kindOf x=some .free)→∃ c,X.env.cells.lookup x=some c
 cab:∀ x c,X.fn x=true→X.env.cells.lookup x=some c→X.s₀.heap.objs.size≤c
 hd:X.calm=true→X.A.handled=none
 frames:X.A.frames=some X.stack
 stk:X.stack=X.outer ∨ (X.stack=X.env::X.outer∧X.env.frame=some X.env.locals)
 exf:∀ b∈X.ex,b≠X.env.locals∧∀ x c,X.env.cells.lookup x=some c→c≠b
 bs:∀ b o,X.base.get? b=some o→X.s₀.heap.get? b=some o∧X.H₀ b=none
 bsz:X.base.objs.size≤X.s₀.heap.objs.size
 noex:∀ b o,X.base.get? b=some o→b∉X.ex
 exfs:∀ b∈X.ex,b∉X.fs
 funs:X.s₀.heap.FunFrames X.base X.outer
 frf:∀ b∈X.fs,X.H₀ b=none
structure Inv (X:Cx) (Kl:List (Addr × Obj)) (σ:List (Option V)) (H:Hp) (s:Shared):Prop where
 ok:X.Ok
 os:s.os=X.s₀.os
 bare:AllBare s.gens
 base:Un X.fs X.ex X.H₀ H X.s₀.heap s.heap
 loc:∃ m,s.heap.Ns X.env.locals m∧∀ (i:Nat) (x:Str) (v:V),X.N[i]? = some x→σ[i]? = some (some v)→Vis X.env.scope x→∃ u,bq v u∧Dp X.env s.heap m x u
 cell:∀ x c,X.env.cells.lookup x=some c→∃ v,s.heap.IsCell c v
 free:H X.env.locals=none
 freeC:∀ x c,X.env.cells.lookup x=some c→H c=none
 pin:∀ p∈X.pn++Kl,s.heap.get? p.1=some p.2∧H p.1=none∧p.1≠X.env.locals∧p.1∉X.fs∧∀ v,p.2.data ≠ .cell v
 hok:HOk X.prog X.w H s.heap
 len:σ.length=X.N.length
section
variable {X:Cx} {Kl:List (Addr × Obj)} {σ:List (Option V)} {H H':Hp} {s:Shared} {h':Heap}
theorem Cx.Ok.nofr (ok:X.Ok){b:Addr}{o:Obj}(e:X.base.get? b=some o):b∉X.fs:=fun hb=>by
 have:=(ok.funs.mem hb).1
 rw [e] at this;cases this
theorem Inv.bs (I:Inv X Kl σ H s):∀ b o,X.base.get? b=some o→s.heap.get? b=some o∧H b=none:=fun b o e =>
 ⟨I.base.keep b o (I.ok.bs b o e).1 (I.ok.bs b o e).2 (I.ok.nofr e) (I.ok.noex b o e),I.base.free b o (I.ok.bs b o e).1 (I.ok.bs b o e).2 (I.ok.noex b o e)⟩
theorem Inv.bk (I:Inv X Kl σ H s):∀ b o,X.base.get? b=some o→s.heap.get? b=some o:=fun b o e=>(I.bs b o e).1
theorem Inv.mod (I:Inv X Kl σ H s):Mod X.K X.mg X.base:=I.ok.mod
theorem Inv.kIn (I:Inv X Kl σ H s):X.K.In s.heap:=I.ok.mod.kin.keeps I.bk
theorem Inv.fr (I:Inv X Kl σ H s):∃ m,Fr X.base X.env.locals s.heap m :=
 let ⟨m,hn,_⟩:=I.loc
 ⟨m,hn,I.bk,Ft I.ok.bsz I.ok.above⟩
theorem Inv.lt (I:Inv X Kl σ H s):X.env.locals < s.heap.objs.size:=let ⟨_,hn,_⟩:=I.loc; hn.lt
theorem Inv.sz (I:Inv X Kl σ H s):X.s₀.heap.objs.size≤s.heap.objs.size:=Ft I.ok.above (Hq I.lt)
theorem Inv.nofs (I:Inv X Kl σ H s){a:Addr}(h:s.heap.objs.size≤a):a∉X.fs:=fun hb=>by
 obtain ⟨_,o,ho,_⟩:=I.ok.funs.mem hb
 exact absurd (EL (Eo ho) (Ft I.sz h)) (Fs _)
theorem Inv.cne (I:Inv X Kl σ H s):∀ x c,X.env.cells.lookup x=some c→c≠X.env.locals:=fun x c e z=>by
 obtain ⟨v,o,ho,hd⟩:=I.cell x c e
 obtain ⟨m,⟨o',es,ep,ho',hd',_⟩,_⟩:=I.loc
 rw [z,ho'] at ho;cases ho;rw [hd'] at hd;cases hd
theorem Inv.funs (I:Inv X Kl σ H s):s.heap.FunFrames X.base X.outer:=by
 have all:∀ (l:List Env),(∀ b∈frs l,b∈X.fs)→X.s₀.heap.FunFrames X.base l→s.heap.FunFrames X.base l:=by
  intro l
  induction l with
  | nil=>intro _ _;trivial
  | cons env r ih =>
   intro hs hl
   obtain ⟨hk,⟨L,o,hf,hn,ho,hd⟩,hr⟩:=hl
   have hL:L∈X.fs:=hs L (by unfold frs;rw [HS,hf];exact Er)
   obtain ⟨sl,e⟩:=I.base.slot L o ho (I.ok.frf L hL) hL fun z=>I.ok.exfs L z hL
   exact ⟨hk,⟨L,_,hf,hn,e,hd⟩,ih (fun b hb=>hs b (by unfold frs;rw [HS,hf];exact Eg _ hb)) hr⟩
 exact all X.outer (fun _ hb=>hb) I.ok.funs
theorem Inv.stack (I:Inv X Kl σ H s):s.heap.FunFrames X.base X.stack:=by
 rcases I.ok.stk with e | ⟨e,hf⟩
 ·rw [e];exact I.funs
 ·rw [e]
  obtain ⟨m,hn,_⟩:=I.loc
  refine .cons (by rw [I.ok.kind];decide) hf hn ?_ I.funs
  exact Heap.get?_none_of_le (Ft I.ok.bsz I.ok.above)
theorem Inv.stkSub (I:Inv X Kl σ H s):∀ b∈frs X.stack,b∈X.env.locals::X.fs:=fun b hb=>by
 rcases I.ok.stk with e | ⟨e,hf⟩
 ·rw [e] at hb;exact Eg _ hb
 ·rw [e] at hb
  unfold frs at hb
  rw [HS,hf] at hb
  exact hb
theorem Inv.stkFree (I:Inv X Kl σ H s):∀ b∈frs X.stack,H b=none:=fun b hb=>by
 rcases Et.mp (I.stkSub b hb) with e | hb
 ·rw [e];exact I.free
 ·obtain ⟨_,o,ho,_⟩:=I.ok.funs.mem hb
  exact I.base.free b o ho (I.ok.frf b hb) fun z=>I.ok.exfs b z hb
theorem Inv.step {g':Array GenState}{t':Nat}{d':Drawn}{ch:List Addr}(I:Inv X Kl σ H s)
  (hch:∀ b∈ch,(b∈X.ex ∨ X.s₀.heap.objs.size≤b)∧b≠X.env.locals∧(∀ x c,X.env.cells.lookup x=some c→c≠b)∧∀ p∈X.pn++Kl,p.1≠b)
  (keep:∀ b o,b≠X.env.locals→b∉X.fs→b∉ch→s.heap.get? b=some o→H b=none→h'.get? b=some o)
  (slot:∀ b o,b≠X.env.locals→b∈X.fs→b∉ch→s.heap.get? b=some o→H b=none→∃ sl,h'.get? b=some { o with slots:=sl }) (free:∀ b o,b∉ch→s.heap.get? b=some o→H b=none→H' b=none)
  (there:∀ b o,b∉ch→s.heap.get? b=some o→∃ o',h'.get? b=some o')
  (tups:∀ b xs,H b=some (.tup xs)→H' b=some (.tup xs)) (frzs:∀ b o u,H b=some (.frz o u)→H' b=some (.frz o u)) (tbls:∀ b ps,H b=some (.tbl ps)→∃ more,H' b=some (.tbl (ps++more)))
  (ns:∀ m,s.heap.Ns X.env.locals m→h'.Ns X.env.locals m) (hok:HOk X.prog X.w H' h') (hg:AllBare g') :
  Inv X Kl σ H' { s with heap:=h',gens:=g',drawn:=d',toks:=t' }:=by
 have neL:∀ b o,X.s₀.heap.get? b=some o→b≠X.env.locals:=fun b o e=>EW (EL (Eo e) I.ok.above)
 have neC:∀ b o,X.s₀.heap.get? b=some o→b∉X.ex→b∉ch:=fun b o e hx hb=>by
  rcases (hch b hb).1 with z | z
  ·exact hx z
  ·exact absurd (EL (Eo e) z) (Fs _)
 have cellK:∀ x c,X.env.cells.lookup x=some c→∀ v,s.heap.IsCell c v→h'.IsCell c v:=fun x c e v ⟨o,ho,hd⟩=>by
  have nch:c∉ch:=fun z=>(hch c z).2.2.1 x c e rfl
  by_cases hc:c∈X.fs
  ·obtain ⟨sl,q⟩:=slot c o (I.cne x c e) hc nch ho (I.freeC x c e)
   exact ⟨_,q,hd⟩
  ·exact ⟨o,keep c o (I.cne x c e) hc nch ho (I.freeC x c e),hd⟩
 refine ⟨I.ok,I.os,hg,⟨fun b o e n hb hx=>?_,fun b o e n hb hx=>?_,fun b o e n hx=>?_,fun b o e hx=>?_,fun b xs e=>tups b xs (I.base.tups b xs e),fun b o xs e=>frzs b o xs (I.base.frzs b o xs e),fun b ps e=>?_⟩,?_,fun x c e=>?_,?_,fun x c e=>?_,fun p hp=>?_,hok,I.len⟩
 ·exact keep b o (neL b o e) hb (neC b o e hx) (I.base.keep b o e n hb hx) (I.base.free b o e n hx)
 ·obtain ⟨sl,e1⟩:=I.base.slot b o e n hb hx
  obtain ⟨sl',e2⟩:=slot b _ (neL b o e) hb (neC b o e hx) e1 (I.base.free b o e n hx)
  exact ⟨sl',e2⟩
 ·obtain ⟨o',e1⟩:=I.base.there b o e hx
  exact free b o' (neC b o e hx) e1 (I.base.free b o e n hx)
 ·obtain ⟨o',e1⟩:=I.base.there b o e hx
  exact there b o' (neC b o e hx) e1
 ·obtain ⟨m1,e1⟩:=I.base.tbls b ps e
  obtain ⟨m2,e2⟩:=tbls b _ e1
  exact ⟨m1++m2,by rw [e2,Array.append_assoc]⟩
 ·obtain ⟨m,hn,hl⟩:=I.loc
  refine ⟨m,ns m hn,fun i x v e1 e2 e3=>?_⟩
  obtain ⟨u,r,l⟩:=hl i x v e1 e2 e3
  refine ⟨u,r,?_⟩
  rcases l with l | ⟨k,c,e,z⟩
  ·exact .inl l
  ·exact .inr ⟨k,c,e,cellK x c e _ z⟩
 ·obtain ⟨v,z⟩:=I.cell x c e
  exact ⟨v,cellK x c e v z⟩
 ·obtain ⟨m,⟨o,_,_,ho,_⟩,_⟩:=I.loc
  exact free _ o (fun z=>(hch _ z).2.1 rfl) ho I.free
 ·obtain ⟨v,o,ho,hd⟩:=I.cell x c e
  exact free c o (fun z=>(hch c z).2.2.1 x c e rfl) ho (I.freeC x c e)
 ·obtain ⟨e,n,ne,nf,d⟩:=I.pin p hp
  have nch:p.1∉ch:=fun z=>(hch p.1 z).2.2.2 p hp rfl
  exact ⟨keep p.1 p.2 ne nf nch e n,free p.1 p.2 nch e n,ne,nf,d⟩
theorem Inv.un {t':Nat}(I:Inv X Kl σ H s)(u:Un X.fs [] H H' s.heap h')(hok:HOk X.prog X.w H' h'):Inv X Kl σ H' { s with heap:=h',toks:=t' }:=by
 obtain ⟨m,⟨o,es,ep,ho,r⟩,_⟩:=id I.loc
 obtain ⟨sl,hL⟩:=u.any ho I.free (by simp)
 exact I.step (g':=s.gens) (d':=s.drawn) (ch:=[]) (fun _ z=>nomatch z) (fun b o _ hb _ e n=>u.keep b o e n hb (by simp)) (fun b o _ hb _ e n=>u.slot b o e n hb (by simp)) (fun b o _ e n=>u.free b o e n (by simp)) (fun b o _ e=>u.there b o e (by simp)) u.tups u.frzs u.tbls (fun m' hm=>by
  obtain ⟨o',es',ep',ho',r'⟩:=hm
  rw [ho] at ho';cases ho'
  exact ⟨_,es',ep',hL,r'⟩) hok I.bare
theorem Inv.call {g':Array GenState}{t':Nat}{d':Drawn}{ch:List Addr}(I:Inv X Kl σ H s)(u:Un (frs X.stack) ch H H' s.heap h')(hok:HOk X.prog X.w H' h')(hg:AllBare g')
  (hch:∀ b∈ch,(b∈X.ex ∨ X.s₀.heap.objs.size≤b)∧b≠X.env.locals∧(∀ x c,X.env.cells.lookup x=some c→c≠b)∧∀ p∈X.pn++Kl,p.1≠b) :
  Inv X Kl σ H' { s with heap:=h',gens:=g',drawn:=d',toks:=t' }:=by
 obtain ⟨m,⟨o,es,ep,ho,r⟩,_⟩:=id I.loc
 obtain ⟨sl,hL⟩:=u.any ho I.free fun z=>(hch _ z).2.1 rfl
 exact I.step (ch:=ch) hch (fun b o hL hb hc e n=>u.keep b o e n (fun z=>(Et.mp (I.stkSub b z)).elim hL hb) hc) (fun b o _ _ hc e n=>u.any e n hc) (fun b o hc e n=>u.free b o e n hc) (fun b o hc e=>u.there b o e hc) u.tups u.frzs u.tbls (fun m' hm=>by
  obtain ⟨o',es',ep',ho',r'⟩:=hm
  rw [ho] at ho';cases ho'
  exact ⟨_,es',ep',hL,r'⟩) hok hg
theorem Inv.turned {t':Nat}{it:Addr}(I:Inv X Kl σ H s)(k:∀ b o,b≠it→s.heap.get? b=some o→h'.get? b=some o)(hn:H it=none)(hL:it≠X.env.locals)
  (h1:it∈X.ex ∨ X.s₀.heap.objs.size≤it) (h2:∀ x c,X.env.cells.lookup x=some c→c≠it) (h3:∀ p∈X.pn++Kl,p.1≠it):Inv X Kl σ H { s with heap:=h',toks:=t' }:=by
 have nit:∀ b u,H b=some u→b≠it:=fun b u e z=>by rw [z,hn] at e;cases e
 refine I.step (g':=s.gens) (d':=s.drawn) (ch:=[it]) (fun b hb=>?_) (fun b o _ _ hc e _=>k b o (fun z=>hc (by simp [z])) e) (fun b o _ _ hc e _=>⟨o.slots,k b o (fun z=>hc (by simp [z])) e⟩) (fun _ _ _ _ n=>n)
  (fun b o hc e=>⟨o,k b o (fun z=>hc (by simp [z])) e⟩) (fun _ _ e=>e) (fun _ _ _ e=>e) (fun b ps e=>⟨#[],by rw [e];simp⟩) (fun m hm=>?_) (fun b u e=>?_) I.bare
 ·have e:b=it:=by simpa using hb
  subst e
  exact ⟨h1,hL,h2,h3⟩
 ·obtain ⟨o,es,ep,ho,r⟩:=hm
  exact ⟨o,es,ep,k _ o (Ne.symm hL) ho,r⟩
 ·refine (I.hok b u e).stay (fun c v hc q=>k c v ?_ q) (fun _ q=>q) fun _ _ q=>q
  rcases hc with z | z
  ·rw [z];exact nit b u e
  ·exact nit c _ z
theorem Inv.tok (I:Inv X Kl σ H s)(t:Nat):Inv X Kl σ H { s with toks:=t }:=I.un (h':=s.heap) (t':=t) Un.refl I.hok
theorem Inv.kept {t':Nat}(I:Inv X Kl σ H s)(k:∀ b u,s.heap.get? b=some u→h'.get? b=some u):Inv X Kl σ H { s with heap:=h',toks:=t' }:=I.un (Un.kept k) (I.hok.kept k)
theorem Inv.laid {a:Addr}{o:HO}{t':Nat}(I:Inv X Kl σ H s)(k:∀ b u,s.heap.get? b=some u→h'.get? b=some u)(hp:s.heap.objs.size≤a)(new:br X.prog X.w (upd H a o) h' a o) :
  Inv X Kl σ (upd H a o) { s with heap:=h',toks:=t' }:=I.un (Un.laid k hp (I.hok.fresh hp)) (I.hok.laid k hp new)
theorem Inv.write {x e:Addr}{o:HO}{t':Nat}(I:Inv X Kl σ H s)(mu:Mut (H x))(he:e=x ∨ H e=some (.own x))(k:∀ b u,b≠e→s.heap.get? b=some u→h'.get? b=some u)(heo:∃ u,h'.get? e=some u)
  (new:br X.prog X.w (upd H x o) h' x o):Inv X Kl σ (upd H x o) { s with heap:=h',toks:=t' }:=I.un (Un.write mu he k heo) (I.hok.write mu he k heo new)
theorem Inv.pins_of {pins':List (Addr × Obj)}(I:Inv X Kl σ H s)(h:∀ p∈pins',s.heap.get? p.1=some p.2∧H p.1=none∧p.1≠X.env.locals∧p.1∉X.fs∧∀ v,p.2.data ≠ .cell v):Inv X pins' σ H s :=
 ⟨I.ok,I.os,I.bare,I.base,I.loc,I.cell,I.free,I.freeC,fun p hp=>(Ew.mp hp).elim (fun z=>I.pin p (ER _ z)) (h p),I.hok,I.len⟩
theorem ly {N:List Str}(hN:N.Nodup){i j:Nat}{x:Str}(a:N[i]? = some x)(b:N[j]? = some x):i=j:=by
 obtain ⟨h1,e1⟩:=Ed.mp a
 obtain ⟨h2,e2⟩:=Ed.mp b
 exact (List.getElem_inj hN).mp (e1.trans e2.symm)
theorem ou {M:Model}{A:Around}{E:Value→Shared→Prop}{i:Nat}{x:Str}{v:V}{u:Value}{Q:Unit→Shared→Prop}(I:Inv X Kl σ H s)(hN:X.N.Nodup)(hi:X.N[i]? = some x)(hx:Loc X.env.scope x)(r:bq v u)
  (h:∀ s',Inv X Kl (σ.set i (some v)) H s'→(∃ a,Heap.SameBut a s.heap s'.heap∧(a=X.env.locals ∨ X.env.cells.lookup x=some a))→Q () s') (hf:X.fn x=true ∨ X.env.scope.names.lookup x=some .local:=by first | exact .inl rfl | exact .inr rfl | assumption):wpAny M A (storeName X.env x u) Q E s:=by
 obtain ⟨m,hn,hl⟩:=id I.loc
 have hcls:(X.env.scope.kind == .class || (X.env.scope.kind == .module && X.env.locals != X.env.globals))=false:=by rw [I.ok.kind];rfl
 have hiσ:i < σ.length:=by rw [I.len];exact (Ed.mp hi).1
 have cne:=I.cne
 have tracked:∀ {a:Addr} {h':Heap},(∃ o,s.heap.get? a=some o∧H a=none)→Heap.SameBut a s.heap h'→HOk X.prog X.w H h':=fun {a h'} ha hs b ob e=>by
  obtain ⟨_,_,hfree⟩:=ha
  refine (I.hok b ob e).stay (fun c w' hc q=>(hs.2 c ?_).trans q) (fun _ q=>q) fun _ _ q=>q
  rintro rfl
  rcases hc with rfl | hc
  ·rw [hfree] at e;cases e
  ·rw [hfree] at hc;cases hc
 rcases hx with hk | hk
 ·refine wpAny_storeName_local hk hn (fun h' hn' hs=>?_) hcls
  obtain ⟨oL,_,_,hoL,_⟩:=id hn
  refine h _ ⟨I.ok,I.os,I.bare,⟨fun b o e n hb hx=>?_,fun b o e n hb hx=>?_,I.base.free,fun b o e hx=>?_,I.base.tups,I.base.frzs,I.base.tbls⟩,⟨_,hn',fun j y v' e1 e2 e3=>?_⟩,fun y c e=>?_,I.free,I.freeC,fun p hp=>?_,tracked ⟨oL,hoL,I.free⟩ hs,by simpa using I.len⟩ ⟨_,hs,.inl rfl⟩
  ·exact (hs.2 b (EW (EL (Eo e) I.ok.above))).trans (I.base.keep b o e n hb hx)
  ·obtain ⟨sl,e1⟩:=I.base.slot b o e n hb hx
   exact ⟨sl,(hs.2 b (EW (EL (Eo e) I.ok.above))).trans e1⟩
  ·obtain ⟨o',e1⟩:=I.base.there b o e hx
   exact ⟨o',(hs.2 b (EW (EL (Eo e) I.ok.above))).trans e1⟩
  ·by_cases hj:j=i
   ·subst hj
    rw [hi] at e1;cases e1
    rw [Jb hiσ] at e2
    cases e2
    exact ⟨u,r,.inl ⟨hk,by simp⟩⟩
   ·rw [List.getElem?_set_ne (Ne.symm hj)] at e2
    obtain ⟨u',r',q⟩:=hl j y v' e1 e2 e3
    refine ⟨u',r',?_⟩
    rcases q with ⟨k,e⟩ | ⟨k,c,e,z⟩
    ·refine .inl ⟨k,?_⟩
     have:y≠x:=fun e=>hj (ly hN e1 (e ▸ hi))
     simp [this,e]
    ·exact .inr ⟨k,c,e,z.sameBut hs (cne y c e)⟩
  ·obtain ⟨w',z⟩:=I.cell y c e
   exact ⟨w',z.sameBut hs (cne y c e)⟩
  ·obtain ⟨e,n,ne,nf,d⟩:=I.pin p hp
   exact ⟨(hs.2 p.1 ne).trans e,n,ne,nf,d⟩
 ·have hfn:X.fn x=true:=by
   rcases hf with z | z
   ·exact z
   ·rw [z] at hk;cases hk
  obtain ⟨c,hc⟩:=I.ok.has x (.inl hk)
  obtain ⟨w',z⟩:=I.cell x c hc
  refine wpAny_storeName_cell I.ok.kind hk hc z (fun h' hc' hs=>?_)
  obtain ⟨oc,hoc,hocd⟩:=id z
  refine h { s with heap:=h' } ⟨I.ok,I.os,I.bare,⟨fun b o e n hb hx=>?_,fun b o e n hb hx=>?_,I.base.free,fun b o e hx=>?_,I.base.tups,I.base.frzs,I.base.tbls⟩,⟨m,hn.sameBut hs (Ne.symm (cne x c hc)),fun j y v' e1 e2 e3=>?_⟩,fun y c' e=>?_,I.free,I.freeC,fun p hp=>?_,tracked ⟨oc,hoc,I.freeC x c hc⟩ hs,by simpa using I.len⟩ ⟨c,hs,.inr hc⟩
  ·exact (hs.2 b (EW (EL (Eo e) (I.ok.cab x c hfn hc)))).trans (I.base.keep b o e n hb hx)
  ·obtain ⟨sl,e1⟩:=I.base.slot b o e n hb hx
   exact ⟨sl,(hs.2 b (EW (EL (Eo e) (I.ok.cab x c hfn hc)))).trans e1⟩
  ·obtain ⟨o',e1⟩:=I.base.there b o e hx
   exact ⟨o',(hs.2 b (EW (EL (Eo e) (I.ok.cab x c hfn hc)))).trans e1⟩
  ·by_cases hj:j=i
   ·subst hj
    rw [hi] at e1;cases e1
    rw [Jb hiσ] at e2
    cases e2
    exact ⟨u,r,.inr ⟨.inl hk,c,hc,hc'⟩⟩
   ·rw [List.getElem?_set_ne (Ne.symm hj)] at e2
    obtain ⟨u',r',q⟩:=hl j y v' e1 e2 e3
    refine ⟨u',r',?_⟩
    rcases q with q | ⟨k,c',e,z'⟩
    ·exact .inl q
    ·refine .inr ⟨k,c',e,z'.sameBut hs ?_⟩
     rintro rfl
     exact hj (ly hN e1 (I.ok.inj _ _ _ e hc ▸ hi))
  ·by_cases hcc:c'=c
   ·subst hcc;exact ⟨_,hc'⟩
   ·obtain ⟨w2,z2⟩:=I.cell y c' e
    exact ⟨w2,z2.sameBut hs hcc⟩
  ·obtain ⟨e,n,ne,nf,d⟩:=I.pin p hp
   refine ⟨(hs.2 p.1 ?_).trans e,n,ne,nf,d⟩
   intro q
   rw [q,hoc] at e
   have q':oc=p.2:=El e
   exact d w' (by rw [← q'];exact hocd)
theorem g9 {M:Model}{A:Around}{E:Value→Shared→Prop}{i:Nat}{x:Str}{v:V}{u:Value}{Q:Unit→Shared→Prop}(I:Inv X Kl σ H s)(hN:X.N.Nodup)(hi:X.N[i]? = some x)(hx:Loc X.env.scope x)(r:bq v u)
  (h:∀ s',Inv X Kl (σ.set i (some v)) H s'→Q () s') (hf:X.fn x=true ∨ X.env.scope.names.lookup x=some .local:=by first | exact .inl rfl | exact .inr rfl | assumption):wpAny M A (storeName X.env x u) Q E s :=
 ou I hN hi hx r (fun s' I' _=>h s' I') hf
theorem Inv.call' {s':Shared}{ch:List Addr}(I:Inv X Kl σ H s)(ho:s'.os=s.os)(u:Un (frs X.stack) ch H H' s.heap s'.heap)(hok:HOk X.prog X.w H' s'.heap)(hg:AllBare s'.gens)
  (hch:∀ b∈ch,(b∈X.ex ∨ X.s₀.heap.objs.size≤b)∧b≠X.env.locals∧(∀ x c,X.env.cells.lookup x=some c→c≠b)∧∀ p∈X.pn++Kl,p.1≠b):Inv X Kl σ H' s':=by
 obtain ⟨h',g',d',t',o'⟩:=s'
 have e:o'=s.os:=ho
 subst e
 exact I.call (g':=g') (t':=t') (d':=d') u hok hg hch
end
abbrev XK:=Value→Option Addr→Hp→Prop
abbrev St:=List (Option V)
abbrev VK:=V→Hp→Prop
abbrev TE:=St→Hp→VK→Prop
abbrev TT:=St→Hp→(Bool→Hp→Prop)→Prop
abbrev TA:=St→Hp→(List V→Hp→Prop)→Prop
structure j4 where
 nx:St→Hp→Prop
 rt:VK
 bk:St→Hp→Prop:=fun _ _=>False
 ct:St→Hp→Prop:=fun _ _=>False
abbrev TS:=j4→St→Hp→Prop
def EP (X:Cx)(Kl:List (Addr × Obj))(σ:St)(Q:VK)(u:Value)(s':Shared):Prop:=∃ v H',Inv X Kl σ H' s'∧bq v u∧Q v H'
def TP (X:Cx)(Kl:List (Addr × Obj))(σ:St)(Q:Bool→Hp→Prop)(b:Bool)(s':Shared):Prop:=∃ H',Inv X Kl σ H' s'∧Q b H'
def AP (X:Cx)(Kl:List (Addr × Obj))(σ:St)(Q:List V→Hp→Prop)(us:List Value)(s':Shared):Prop:=∃ vs H',Inv X Kl σ H' s'∧ba vs us∧Q vs H'
def SP (X:Cx)(Kl:List (Addr × Obj))(D:j4)(f:Flow)(s':Shared):Prop :=
 match f with
 | .next=>∃ σ' H',Inv X Kl σ' H' s'∧D.nx σ' H'
 | .brk=>∃ σ' H',Inv X Kl σ' H' s'∧D.bk σ' H'
 | .cont=>∃ σ' H',Inv X Kl σ' H' s'∧D.ct σ' H'
 | .ret u=>∃ v σ' H',Inv X Kl σ' H' s'∧bq v u∧D.rt v H'
def PE (X:Cx)(e:Expr)(t:TE):Prop :=
 ∀ (Kl:List (Addr × Obj)) (s:Shared) (σ:St) (H:Hp) (Q:VK),Inv X Kl σ H s→t σ H Q→wpAny (model X.prog X.w) X.A (eval e X.env) (EP X Kl σ Q) X.xe s
def PT (X:Cx)(e:Expr)(t:TT):Prop :=
 ∀ (Kl:List (Addr × Obj)) (s:Shared) (σ:St) (H:Hp) (Q:Bool→Hp→Prop),Inv X Kl σ H s→t σ H Q→wpAny (model X.prog X.w) X.A (isTrue e X.env (eval e X.env)) (TP X Kl σ Q) X.xe s
def PW (X:Cx)(e:Expr)(t:TT):Prop :=
 ∀ (whole:Sem Value) (Kl:List (Addr × Obj)) (s:Shared) (σ:St) (H:Hp) (Q:Bool→Hp→Prop),Inv X Kl σ H s→t σ H Q→wpAny (model X.prog X.w) X.A (isTrue e X.env whole) (TP X Kl σ Q) X.xe s
theorem PW.pt {X:Cx}{e:Expr}{t:TT}(h:PW X e t):PT X e t:=h _
def PA (X:Cx)(es:List Expr)(t:TA):Prop :=
 ∀ (pos:Pos) (Kl:List (Addr × Obj)) (s:Shared) (σ:St) (H:Hp) (Q:List V→Hp→Prop),Inv X Kl σ H s→t σ H Q→wpAny (model X.prog X.w) X.A (spliced (backTo pos (starEach es X.env))) (AP X Kl σ Q) X.xe s
def PS (X:Cx)(st:Stmt)(t:TS):Prop :=
 ∀ (Kl:List (Addr × Obj)) (s:Shared) (σ:St) (H:Hp) (D:j4),Inv X Kl σ H s→t D σ H→wpAny (model X.prog X.w) X.A (exec st X.env) (SP X Kl D) X.xe s
def PSs (X:Cx)(st:List Stmt)(t:TS):Prop :=
 ∀ (Kl:List (Addr × Obj)) (s:Shared) (σ:St) (H:Hp) (D:j4),Inv X Kl σ H s→t D σ H→wpAny (model X.prog X.w) X.A (execs st X.env) (SP X Kl D) X.xe s
theorem thn {α:Type}{t:Sem α}{Q Q':α→Shared→Prop}{M:Model}{A:Around}{E:Value→Shared→Prop}{s:Shared}(h:wpAny M A t Q E s)(hQ:∀ a s,Q a s→Q' a s):wpAny M A t Q' E s:=FZ h hQ fun _ _ x=>x
section
variable {X:Cx}
inductive Bx (i:Nat)(σ:St)(H:Hp)(Q:VK):Prop
 | mk:∀ v,(σ[i]? = some (some v))→(Q v H)→Bx i σ H Q
def tC (v:V):TE:=fun _ H Q=>Q v H
theorem yX {i:Nat}{x:Str}{pos:Pos}(hN:X.N[i]? = some x)(hv:Vis X.env.scope x)(hd:(x == ("__debug__":Str))=false:=by decide)(hcd:(x == ("__classdict__":Str))=false:=by decide):PE X (.Name x pos) (Bx i):=by
 intro Kl s σ H Q I h
 obtain ⟨v,e,h⟩:=h
 obtain ⟨m,hn,hl⟩:=I.loc
 obtain ⟨u,r,l⟩:=hl i x v hN e hv
 have fin:EP X Kl σ Q u s:=⟨v,H,I,r,h⟩
 rcases l with ⟨hk,hm⟩ | ⟨hk,c,hc,hcell⟩
 ·exact wpAny_Name (wpAny_loadName_local I.ok.kind hk hn hm fin) hd
 ·rcases hk with hk | hk
  ·exact wpAny_Name (wpAny_loadName_cell I.ok.kind hk hc hcell fin) hd
  ·exact wpAny_Name (wpAny_loadName_free I.ok.kind hk hc hcell fin hcd) hd
theorem ai {i j pos}:PE X (.Constant (.int i) j pos) (tC (.int i)):=fun _ _ _ H _ I h=>wpAny_Constant_int ⟨.int i,H,I.tok _,⟨_,rfl⟩,h⟩
theorem dI {b j pos}:PE X (.Constant (.bool b) j pos) (tC (.bl b)):=fun _ _ _ H _ I h=>Constant_bool ⟨.bl b,H,I,rfl,h⟩
theorem aM {x j pos}:PE X (.Constant (.str x) j pos) (tC (.str x)):=fun _ _ _ H _ I h=>Calls.Constant_str ⟨.str x,H,I.tok _,⟨_,rfl⟩,h⟩
def Gl (X:Cx)(x:Str):Prop:=X.env.kindOf x=some .globalImplicit
theorem g_ {E:Value→Shared→Prop}{Kl:List (Addr × Obj)}{s:Shared}{σ:St}{H:Hp}{x:Str}{u:Value}{pos:Pos}{Q:Value→Shared→Prop}(I:Inv X Kl σ H s)(hg:Gl X x)(hm:X.mg x=some u)(h:Q u s)
  (hd:(x == ("__debug__":Str))=false:=by decide):wpAny (model X.prog X.w) X.A (eval (.Name x pos) X.env) Q E s :=
 Ig I.ok.kind hg (Calls.loadGlobal_global (by rw [I.ok.glob];exact I.mod.glob.keeps I.bk) hm h) hd
theorem fo {E:Value→Shared→Prop}{Kl:List (Addr × Obj)}{s:Shared}{σ:St}{H:Hp}{x:Str}{u:Value}{pos:Pos}{Q:Value→Shared→Prop}(I:Inv X Kl σ H s)(hg:Gl X x)(hm:X.mg x=none)(hv:bootBuiltins x=some u)(h:Q u s)
  (hn:x ≠ "__name__":=by decide) (hd:(x == ("__debug__":Str))=false:=by decide):wpAny (model X.prog X.w) X.A (eval (.Name x pos) X.env) Q E s:=by
 obtain ⟨mb,h1,h2⟩:=I.mod.blt
 exact Ig I.ok.kind hg (Calls.loadGlobal_builtin (by rw [I.ok.glob];exact I.mod.glob.keeps I.bk) hm (by rw [I.ok.blt];exact h1.keeps I.bk) ((h2 x hn).trans hv) h) hd
theorem hJ {x:Str}{v:V}{u:Value}{pos:Pos}(hg:Gl X x)(hm:X.mg x=some u)(r:bq v u)(hd:(x == ("__debug__":Str))=false:=by decide):PE X (.Name x pos) (tC v) :=
 fun _ _ _ H _ I h=>g_ I hg hm ⟨v,H,I,r,h⟩ hd
theorem ow {x:Str}{v:V}{u:Value}{pos:Pos}(hg:Gl X x)(hm:X.mg x=none)(hv:bootBuiltins x=some u)(r:bq v u)(hn:x ≠ "__name__":=by decide)(hd:(x == ("__debug__":Str))=false:=by decide):PE X (.Name x pos) (tC v) :=
 fun _ _ _ H _ I h=>fo I hg hm hv ⟨v,H,I,r,h⟩ hn hd
variable {a b:Expr} {ta tb:TE} {pos:Pos}
def PC (X:Cx)(op:CmpOp)(a b:Expr)(t:TE):Prop :=
 ∀ (Kl:List (Addr × Obj)) (s:Shared) (σ:St) (H:Hp) (Q:VK),Inv X Kl σ H s→t σ H Q →
  wpAny (model X.prog X.w) X.A (eval a X.env) (fun v s₁=>wpAny (model X.prog X.w) X.A (eval b X.env) (fun u s₂=>wpAny (model X.prog X.w) X.A (compareOp op v u) (EP X Kl σ Q) X.xe s₂) X.xe s₁) X.xe s
theorem sO (b:Expr){op:CmpOp}(h:op ≠ .In)(h2:op ≠ .NotIn):behindInMarks op b=false:=by
 have e1:(op == CmpOp.In)=false:=by cases op <;> first | rfl | exact absurd rfl h
 have e2:(op == CmpOp.NotIn)=false:=by cases op <;> first | rfl | exact absurd rfl h2
 cases b <;> simp [behindInMarks,e1,e2]
inductive IsB (x:V)(H:Hp)(Q:Bool→Hp→Prop):Prop
 | mk:∀ c,(x = .bl c)→(Q c H)→IsB x H Q
def By (Q:(Bool→Hp→Prop)):V→Hp→Prop:=fun x H1=>IsB x H1 Q
def tB (t:TE):TT:=fun σ H Q=>t σ H (By Q)
theorem yY {op:CmpOp}{t:TE}(h:PC X op a b t)(h1:behindInMarks op b=false:=by first | exact sO _ (by decide) (by decide) | rfl):PT X (.Compare a [op] [b] pos) (tB t):=by
 intro Kl s σ H Q I hw
 refine wpAny_isTrue_Compare1 (thn (h Kl s σ H _ I hw) fun v s1 h1=>thn h1 fun u s2 h2=>thn h2 fun c s3 zq5=>?_) h1
 obtain ⟨x,H1,I1,r1,q1⟩:=zq5
 obtain ⟨d,rfl,q⟩:=q1
 cases r1
 exact Fk ⟨H1,I1,q⟩
variable {tA tB':TT} {rest:List Expr}
def vW (u:TT)(σ:St)(Q:(Bool→Hp→Prop)):Bool→Hp→Prop:=fun c H1=>if c=true then u σ H1 Q else Q false H1
def Dq (t u:TT):TT:=fun σ H Q=>t σ H (vW u σ Q)
def gs (u:TT)(σ:St)(Q:(Bool→Hp→Prop)):Bool→Hp→Prop:=fun c H1=>if c=true then Q true H1 else u σ H1 Q
def tOr (t u:TT):TT:=fun σ H Q=>t σ H (gs u σ Q)
def j7 (Q:(Bool→Hp→Prop)):Bool→Hp→Prop:=fun c H1=>Q (!c) H1
def Dr (t:TT):TT:=fun σ H Q=>t σ H (j7 Q)
theorem vX (ha:PT X a tA):PW X (.BoolOp .And [a] pos) tA:=by
 intro wh Kl s σ H Q I h
 refine isTrue_and (thn (ha Kl s σ H Q I h) fun c s1 e=>?_)
 cases c with
 | true=>exact isTrue_and_nil e
 | false=>exact e
theorem gu (ha:PT X a tA):PW X (.BoolOp .Or [a] pos) tA:=by
 intro wh Kl s σ H Q I h
 refine isTrue_or (thn (ha Kl s σ H Q I h) fun c s1 e=>?_)
 cases c with
 | false=>exact isTrue_or_nil e
 | true=>exact e
theorem yZ (ha:PT X a tA)(hb:PW X (.BoolOp .And (b::rest) pos) tB'):PW X (.BoolOp .And (a::b::rest) pos) (Dq tA tB'):=by
 intro wh Kl s σ H Q I h
 refine isTrue_and (thn (ha Kl s σ H _ I h) fun c s1 zq7=>?_)
 obtain ⟨H1,I1,q1⟩:=zq7
 cases c with
 | true=>exact hb wh Kl s1 σ H1 Q I1 q1
 | false=>exact ⟨H1,I1,q1⟩
theorem mZ (ha:PT X a tA)(hb:PW X (.BoolOp .Or (b::rest) pos) tB'):PW X (.BoolOp .Or (a::b::rest) pos) (tOr tA tB'):=by
 intro wh Kl s σ H Q I h
 refine isTrue_or (thn (ha Kl s σ H _ I h) fun c s1 zq8=>?_)
 obtain ⟨H1,I1,q1⟩:=zq8
 cases c with
 | true=>exact ⟨H1,I1,q1⟩
 | false=>exact hb wh Kl s1 σ H1 Q I1 q1
theorem fq (ha:PT X a tA):PT X (.UnaryOp .Not a pos) (Dr tA):=by
 intro Kl s σ H Q I h
 exact isTrue_not (ha Kl s σ H (fun c H1=>Q (!c) H1) I h)
def sP (tb:TE)(σ:St)(Q:VK):Bool→Hp→Prop:=fun c H1=>if c=true then tb σ H1 Q else Q (.bl false) H1
def sQ (tb:TE)(σ:St)(Q:VK):V→Hp→Prop:=fun x H1=>IsB x H1 (sP tb σ Q)
def Bz (ta tb:TE):TE:=fun σ H Q=>ta σ H (sQ tb σ Q)
def vY (tb:TE)(σ:St)(Q:VK):Bool→Hp→Prop:=fun c H1=>if c=true then Q (.bl true) H1 else tb σ H1 Q
def vZ (tb:TE)(σ:St)(Q:VK):V→Hp→Prop:=fun x H1=>IsB x H1 (vY tb σ Q)
def Ds (ta tb:TE):TE:=fun σ H Q=>ta σ H (vZ tb σ Q)
theorem gC {op}{t:TE}(h:PE X a t):PE X (.BoolOp op [a] pos) t:=fun Kl s σ H Q I hw=>BoolOp_one (h Kl s σ H Q I hw)
theorem jf (ha:PE X a ta)(hb:PE X (.BoolOp .And (b::rest) pos) tb):PE X (.BoolOp .And (a::b::rest) pos) (Bz ta tb):=by
 intro Kl s σ H Q I h
 refine BoolOp_and (thn (ha Kl s σ H _ I h) fun v s1 zq9=>?_)
 obtain ⟨x,H1,I1,r1,q1⟩:=zq9
 obtain ⟨c,rfl,q1⟩:=q1
 cases r1
 refine Fk ?_
 cases c with
 | true=>exact hb Kl s1 σ H1 Q I1 q1
 | false=>exact ⟨.bl false,H1,I1,rfl,q1⟩
theorem BA (ha:PE X a ta)(hb:PE X (.BoolOp .Or (b::rest) pos) tb):PE X (.BoolOp .Or (a::b::rest) pos) (Ds ta tb):=by
 intro Kl s σ H Q I h
 refine BoolOp_or (thn (ha Kl s σ H _ I h) fun v s1 zq10=>?_)
 obtain ⟨x,H1,I1,r1,q1⟩:=zq10
 obtain ⟨c,rfl,q1⟩:=q1
 cases r1
 refine Fk ?_
 cases c with
 | false=>exact hb Kl s1 σ H1 Q I1 q1
 | true=>exact ⟨.bl true,H1,I1,rfl,q1⟩
def ox (ta:TE)(tb:TE)(σ:St)(Q:VK):Bool→Hp→Prop:=fun c H1=>if c=true then ta σ H1 Q else tb σ H1 Q
def tIf (t:TT)(ta tb:TE):TE:=fun σ H Q=>t σ H (ox ta tb σ Q)
theorem de {c:Expr}(hc:PT X c tA)(ha:PE X a ta)(hb:PE X b tb):PE X (.IfExp c a b pos) (tIf tA ta tb):=by
 intro Kl s σ H Q I h
 refine wpAny_IfExp (thn (hc Kl s σ H _ I h) fun d s1 zq12=>?_)
 obtain ⟨H1,I1,q1⟩:=zq12
 cases d with
 | true=>exact ha Kl s1 σ H1 Q I1 q1
 | false=>exact hb Kl s1 σ H1 Q I1 q1
end
def SqL (K:PySem.W.Frag)(H:Hp)(a:Addr)(xs:List V):Prop :=
 Rd H a (.lst xs) ∨
  ∃ (o:Obj) (its:Array Value) (n:Nat),K.lookup a=some o∧o.cls = .type "list"∧o.dict=none∧o.data = .seq its n∧its.size≤sizeLine∧ba xs its.toList
def SqT (K:PySem.W.Frag)(H:Hp)(a:Addr)(xs:List V):Prop :=
 Rd H a (.tup xs) ∨
  ∃ (o:Obj) (its:Array Value) (n:Nat),K.lookup a=some o∧o.cls = .type "tuple"∧o.data = .seq its n∧its.size≤sizeLine∧ba xs its.toList
def Du:Value→Option V
 | .none=>some .non
 | .bool b=>some (.bl b)
 | .int i _=>some (.int i)
 | .str x _=>some (.str x)
 | .bytes b _=>some (.byt b)
 | .float b _=>some (.flt b)
 | .ref a=>some (.ref a)
 | .type n=>some (.ty n)
 | _=>none
theorem bq.abs {x:V}{u:Value}(r:bq x u):Du u=some x:=by
 cases x with
 | non=>cases r;rfl
 | bl _=>cases r;rfl
 | int _=>obtain ⟨t,rfl⟩:=r;rfl
 | str _=>obtain ⟨t,rfl⟩:=r;rfl
 | byt _=>obtain ⟨t,rfl⟩:=r;rfl
 | flt _=>obtain ⟨t,rfl⟩:=r;rfl
 | ref _=>cases r;rfl
 | ty _=>cases r;rfl
theorem bq.inj {x y:V}{u:Value}(r:bq x u)(q:bq y u):x=y:=El (r.abs.symm.trans q.abs)
theorem ba.inj:∀ {xs ys:List V} {us:List Value},ba xs us→ba ys us→xs=ys
 | _,_,_,.nil,.nil=>rfl
 | _,_,_,.cons r t,.cons r' t'=>by rw [r.inj r',ba.inj t t']
section
variable {X:Cx} {Kl:List (Addr × Obj)} {σ:St} {H:Hp} {s:Shared} {a:Addr} {xs ys:List V}
theorem SqL.of {K:PySem.W.Frag}(h:H a=some (.lst xs)):SqL K H a xs:=.inl (.inl h)
theorem SqT.of {K:PySem.W.Frag}(h:H a=some (.tup xs)):SqT K H a xs:=.inl (.inl h)
theorem Inv.list (I:Inv X Kl σ H s)(h:SqL X.K H a xs):∃ its:List Value,ba xs its∧PlainL s.heap a its.toArray∧xs.length≤sizeLine:=by
 rcases h with h | ⟨o,its,n,hk,hc,hd,hs,hz,r⟩
 ·obtain ⟨z,its,n,r,e⟩:=h.ok I.hok
  exact ⟨its,r,⟨_,n,e,rfl,rfl,rfl⟩,z⟩
 ·refine ⟨its.toList,r,⟨o,n,I.kIn a o hk,hc,hd,by simpa using hs⟩,?_⟩
  have e:=r.length
  simp only [Ef] at e
  omega
theorem Inv.tuple (I:Inv X Kl σ H s)(h:SqT X.K H a xs):∃ its:List Value,ba xs its∧IsTup s.heap a its.toArray∧xs.length≤sizeLine:=by
 rcases h with h | ⟨o,its,n,hk,hc,hs,hz,r⟩
 ·obtain ⟨z,its,r,p,_⟩:=h.ok I.hok
  exact ⟨its,r,p,z⟩
 ·refine ⟨its.toList,r,⟨o,I.kIn a o hk,hc,n,by simpa using hs⟩,?_⟩
  have e:=r.length
  simp only [Ef] at e
  omega
theorem Inv.list_inj (I:Inv X Kl σ H s)(h:SqL X.K H a xs)(h':SqL X.K H a ys):xs=ys:=by
 obtain ⟨its,r,⟨o,n,e,_,_,d⟩,_⟩:=I.list h
 obtain ⟨its',r',⟨o',n',e',_,_,d'⟩,_⟩:=I.list h'
 rw [e] at e';cases e'
 rw [d] at d'
 injection d' with d1 _
 have:its=its':=by simpa using Ey Array.toList d1
 subst this
 exact r.inj r'
theorem Inv.tuple_inj (I:Inv X Kl σ H s)(h:SqT X.K H a xs)(h':SqT X.K H a ys):xs=ys:=by
 obtain ⟨its,r,⟨o,e,_,n,d⟩,_⟩:=I.tuple h
 obtain ⟨its',r',⟨o',e',_,n',d'⟩,_⟩:=I.tuple h'
 rw [e] at e';cases e'
 rw [d] at d'
 injection d' with d1 _
 have:its=its':=by simpa using Ey Array.toList d1
 subst this
 exact r.inj r'
end
abbrev Cx.wish (X:Cx)(E:Value→Shared→Prop):Cx:={ X with xe:=E }
abbrev Cx.nox (X:Cx):Cx:=X.wish fun _ _=>False
theorem Cx.Ok.wish {X:Cx}(ok:X.Ok)(E:Value→Shared→Prop):(X.wish E).Ok :=
 ⟨ok.mod,ok.kind,ok.glob,ok.blt,ok.above,ok.inj,ok.has,ok.cab,ok.hd,ok.frames,ok.stk,ok.exf,ok.bs,ok.bsz,ok.noex,ok.exfs,ok.funs,ok.frf⟩
theorem Cx.Ok.unwish {X:Cx}{E:Value→Shared→Prop}(ok:(X.wish E).Ok):X.Ok :=
 ⟨ok.mod,ok.kind,ok.glob,ok.blt,ok.above,ok.inj,ok.has,ok.cab,ok.hd,ok.frames,ok.stk,ok.exf,ok.bs,ok.bsz,ok.noex,ok.exfs,ok.funs,ok.frf⟩
section
variable {X:Cx} {Kl:List (Addr × Obj)} {σ:St} {H:Hp} {s:Shared} {E:Value→Shared→Prop}
theorem Inv.wish (I:Inv X Kl σ H s)(E:Value→Shared→Prop):Inv (X.wish E) Kl σ H s:=⟨I.ok.wish E,I.os,I.bare,I.base,I.loc,I.cell,I.free,I.freeC,I.pin,I.hok,I.len⟩
theorem Inv.unwish (I:Inv (X.wish E) Kl σ H s):Inv X Kl σ H s:=⟨I.ok.unwish,I.os,I.bare,I.base,I.loc,I.cell,I.free,I.freeC,I.pin,I.hok,I.len⟩
theorem SP.unwish {D:j4}{f:Flow}{s':Shared}(h:SP (X.wish E) Kl D f s'):SP X Kl D f s':=by
 cases f with
 | next=>obtain ⟨σ',H',I,q⟩:=h;exact ⟨σ',H',I.unwish,q⟩
 | brk=>obtain ⟨σ',H',I,q⟩:=h;exact ⟨σ',H',I.unwish,q⟩
 | cont=>obtain ⟨σ',H',I,q⟩:=h;exact ⟨σ',H',I.unwish,q⟩
 | ret u=>obtain ⟨v,σ',H',I,r,q⟩:=h;exact ⟨v,σ',H',I.unwish,r,q⟩
theorem PSs.nox {st:List Stmt}{t:TS}(h:PSs X.nox st t):PSs X st t:=fun Kl s σ H D I hw =>
 FZ (h Kl s σ H D (I.wish _) hw) (fun _ _ q=>q.unwish) fun _ _ z=>False.elim z
end
section
variable {X:Cx} {st:Stmt} {rest:List Stmt} {t u:TS} {e:Expr} {te:TE} {pos:Pos}
def BB:TS:=fun D σ H=>D.nx σ H
def C1 (t u:TS):TS:=fun D σ H=>t { D with nx:=u D } σ H
theorem aW:PSs X [] BB:=fun _ _ σ H _ I h=>HU ⟨σ,H,I,h⟩
theorem ag (h1:PS X st t)(h2:PSs X rest u):PSs X (st::rest) (C1 t u):=by
 intro Kl s σ H D I h
 refine wpAny_execs_cons (thn (h1 Kl s σ H { D with nx:=u D } I h) fun f s1 q=>?_)
 cases f with
 | next =>
  obtain ⟨σ',H',I',q⟩:=q
  exact h2 Kl s1 σ' H' D I' q
 | ret v=>exact q
 | brk=>exact q
 | cont=>exact q
theorem aj (h1:PS X st t):PSs X [st] t:=by
 intro Kl s σ H D I h
 refine wpAny_execs_cons (thn (h1 Kl s σ H D I h) fun f s1 q=>?_)
 cases f with
 | next=>exact HU q
 | ret v=>exact q
 | brk=>exact q
 | cont=>exact q
theorem Inv.quiet {Kl:List (Addr × Obj)}{σ:St}{H:Hp}{s:Shared}(I:Inv X Kl σ H s):interactive X.env=false:=by simp [interactive,I.ok.kind]
def sR (D:j4)(σ:St):V→Hp→Prop:=fun _ H1=>D.nx σ H1
def BC (te:TE):TS:=fun D σ H=>te σ H (sR D σ)
theorem hU (he:PE X e te)(hs:swapsWith e none pos.line X.env=pure false:=by rfl):PS X (.Expr e pos) (BC te):=by
 intro Kl s σ H D I h
 exact wpAny_Expr_any (thn (he Kl s σ H _ I h) fun v s1 zq15=>(by obtain ⟨x,H1,I1,r1,q1⟩:=zq15;exact ⟨σ,H1,I1,q1⟩)) I.quiet hs
def Dv (te:TE):TS:=fun D σ H=>te σ H D.rt
theorem az (he:PE X e te):PS X (.Return (some e) pos) (Dv te):=by
 intro Kl s σ H D I h
 exact wpAny_Return_some (thn (he Kl s σ H _ I h) fun v s1 zq16=>(by obtain ⟨x,H1,I1,r1,q1⟩:=zq16;exact ⟨x,σ,H1,I1,r1,q1⟩))
def cu (t:TS)(u:TS)(D:j4)(σ:St):Bool→Hp→Prop:=fun b H1=>if b=true then t D σ H1 else u D σ H1
def Dw (c:TT)(t u:TS):TS:=fun D σ H=>c σ H (cu t u D σ)
theorem bT {c:Expr}{a b:List Stmt}{tc:TT}(hc:PT X c tc)(ha:PSs X a t)(hb:PSs X b u):PS X (.If c a b pos) (Dw tc t u):=by
 intro Kl s σ H D I h
 refine wpAny_If (thn (hc Kl s σ H _ I h) fun d s1 zq17=>?_)
 obtain ⟨H1,I1,q1⟩:=zq17
 cases d with
 | true=>exact ha Kl s1 σ H1 D I1 q1
 | false=>exact hb Kl s1 σ H1 D I1 q1
end
abbrev TG:=V→St→Hp→(St→Hp→Prop)→Prop
abbrev TGs:=List V→St→Hp→(St→Hp→Prop)→Prop
def PG (X:Cx)(target:Expr)(t:TG):Prop :=
 ∀ (Kl:List (Addr × Obj)) (s:Shared) (σ:St) (H:Hp) (v:V) (u:Value) (Q:St→Hp→Prop),Inv X Kl σ H s→bq v u→t v σ H Q →
  wpAny (model X.prog X.w) X.A (assign target X.env u) (fun _ s'=>∃ σ' H',Inv X Kl σ' H' s'∧Q σ' H') X.xe s
def PGs (X:Cx)(ts:List Expr)(t:TGs):Prop :=
 ∀ (Kl:List (Addr × Obj)) (s:Shared) (σ:St) (H:Hp) (vs:List V) (us:List Value) (Q:St→Hp→Prop),Inv X Kl σ H s→ba vs us→t vs σ H Q →
  wpAny (model X.prog X.w) X.A (assignInOrder ((assignEach ts X.env).map (·.2)) us) (fun _ s'=>∃ σ' H',Inv X Kl σ' H' s'∧Q σ' H') X.xe s
abbrev TIp:=V→V→Hp→VK→Prop
def PIp (X:Cx)(op:Operator)(t:TIp):Prop :=
 ∀ (Kl:List (Addr × Obj)) (s:Shared) (σ:St) (H:Hp) (x y:V) (v u:Value) (Q:VK),Inv X Kl σ H s→bq x v→bq y u→t x y H Q →
  wpAny (model X.prog X.w) X.A (inplaceOp op v u) (EP X Kl σ Q) X.xe s
section
variable {X:Cx} {pos:Pos}
def sS (i:Nat):TG:=fun v σ H Q=>Q (σ.set i (some v)) H
theorem aR {i:Nat}{x:Str}(hN:X.N.Nodup)(hi:X.N[i]? = some x)(hx:Loc X.env.scope x)(hf:X.fn x=true ∨ X.env.scope.names.lookup x=some .local:=by first | exact .inl rfl | exact .inr rfl | assumption):PG X (.Name x pos) (sS i):=by
 intro Kl s σ H v u Q I r h
 exact wpAny_assign_Name (g9 I hN hi hx r (fun s' I'=>⟨_,H,I',h⟩) hf)
def Dx:TGs:=fun vs σ H Q=>vs=[]∧Q σ H
def BD (t:TG)(u:TGs):TGs:=fun vs σ H Q=>∃ v r,vs=v::r∧t v σ H fun σ' H'=>u r σ' H' Q
theorem v7:PGs X [] Dx:=by
 intro Kl s σ H vs us Q I r h
 obtain ⟨e,h⟩:=h
 subst e
 cases r
 exact assignInOrder_nil ⟨σ,H,I,h⟩
theorem lA {e:Expr}{es:List Expr}{t:TG}{u:TGs}(h1:PG X e t)(h2:PGs X es u)
  (hs:(assignEach (e::es) X.env).map (·.2)=assign e X.env::(assignEach es X.env).map (·.2):=by rfl):PGs X (e::es) (BD t u):=by
 intro Kl s σ H vs us Q I r h
 obtain ⟨v,vr,e1,h⟩:=h
 subst e1
 cases r with
 | cons r rr =>
  rw [hs]
  refine assignInOrder_cons (thn (h1 Kl s σ H _ _ _ I r h) fun _ s1 zq18=>?_)
  obtain ⟨σ1,H1,I1,q1⟩:=zq18
  exact h2 Kl s1 σ1 H1 _ _ Q I1 rr q1
def C2 (K:PySem.W.Frag)(n:Nat)(t:TGs):TG:=fun v σ H Q=>∃ a xs,v = .ref a∧SqT K H a xs∧xs.length=n∧t xs σ H Q
theorem y6 {es:List Expr}{k:Nat}{t:TGs}{n:Nat}(hc:X.calm=true)(h:PGs X es t)
  (hn:(assignEach es X.env).length=n:=by rfl) (hst:(assignEach es X.env).findIdx? (·.1)=none:=by rfl):PG X (.Tuple es k pos) (C2 X.K n t):=by
 intro Kl s σ H v u Q I r hw
 obtain ⟨a,xs,e1,hq,hl,hw⟩:=hw
 subst e1
 cases r
 obtain ⟨its,rv,ht,hz⟩:=I.tuple hq
 refine assign_Tuple_tuple (I.ok.hd hc) ht (by simp [hn,← hl,rv.length]) hst fun h' hx=>?_
 have I1:Inv X Kl σ H { s with heap:=h' }:=I.kept (t':=s.toks) fun b o e=>hx b o (EW (Eo e)) e
 exact h Kl _ σ H xs _ Q I1 (by simpa using rv) hw
def j8 (g:TG)(D:j4)(σ:St):V→Hp→Prop:=fun x H1=>g x σ H1 D.nx
def C3 (te:TE)(g:TG):TS:=fun D σ H=>te σ H (j8 g D σ)
theorem aA {i:Nat}{x:Str}{e:Expr}{te:TE}{pos':Pos}(hN:X.N.Nodup)(hi:X.N[i]? = some x)(hx:Loc X.env.scope x)(he:PE X e te)(hs:swapsWith e (some (.Name x pos')) pos.line X.env=pure false:=by rfl)(hf:X.fn x=true ∨ X.env.scope.names.lookup x=some .local:=by first | exact .inl rfl | exact .inr rfl | assumption) :
  PS X (.Assign [.Name x pos'] e pos) (C3 te (sS i)):=by
 intro Kl s σ H D I h
 refine wpAny_Assign_Name (thn (he Kl s σ H _ I h) fun v s1 zq23=>?_) hs
 obtain ⟨y,H1,I1,r1,q1⟩:=zq23
 exact g9 I1 hN hi hx r1 (fun s2 I2=>⟨_,H1,I2,q1⟩) hf
inductive C4 (i:Nat)(te:TE)(ti:TIp)(D:j4)(σ:St)(H:Hp):Prop
 | mk:∀ x,(σ[i]? = some (some x))→(te σ H fun y H1=>ti x y H1 fun z H2=>D.nx (σ.set i (some z)) H2)→C4 i te ti D σ H
theorem u7 {i:Nat}{x:Str}{e:Expr}{te:TE}{op:Operator}{ti:TIp}{pos':Pos}(hN:X.N.Nodup)(hi:X.N[i]? = some x)(hx:Loc X.env.scope x)(he:PE X e te)(ho:PIp X op ti)(hf:X.fn x=true ∨ X.env.scope.names.lookup x=some .local:=by first | exact .inl rfl | exact .inr rfl | assumption) :
  PS X (.AugAssign (.Name x pos') op e pos) (C4 i te ti):=by
 intro Kl s σ H D I h
 obtain ⟨v,e1,h⟩:=h
 obtain ⟨m,hn,hl⟩:=I.loc
 have vis:Vis X.env.scope x:=by rcases hx with k | k;exact .inl k;exact .inr (.inl k)
 obtain ⟨u,r,l⟩:=hl i x v hi e1 vis
 refine wpAny_AugAssign_Name ?_
 have go:wpAny (model X.prog X.w) X.A (eval e X.env) (fun w s₂=>wpAny (model X.prog X.w) X.A (inplaceOp op u w) (fun r s₃=>wpAny (model X.prog X.w) X.A (storeName X.env x r) (fun _=>SP X Kl D .next) X.xe s₃) X.xe s₂) X.xe s:=by
  refine thn (he Kl s σ H _ I h) fun w s1 zq25=>?_
  obtain ⟨y,H1,I1,r1,q1⟩:=zq25
  refine thn (ho Kl s1 σ H1 v y u w _ I1 r r1 q1) fun z s2 zq26=>?_
  obtain ⟨zv,H2,I2,r2,q2⟩:=zq26
  exact g9 I2 hN hi hx r2 (fun s3 I3=>⟨_,H2,I3,q2⟩) hf
 rcases l with ⟨hk,hm⟩ | ⟨hk,c,hc,hcell⟩
 ·exact wpAny_loadName_local I.ok.kind hk hn hm go
 ·rcases hk with hk | hk
  ·exact wpAny_loadName_cell I.ok.kind hk hc hcell go
  ·rcases hx with k | k
   ·have:X.env.scope.names.lookup x=some .free:=hk
    rw [k] at this;cases this
   ·have:X.env.scope.names.lookup x=some .free:=hk
    rw [k] at this;cases this
def ipI (f:Int→Int→Int):TIp:=fun x y H Q=>∃ i j,x = .int i∧y = .int j∧Q (.int (f i j)) H
theorem u9:PIp X .Add (ipI fun i j=>i+j):=by
 intro Kl s σ H x y v u Q I r1 r2 h
 obtain ⟨i,j,e1,e2,q⟩:=h
 subst e1;subst e2
 obtain ⟨t,rfl⟩:=r1
 obtain ⟨t',rfl⟩:=r2
 exact iadd_int ⟨.int _,H,I.tok _,⟨_,rfl⟩,q⟩
def y7 (c:TT)(tb:TS):TS:=fun D σ H=>∃ W:Nat→St→Hp→Prop,(∃ m,W m σ H)∧∀ m σ H,W m σ H →
 c σ H fun b H1=>if b=true then ∃ N:St→Hp→Prop,(∀ σ' H',N σ' H'→∃ m',m' < m∧W m' σ' H')∧tb { D with nx:=N,ct:=N,bk:=D.nx } σ H1 else D.nx σ H1
theorem e_ {c:Expr}{body:List Stmt}{tc:TT}{tb:TS}(hp:PassesOwn (model X.prog X.w) X.A X.env X.xe)(hc:PT X c tc)(hb:PSs X body tb):PS X (.While c body [] pos) (y7 tc tb):=by
 intro Kl s σ H D I h
 obtain ⟨W,⟨m0,w0⟩,turn⟩:=h
 refine wpAny_While (codeAny_whileLoop (fun n s'=>∃ σ' H',Inv X Kl σ' H' s'∧W n σ' H') ?_ m0 ⟨σ,H,I,w0⟩)
 rintro n s1 ⟨σ1,H1,I1,w1⟩
 refine Gr hp (thn (hc Kl s1 σ1 H1 _ I1 (turn n σ1 H1 w1)) fun b s2 zq33=>?_)
 obtain ⟨H2,I2,q2⟩:=zq33
 cases b with
 | true =>
  obtain ⟨N,hN,q2⟩:=q2
  rw [if_pos rfl]
  refine Gr hp (thn (hb Kl s2 σ1 H2 _ I2 q2) fun f s3 q3=>?_)
  cases f with
  | next =>
   obtain ⟨σ3,H3,I3,n3⟩:=q3
   obtain ⟨m',hm,w3⟩:=hN σ3 H3 n3
   exact ⟨m',hm,σ3,H3,I3,w3⟩
  | cont =>
   obtain ⟨σ3,H3,I3,n3⟩:=q3
   obtain ⟨m',hm,w3⟩:=hN σ3 H3 n3
   exact ⟨m',hm,σ3,H3,I3,w3⟩
  | brk=>exact q3
  | ret v=>exact q3
 | false =>
  rw [if_neg EH]
  exact HU ⟨σ1,H2,I2,q2⟩
end
structure It where
 go:Nat→Hp→Prop
 yld:Nat→Hp→V→Hp→Prop
 stop:Nat→Hp→Prop
def n_ (X:Cx)(Kl:List (Addr × Obj))(H:Hp)(b:Addr):Prop :=
 H b=none∧b≠X.env.locals∧b∉X.fs∧(b∈X.ex ∨ X.s₀.heap.objs.size≤b)∧(∀ x c,X.env.cells.lookup x=some c→c≠b)∧∀ p∈X.pn++Kl,p.1≠b
theorem Inv.fpOk {X:Cx}{Kl:List (Addr × Obj)}{σ:St}{H H':Hp}{s:Shared}{b:Addr}(I:Inv X Kl σ H s)(hb:s.heap.objs.size≤b)(hn:H' b=none):n_ X Kl H' b:=by
 refine ⟨hn,Hr (EL I.lt hb),I.nofs hb,.inr (Ft I.sz hb),fun x c e z=>?_,fun p hp z=>?_⟩
 ·obtain ⟨v,q⟩:=I.cell x c e
  exact absurd (EL q.lt (by rw [z];exact hb)) (Fs _)
 ·exact absurd (EL (Eo (I.pin p hp).1) (by rw [z];exact hb)) (Fs _)
structure yM (P:Program) (w:World) (K:PySem.W.Frag) (tg:Expr) (J:It) (fp:List Addr) (it:Addr) (tn:Nat→Heap→Prop):Prop where
 mem:it∈fp
 obj:∀ i h,tn i h→∀ b∈fp,∃ o,h.get? b=some o∧∀ v,o.data ≠ .cell v
 keep:∀ i h h',tn i h→(∀ b∈fp,∀ o,h.get? b=some o→h'.get? b=some o)→tn i h'
 item:∀ (X:Cx),X.prog=P→X.w=w→X.K=K→X.calm=true→∀ (i:Nat) (Kl:List (Addr × Obj)) (s:Shared) (σ:St) (H:Hp) (E:Value→Shared→Prop),Inv X Kl σ H s→(∀ b∈fp,n_ X Kl H b)→tn i s.heap→J.go i H →
  wpAny (model P w) X.A (pyNext (.ref it)) (fun r s1=>∃ u,r=some u ∧
   wpAny (model P w) X.A (letOwnedTupleGo tg (.ref it) u) (fun _ s2=>∃ x H',Inv X Kl σ H' s2∧bq x u∧J.yld i H x H'∧tn (i+1) s2.heap∧∀ b∈fp,H' b=none) E s1) E s
 done:∀ (X:Cx),X.prog=P→X.w=w→X.K=K→X.calm=true→∀ (i:Nat) (Kl:List (Addr × Obj)) (s:Shared) (σ:St) (H:Hp) (E:Value→Shared→Prop),Inv X Kl σ H s→(∀ b∈fp,n_ X Kl H b)→tn i s.heap→J.stop i H →
  wpAny (model P w) X.A (pyNext (.ref it)) (fun r s1=>r=none∧Inv X Kl σ H s1) E s
 self:∀ (A:Around) (i:Nat) (s:Shared) (Q:Value→Shared→Prop) (E:Value→Shared→Prop),tn i s.heap→Q (.ref it) s→wpAny (model P w) A (pyIter (.ref it)) Q E s
abbrev TI:=St→Hp→(It→Hp→Prop)→Prop
def PIE (X:Cx)(Kl:List (Addr × Obj))(σ:St)(tg:Expr)(R:It→Hp→Prop)(itv:Value)(s2:Shared):Prop :=
 ∃ (it:Addr) (fp:List Addr) (tn:Nat→Heap→Prop) (J:It) (H':Hp),itv = .ref it∧Inv X Kl σ H' s2∧yM X.prog X.w X.K tg J fp it tn∧tn 0 s2.heap∧(∀ b∈fp,n_ X Kl H' b)∧R J H'
def PI (X:Cx)(tg iter:Expr)(wi:TI):Prop :=
 ∀ (Kl:List (Addr × Obj)) (s:Shared) (σ:St) (H:Hp) (R:It→Hp→Prop),Inv X Kl σ H s→wi σ H R →
  wpAny (model X.prog X.w) X.A (eval iter X.env) (fun v s1=>wpAny (model X.prog X.w) X.A (pyIter v) (PIE X Kl σ tg R) X.xe s1) X.xe s
theorem sT {M:Model}{A:Around}{E:Value→Shared→Prop}{s:Shared}{tg:Expr}{it:Addr}{u:Value}{o:Obj}{n:String}{vs:Array Value}{Q:Unit→Shared→Prop}(ho:s.heap.get? it=some o)(hc:o.cls = .type n)(hd:o.data = .fields vs)
  (hn:["enumerate","zip","dict_itemiterator","dict_reverseitemiterator","odict_iterator","itertools.zip_longest","itertools.pairwise"].contains n=false) (hQ:Q () s):wpAny M A (letOwnedTupleGo tg (.ref it) u) Q E s:=by
 unfold letOwnedTupleGo
 cases tg <;> first
  | exact Ep hQ
  | (cases u <;> first
    | exact Ep hQ
    | (
      refine D9 (wpAny_load ho ?_)
      rw [hc,hd]
      show wpAny M A (if (["enumerate","zip","dict_itemiterator","dict_reverseitemiterator","odict_iterator","itertools.zip_longest","itertools.pairwise"].contains n && vs[0]? == some (rawInt _))=true then _ else _) Q E s
      rw [if_neg (by intro h;rw [hn,EV] at h;cases h)]
      exact Ep hQ))
def Itl (K:PySem.W.Frag)(a:Addr):It :=
 ⟨fun i H=>∃ xs x,SqL K H a xs∧xs[i]? = some x,fun i H x H'=>H'=H∧∀ xs,SqL K H a xs→xs[i]? = some x,fun i H=>∃ xs,SqL K H a xs∧xs.length≤i⟩
def Itt (K:PySem.W.Frag)(a:Addr):It :=
 ⟨fun i H=>∃ xs x,SqT K H a xs∧xs[i]? = some x,fun i H x H'=>H'=H∧∀ xs,SqT K H a xs→xs[i]? = some x,fun i H=>∃ xs,SqT K H a xs∧xs.length≤i⟩
def Itr (lo:Int)(n:Nat):It:=⟨fun i _=>i < n,fun i H x H'=>H'=H∧x = .int (lo+i),fun i _=>n≤i⟩
theorem oy {P:Program}{w:World}{K:PySem.W.Frag}{tg:Expr}(a it:Addr):yM P w K tg (Itl K a) [it] it (fun i h=>h.IsListIter it a i) where
 mem:=by simp
 obj:=fun i h st b hb=>by
  have e:b=it:=by simpa using hb
  subst e
  obtain ⟨o,e,c,d⟩:=st
  exact ⟨o,e,fun v z=>by rw [d] at z;cases z⟩
 keep:=fun i h h' st k=>st.at fun o e=>k it (by simp) o e
 item:=by
  intro X hP hw hK hc i Kl s σ H E I hf st hg
  subst hP hw hK
  obtain ⟨xs,x,hq,hx⟩:=hg
  obtain ⟨its,rv,p,hz⟩:=I.list hq
  obtain ⟨u,hu,ru⟩:=rv.get hx
  obtain ⟨f0,f1,f2,f3,f4,f5⟩:=hf it (by simp)
  refine wpAny_pyNext_list_item st p.isList (x:=u) (by simpa using hu) fun h' st' sb=>?_
  have I1:Inv X Kl σ H { s with heap:=h' }:=I.turned (t':=s.toks) (fun b o hb e=>(sb.2 b hb).trans e) f0 f1 f3 f4 f5
  obtain ⟨o,e,c,d⟩:=id st'
  exact ⟨u,rfl,sT (s:={ s with heap:=h' }) e c d (by decide) ⟨x,H,I1,ru,⟨rfl,fun ys hy=>by rw [I.list_inj hy hq];exact hx⟩,st',fun b hb=>(hf b hb).1⟩⟩
 done:=by
  intro X hP hw hK hc i Kl s σ H E I hf st hg
  subst hP hw hK
  obtain ⟨xs,hq,hx⟩:=hg
  obtain ⟨its,rv,p,hz⟩:=I.list hq
  obtain ⟨f0,f1,f2,f3,f4,f5⟩:=hf it (by simp)
  have hl:=rv.length
  exact wpAny_pyNext_list_end (I.ok.hd hc) st p.isList (by simp;omega) fun h' eb=>⟨rfl,I.turned (t':=s.toks) (fun b o hb e=>eb b o hb e) f0 f1 f3 f4 f5⟩
 self:=fun _ _ _ _ _ st h=>wpAny_pyIter_listiter st h
theorem m7 {P:Program}{w:World}{K:PySem.W.Frag}{tg:Expr}(a it:Addr):yM P w K tg (Itt K a) [it] it (fun i h=>h.IsTupleIter it a i) where
 mem:=by simp
 obj:=fun i h st b hb=>by
  have e:b=it:=by simpa using hb
  subst e
  obtain ⟨o,e,c,d⟩:=st
  exact ⟨o,e,fun v z=>by rw [d] at z;cases z⟩
 keep:=fun i h h' st k=>st.at fun o e=>k it (by simp) o e
 item:=by
  intro X hP hw hK hc i Kl s σ H E I hf st hg
  subst hP hw hK
  obtain ⟨xs,x,hq,hx⟩:=hg
  obtain ⟨its,rv,p,hz⟩:=I.tuple hq
  obtain ⟨u,hu,ru⟩:=rv.get hx
  obtain ⟨f0,f1,f2,f3,f4,f5⟩:=hf it (by simp)
  refine wpAny_pyNext_tuple_item st (show s.heap.IsTuple a its.toArray from p) (x:=u) (by simpa using hu) fun h' st' sb=>?_
  have I1:Inv X Kl σ H { s with heap:=h' }:=I.turned (t':=s.toks) (fun b o hb e=>(sb.2 b hb).trans e) f0 f1 f3 f4 f5
  obtain ⟨o,e,c,d⟩:=id st'
  exact ⟨u,rfl,sT (s:={ s with heap:=h' }) e c d (by decide) ⟨x,H,I1,ru,⟨rfl,fun ys hy=>by rw [I.tuple_inj hy hq];exact hx⟩,st',fun b hb=>(hf b hb).1⟩⟩
 done:=by
  intro X hP hw hK hc i Kl s σ H E I hf st hg
  subst hP hw hK
  obtain ⟨xs,hq,hx⟩:=hg
  obtain ⟨its,rv,p,hz⟩:=I.tuple hq
  obtain ⟨f0,f1,f2,f3,f4,f5⟩:=hf it (by simp)
  have hl:=rv.length
  exact wpAny_pyNext_tuple_end (I.ok.hd hc) st (show s.heap.IsTuple a its.toArray from p) (by simp;omega) fun h' eb=>⟨rfl,I.turned (t':=s.toks) (fun b o hb e=>eb b o hb e) f0 f1 f3 f4 f5⟩
 self:=fun _ _ _ _ _ st h=>wpAny_pyIter_tupleiter st h
theorem m8 {P:Program}{w:World}{K:PySem.W.Frag}{tg:Expr}(it:Addr)(lo:Int)(n:Nat):yM P w K tg (Itr lo n) [it] it (fun i h=>IsRangeIter h it (lo+(i:Nat)*1) ((n:Int) - (i:Nat)) 1) where
 mem:=by simp
 obj:=fun i h st b hb=>by
  have e:b=it:=by simpa using hb
  subst e
  exact ⟨_,st,fun v z=>by
   have z':Data.fields _=Data.cell v:=z
   cases z'⟩
 keep:=fun i h h' st k=>k it (by simp) _ st
 item:=by
  intro X hP hw hK hc i Kl s σ H E I hf st hg
  subst hP hw hK
  obtain ⟨f0,f1,f2,f3,f4,f5⟩:=hf it (by simp)
  have W:=Walks.range (prog:=X.prog) (w:=X.w) (I.ok.hd hc) it lo 1 n
  refine W.item i s _ _ hg st fun v h' tk hv st' kk=>?_
  obtain ⟨t,rfl⟩:=hv
  have I1:Inv X Kl σ H { s with heap:=h',toks:=tk }:=I.turned (fun b o hb e=>kk b o (by simpa using hb) e) f0 f1 f3 f4 f5
  refine ⟨_,rfl,sT (s:={ s with heap:=h',toks:=tk }) (n:="range_iterator") st' rfl rfl (by decide) ⟨.int (lo+i),H,I1,⟨t,?_⟩,⟨rfl,rfl⟩,st',fun b hb=>(hf b hb).1⟩⟩
  rw [Int.mul_one]
 done:=by
  intro X hP hw hK hc i Kl s σ H E I hf st hg
  subst hP hw hK
  obtain ⟨f0,f1,f2,f3,f4,f5⟩:=hf it (by simp)
  exact wpAny_pyNext_range_end (I.ok.hd hc) st (by have:n≤i:=hg;omega) fun h' eb=>⟨rfl,I.turned (t':=s.toks) (fun b o hb e=>eb b o hb e) f0 f1 f3 f4 f5⟩
 self:=fun _ _ _ _ _ st h=>wpAny_pyIter_rangeiter st h
section
variable {X:Cx} {tg:Expr}
def BE (K:PySem.W.Frag)(tl:TE):TI:=fun σ H R=>tl σ H fun x H1=>∃ a,x = .ref a∧(∃ xs,SqL K H1 a xs)∧R (Itl K a) H1
def Dy (K:PySem.W.Frag)(tl:TE):TI:=fun σ H R=>tl σ H fun x H1=>∃ a,x = .ref a∧(∃ xs,SqT K H1 a xs)∧R (Itt K a) H1
theorem hV {l:Expr}{tl:TE}(hl:PE X l tl):PI X tg l (BE X.K tl):=by
 intro Kl s σ H R I h
 refine thn (hl Kl s σ H _ I h) fun v s1 zq34=>?_
 obtain ⟨x,H1,I1,r1,q1⟩:=zq34
 obtain ⟨a,e,⟨xs,hq⟩,q⟩:=q1
 subst e
 cases r1
 obtain ⟨its,rv,p,hz⟩:=I1.list hq
 refine Hl p.isList ?_
 refine ⟨s1.heap.objs.size,[s1.heap.objs.size],_,_,H1,rfl,I1.kept (t':=s1.toks) fun b o e=>D_ _ e,oy a _,⟨_,Em _ rfl,rfl,rfl⟩,fun b hb=>?_,q⟩
 have e:b=s1.heap.objs.size:=by simpa using hb
 subst e
 exact I1.fpOk (Ei _) (I1.hok.fresh (Ei _))
theorem y8 {l:Expr}{tl:TE}(hl:PE X l tl):PI X tg l (Dy X.K tl):=by
 intro Kl s σ H R I h
 refine thn (hl Kl s σ H _ I h) fun v s1 zq35=>?_
 obtain ⟨x,H1,I1,r1,q1⟩:=zq35
 obtain ⟨a,e,⟨xs,hq⟩,q⟩:=q1
 subst e
 cases r1
 obtain ⟨its,rv,p,hz⟩:=I1.tuple hq
 refine Ik (show s1.heap.IsTuple a its.toArray from p) ?_
 refine ⟨s1.heap.objs.size,[s1.heap.objs.size],_,_,H1,rfl,I1.kept (t':=s1.toks) fun b o e=>D_ _ e,m7 a _,⟨_,Em _ rfl,rfl,rfl⟩,fun b hb=>?_,q⟩
 have e:b=s1.heap.objs.size:=by simpa using hb
 subst e
 exact I1.fpOk (Ei _) (I1.hok.fresh (Ei _))
theorem lC {Kl:List (Addr × Obj)}{σ:St}{H:Hp}{s:Shared}{R:It→Hp→Prop}{E:Value→Shared→Prop}{lo hi:Int}{t u v:Tok}{tk:Nat}(I:Inv X Kl σ H s)(h1:-(2 ^ 62)≤lo)(h2:lo < 2 ^ 62)(h3:-(2 ^ 62)≤hi)(h4:hi < 2 ^ 62)
  (q:R (Itr lo (hi - lo).toNat) H):wpAny (model X.prog X.w) X.A (pyIter (.ref s.heap.objs.size)) (PIE X Kl σ tg R) E { s with heap:=s.heap.push { cls:=.type "range",data:=.fields #[.int lo t,.int hi u,.int 1 v] },toks:=tk }:=by
 refine wpAny_pyIter_range (IsRange.new ..) (small_one h1 h2 h3 h4) ?_
 have I1:Inv X Kl σ H { s with heap:=s.heap.push { cls:=.type "range",data:=.fields #[.int lo t,.int hi u,.int 1 v] },toks:=tk }:=I.kept fun b o e=>D_ _ e
 refine ⟨(s.heap.push { cls:=.type "range",data:=.fields #[.int lo t,.int hi u,.int 1 v] }).objs.size,[(s.heap.push { cls:=.type "range",data:=.fields #[.int lo t,.int hi u,.int 1 v] }).objs.size],_,_,H,rfl,
  I1.kept (t':=tk) fun b o e=>D_ _ e,m8 _ lo (hi - lo).toNat,?_,fun b hb=>?_,q⟩
 ·have e1:lo+((0:Nat):Int)*1=lo:=by simp
  have e2:(((hi - lo).toNat:Nat):Int) - ((0:Nat):Int)=Builtin.Range.rangeSize lo hi 1:=by rw [rangeSize_one];split <;> omega
  show IsRangeIter _ _ (lo+((0:Nat):Int)*1) ((((hi - lo).toNat:Nat):Int) - ((0:Nat):Int)) 1
  rw [e1,e2]
  exact Em _ rfl
 ·have e:b=(s.heap.push { cls:=.type "range",data:=.fields #[.int lo t,.int hi u,.int 1 v] }).objs.size:=by simpa using hb
  subst e
  exact I1.fpOk (Ei _) (I1.hok.fresh (Ei _))
def BF (ta:TA):TI:=fun σ H R=>ta σ H fun vs H1=>∃ j:Int,vs=[.int j]∧-(2 ^ 62)≤j∧j < 2 ^ 62∧R (Itr 0 j.toNat) H1
def BG (ta:TA):TI:=fun σ H R=>ta σ H fun vs H1=>∃ i j:Int,vs=[.int i,.int j]∧(-(2 ^ 62)≤i∧i < 2 ^ 62∧-(2 ^ 62)≤j∧j < 2 ^ 62)∧R (Itr i (j - i).toNat) H1
theorem bL {a:Expr}{ta:TA}{p pos:Pos}(hg:Gl X "range")(hm:X.mg "range" = none)(ha:PA X [a] ta)(hs:starEach [a] X.env=[(false,eval a X.env)]:=by rfl):PI X tg (.Call (.Name "range" p) [a] [] pos) (BF ta):=by
 intro Kl s σ H R I h
 refine Call_ (fo I hg hm boot_range (FK (thn (ha pos Kl s σ H _ I h) fun us s1 zq36=>?_) hs rfl))
 obtain ⟨vs,H1,I1,r1,q1⟩:=zq36
 obtain ⟨j,e,q1,q2,q⟩:=q1
 subst e
 cases r1 with
 | cons r rr =>
  cases rr
  obtain ⟨t,rfl⟩:=r
  exact call_range_1 (lC I1 (by omega) (by omega) q1 q2 (by simpa using q))
theorem jg {a b:Expr}{ta:TA}{p pos:Pos}(hg:Gl X "range")(hm:X.mg "range" = none)(ha:PA X [a,b] ta)(hs:starEach [a,b] X.env=[(false,eval a X.env),(false,eval b X.env)]:=by rfl)(hs2:starEach [b] X.env=[(false,eval b X.env)]:=by rfl) :
  PI X tg (.Call (.Name "range" p) [a,b] [] pos) (BG ta):=by
 intro Kl s σ H R I h
 refine Call_ (fo I hg hm boot_range (FK (thn (ha pos Kl s σ H _ I h) fun us s1 zq37=>?_) (by rw [hs,hs2]) (by rw [hs2];rfl)))
 obtain ⟨vs,H1,I1,r1,q1⟩:=zq37
 obtain ⟨i,j,e,⟨q1,q2,q3,q4⟩,q⟩:=q1
 subst e
 cases r1 with
 | cons r rr =>
  cases rr with
  | cons r' rr =>
   cases rr
   obtain ⟨t,rfl⟩:=r
   obtain ⟨t',rfl⟩:=r'
   exact call_range_2 (lC I1 q1 q2 q3 q4 q)
def Dz (wi:TI)(g:TG)(tb:TS):TS:=fun D σ H=>wi σ H fun J H1=>∃ W:Nat→Nat→St→Hp→Prop,(∃ m,W 0 m σ H1)∧∀ i m σ H,W i m σ H →
 (J.stop i H∧D.nx σ H) ∨ (J.go i H∧∃ N:St→Hp→Prop,(∀ σ' H',N σ' H'→∃ m',m' < m∧W (i+1) m' σ' H')∧∀ x H',J.yld i H x H'→g x σ H' fun σ2 H2=>tb { D with nx:=N,ct:=N,bk:=D.nx } σ2 H2)
def jh (fp:List Addr)(h:Heap):List (Addr × Obj):=fp.filterMap fun b=>(h.get? b).map fun o=>(b,o)
theorem dh {fp:List Addr}{h:Heap}{b:Addr}{o:Obj}(hb:b∈fp)(e:h.get? b=some o):(b,o)∈jh fp h:=Il.mpr ⟨b,hb,by rw [e]; rfl⟩
theorem oz {fp:List Addr}{h:Heap}{p:Addr × Obj}(hp:p∈jh fp h):p.1∈fp∧h.get? p.1=some p.2:=by
 obtain ⟨b,hb,e⟩:=Il.mp hp
 cases q:h.get? b with
 | none=>rw [q] at e;cases e
 | some o =>
  rw [q] at e
  have e':(b,o)=p:=El e
  subst e'
  exact ⟨hb,q⟩
theorem Inv.pinned {Kl:List (Addr × Obj)}{σ:St}{H:Hp}{s:Shared}{fp:List Addr}(I:Inv X Kl σ H s)(hf:∀ b∈fp,n_ X Kl H b)(ho:∀ b∈fp,∃ o,s.heap.get? b=some o∧∀ v,o.data ≠ .cell v):Inv X (Kl++jh fp s.heap) σ H s :=
 I.pins_of fun p hp=>(Ew.mp hp).elim (fun z=>I.pin p (Ex _ z)) fun z=>by
  obtain ⟨hb,e⟩:=oz z
  obtain ⟨f0,f1,f2,_⟩:=hf p.1 hb
  obtain ⟨o,e',d⟩:=ho p.1 hb
  rw [e] at e';cases e'
  exact ⟨e,f0,f1,f2,d⟩
theorem Inv.unpinned {Kl pl:List (Addr × Obj)}{σ:St}{H:Hp}{s:Shared}(I:Inv X (Kl++pl) σ H s):Inv X Kl σ H s:=I.pins_of fun p hp=>I.pin p (Ex _ (ER _ hp))
theorem cM {iter:Expr}{body:List Stmt}{wi:TI}{g:TG}{tb:TS}{pos:Pos}(hp:PassesOwn (model X.prog X.w) X.A X.env X.xe)(hc:X.calm=true)(hi:PI X tg iter wi)(hg:PG X tg g)(hb:PSs X body tb)
  (hs:∀ x,foldedSetIterable iter X.env x=pure x:=by intro _;rfl):PS X (.For tg iter body [] pos) (Dz wi g tb):=by
 intro Kl s σ H D I h
 refine wpAny_For (thn (hi Kl s σ H _ I h) fun v s1 h1=>thn h1 fun itv s2 h2=>?_) hs
 obtain ⟨it,fp,tn,J,H2,e,I2,T,KR,f2,W,⟨m0,w0⟩,turn⟩:=h2
 subst e
 -- what stays true of the iterator's objects through the loop
 have stat:∀ {H':Hp},(∀ b∈fp,H' b=none)→∀ b∈fp,n_ X Kl H' b:=fun hn b hb=>⟨hn b hb,(f2 b hb).2⟩
 refine codeAny_forLoop_any (fun n s'=>∃ i σ' H',Inv X Kl σ' H' s'∧tn i s'.heap∧(∀ b∈fp,H' b=none)∧W i n σ' H') ?_ m0 ⟨0,σ,H2,I2,KR,fun b hb=>(f2 b hb).1,w0⟩
 rintro n s3 ⟨i,σ3,H3,I3,st3,fr3,w3⟩
 rcases turn i n σ3 H3 w3 with ⟨stop,qn⟩ | ⟨go,N,hN,step⟩
 ·refine Gr hp (thn (T.done X rfl rfl rfl hc i Kl s3 σ3 H3 X.xe I3 (stat fr3) st3 stop) fun r s4 zq38=>?_)
  obtain ⟨hr,I4⟩:=zq38
  subst hr
  exact HU ⟨σ3,H3,I4,qn⟩
 ·refine Gr hp (thn (T.item X rfl rfl rfl hc i Kl s3 σ3 H3 X.xe I3 (stat fr3) st3 go) fun r s4 zq39=>?_)
  obtain ⟨u,hr,h4⟩:=zq39
  subst hr
  refine Gr hp (thn h4 fun _ s5 zq40=>?_)
  obtain ⟨x,H5,I5,r5,y5,st5,fr5⟩:=zq40
  have I5':=I5.pinned (stat fr5) (T.obj _ _ st5)
  refine Gr hp (thn (hg _ s5 σ3 H5 x u _ I5' r5 (step x H5 y5)) fun _ s6 zq41=>?_)
  obtain ⟨σ6,H6,I6,q6⟩:=zq41
  refine Gr hp (thn (hb _ s6 σ6 H6 _ I6 q6) fun f s7 q7=>?_)
  have again:∀ {σ7:St} {H7:Hp},Inv X (Kl++jh fp s5.heap) σ7 H7 s7→N σ7 H7→∃ m,m < n∧∃ i σ' H',Inv X Kl σ' H' s7∧tn i s7.heap∧(∀ b∈fp,H' b=none)∧W i m σ' H':=fun {σ7 H7} I7 n7=>by
   obtain ⟨m',hm,w7⟩:=hN σ7 H7 n7
   refine ⟨m',hm,i+1,σ7,H7,I7.unpinned,T.keep _ _ _ st5 fun b hb o e=>(I7.pin (b,o) (Ex _ (Ex _ (dh hb e)))).1,fun b hb=>?_,w7⟩
   obtain ⟨o,e,d⟩:=T.obj _ _ st5 b hb
   exact (I7.pin (b,o) (Ex _ (Ex _ (dh hb e)))).2.1
  cases f with
  | next=>obtain ⟨σ7,H7,I7,n7⟩:=q7;exact again I7 n7
  | cont=>obtain ⟨σ7,H7,I7,n7⟩:=q7;exact again I7 n7
  | brk=>obtain ⟨σ7,H7,I7,q7⟩:=q7;exact ⟨σ7,H7,I7.unpinned,q7⟩
  | ret v=>obtain ⟨x7,σ7,H7,I7,r7,q7⟩:=q7;exact ⟨x7,σ7,H7,I7.unpinned,r7,q7⟩
end
theorem hZ {K:PySem.W.Frag}{a:Addr}{xs:List V}{g:TG}{tb:TS}{D:j4}{σ:St}{H:Hp}(Pv:Nat→St→Hp→Prop)(h0:Pv 0 σ H)(hl:∀ i σ H,i≤xs.length→Pv i σ H→SqL K H a xs)
  (hs:∀ i x σ H,xs[i]? = some x→Pv i σ H→g x σ H fun σ2 H2=>tb { D with nx:=Pv (i+1),ct:=Pv (i+1),bk:=D.nx } σ2 H2) (hd:∀ σ H,Pv xs.length σ H→D.nx σ H) :
  ∃ W:Nat→Nat→St→Hp→Prop,(∃ m,W 0 m σ H)∧∀ i m σ H,W i m σ H →
   ((Itl K a).stop i H∧D.nx σ H) ∨ ((Itl K a).go i H∧∃ N:St→Hp→Prop,(∀ σ' H',N σ' H'→∃ m',m' < m∧W (i+1) m' σ' H')∧∀ x H',(Itl K a).yld i H x H'→g x σ H' fun σ2 H2=>tb { D with nx:=N,ct:=N,bk:=D.nx } σ2 H2):=by
 refine ⟨fun i m σ H=>m=xs.length - i∧i≤xs.length∧Pv i σ H,⟨xs.length,by simp,E1 _,h0⟩,?_⟩
 rintro i m σ H ⟨rfl,hi,p⟩
 have q:=hl i σ H hi p
 by_cases Kq:i < xs.length
 ·refine .inr ⟨⟨xs,xs[i],q,by simp [Kq]⟩,Pv (i+1),fun σ' H' p'=>⟨xs.length - (i+1),by omega,rfl,Kq,p'⟩,fun x H' y=>?_⟩
  obtain ⟨e,y⟩:=y
  subst e
  exact hs i x σ _ (y xs q) p
 ·have e:i=xs.length:=by omega
  subst e
  exact .inl ⟨⟨xs,q,Ei _⟩,hd σ H p⟩
theorem v8 {K:PySem.W.Frag}{a:Addr}{xs:List V}{g:TG}{tb:TS}{D:j4}{σ:St}{H:Hp}(Pv:Nat→St→Hp→Prop)(h0:Pv 0 σ H)(hl:∀ i σ H,i≤xs.length→Pv i σ H→SqT K H a xs)
  (hs:∀ i x σ H,xs[i]? = some x→Pv i σ H→g x σ H fun σ2 H2=>tb { D with nx:=Pv (i+1),ct:=Pv (i+1),bk:=D.nx } σ2 H2) (hd:∀ σ H,Pv xs.length σ H→D.nx σ H) :
  ∃ W:Nat→Nat→St→Hp→Prop,(∃ m,W 0 m σ H)∧∀ i m σ H,W i m σ H →
   ((Itt K a).stop i H∧D.nx σ H) ∨ ((Itt K a).go i H∧∃ N:St→Hp→Prop,(∀ σ' H',N σ' H'→∃ m',m' < m∧W (i+1) m' σ' H')∧∀ x H',(Itt K a).yld i H x H'→g x σ H' fun σ2 H2=>tb { D with nx:=N,ct:=N,bk:=D.nx } σ2 H2):=by
 refine ⟨fun i m σ H=>m=xs.length - i∧i≤xs.length∧Pv i σ H,⟨xs.length,by simp,E1 _,h0⟩,?_⟩
 rintro i m σ H ⟨rfl,hi,p⟩
 have q:=hl i σ H hi p
 by_cases Kq:i < xs.length
 ·refine .inr ⟨⟨xs,xs[i],q,by simp [Kq]⟩,Pv (i+1),fun σ' H' p'=>⟨xs.length - (i+1),by omega,rfl,Kq,p'⟩,fun x H' y=>?_⟩
  obtain ⟨e,y⟩:=y
  subst e
  exact hs i x σ _ (y xs q) p
 ·have e:i=xs.length:=by omega
  subst e
  exact .inl ⟨⟨xs,q,Ei _⟩,hd σ H p⟩
theorem cf {lo:Int}{n:Nat}{g:TG}{tb:TS}{D:j4}{σ:St}{H:Hp}(Pv:Nat→St→Hp→Prop)(h0:Pv 0 σ H)
  (hs:∀ i σ H,i < n→Pv i σ H→g (.int (lo+i)) σ H fun σ2 H2=>tb { D with nx:=Pv (i+1),ct:=Pv (i+1),bk:=D.nx } σ2 H2) (hd:∀ σ H,Pv n σ H→D.nx σ H) :
  ∃ W:Nat→Nat→St→Hp→Prop,(∃ m,W 0 m σ H)∧∀ i m σ H,W i m σ H →
   ((Itr lo n).stop i H∧D.nx σ H) ∨ ((Itr lo n).go i H∧∃ N:St→Hp→Prop,(∀ σ' H',N σ' H'→∃ m',m' < m∧W (i+1) m' σ' H')∧∀ x H',(Itr lo n).yld i H x H'→g x σ H' fun σ2 H2=>tb { D with nx:=N,ct:=N,bk:=D.nx } σ2 H2):=by
 refine ⟨fun i m σ H=>m=n - i∧i≤n∧Pv i σ H,⟨n,by simp,E1 _,h0⟩,?_⟩
 rintro i m σ H ⟨rfl,hi,p⟩
 by_cases Kq:i < n
 ·refine .inr ⟨Kq,Pv (i+1),fun σ' H' p'=>⟨n - (i+1),by omega,rfl,Kq,p'⟩,fun x H' y=>?_⟩
  obtain ⟨e,y⟩:=y
  subst e y
  exact hs i σ _ Kq p
 ·have e:i=n:=by omega
  subst e
  exact .inl ⟨Ei _,hd σ H p⟩
abbrev R2:=V→V→Hp→VK→Prop
def OpR (X:Cx)(f:Value→Value→Sem Value)(r:R2):Prop :=
 ∀ (Kl:List (Addr × Obj)) (s:Shared) (σ:St) (H:Hp) (x y:V) (v u:Value) (Q:VK),Inv X Kl σ H s→bq x v→bq y u→r x y H Q →
  wpAny (model X.prog X.w) X.A (f v u) (EP X Kl σ Q) X.xe s
def UnR (X:Cx)(f:Value→Sem Value)(r:V→Hp→VK→Prop):Prop :=
 ∀ (Kl:List (Addr × Obj)) (s:Shared) (σ:St) (H:Hp) (x:V) (v:Value) (Q:VK),Inv X Kl σ H s→bq x v→r x H Q →
  wpAny (model X.prog X.w) X.A (f v) (EP X Kl σ Q) X.xe s
def bZ (X:Cx)(f:Value)(r:List V→Hp→VK→Prop):Prop :=
 ∀ (Kl:List (Addr × Obj)) (s:Shared) (σ:St) (H:Hp) (xs:List V) (us:List Value) (Q:VK),Inv X Kl σ H s→ba xs us→r xs H Q →
  wpAny (model X.prog X.w) X.A (call f us) (EP X Kl σ Q) X.xe s
def DA (X:Cx)(r:V→Hp→(Bool→Hp→Prop)→Prop):Prop :=
 ∀ (Kl:List (Addr × Obj)) (s:Shared) (σ:St) (H:Hp) (x:V) (v:Value) (Q:Bool→Hp→Prop),Inv X Kl σ H s→bq x v→r x H Q →
  wpAny (model X.prog X.w) X.A (truthy v) (TP X Kl σ Q) X.xe s
def y9 (r:R2)(Q:VK)(x:V):V→Hp→Prop:=fun y H2=>r x y H2 Q
def y_ (r:R2)(tb:TE)(σ:St)(Q:VK):V→Hp→Prop:=fun x H1=>tb σ H1 (y9 r Q x)
def tOp (r:R2)(ta tb:TE):TE:=fun σ H Q=>ta σ H (y_ r tb σ Q)
def zc (r:V→Hp→VK→Prop)(Q:VK):V→Hp→Prop:=fun x H1=>r x H1 Q
def tUn (r:V→Hp→VK→Prop)(ta:TE):TE:=fun σ H Q=>ta σ H (zc r Q)
inductive rI (C:Int→Int→Prop)(g:Int→Int→V)(x:V)(y:V)(H:Hp)(Q:VK):Prop
 | mk:∀ i j,(x = .int i)→(y = .int j)→(C i j)→(Q (g i j) H)→rI C g x y H Q
inductive rI0 (g:Int→Int→V)(x:V)(y:V)(H:Hp)(Q:VK):Prop
 | mk:∀ i j,(x = .int i)→(y = .int j)→(Q (g i j) H)→rI0 g x y H Q
inductive rU (g:Int→V)(x:V)(H:Hp)(Q:VK):Prop
 | mk:∀ i,(x = .int i)→(Q (g i) H)→rU g x H Q
section
variable {X:Cx} {a b c:Expr} {ta tb tc:TE} {pos:Pos}
theorem BH (ha:PE X a ta)(hb:PE X b tb){Kl:List (Addr × Obj)}{s:Shared}{σ:St}{H:Hp}{R:V→V→Hp→Prop}(I:Inv X Kl σ H s)
  (h:ta σ H fun x H1=>tb σ H1 fun y H2=>R x y H2) {Q:Value→Shared→Prop} {f:Value→Value→Sem Value}
  (hf:∀ v u s2 x y H2,Inv X Kl σ H2 s2→bq x v→bq y u→R x y H2→wpAny (model X.prog X.w) X.A (f v u) Q X.xe s2) :
  wpAny (model X.prog X.w) X.A (eval a X.env) (fun v s₁=>wpAny (model X.prog X.w) X.A (eval b X.env) (fun u s₂=>wpAny (model X.prog X.w) X.A (f v u) Q X.xe s₂) X.xe s₁) X.xe s:=by
 refine thn (ha Kl s σ H _ I h) fun v s1 zq42=>?_
 obtain ⟨x,H1,I1,r1,q1⟩:=zq42
 refine thn (hb Kl s1 σ H1 _ I1 q1) fun u s2 zq43=>?_
 obtain ⟨y,H2,I2,r2,q2⟩:=zq43
 exact hf v u s2 x y H2 I2 r1 r2 q2
theorem aD {op:Operator}{r:R2}(ho:OpR X (binaryOp op) r)(ha:PE X a ta)(hb:PE X b tb):PE X (.BinOp a op b pos) (tOp r ta tb):=by
 intro Kl s σ H Q I h
 exact wpAny_BinOp (BH ha hb I h fun v u s2 x y H2 I2 rx ry q=>ho Kl s2 σ H2 x y v u Q I2 rx ry q)
theorem j9 {op:UnaryOp}{r:V→Hp→VK→Prop}(ho:UnR X (unaryOp op) r)(ha:PE X a ta):PE X (.UnaryOp op a pos) (tUn r ta):=by
 intro Kl s σ H Q I h
 exact UnaryOp_ (thn (ha Kl s σ H _ I h) fun v s1 zq44=>(by obtain ⟨x,H1,I1,r1,q1⟩:=zq44;exact ho Kl s1 σ H1 x v Q I1 r1 q1))
theorem opI {f:Value→Value→Sem Value}{C:Int→Int→Prop}{g:Int→Int→Int}
  (rule:∀ (i j:Int) (t u:Tok) (s:Shared) (Q:Value→Shared→Prop) (E:Value→Shared→Prop),C i j→Q (.int (g i j) s.toks) { s with toks:=s.toks+1 }→wpAny (model X.prog X.w) X.A (f (.int i t) (.int j u)) Q E s) :
  OpR X f (rI C fun i j=>.int (g i j)):=by
 intro Kl s σ H x y v u Q I rx ry h
 obtain ⟨i,j,rfl,rfl,hc,q⟩:=h
 obtain ⟨t,rfl⟩:=rx
 obtain ⟨t',rfl⟩:=ry
 exact rule i j t t' s _ _ hc ⟨.int (g i j),H,I.tok _,⟨_,rfl⟩,q⟩
theorem C5 {f:Value→Value→Sem Value}{g:Int→Int→Int}
  (rule:∀ (i j:Int) (t u:Tok) (s:Shared) (Q:Value→Shared→Prop) (E:Value→Shared→Prop),Q (.int (g i j) s.toks) { s with toks:=s.toks+1 }→wpAny (model X.prog X.w) X.A (f (.int i t) (.int j u)) Q E s) :
  OpR X f (rI0 fun i j=>.int (g i j)):=by
 intro Kl s σ H x y v u Q I rx ry h
 obtain ⟨i,j,rfl,rfl,q⟩:=h
 obtain ⟨t,rfl⟩:=rx
 obtain ⟨t',rfl⟩:=ry
 exact rule i j t t' s _ _ ⟨.int (g i j),H,I.tok _,⟨_,rfl⟩,q⟩
theorem BI {f:Value→Value→Sem Value}{g:Int→Int→Bool}
  (rule:∀ (i j:Int) (t u:Tok) (s:Shared) (Q:Value→Shared→Prop) (E:Value→Shared→Prop),Q (.bool (g i j)) s→wpAny (model X.prog X.w) X.A (f (.int i t) (.int j u)) Q E s) :
  OpR X f (rI0 fun i j=>.bl (g i j)):=by
 intro Kl s σ H x y v u Q I rx ry h
 obtain ⟨i,j,rfl,rfl,q⟩:=h
 obtain ⟨t,rfl⟩:=rx
 obtain ⟨t',rfl⟩:=ry
 exact rule i j t t' s _ _ ⟨.bl (g i j),H,I,rfl,q⟩
def DB (i j:Int):Prop:=0 < j∧j < 1073741824
def DC (i j:Int):Prop:=0≤j∧j≤1000000∧i.natAbs < 2 ^ 64
def Bn (i j:Int):Prop:=(-(2 ^ 64) < i∧i < 2 ^ 64) ∨ (-(2 ^ 64) < j∧j < 2 ^ 64)
theorem Bn.ok {i j:Int}(h:Bn i j):IntMulOk i j:=by
 rcases h with ⟨h1,h2⟩ | ⟨h1,h2⟩
 ·exact .of_left (intBits_le_64 h1 h2)
 ·exact .of_right (intBits_le_64 h1 h2)
theorem bt:OpR X (binaryOp .Add) (rI0 fun i j=>.int (i+j)):=C5 fun _ _ _ _ _ _ _ q=>add_int q
theorem cg:OpR X (binaryOp .Sub) (rI0 fun i j=>.int (i - j)):=C5 fun _ _ _ _ _ _ _ q=>sub_int q
theorem cU:OpR X (binaryOp .Mult) (rI Bn fun i j=>.int (i*j)):=opI fun _ _ _ _ _ _ _ hc q=>mul_int q hc.ok
theorem cx:OpR X (binaryOp .FloorDiv) (rI DB fun i j=>.int (i / j)):=opI fun i j _ _ _ _ _ hc q=>by
 have h1:(0:Int) < j:=hc.1
 have h2:j < 1073741824:=hc.2
 exact floordiv_int (by omega) (by rw [Int.fdiv_eq_ediv_of_nonneg i (by omega)];exact q) (.inl (PyProof.noPylong_small (by omega)))
theorem cV:OpR X (binaryOp .Mod) (rI (fun _ j=>0 < j) fun i j=>.int (i % j)):=opI fun i j _ _ _ _ _ hc q=>by
 have h1:(0:Int) < j:=hc
 exact mod_int' (by omega) (by rw [Int.fmod_eq_emod_of_nonneg i (by omega)];exact q)
theorem zd:OpR X (binaryOp .Pow) (rI DC fun i j=>.int (i ^ j.toNat)):=opI fun _ _ _ _ _ _ _ hc q=>pow_int_small hc.1 hc.2.1 hc.2.2 q
theorem unI {f:Value→Sem Value}{g:Int→Int}
  (rule:∀ (i:Int) (t:Tok) (s:Shared) (Q:Value→Shared→Prop) (E:Value→Shared→Prop),Q (.int (g i) s.toks) { s with toks:=s.toks+1 }→wpAny (model X.prog X.w) X.A (f (.int i t)) Q E s) :
  UnR X f (rU fun i=>.int (g i)):=by
 intro Kl s σ H x v Q I rx h
 obtain ⟨i,rfl,q⟩:=h
 obtain ⟨t,rfl⟩:=rx
 exact rule i t s _ _ ⟨.int (g i),H,I.tok _,⟨_,rfl⟩,q⟩
theorem ft:UnR X (unaryOp .USub) (rU fun i=>.int (-i)):=unI fun _ _ _ _ _ q=>neg_int q
end
def C6:V→V→Bool
 | .non,.non=>true | .non,.int _=>true | .int _,.non=>true | .non,.bl _=>true | .bl _,.non=>true | .non,.str _=>true | .str _,.non=>true
 | .int _,.int _=>true | .bl _,.bl _=>true | .str _,.str _=>true | .byt _,.byt _=>true
 | .int _,.str _=>true | .str _,.int _=>true | .bl _,.str _=>true | .str _,.bl _=>true
 | _,_=>false
def rEq:R2:=fun x y H Q=>C6 x y=true∧Q (.bl (decide (x=y))) H
def rNe:R2:=fun x y H Q=>C6 x y=true∧Q (.bl (!decide (x=y))) H
theorem oA {i j:Int}:decide (V.int i=V.int j)=(i == j):=by
 rw [EA]
 simp
theorem u_ {i j:Bool}:decide (V.bl i=V.bl j)=(i == j):=by
 rw [EA]
 simp
theorem oB {i j:Str}:decide (V.str i=V.str j)=(i == j):=by
 rw [EA]
 simp
theorem oD {i j:Array UInt8}:decide (V.byt i=V.byt j)=(i.toList == j.toList):=by
 rw [EA]
 cases i
 cases j
 simp
section
variable {X:Cx} {a b c:Expr} {ta tb tc:TE} {pos:Pos}
theorem aT {Kl:List (Addr × Obj)}{σ:St}{H:Hp}{s:Shared}{Q:VK}{k k':Bool}(I:Inv X Kl σ H s)(q:Q (.bl k) H)(e:k=k'):EP X Kl σ Q (.bool k') s:=by
 subst e
 exact ⟨.bl k,H,I,rfl,q⟩
theorem dJ:OpR X (compareOp .Eq) rEq:=by
 intro Kl s σ H x y v u Q I rx ry h
 obtain ⟨hs,q⟩:=h
 cases x with
 | non =>
  cases rx
  cases y with
  | non=>cases ry;exact PySem.EqNone.eq_none_none (aT I q (by simp))
  | bl j=>cases ry;exact PySem.EqNone.eq_none_bool (aT I q (by simp))
  | int j=>obtain ⟨t',rfl⟩:=ry;exact PySem.EqNone.eq_none_int (aT I q (by simp))
  | str j=>obtain ⟨t',rfl⟩:=ry;exact PySem.EqNone.eq_none_str (aT I q (by simp))
  | _=>exact absurd (show false=true from hs) EH
 | bl i =>
  cases rx
  cases y with
  | non=>cases ry;exact PySem.EqNone.eq_bool_none (aT I q (by simp))
  | bl j=>cases ry;exact eq_bool (aT I q u_)
  | str j=>obtain ⟨t',rfl⟩:=ry;exact PySem.EqMixed.eq_bool_str (aT I q (by simp))
  | _=>exact absurd (show false=true from hs) EH
 | int i =>
  obtain ⟨t,rfl⟩:=rx
  cases y with
  | non=>cases ry;exact PySem.EqNone.eq_int_none (aT I q (by simp))
  | int j=>obtain ⟨t',rfl⟩:=ry;exact eq_int (aT I q oA)
  | str j=>obtain ⟨t',rfl⟩:=ry;exact PySem.EqMixed.eq_int_str (aT I q (by simp))
  | _=>exact absurd (show false=true from hs) EH
 | str i =>
  obtain ⟨t,rfl⟩:=rx
  cases y with
  | non=>cases ry;exact PySem.EqNone.eq_str_none (aT I q (by simp))
  | bl j=>cases ry;exact PySem.EqMixed.eq_str_bool (aT I q (by simp))
  | int j=>obtain ⟨t',rfl⟩:=ry;exact PySem.EqMixed.eq_str_int (aT I q (by simp))
  | str j=>obtain ⟨t',rfl⟩:=ry;exact eq_str (aT I q oB)
  | _=>exact absurd (show false=true from hs) EH
 | byt i =>
  obtain ⟨t,rfl⟩:=rx
  cases y with
  | byt j=>obtain ⟨t',rfl⟩:=ry;exact PySem.W.eq_bytes (aT I q oD)
  | _=>exact absurd (show false=true from hs) EH
 | _=>cases y <;> exact absurd (show false=true from hs) EH
theorem h_:OpR X (compareOp .NotEq) rNe:=by
 intro Kl s σ H x y v u Q I rx ry h
 obtain ⟨hs,q⟩:=h
 cases x with
 | non =>
  cases rx
  cases y with
  | non=>cases ry;exact PySem.EqNone.ne_none_none (aT I q (by simp))
  | bl j=>cases ry;exact PySem.EqNone.ne_none_bool (aT I q (by simp))
  | int j=>obtain ⟨t',rfl⟩:=ry;exact PySem.EqNone.ne_none_int (aT I q (by simp))
  | str j=>obtain ⟨t',rfl⟩:=ry;exact PySem.EqNone.ne_none_str (aT I q (by simp))
  | _=>exact absurd (show false=true from hs) EH
 | bl i =>
  cases rx
  cases y with
  | non=>cases ry;exact PySem.EqNone.ne_bool_none (aT I q (by simp))
  | bl j=>cases ry;exact ne_bool (aT I q (Ey not u_))
  | str j=>obtain ⟨t',rfl⟩:=ry;exact PySem.EqMixed.ne_bool_str (aT I q (by simp))
  | _=>exact absurd (show false=true from hs) EH
 | int i =>
  obtain ⟨t,rfl⟩:=rx
  cases y with
  | non=>cases ry;exact PySem.EqNone.ne_int_none (aT I q (by simp))
  | int j=>obtain ⟨t',rfl⟩:=ry;exact ne_int (aT I q (Ey not oA))
  | str j=>obtain ⟨t',rfl⟩:=ry;exact PySem.EqMixed.ne_int_str (aT I q (by simp))
  | _=>exact absurd (show false=true from hs) EH
 | str i =>
  obtain ⟨t,rfl⟩:=rx
  cases y with
  | non=>cases ry;exact PySem.EqNone.ne_str_none (aT I q (by simp))
  | bl j=>cases ry;exact PySem.EqMixed.ne_str_bool (aT I q (by simp))
  | int j=>obtain ⟨t',rfl⟩:=ry;exact PySem.EqMixed.ne_str_int (aT I q (by simp))
  | str j=>obtain ⟨t',rfl⟩:=ry;exact ne_str (aT I q (Ey not oB))
  | _=>exact absurd (show false=true from hs) EH
 | byt i =>
  obtain ⟨t,rfl⟩:=rx
  cases y with
  | byt j=>obtain ⟨t',rfl⟩:=ry;exact PySem.W.ne_bytes (aT I q (Ey not oD))
  | _=>exact absurd (show false=true from hs) EH
 | _=>cases y <;> exact absurd (show false=true from hs) EH
theorem dw:OpR X (compareOp .Lt) (rI0 fun i j=>.bl (decide (i < j))):=BI fun _ _ _ _ _ _ _ q=>lt_int q
theorem ze:OpR X (compareOp .LtE) (rI0 fun i j=>.bl (decide (i≤j))):=BI fun _ _ _ _ _ _ _ q=>le_int q
theorem BJ:OpR X (compareOp .Gt) (rI0 fun i j=>.bl (decide (j < i))):=BI fun _ _ _ _ _ _ _ q=>gt_int q
inductive fv  (x:V)(y:V)(H:Hp)(Q:VK):Prop
 | mk:∀ i j,(x = .str i)→(y = .str j)→(Q (.bl (!(Builtin.Str.occurrences j i 0 j.length 1).isEmpty)) H)→fv x y H Q
theorem oE:OpR X (compareOp .In) fv:=by
 intro Kl s σ H x y v u Q I rx ry h
 obtain ⟨i,j,rfl,rfl,q⟩:=h
 obtain ⟨t,rfl⟩:=rx
 obtain ⟨t',rfl⟩:=ry
 exact in_str (aT I q rfl)
theorem aJ (b:Expr){op:CmpOp}(h:op ≠ .In:=by decide)(h2:op ≠ .NotIn:=by decide):behindInMarks op b=false:=by
 have e1:(op == CmpOp.In)=false:=by cases op <;> first | rfl | exact absurd rfl h
 have e2:(op == CmpOp.NotIn)=false:=by cases op <;> first | rfl | exact absurd rfl h2
 cases b <;> simp [behindInMarks,e1,e2]
theorem bz {op:CmpOp}{r:R2}(ho:OpR X (compareOp op) r)(ha:PE X a ta)(hb:PE X b tb)(hm:behindInMarks op b=false):PE X (.Compare a [op] [b] pos) (tOp r ta tb):=by
 intro Kl s σ H Q I h
 exact wpAny_Compare1 (BH ha hb I h fun v u s2 x y H2 I2 rx ry q=>ho Kl s2 σ H2 x y v u Q I2 rx ry q) hm
def sU (Q:(Bool→Hp→Prop)):V→Hp→Prop:=fun x H'=>IsB x H' Q
def v9 (t:TE):TT:=fun σ H Q=>t σ H (sU Q)
theorem aK {op:CmpOp}{r:R2}(ho:OpR X (compareOp op) r)(ha:PE X a ta)(hb:PE X b tb)(hm:behindInMarks op b=false):PT X (.Compare a [op] [b] pos) (v9 (tOp r ta tb)):=by
 intro Kl s σ H Q I h
 refine wpAny_isTrue_Compare1 (thn (ha Kl s σ H _ I h) fun v s1 ⟨x,H1,I1,r1,q1⟩=>thn (hb Kl s1 σ H1 _ I1 q1) fun u s2 ⟨y,H2,I2,r2,q2⟩ =>
  thn (ho Kl s2 σ H2 x y v u _ I2 r1 r2 q2) fun c s3 ⟨z,H3,I3,r3,k,e,q3⟩=>?_) hm
 subst e
 cases r3
 exact Fk ⟨H3,I3,q3⟩
def va (r r':R2)(ta tb tc:TE):TE:=fun σ H Q=>ta σ H fun x H1=>tb σ H1 fun y H2=>r x y H2 fun z H3=>∃ k,z = .bl k ∧
 (if k=true then tc σ H3 fun w' H4=>r' y w' H4 Q else Q (.bl false) H3)
theorem fc {op op':CmpOp}{r r':R2}(ho:OpR X (compareOp op) r)(ho':OpR X (compareOp op') r')(ha:PE X a ta)(hb:PE X b tb)(hc:PE X c tc)
  (hm:lastMarks [op,op'] [b,c]=false:=by with_unfolding_all rfl):PE X (.Compare a [op,op'] [b,c] pos) (va r r' ta tb tc):=by
 intro Kl s σ H Q I h
 refine Compare_chain (thn (ha Kl s σ H _ I h) fun v s1 ⟨x,H1,I1,r1,q1⟩=>chain_link (thn (hb Kl s1 σ H1 _ I1 q1) fun u s2 ⟨y,H2,I2,r2,q2⟩ =>
  thn (ho Kl s2 σ H2 x y v u _ I2 r1 r2 q2) fun d s3 ⟨z,H3,I3,r3,k,e,q3⟩=>?_)) hm
 subst e
 cases r3
 refine Fk ?_
 cases k with
 | false=>exact ite_ff ⟨.bl false,H3,I3,rfl,q3⟩
 | true=>exact ite_tt (chain_last (thn (hc Kl s3 σ H3 _ I3 q3) fun w' s4 zq45=>(by obtain ⟨z',H4,I4,r4,q4⟩:=zq45;exact ho' Kl s4 σ H4 y z' u w' Q I4 r2 r4 q4)))
theorem sV {op op':CmpOp}{r r':R2}(ho:OpR X (compareOp op) r)(ho':OpR X (compareOp op') r')(ha:PE X a ta)(hb:PE X b tb)(hc:PE X c tc)
  (hm:lastMarks [op,op'] [b,c]=false:=by with_unfolding_all rfl):PT X (.Compare a [op,op'] [b,c] pos) (v9 (va r r' ta tb tc)):=by
 intro Kl s σ H Q I h
 refine isTrue_chain (thn (ha Kl s σ H _ I h) fun v s1 ⟨x,H1,I1,r1,q1⟩=>test_link (thn (hb Kl s1 σ H1 _ I1 q1) fun u s2 ⟨y,H2,I2,r2,q2⟩ =>
  thn (ho Kl s2 σ H2 x y v u _ I2 r1 r2 q2) fun d s3 ⟨z,H3,I3,r3,k,e,q3⟩=>?_)) hm
 subst e
 cases r3
 refine Fk ?_
 cases k with
 | false =>
  obtain ⟨k',e',q'⟩:=q3
  cases e'
  exact ite_ff ⟨H3,I3,q'⟩
 | true =>
  refine ite_tt (test_last (thn (hc Kl s3 σ H3 _ I3 q3) fun w' s4 ⟨z',H4,I4,r4,q4⟩=>thn (ho' Kl s4 σ H4 y z' u w' _ I4 r2 r4 q4) fun d' s5 zq46=>?_))
  obtain ⟨z2,H5,I5,r5,k2,e2,q5⟩:=zq46
  subst e2
  cases r5
  exact Fk ⟨H5,I5,q5⟩
def DE (K:PySem.W.Frag)(x:V)(H:Hp)(k:Bool):Prop :=
 match x with
 | .non=>k=false
 | .bl b=>k=b
 | .int i=>k=(i != 0)
 | .str y=>y.length≤sizeLine∧k=((y.length:Int) != 0)
 | .byt y=>y.size≤sizeLine∧k=((y.size:Int) != 0)
 | .ref p=>(∃ xs,SqL K H p xs∧k=!xs.isEmpty) ∨ (∃ xs,SqT K H p xs∧k=!xs.isEmpty) ∨ ∃ Km,H p=some (.dK Km)∧k=!Km.isEmpty
 | _=>False
theorem m9 {κ:Type}{Km:List (κ × V)}{vs:List (κ × Value)}(r:KV Km vs):(!vs.isEmpty)=!Km.isEmpty:=by
 cases r <;> rfl
theorem gD {xs:List V}{its:List Value}(r:ba xs its):(!its.toArray.isEmpty)=!xs.isEmpty:=by
 cases r <;> simp
theorem fw:(sizeLine:Nat) < 2 ^ 63:=by rw [Hm]; decide
inductive v_ (K:PySem.W.Frag)(x:V)(H:Hp)(Q:Bool→Hp→Prop):Prop
 | mk:∀ k,(DE K x H k)→(Q k H)→v_ K x H Q
theorem vb:DA X (v_ X.K):=by
 intro Kl s σ H x v Q I rx h
 obtain ⟨k,e,q⟩:=h
 have hl:=fw
 have hs:sizeLine=16777216:=Hm
 cases x with
 | non =>
  cases rx
  have e':k=false:=e
  subst e'
  exact truthy_none ⟨H,I,q⟩
 | bl b =>
  cases rx
  have e':k=b:=e
  subst e'
  exact Fk ⟨H,I,q⟩
 | int i =>
  obtain ⟨t,rfl⟩:=rx
  have e':k=(i != 0):=e
  subst e'
  exact PySem.P.truthy_int ⟨H,I,q⟩
 | str y =>
  obtain ⟨t,rfl⟩:=rx
  obtain ⟨hy,e'⟩:y.length≤sizeLine∧k=((y.length:Int) != 0):=e
  subst e'
  exact PySem.P.truthy_str (by omega) ⟨H,I.tok _,q⟩
 | byt y =>
  obtain ⟨t,rfl⟩:=rx
  obtain ⟨hy,e'⟩:y.size≤sizeLine∧k=((y.size:Int) != 0):=e
  subst e'
  exact PySem.W.truthy_bytes (by omega) ⟨H,I.tok _,q⟩
 | ref p =>
  cases rx
  have e':(∃ xs,SqL X.K H p xs∧k=!xs.isEmpty) ∨ (∃ xs,SqT X.K H p xs∧k=!xs.isEmpty) ∨ ∃ Km,H p=some (.dK Km)∧k=!Km.isEmpty:=e
  rcases e' with ⟨xs,hx,e'⟩ | ⟨xs,hx,e'⟩ | ⟨Km,hx,e'⟩
  ·subst e'
   obtain ⟨its,r,pl,hz⟩:=I.list hx
   have hlen:=r.length
   exact wpAny_truthy_list pl.isList (by simp only [EC];omega) ⟨H,I.tok _,by rw [gD r];exact q⟩
  ·subst e'
   obtain ⟨its,r,pl,hz⟩:=I.tuple hx
   have hlen:=r.length
   exact truthy_tuple pl (by simp only [EC];omega) ⟨H,I.tok _,by rw [gD r];exact q⟩
  ·subst e'
   obtain ⟨hz,hS,vs,r,m⟩:Km.length≤sizeLine∧(p == sysModules)=false∧∃ vs,KV Km vs∧s.heap.DictOf (bb X.prog X.w) p vs:=I.hok p _ hx
   have hlen:Km.length=vs.length:=IL r
   exact wpAny_truthy_dict hS m (by omega) ⟨H,I.tok _,by rw [m9 r];exact q⟩
 | _=>exact (show False from e).elim
def wa (K:PySem.W.Frag)(Q:(Bool→Hp→Prop)):V→Hp→Prop:=fun x H'=>v_ K x H' Q
def DF (K:PySem.W.Frag)(ta:TE):TT:=fun σ H Q=>ta σ H (wa K Q)
theorem bU (ha:PE X a ta)(he:∀ whole,isTrue a X.env whole=(do let v ← whole; standAt a.pos; holding [v] (truthy v))) :
  PT X a (DF X.K ta):=by
 intro Kl s σ H Q I h
 exact isTrue_plain (thn (ha Kl s σ H _ I h) fun v s1 zq47=>(by obtain ⟨x,H1,I1,r1,q1⟩:=zq47;exact vb Kl s1 σ H1 x v Q I1 r1 q1)) (he _)
inductive eS  (x:V)(y:V)(H:Hp)(Q:VK):Prop
 | mk:∀ i j,(x = .str i)→(y = .str j)→(i.length+j.length≤sizeLine)→(Q (.str (i++j)) H)→eS x y H Q
theorem aY:OpR X (binaryOp .Add) eS:=by
 intro Kl s σ H x y v u Q I rx ry h
 obtain ⟨i,j,rfl,rfl,hz,q⟩:=h
 obtain ⟨t,rfl⟩:=rx
 obtain ⟨t',rfl⟩:=ry
 exact add_str (fun t' tk=>⟨.str (i++j),H,I.tok _,⟨_,rfl⟩,q⟩) hz
theorem cj {x:V}{us:List Value}(r:ba [x] us):∃ u,us=[u]∧bq x u:=by
 cases r with
 | cons r1 r2=>cases r2;exact ⟨_,rfl,r1⟩
theorem m_ {x y:V}{us:List Value}(r:ba [x,y] us):∃ u w',us=[u,w']∧bq x u∧bq y w':=by
 cases r with
 | cons r1 r2 =>
  cases r2 with
  | cons r3 r4=>cases r4;exact ⟨_,_,rfl,r1,r3⟩
inductive gE  (xs:List V)(H:Hp)(Q:VK):Prop
 | mk:∀ i,(xs=[.int i])→(Q (.int (if i < 0 then -i else i)) H)→gE xs H Q
theorem sW:bZ X (.builtin "abs") gE:=by
 intro Kl s σ H xs us Q I r h
 obtain ⟨i,rfl,q⟩:=h
 obtain ⟨u,rfl,t,rfl⟩:=cj r
 exact call_abs_int fun u tk=>⟨.int (if i < 0 then -i else i),H,I.tok _,⟨_,rfl⟩,q⟩
inductive fx  (xs:List V)(H:Hp)(Q:VK):Prop
 | mk:∀ i j,(xs=[.int i,.int j])→(Q (.int (if j > i then j else i)) H)→fx xs H Q
theorem oF (hc:X.calm=true):bZ X (.builtin "max") fx:=by
 intro Kl s σ H xs us Q I r h
 obtain ⟨i,j,rfl,q⟩:=h
 obtain ⟨u,w',rfl,⟨t,rfl⟩,⟨t',rfl⟩⟩:=m_ r
 refine max_two_ints (I.ok.hd hc) fun h' tk k=>⟨_,H,I.kept k,?_,q⟩
 by_cases hj:j > i
 ·rw [if_pos hj,if_pos hj];exact ⟨_,rfl⟩
 ·rw [if_neg hj,if_neg hj];exact ⟨_,rfl⟩
theorem oG:bZ X (.type "int") (fun xs H Q=>(∃ i,xs=[.int i]∧Q (.int i) H) ∨ ∃ k,xs=[.bl k]∧Q (.int (if k then 1 else 0)) H):=by
 intro Kl s σ H xs us Q I r h
 rcases h with ⟨i,rfl,q⟩ | ⟨k,rfl,q⟩
 ·obtain ⟨u,rfl,t,rfl⟩:=cj r
  exact call_int_int ⟨.int i,H,I,⟨_,rfl⟩,q⟩
 ·obtain ⟨u,rfl,r1⟩:=cj r
  cases r1
  exact call_int_bool ⟨.int (if k then 1 else 0),H,I.tok _,⟨_,rfl⟩,q⟩
end
structure BK (h:Heap) (x dx C:Addr) (mA:Str→Option Value):Prop where
 obj:h.get? x=some (PySem.W.instObj C dx)
 ns:h.Ns1 dx mA
 ne:dx≠x
theorem oH {h:Heap}{dx:Addr}{mA:Str→Option Value}(n:h.Ns1 dx mA):∃ od,h.get? dx=some od∧∀ name,PySem.W.lookIn name od=some (mA name):=by
 obtain ⟨o,es,ep,ho,hd,hk,_,hm⟩:=n
 refine ⟨o,ho,fun name=>?_⟩
 have e:=hm name
 unfold nsFind findBy at e
 rw [← Array.find?_toList] at e
 unfold PySem.W.lookIn
 rw [hd]
 dsimp only
 split
 ·rename_i y q
  rw [q] at e
  exact Ey some e
 ·rename_i q
  rw [q] at e
  have a:es.toList.any (·.refKey)=false:=by
   rw [GQ]
   intro y hy
   obtain ⟨z,t,hkey⟩:=hk y (Array.mem_toList_iff.mp hy)
   simp [DictEntry.refKey,hkey]
  have a':¬ es.toList.any (·.refKey)=true:=by rw [a];exact EH
  rw [if_neg a']
  exact Ey some e
theorem BK.look {h:Heap}{x dx C:Addr}{mA:Str→Option Value}(I:BK h x dx C mA):∃ od,PySem.W.InstAt h x (PySem.W.instObj C dx) C (some od)∧∀ name,PySem.W.lookIn name od=some (mA name) :=
 let ⟨od,ho,hl⟩:=oH I.ns
 ⟨od,⟨I.obj,rfl,rfl,ho⟩,hl⟩
section
variable {prog:Program} {w:World} {A:Around} {E:Value→Shared→Prop} {s:Shared} {K:PySem.W.Frag} {x dx C f:Addr} {mA:Str→Option Value} {name:Str} {v:Value}
end
theorem oo.some_of {v:V}{o:Option Value}(r:oo (some v) o):∃ u,o=some u∧bq v u:=by
 cases o with
 | none=>exact (show False from r).elim
 | some u=>exact ⟨u,rfl,r⟩
section
variable {P:Program} {w:World} {H H':Hp} {h h':Heap} {a C dx:Addr} {fs fs':List (Str × V)}
theorem wb (hok:HOk P w H h)(e:H a=some (.ins C dx fs)):∃ mA,BK h a dx C mA∧(∀ f,oo (fs.lookup f) (mA f))∧PySem.Within mA (fs.map (·.1))∧fs.length≤1000∧H dx=some (.own a):=by
 obtain ⟨d,z,ne,ob,mA,n,r,q⟩:=(show br P w H h a (.ins C dx fs) from hok a _ e)
 exact ⟨mA,⟨ob,n,ne⟩,r,q,z,d⟩
end
structure Cls (K:PySem.W.Frag) (C:Addr):Prop where
 pg:PySem.W.plainGet K C Str.empty=true
 hd:PySem.W.hasDictIn K C=true
 po:PySem.W.plainOver K C=true
 sa:PySem.W.findIn K (.ref C) "__setattr__" = some (some (.builtin "object.__setattr__"))
theorem Cls.get {K:PySem.W.Frag}{C:Addr}(c:Cls K C)(f:Str):PySem.W.plainGet K C f=true:=c.pg
section
variable {X:Cx} {Kl:List (Addr × Obj)} {σ:St} {H:Hp} {s:Shared} {a C dx:Addr} {fs:List (Str × V)} {f:Str} {v:V} {A:Around} {E:Value→Shared→Prop}
end
section
variable {X:Cx} {o e value:Expr} {f:Str} {pos pos' tpos:Pos} {ta tv:TE}
end
section
variable {X:Cx} {Kl:List (Addr × Obj)} {σ:St} {H:Hp} {s:Shared} {A:Around} {E:Value→Shared→Prop} {Q:Value→Shared→Prop} {c:Value} {b:Bool}
inductive lD (K:PySem.W.Frag)(H:Hp):V→Value→Prop where
 | non:lD K H .non (.type "NoneType")
 | bl (x:Bool):lD K H (.bl x) (.type "bool")
 | int (i:Int):lD K H (.int i) (.type "int")
 | str (x:Str):lD K H (.str x) (.type "str")
 | flt (x:UInt64):lD K H (.flt x) (.type "float")
 | lst {a:Addr} {xs:List V} (e:H a=some (.lst xs)):lD K H (.ref a) (.type "list")
 | frz {a:Addr} {o:Obj} {xs:List V} (e:H a=some (.frz o (.lst xs))):lD K H (.ref a) (.type "list")
 | tup {a:Addr} {xs:List V} (e:H a=some (.tup xs)):lD K H (.ref a) (.type "tuple")
 | dK {a:Addr} {Km:List (Key × V)} (e:H a=some (.dK Km)):lD K H (.ref a) (.type "dict")
 | dT {a:Addr} {Km:List (List Key × V)} (e:H a=some (.dT Km)):lD K H (.ref a) (.type "dict")
 | ins {a C dx:Addr} {fs:List (Str × V)} (e:H a=some (.ins C dx fs)) (cl:Cls K C) (ha:PySem.W.findIn K (.ref C) "__class__" = some (some (.builtin "object.__class__")))
   (hn:PySem.W.specialIn K (.builtin "object.__class__") "__get__" = some (some (.builtin "getset_descriptor.__get__"))) (htk:PySem.W.takesIn K (.builtin "object.__class__")=some true)
   (hm:PySem.W.mroIn K C (.type "object")=some true):lD K H (.ref a) (.ref C)
theorem oI {x:V}{u t:Value}(I:Inv X Kl σ H s)(rx:bq x u)(ty:lD X.K H x t)(e:PySem.W.kitOne X.K t c=some b)(h:∀ tk,Q (.bool b) { s with toks:=tk }) :
  wpAny (model X.prog X.w) A (call (.builtin "isinstance") [u,c]) Q E s:=by
 cases ty with
 | non=>cases (show u=Value.none from rx);exact FB PySem.W.kitx_none I.kIn True.intro e (fun z=>nomatch z) h
 | bl y=>cases (show u=Value.bool y from rx);exact FB PySem.W.kitx_bool I.kIn True.intro e (fun z=>nomatch z) h
 | int i=>obtain ⟨t,q⟩:=(show ∃ t,u=Value.int i t from rx);cases q;exact FB PySem.W.kitx_int I.kIn True.intro e (fun z=>nomatch z) h
 | str y=>obtain ⟨t,q⟩:=(show ∃ t,u=Value.str y t from rx);cases q;exact FB PySem.W.kitx_str I.kIn True.intro e (fun z=>nomatch z) h
 | flt y=>obtain ⟨t,q⟩:=(show ∃ t,u=Value.float y t from rx);cases q;exact FB PySem.W.kitx_float I.kIn True.intro e (fun z=>nomatch z) h
 | @lst a xs ea =>
  cases (show u=Value.ref a from rx)
  obtain ⟨_,_,n,_,h1⟩:=(show br X.prog X.w H s.heap a (.lst xs) from I.hok a _ ea)
  exact FB PySem.W.kitx_list I.kIn ⟨_,h1,rfl⟩ e (fun z=>nomatch z) h
 | @frz a ob xs ea =>
  cases (show u=Value.ref a from rx)
  obtain ⟨_,_,_,n,_,h1⟩:=(show br X.prog X.w H s.heap a (.frz ob (.lst xs)) from I.hok a _ ea)
  exact FB PySem.W.kitx_list I.kIn ⟨_,h1,rfl⟩ e (fun z=>nomatch z) h
 | @tup a xs ea =>
  cases (show u=Value.ref a from rx)
  obtain ⟨_,_,_,p,_⟩:=(show br X.prog X.w H s.heap a (.tup xs) from I.hok a _ ea)
  obtain ⟨o,h1,h2,_⟩:=p
  exact FB PySem.W.kitx_tuple I.kIn ⟨o,h1,h2⟩ e (fun z=>nomatch z) h
 | @dK a Km ea =>
  cases (show u=Value.ref a from rx)
  obtain ⟨_,_,vs,_,p⟩:=(show br X.prog X.w H s.heap a (.dK Km) from I.hok a _ ea)
  obtain ⟨o,es,ep,h1,h2,_⟩:=p
  exact FB PySem.W.kitx_dict I.kIn ⟨o,h1,h2.1⟩ e (fun z=>nomatch z) h
 | @dT a Km ea =>
  cases (show u=Value.ref a from rx)
  obtain ⟨_,_,xs,_,o,es,ep,h1,h2,_⟩:=(show br X.prog X.w H s.heap a (.dT Km) from I.hok a _ ea)
  exact FB PySem.W.kitx_dict I.kIn ⟨o,h1,h2.1⟩ e (fun z=>nomatch z) h
 | @ins a C dx fs ea cl ha hn htk hm =>
  cases (show u=Value.ref a from rx)
  obtain ⟨mA,O,_⟩:=wb I.hok ea
  obtain ⟨od,J,_⟩:=O.look
  exact FB (PySem.W.kitx_own (cl.get _) cl.hd ha hn htk hm) I.kIn J e (fun z=>nomatch z) h
end
structure gF (k:Nat) (A:Around):Prop where
 hd:A.handled=none
 dp:A.depth+3*k+5 < recursionLimit
 un:A.units+16*k+200 < cLine
 gd:A.guards=some []
theorem gF.mono {j k:Nat}{A:Around}(r:gF k A)(h:j≤k):gF j A:=⟨r.hd,by have:=r.dp; omega,by have:=r.un; omega,r.gd⟩
theorem gF.deeper {k:Nat}{A:Around}(r:gF (k+1) A)(env:Env):gF k (A.deeper env) :=
 ⟨r.hd,by have:=r.dp;show A.depth+1+3*k+5 < _;omega,by have:=r.un;show A.units+3+16*k+200 < _;omega,r.gd⟩
theorem gF.depth {k:Nat}{A:Around}(r:gF k A):A.depth < recursionLimit:=by have:=r.dp; omega
theorem gF.units {k:Nat}{A:Around}(r:gF k A):A.units+64 < cLine:=by have:=r.un; omega
def DG:TA:=fun _ H Q=>Q [] H
def sX (Q:(List V→Hp→Prop))(x:V):List V→Hp→Prop:=fun xs H2=>Q (x::xs) H2
def sY (tr:TA)(σ:St)(Q:(List V→Hp→Prop)):V→Hp→Prop:=fun x H1=>tr σ H1 (sX Q x)
def zf (ta:TE)(tr:TA):TA:=fun σ H Q=>ta σ H (sY tr σ Q)
section
variable {X:Cx} {e:Expr} {es:List Expr} {te:TE} {t:TA} {pos:Pos}
theorem af:PA X [] DG:=fun _ _ _ _ H Q I h=>Calls.spliced_nil ⟨[],H,I,.nil,h⟩
theorem aa (ha:PE X e te)(hr:PA X es t)(hs:starEach (e::es) X.env=(false,eval e X.env)::starEach es X.env:=by rfl):PA X (e::es) (zf te t):=by
 intro pos Kl s σ H Q I h
 rw [hs]
 show wpAny _ _ (spliced ((false,eval e X.env)::backTo pos (starEach es X.env))) _ _ s
 refine Calls.spliced_cons (thn (ha Kl s σ H _ I h) fun u s1 zq54=>?_)
 obtain ⟨x,H1,I1,r1,q1⟩:=zq54
 exact thn (hr pos Kl s1 σ H1 _ I1 q1) fun us s2 zq55=>(by obtain ⟨xs,H2,I2,r2,q2⟩:=zq55;exact ⟨x::xs,H2,I2,.cons r1 r2,q2⟩)
def wc (Q:VK):List V→Hp→Prop:=fun xs H1=>xs.length≤sizeLine∧∀ p,H1 p=none→Q (.ref p) (upd H1 p (.tup xs))
def DH (t:TA):TE:=fun σ H Q=>t σ H (wc Q)
def wd (Q:VK):List V→Hp→Prop:=fun xs H1=>xs.length≤sizeLine∧∀ p,H1 p=none→Q (.ref p) (upd H1 p (.lst xs))
def DJ (t:TA):TE:=fun σ H Q=>t σ H (wd Q)
theorem bu {x1}(h:PA X es t):PE X (.Tuple es x1 pos) (DH t):=by
 intro Kl s σ H Q I hq
 refine wpAny_Tuple_spliced (thn (h pos Kl s σ H _ I hq) fun us s1 ⟨xs,H1,I1,r,z,q⟩=>⟨by rw [← r.length];exact z,?_⟩)
 have hf:H1 s1.heap.objs.size=none:=I1.hok.fresh (Ei _)
 refine ⟨.ref s1.heap.objs.size,upd H1 s1.heap.objs.size (.tup xs),I1.laid (t':=s1.toks) (fun b u e=>D_ _ e) (Ei _) ?_,rfl,q _ hf⟩
 exact ⟨z,us,r,⟨_,Em _ rfl,rfl,_,rfl⟩,.new _ _ rfl⟩
theorem bM (h:PA X es t):PE X (.List es pos) (DJ t):=by
 intro Kl s σ H Q I hq
 refine wpAny_List_spliced (thn (h pos Kl s σ H _ I hq) fun us s1 ⟨xs,H1,I1,r,z,q⟩=>⟨by rw [← r.length];exact z,?_⟩)
 have hf:H1 s1.heap.objs.size=none:=I1.hok.fresh (Ei _)
 refine ⟨.ref s1.heap.objs.size,upd H1 s1.heap.objs.size (.lst xs),I1.laid (t':=s1.toks) (fun b u e=>D_ _ e) (Ei _) ?_,rfl,q _ hf⟩
 exact ⟨z,us,0,r,Em _ rfl⟩
end
abbrev Sp:=List V→Hp→VK→XK→Prop
abbrev CXT:=List Env→Hp→Shared→XK→Value→Shared→Prop
structure Bo (P:Program) (w:World) (K:PySem.W.Frag) (mg:Str→Option Value) (base:Heap) (A:Around) (outer:List Env) (s:Shared) (H:Hp):Prop where
 frames:A.frames=some outer
 mod:Mod K mg base
 bs:∀ b o,base.get? b=some o→s.heap.get? b=some o∧H b=none
 bsz:base.objs.size≤s.heap.objs.size
 funs:s.heap.FunFrames base outer
 frf:∀ b∈frs outer,H b=none
 hok:HOk P w H s.heap
 bare:AllBare s.gens
def CE (outer:List Env)(P:Program)(w:World)(H:Hp)(s:Shared)(Q:VK)(u:Value)(s':Shared):Prop :=
 ∃ v H',s'.os=s.os∧AllBare s'.gens∧Un (frs outer) [] H H' s.heap s'.heap∧HOk P w H' s'.heap∧bq v u∧Q v H'
def CR (CX:CXT)(outer:List Env)(P:Program)(w:World)(H:Hp)(s:Shared)(Q:VK)(E:XK)(r:Result)(s':Shared):Prop :=
 match r with
 | .ok (.ret u)=>CE outer P w H s Q u s'
 | .ok _=>False
 | .error e=>CX outer H s E e s'
structure nc (P:Program) (w:World) (K:PySem.W.Frag) (mg:Str→Option Value) (base:Heap) (CX:CXT) (k:Nat) (f:Addr) (fd:FuncData) (ps:List Str) (sp:Sp):Prop where
 len:∀ vs H Q E,sp vs H Q E→vs.length=ps.length
 run:∀ (A:Around) (outer:List Env) (s:Shared) (H:Hp) (args:Args) (us:List Value) (vs:List V) (Q:VK) (E:XK),gF k A→Bo P w K mg base A outer s H→BindsTo s fd args (ps.zip us)→ba vs us→sp vs H Q E →
  codeAny (model P w) A (.call (.ref f) args) (CR CX outer P w H s Q E) s
theorem nc.imp {P:Program}{w:World}{K:PySem.W.Frag}{mg:Str→Option Value}{base:Heap}{CX:CXT}{k:Nat}{f:Addr}{fd:FuncData}{ps:List Str}{sp sp':Sp}(F:nc P w K mg base CX k f fd ps sp)
  (h:∀ vs H Q E,sp' vs H Q E→sp vs H Q E):nc P w K mg base CX k f fd ps sp' :=
 ⟨fun vs H Q E q=>F.len vs H Q E (h _ _ _ _ q),fun A outer s H args us vs Q E hr he hb hv hs=>F.run A outer s H args us vs Q E hr he hb hv (h _ _ _ _ hs)⟩
section
variable {X:Cx} {Kl:List (Addr × Obj)} {σ:St} {H:Hp} {s s':Shared}
theorem Inv.env0 (I:Inv X Kl σ H s):Bo X.prog X.w X.K X.mg X.base X.A X.stack s H :=
 ⟨I.ok.frames,I.ok.mod,I.bs,Ft I.ok.bsz I.sz,I.stack,I.stkFree,I.hok,I.bare⟩
theorem Inv.after {Q:VK}{u:Value}(I:Inv X Kl σ H s)(h:CE X.stack X.prog X.w H s Q u s'):EP X Kl σ Q u s':=by
 obtain ⟨v,H',os,bare,un,hok,r,q⟩:=h
 obtain ⟨hh,g,d,t,os'⟩:=s'
 obtain rfl:os'=s.os:=os
 exact ⟨v,H',I.call (h':=hh) (g':=g) (d':=d) (t':=t) (ch:=[]) un hok bare (fun b z=>absurd z (by simp)),r,q⟩
end
def sZ (sp:Sp)(dvs:List V)(E:XK)(Q:VK):List V→Hp→Prop:=fun vs H1=>sp (vs++dvs) H1 Q E
def zg (sp:Sp)(dvs:List V)(E:XK)(t:TA):TE:=fun σ H Q=>t σ H (sZ sp dvs E Q)
def ng (K:PySem.W.Frag)(fd:FuncData)(ps:List Str)(ds:List Value):Prop :=
 ∀ (s:Shared) (us:List Value),K.In s.heap→(us++ds).length=ps.length→BindsTo s fd ⟨us,[]⟩ (ps.zip (us++ds))
theorem ng.all {K:PySem.W.Frag}{fd:FuncData}{ps:List Str}(h:∀ us:List Value,us.length=ps.length→bindArgs fd ⟨us,[]⟩=pure (ps.zip us)):ng K fd ps []:=fun s us _ hl=>by
 rw [FC] at hl ⊢
 exact .of_eq (h us hl)
def oJ (CX:CXT)(X:Cx)(E:XK):Prop:=∀ (Kl:List (Addr × Obj)) (σ:St) (H:Hp) (s:Shared) (e:Value) (s':Shared),Inv X Kl σ H s→CX X.stack H s E e s'→X.xe e s'
section
variable {X:Cx} {CX:CXT} {k:Nat} {f C:Addr} {fd:FuncData} {ps:List Str} {sp:Sp} {dvs:List V} {ds:List Value} {E:XK} {x m:Str} {p pos apos:Pos} {e o:Expr} {es:List Expr} {ta:TE} {t:TA}
theorem zh {Kl:List (Addr × Obj)}{σ:St}{H:Hp}{s:Shared}{Q:VK}{us:List Value}{vs:List V}(F:nc X.prog X.w X.K X.mg X.base CX k f fd ps sp)(hr:gF k X.A)(hb:ng X.K fd ps ds)(hd:ba dvs ds)(hx:oJ CX X E)
  (I:Inv X Kl σ H s) (r:ba vs us) (h:sp (vs++dvs) H Q E):wpAny (model X.prog X.w) X.A (call (.ref f) us) (EP X Kl σ Q) X.xe s:=by
 have r2:ba (vs++dvs) (us++ds):=r.append hd
 have hl:(us++ds).length=ps.length:=by rw [← r2.length];exact F.len _ _ _ _ h
 refine wpAny_call (Im (F.run X.A X.stack s H ⟨us,[]⟩ (us++ds) (vs++dvs) Q E hr I.env0 (hb s us I.kIn hl) r2 h) fun r s' hq=>?_)
 cases r with
 | error e=>exact hx Kl σ H s e s' I hq
 | ok fl =>
  cases fl with
  | ret u=>exact I.after hq
  | next=>exact False.elim hq
  | brk=>exact False.elim hq
  | cont=>exact False.elim hq
theorem we (F:nc X.prog X.w X.K X.mg X.base CX k f fd ps sp)(hr:gF k X.A)(hg:Gl X x)(hm:X.mg x=some (.ref f))(hk:PySem.W.keepIn X.K (.ref f)=true)(hb:ng X.K fd ps ds)(hd:ba dvs ds)(hx:oJ CX X E)
  (ha:PA X (e::es) t) (hdb:(x == ("__debug__":Str))=false:=by decide) (he:starEach (e::es) X.env=(false,eval e X.env)::starEach es X.env:=by rfl) (hpl:(backTo pos (starEach es X.env)).any (·.1)=false:=by rfl) :
  PE X (.Call (.Name x p) (e::es) [] pos) (zg sp dvs E t):=by
 intro Kl s σ H Q I h
 refine Io (g_ I hg hm ?_ hdb)
 refine PySem.W.callWith_K (h₀:=X.base) I.ok.mod.kin hk (thn (ha pos Kl s σ H _ I h) fun us s1 ⟨vs,H1,I1,r,q⟩=>⟨I1.kIn,?_⟩) he hpl
 exact zh F hr hb hd hx I1 r q
end
section
variable {X:Cx} {CX:CXT} {k:Nat} {f C:Addr} {fd:FuncData} {ps ks:List Str} {sp:Sp} {E:XK} {x m:Str} {p pos apos kpos:Pos} {e o:Expr} {es:List Expr} {kws:List Keyword} {te ta:TE} {t tk:TA} {nm:Option Str}
variable {g:List Value→List Value→List Value} {gV:List V→List V→List V}
end
structure ay (N P:List Str) (sc:Scope):Prop where
 kind:sc.kind = .function
 co:sc.isCoroutine=false
 gen:sc.isGenerator=false
 nd:N.Nodup
 pre:N.take P.length=P
 par:∀ x∈P,sc.names.lookup x=some .local ∨ sc.names.lookup x=some .cell
 nofree:∀ y∈sc.names,y.2 ≠ .free
theorem ji {kindOf:Str→Option NameKind}{x:Str}:∀ {binds:List (Str × Value)} {m:Str→Option Value},(∀ v,(x,v)∉binds)→bindL kindOf binds m x=m x
 | [],_,_=>rfl
 | (n,v)::r,m,h=>by
  unfold bindL
  rw [ji fun w hw=>h w (Eg _ hw)]
  split
  ·have:x≠n:=by rintro rfl;exact h v Er
   simp [this]
  ·rfl
theorem jj {kindOf:Str→Option NameKind}{x:Str}:∀ {binds:List (Str × Value)} {m:Str→Option Value},(∀ v,(x,v)∉binds)→bindC kindOf binds m x=m x
 | [],_,_=>rfl
 | (n,v)::r,m,h=>by
  unfold bindC
  rw [jj fun w hw=>h w (Eg _ hw)]
  split
  ·rfl
  ·have:x≠n:=by rintro rfl;exact h v Er
   simp [this]
theorem jk {kindOf:Str→Option NameKind}{x:Str}{v:Value}:∀ {P:List Str} {vs:List Value} {i:Nat} {m:Str→Option Value},P.Nodup→P[i]? = some x→vs[i]? = some v→kindOf x=some .local →
  bindL kindOf (P.zip vs) m x=some v
 | [],_,_,_,_,h,_,_=>by simp at h
 | _::_,[],_,_,_,_,h,_=>by simp at h
 | p::P,w::vs,0,m,nd,h1,h2,hk=>by
  simp at h1 h2;subst h1;subst h2
  show bindL kindOf ((p,w)::P.zip vs) m p=_
  unfold bindL
  rw [ji fun v hv=>(EG.mp nd).1 (Jk hv).1,if_pos hk]
  simp
 | p::P,w::vs,i+1,m,nd,h1,h2,hk=>by
  show bindL kindOf ((p,w)::P.zip vs) m x=_
  unfold bindL
  exact jk (i:=i) (EG.mp nd).2 (by simpa using h1) (by simpa using h2) hk
theorem jl {kindOf:Str→Option NameKind}{x:Str}{v:Value}:∀ {P:List Str} {vs:List Value} {i:Nat} {m:Str→Option Value},P.Nodup→P[i]? = some x→vs[i]? = some v→kindOf x≠some .local →
  bindC kindOf (P.zip vs) m x=some v
 | [],_,_,_,_,h,_,_=>by simp at h
 | _::_,[],_,_,_,_,h,_=>by simp at h
 | p::P,w::vs,0,m,nd,h1,h2,hk=>by
  simp at h1 h2;subst h1;subst h2
  show bindC kindOf ((p,w)::P.zip vs) m p=_
  unfold bindC
  rw [jj fun v hv=>(EG.mp nd).1 (Jk hv).1,if_neg hk]
  simp
 | p::P,w::vs,i+1,m,nd,h1,h2,hk=>by
  show bindC kindOf ((p,w)::P.zip vs) m x=_
  unfold bindC
  exact jl (i:=i) (EG.mp nd).2 (by simpa using h1) (by simpa using h2) hk
def start (N:List Str)(vs:List V):St:=vs.map some++List.replicate (N.length - vs.length) none
def wg (CX:CXT)(P:Program)(w:World)(K:PySem.W.Frag)(mg:Str→Option Value)(base:Heap)(N:List Str)(qual:Str)(scope:Scope)(f:Addr)(cd:Value)(A:Around)(outer:List Env)(s:Shared)(H:Hp)(E:XK):Cx where
 prog:=P
 w:=w
 K:=K
 mg:=mg
 base:=base
 A:=A.deeper (envOfC qual scope s.heap.objs.size f cd)
 N:=N
 s₀:=s
 H₀:=H
 env:=envOfC qual scope s.heap.objs.size f cd
 outer:=outer
 stack:=envOfC qual scope s.heap.objs.size f cd::outer
 ex:=[]
 calm:=true
 fn:=fun _=>true
 pn:=[]
 xe:=fun e s'=>wpAny (model P w) (A.deeper (envOfC qual scope s.heap.objs.size f cd)) (leaving (envOfC qual scope s.heap.objs.size f cd) e) (fun _ s''=>CX outer H s E e s'') (fun e' s''=>CX outer H s E e' s'') s'
theorem lF {sc:Scope}{n:Nat}{x:Str}(h:sc.names.lookup x=some .cell):∃ c,(cellsFrom n sc.names []).lookup x=some c:=by
 have q:=Jc sc.names n [] (.inl h)
 exact Gu.mp q
theorem oK {CX:CXT}{P:Program}{w:World}{K:PySem.W.Frag}{mg:Str→Option Value}{base:Heap}{N ps:List Str}{qual:Str}{scope:Scope}{f:Addr}{cd:Value}{A:Around}{outer:List Env}{s s1:Shared}{H:Hp}{E:XK}{us:List Value}{vs:List V}
  (S:ay N ps scope) (hd:A.handled=none) (e0:Bo P w K mg base A outer s H) (hl:vs.length=ps.length) (r:ba vs us)
  (x:InCallC s s.heap.objs.size (bindL (envOfC qual scope s.heap.objs.size f cd).kindOf (ps.zip us) fun _=>none) (cellsFrom (s.heap.objs.size+1) scope.names []) (bindC (envOfC qual scope s.heap.objs.size f cd).kindOf (ps.zip us) fun _=>none) s1) :
  Inv (wg CX P w K mg base N qual scope f cd A outer s H E) [] (start N vs) H s1:=by
 have hpl:ps.length≤N.length:=by have:=Ey List.length S.pre;rw [Es] at this;omega
 obtain ⟨h1,tk,rfl,hk⟩:=x.done
 have noA:∀ b:Addr,b∉(wg CX P w K mg base N qual scope f cd A outer s H E).ex:=fun b z=>absurd (show b∈([]:List Addr) from z) (by simp)
 refine ⟨⟨e0.mod,S.kind,rfl,rfl,Ei _,fun y z c h1 h2=>?_,fun y hy=>?_,fun y c _ h=>?_,fun _=>hd,Around.frames_deeper e0.frames,.inr ⟨rfl,rfl⟩,fun b z=>absurd z (noA b),e0.bs,e0.bsz,fun b _ _=>noA b,fun b z=>absurd z (noA b),e0.funs,e0.frf⟩,
  rfl,e0.bare,Un.kept hk,⟨_,x.toInCall.ns,fun i y v h1 h2 h3=>?_⟩,fun y c h=>⟨_,x.cell y c h⟩,e0.hok.fresh (Ei _),fun y c h=>?_,fun p hp=>absurd (show p∈([]:List (Addr × Obj)) from hp) (by simp),e0.hok.kept hk,?_⟩
 ·exact name_of_addr x.apart (FL h1) (FL h2)
 ·have hy:scope.names.lookup y=some .cell ∨ scope.names.lookup y=some .free:=hy
  rcases hy with hy | hy
  ·exact lF hy
  ·exact absurd rfl (S.nofree _ (FL hy))
 ·exact Hq (x.above y c (FL h))
 ·have hi:i < vs.length:=by
   unfold start at h2
   by_cases hi:i < vs.length
   ·exact hi
   ·rw [ED (by simpa using hi)] at h2
    rw [List.getElem?_replicate] at h2
    split at h2 <;> cases h2
  have ha:vs[i]? = some v:=by
   unfold start at h2
   rw [E3 (by simpa using hi),Ff] at h2
   cases e:vs[i]? with
   | none=>rw [e] at h2;cases h2
   | some a=>rw [e] at h2;cases h2;rfl
  obtain ⟨u,hu,rv⟩:=r.get ha
  have hp:ps[i]? = some y:=by
   rw [← S.pre,E6 (by omega)];exact h1
  have ndP:ps.Nodup:=by rw [← S.pre];exact S.nd.sublist (List.take_sublist _ _)
  refine ⟨u,rv,?_⟩
  rcases S.par y (EY hp) with k | k
  ·exact .inl ⟨k,jk ndP hp hu k⟩
  ·obtain ⟨c,e⟩:=lF (n:=s.heap.objs.size+1) k
   refine .inr ⟨.inl k,c,e,?_⟩
   have q:=x.cell y c e
   rw [jl ndP hp hu (by show scope.names.lookup y≠_;rw [k];decide)] at q
   exact q
 ·exact e0.hok.fresh (Hq (x.above y c (FL h)))
 ·unfold start
  show _=N.length
  rw [Eb,Ej,List.length_replicate]
  omega
theorem BL {CX:CXT}{P:Program}{w:World}{K:PySem.W.Frag}{mg:Str→Option Value}{base:Heap}{k:Nat}{f:Addr}{name qual:Str}{params:Arguments}{body:List Stmt}{scope:Scope}{dV kV doc pm Ks ct oc:Value}{an od:Option Addr}
  {osl:Array (Option Value)} {N ps:List Str} {sp:Sp} (lk:K.lookup f=some ⟨oc,od,.func (PySem.W.fnOf name qual params body scope dV kV doc pm an Ks ct),osl⟩) (hcd:PySem.W.codeIn K Ks qual=true) (S:ay N ps scope)
  (len:∀ vs H Q E,sp vs H Q E→vs.length=ps.length)
  (hbody:∀ (A:Around) (outer:List Env) (s:Shared) (H:Hp) (vs:List V) (Q:VK) (E:XK),gF k (A.deeper (envOfC qual scope s.heap.objs.size f Ks))→sp vs H Q E →
   ∃ t,PSs (wg CX P w K mg base N qual scope f Ks A outer s H E) body t∧t { nx:=fun _ H'=>Q .non H',rt:=Q } (start N vs) H) :
  nc P w K mg base CX (k+1) f (PySem.W.fnOf name qual params body scope dV kV doc pm an Ks ct) ps sp:=by
 refine ⟨len,fun A outer s H args us vs Q E hr e0 hb r hsp=>?_⟩
 have hl:=len _ _ _ _ hsp
 have KX:K.In s.heap:=e0.mod.kin.keeps fun b o e=>(e0.bs b o e).1
 have lim:s.heap.NoLimit:=e0.mod.nolimit.keeps fun b o e=>(e0.bs b o e).1
 have hkind:∀ y∈ps.zip us,scope.names.lookup y.1=some .local ∨ (scope.names.lookup y.1=some .cell∧((cellsFrom (s.heap.objs.size+1) scope.names []).lookup y.1).isSome=true):=fun ⟨n,v⟩ hy=>by
  rcases S.par n (Jk hy).1 with q | q
  ·exact .inl q
  ·exact .inr ⟨q,Jc _ _ _ (.inl q)⟩
 refine codeAny_call_function hr.depth (KX _ _ lk) rfl S.co S.gen rfl (PySem.W.codeRec_of KX hcd) (hb _ _ _ _ ?_)
 refine wpAny_newFunctionEnv_cells S.kind hkind fun env he s1 x=>?_
 subst he
 refine ⟨lim.keeps x.toInCall.keep,codeAny_func ?_⟩
 obtain ⟨t,ht,hq⟩:=hbody A outer s H vs Q E (hr.deeper _) hsp
 have I:Inv (wg CX P w K mg base N qual scope f Ks A outer s H E) [] (start N vs) H s1:=oK S hr.hd e0 hl r x
 refine FZ (ht [] s1 (start N vs) H _ I hq) (fun fl s' hs=>?_) fun e s' hs=>hs
 have fin:∀ {σ':St} {H':Hp} {v:V} {u:Value},Inv (wg CX P w K mg base N qual scope f Ks A outer s H E) [] σ' H' s'→bq v u→Q v H'→CE outer P w H s Q u s' :=
  fun {σ' H' v u} J rv q=>⟨v,H',J.os,J.bare,J.base,J.hok,rv,q⟩
 cases fl with
 | ret u =>
  obtain ⟨v,σ',H',J,rv,q⟩:=hs
  exact fin J rv q
 | next =>
  obtain ⟨σ',H',J,q⟩:=hs
  exact fin (v:=V.non) (u:=Value.none) J rfl q
 | brk =>
  obtain ⟨_,_,_,q⟩:=hs
  exact False.elim q
 | cont =>
  obtain ⟨_,_,_,q⟩:=hs
  exact False.elim q
section
variable {X:Cx} {x:Str} {p pos:Pos} {e:Expr} {es:List Expr} {t:TA} {id T:String} {r:List V→Hp→VK→Prop}
def zi (r:List V→Hp→VK→Prop)(Q:VK):List V→Hp→Prop:=fun vs H1=>r vs H1 Q
def tCB (r:List V→Hp→VK→Prop)(t:TA):TE:=fun σ H Q=>t σ H (zi r Q)
theorem au (hc:bZ X (.builtin id) r)(hg:Gl X x)(hm:X.mg x=none)(hv:bootBuiltins x=some (.builtin id))(ha:PA X (e::es) t)(hn:x ≠ "__name__":=by decide)(hdb:(x == ("__debug__":Str))=false:=by decide)
  (he:starEach (e::es) X.env=(false,eval e X.env)::starEach es X.env:=by rfl) (hpl:(backTo pos (starEach es X.env)).any (·.1)=false:=by rfl):PE X (.Call (.Name x p) (e::es) [] pos) (tCB r t):=by
 intro Kl s σ H Q I h
 refine Io (fo I hg hm hv ?_ hn hdb)
 exact PyProof.Rows.callWith_builtin1 (thn (ha pos Kl s σ H _ I h) fun us s1 zq60=>(by obtain ⟨vs,H1,I1,r1,q1⟩:=zq60;exact hc Kl s1 σ H1 vs us Q I1 r1 q1)) he hpl
theorem dS (hc:bZ X (.type T) r)(hg:Gl X x)(hm:X.mg x=none)(hv:bootBuiltins x=some (.type T))(ha:PA X (e::es) t)(hn:x ≠ "__name__":=by decide)(hdb:(x == ("__debug__":Str))=false:=by decide)
  (he:starEach (e::es) X.env=(false,eval e X.env)::starEach es X.env:=by rfl) (hpl:(backTo pos (starEach es X.env)).any (·.1)=false:=by rfl):PE X (.Call (.Name x p) (e::es) [] pos) (tCB r t):=by
 intro Kl s σ H Q I h
 refine Io (fo I hg hm hv ?_ hn hdb)
 exact FK (thn (ha pos Kl s σ H _ I h) fun us s1 zq61=>(by obtain ⟨vs,H1,I1,r1,q1⟩:=zq61;exact hc Kl s1 σ H1 vs us Q I1 r1 q1)) he hpl
end
end L2
namespace HT
open PySem PyProof.Rows
def bH:List Int→List Int→Bool
 | [],[]=>false
 | [],_::_=>true
 | _::_,[]=>false
 | x::xs,y::ys=>if x=y then bH xs ys else decide (x < y)
theorem bK (x y:Int)(xs ys:List Int):bH (x::xs) (y::ys)=if x=y then bH xs ys else decide (x < y):=rfl
theorem cz:bH [] []=false:=rfl
theorem dy (y:Int)(ys:List Int):bH [] (y::ys)=true:=rfl
theorem dz (x:Int)(xs:List Int):bH (x::xs) []=false:=rfl
theorem lG (A:Around)(s:Shared)(a:Int)(t:Tok)(c:Int)(u:Tok):∃ e,SeqAt.EqAt A s (.int a t) (.int c u) e∧(e=true ↔ a=c) :=
 ⟨(a == c),SeqAt.EqAt.int_int a t c u,by simp⟩
theorem s_ (A:Around)(s:Shared)(a:Int)(t:Tok)(c:Int)(u:Tok)(prog:Program)(w:World)(E:Value→Shared→Prop)(Q:Value→Shared→Prop)(h:Q (.bool (decide (a < c))) s) :
  wpAny (model prog w) A (richCompare .Lt (.int a t) (.int c u)) Q E s :=
 (PyProof.Rows.lt_int h:wpAny (model prog w) A (compareOp .Lt (.int a t) (.int c u)) Q E s)
section
open PySem.SeqAt
open PySem.AutoSeq1 (wpAny_loadPart')
open PySem.MeetsSeq PySem.MeetsSeq2 PySem.MeetsSeq3
theorem ia (l b:Addr)(items Kr:Array Value)(n n2:Nat)(dd dd2:Option Addr)(sl sl2:Array (Option Value))(ns ms:List Int)(hi:IntsAre items.toList ns)(hj:IntsAre Kr.toList ms) :
  Meets (Builtin.«tuple.__lt__» ⟨[.ref l,.ref b],[]⟩)
   (fun _ R s=>s.heap.get? l=some { cls:=.type "tuple",dict:=dd,data:=.seq items n,slots:=sl }∧s.heap.get? b=some { cls:=.type "tuple",dict:=dd2,data:=.seq Kr n2,slots:=sl2 } ∧
    R (.ok (.ret (.bool (bH ns ms)))) s) :=
 .of_wp fun prog w A R s h=>by
  obtain ⟨hp,g,d,tk,os⟩:=s;obtain ⟨hl,hb,h⟩:=h
  have f2:=IE
  have z1:items.size=ns.length:=by rw [← hi.length];simp
  have z2:Kr.size=ms.length:=by rw [← hj.length];simp
  wp_walk using wpAny_loadPart' hl,wpAny_loadPart' hb,wpAny_forIn_list _ (fun rest b s'=>b.1=none∧s'=⟨hp,g,d,tk,os⟩∧∃ (vs ws:List Value) (ns' ms':List Int),rest=vs.zip ws ∧
   IntsAre vs ns'∧IntsAre ws ms'∧ns'.length+Kr.size=ms'.length+items.size∧R (.ok (.ret (.bool (bH ns' ms')))) ⟨hp,g,d,tk,os⟩) _
  case turn =>
   rintro ⟨y,x⟩ rest b s' ⟨hb',rfl,vs,ws,ns',ms',hz,hvi,hwi,hlen,hR⟩
   cases hvi with
   | nil=>rw [List.zip_nil_left] at hz;cases hz
   | cons a t hvi' =>
    cases hwi with
    | nil=>rw [List.zip_nil_right] at hz;cases hz
    | cons c u hwi' =>
     rw [FP] at hz
     injection hz with hyx hrest
     injection hyx with hy hx
     subst hy hx
     rw [bK] at hR
     simp only [EF] at hlen
     obtain ⟨e,he,hiff⟩:=lG A.in1 ⟨hp,g,d,tk,os⟩ a t c u
     refine D9 (he prog w _ _ ?_)
     cases e with
     | true =>
      rw [if_pos (hiff.mp rfl)] at hR
      wp_walk
      exact ⟨rfl,rfl,_,_,_,_,hrest,hvi',hwi',by omega,hR⟩
     | false =>
      rw [if_neg (fun q=>absurd (hiff.mpr q) EH)] at hR
      have hri:=s_ A.in1 ⟨hp,g,d,tk,os⟩ a t c u prog w
      wp_walk using hri
      exact ⟨_,rfl,by simpa using hR⟩
  case fin =>
   rintro ⟨b1,b2⟩ s' ⟨hb',rfl,vs,ws,ns',ms',hz,hvi,hwi,hlen,hR⟩
   simp only at hb'
   subst hb'
   have hv:bH ns' ms'=decide (items.size < Kr.size):=by
    cases hvi with
    | nil =>
     cases hwi with
     | nil =>
      simp only [Fl] at hlen
      rw [cz]
      exact (Ea (by omega)).symm
     | cons c u hw =>
      simp only [Fl,EF] at hlen
      rw [dy]
      exact (Ee (by omega)).symm
    | cons a t hv =>
     cases hwi with
     | nil =>
      simp only [Fl,EF] at hlen
      rw [dz]
      exact (Ea (by omega)).symm
     | cons c u hw =>
      rw [FP] at hz
      cases hz
   rw [hv] at hR
   wp_walk
   exact ⟨_,rfl,by simpa [Builtin.Tuple.tupleCompareSizes] using hR⟩
  case h =>
   exact ⟨rfl,rfl,items.toList,Kr.toList,ns,ms,rfl,hi,hj,by omega,h⟩
end
section
variable {prog:Program} {w:World} {A:Around} {E:Value→Shared→Prop} {s:Shared}
theorem gG {l b:Addr}{items Kr:Array Value}{ns ms:List Int}{Q:Value→Shared→Prop}(hl:IsTup s.heap l items)(hb:IsTup s.heap b Kr)(hi:IntsAre items.toList ns)(hj:IntsAre Kr.toList ms)
  (hu:A.units < cLine) (h:Q (.bool (bH ns ms)) s):wpAny (model prog w) A (compareOp .Lt (.ref l) (.ref b)) Q E s:=by
 obtain ⟨⟨cls,dd,data,sl⟩,ho,hc,n,hd⟩:=id hl
 obtain ⟨⟨cls2,dd2,data2,sl2⟩,ho2,hc2,n2,hd2⟩:=id hb
 simp only at hc hd hc2 hd2
 subst hc hd hc2 hd2
 exact richCompare_meets_room (op:=.Lt) ⟨_,ho,rfl⟩ ⟨_,ho2,rfl⟩ PySem.F.slot_tuple_lt PySem.F.entry_tuple_lt (PySem.F.args_tuple_lt_2 _ _) (ia l b items Kr n n2 dd dd2 sl sl2 ns ms hi hj)
  ⟨ho,ho2,show Value.bool (bH ns ms)≠Value.notImplemented∧Q (.bool (bH ns ms)) s from ⟨(fun x=>nomatch x),h⟩⟩ hu
def sIx (n d:Nat):Option Int→Nat
 | none=>d
 | some v=>if v < 0 then (v+(n:Int)).toNat else min v.toNat n
theorem ib (n d:Nat):sIx n d none=d:=rfl
theorem fy (n d k:Nat):sIx n d (some (k:Int))=min k n:=by
 show (if (k:Int) < 0 then ((k:Int)+(n:Int)).toNat else min (k:Int).toNat n)=min k n
 rw [if_neg (by omega),E2]
theorem vc (n d:Nat)(hd:d≤n)(o:Option Int):sIx n d o≤n:=by
 cases o with
 | none=>exact hd
 | some v =>
  show (if v < 0 then (v+(n:Int)).toNat else min v.toNat n)≤n
  by_cases hv:v < 0
  ·rw [if_pos hv];omega
  ·rw [if_neg hv];exact Nat.min_le_right _ _
end
end HT
namespace L2
open PySem PySem.Spec PyProof.Rows
abbrev TO:=St→Hp→(Option Int→Hp→Prop)→Prop
def PO (X:Cx)(e:Option Expr)(t:TO):Prop :=
 ∀ (Kl:List (Addr × Obj)) (s:Shared) (σ:St) (H:Hp) (Q:Option Int→Hp→Prop),Inv X Kl σ H s→t σ H Q →
  wpAny (model X.prog X.w) X.A (evalPart e X.env) (fun u s'=>∃ o H',Inv X Kl σ H' s'∧IsPart u o∧Q o H') X.xe s
def wj:TO:=fun _ H Q=>Q none H
inductive IsI (x:V)(H:Hp)(Q:Option Int→Hp→Prop):Prop
 | mk:∀ i,(x = .int i)→(Q (some i) H)→IsI x H Q
def tf (Q:(Option Int→Hp→Prop)):V→Hp→Prop:=fun x H1=>IsI x H1 Q
def BM (t:TE):TO:=fun σ H Q=>t σ H (tf Q)
theorem di {ns:List Int}:∀ {us:List Value},ba (ns.map V.int) us→IntsAre us ns:=by
 induction ns with
 | nil=>intro us r;rw [Hs] at r;cases r;exact .nil
 | cons n ns ih =>
  intro us r
  rw [EO] at r
  cases r with
  | cons r1 r2 =>
   obtain ⟨t,e⟩:=r1
   subst e
   exact .cons n t (ih r2)
section
variable {X:Cx} {e:Expr} {te:TE} {lo hi:Option Expr} {tl th:TO} {pos p2:Pos}
theorem bf:PO X none wj:=by
 intro Kl s σ H Q I h
 rw [evalPart_none]
 exact Ep ⟨none,H,I,.none,h⟩
theorem a9 (h:PE X e te):PO X (some e) (BM te):=by
 intro Kl s σ H Q I hw
 rw [evalPart_some]
 refine thn (h Kl s σ H _ I hw) fun u s1 zq62=>?_
 obtain ⟨x,H1,I1,r1,q1⟩:=zq62
 obtain ⟨i,rfl,q⟩:=q1
 obtain ⟨t,rfl⟩:=r1
 exact ⟨some i,H1,I1,.int i t,q⟩
def SlR (X:Cx)(r:V→Option Int→Option Int→Hp→VK→Prop):Prop :=
 ∀ (Kl:List (Addr × Obj)) (s:Shared) (σ:St) (H:Hp) (x:V) (v vl vu:Value) (lo hi:Option Int) (sl:Addr) (Q:VK),Inv X Kl σ H s→bq x v→s.heap.IsSliceOf sl vl vu .none→IsPart vl lo→IsPart vu hi→r x lo hi H Q →
  ∃ T id,typeLookup (.type T) "__getitem__" = pure (some (.builtin id))∧s.TypeIs v T∧wpAny (model X.prog X.w) X.A (getItem v (.ref sl)) (EP X Kl σ Q) X.xe s
def zj (r:V→Option Int→Option Int→Hp→VK→Prop)(Q:VK)(x:V)(l:Option Int):Option Int→Hp→Prop:=fun u H3=>r x l u H3 Q
def zk (r:V→Option Int→Option Int→Hp→VK→Prop)(th:TO)(σ:St)(Q:VK)(x:V):Option Int→Hp→Prop:=fun l H2=>th σ H2 (zj r Q x l)
def zl (r:V→Option Int→Option Int→Hp→VK→Prop)(tl:TO)(th:TO)(σ:St)(Q:VK):V→Hp→Prop:=fun x H1=>tl σ H1 (zk r th σ Q x)
def tSl (r:V→Option Int→Option Int→Hp→VK→Prop)(te:TE)(tl th:TO):TE:=fun σ H Q=>te σ H (zl r tl th σ Q)
theorem aU {r:V→Option Int→Option Int→Hp→VK→Prop}(hr:SlR X r)(he:PE X e te)(hl:PO X lo tl)(hu:PO X hi th):PE X (.Subscript e (.Slice lo hi none p2) pos) (tSl r te tl th):=by
 intro Kl s σ H Q I h
 refine Subscript_ (thn (he Kl s σ H _ I h) fun v s1 zq63=>?_)
 obtain ⟨x,H1,I1,r1,q1⟩:=zq63
 refine wpAny_Slice (thn (hl Kl s1 σ H1 _ I1 q1) fun vl s2 ⟨l,H2,I2,pl,q2⟩=>thn (hu Kl s2 σ H2 _ I2 q2) fun vu s3 zq64=>?_)
 obtain ⟨u,H3,I3,pu,q3⟩:=zq64
 rw [evalPart_none]
 refine Ep ?_
 have I4:Inv X Kl σ H3 { s3 with heap:=s3.heap.push { cls:=.type "slice",data:=.fields #[vl,vu,.none] } }:=I3.kept (t':=s3.toks) fun b ob q=>D_ _ q
 obtain ⟨T,id,hT,ht,hg⟩:=hr Kl { s3 with heap:=s3.heap.push { cls:=.type "slice",data:=.fields #[vl,vu,.none] } } σ H3 x v vl vu l u s3.heap.objs.size Q I4 r1 (Heap.IsSliceOf.new ..) pl pu q3
 show wpAny (model X.prog X.w) X.A (subscriptTail e (.Slice lo hi none p2) v (.ref s3.heap.objs.size)) (EP X Kl σ Q) X.xe { s3 with heap:=s3.heap.push { cls:=.type "slice",data:=.fields #[vl,vu,.none] } }
 exact tail_any (ops:=[.ref s3.heap.objs.size,v]) ht hT hg (by with_unfolding_all rfl)
def oa (xs:List V)(lo hi:Option Int):List V:=(xs.drop (HT.sIx xs.length 0 lo)).take (HT.sIx xs.length xs.length hi - HT.sIx xs.length 0 lo)
theorem j_ (xs:List V)(lo hi:Option Int):(oa xs lo hi).length≤xs.length:=by
 unfold oa
 rw [Es,Fb]
 omega
inductive BN (K:PySem.W.Frag)(x:V)(y:V)(H:Hp)(Q:VK):Prop
 | mk:∀ a b ns ms,(x = .ref a)→(y = .ref b)→(SqT K H a (ns.map V.int))→(SqT K H b (ms.map V.int))→(Q (.bl (HT.bH ns ms)) H)→BN K x y H Q
theorem zm (hu:X.A.units < cLine):OpR X (compareOp .Lt) (BN X.K):=by
 intro Kl s σ H x y v u Q I rx ry h
 obtain ⟨a,b,ns,ms,rfl,rfl,ha,hb,q⟩:=h
 cases rx
 cases ry
 obtain ⟨its,r1,p1,_⟩:=I.tuple ha
 obtain ⟨KP,r2,p2,_⟩:=I.tuple hb
 have i1:IntsAre its.toArray.toList ns:=di r1
 have i2:IntsAre KP.toArray.toList ms:=di r2
 exact HT.gG p1 p2 i1 i2 hu ⟨.bl (HT.bH ns ms),H,I,rfl,q⟩
end
def ixN (n:Nat)(i:Int):Option Nat:=if 0≤i then (if i < n then some i.toNat else none) else if -(n:Int)≤i then some (i+n).toNat else none
def atI {α:Type}(xs:List α)(i:Int):Option α:=(ixN xs.length i).bind fun j=>xs[j]?
theorem wm {n:Nat}{i:Int}{j:Nat}(h:ixN n i=some j):seqIndex? i n=some j∧j < n∧-(n:Int)≤i∧i < n:=by
 unfold ixN at h
 by_cases h0:0≤i
 ·rw [if_pos h0] at h
  by_cases h1:i < n
  ·rw [if_pos h1] at h
   have e:i.toNat=j:=El h
   exact ⟨by rw [seqIndex_of h0 h1,e],by omega,by omega,h1⟩
  ·rw [if_neg h1] at h;cases h
 ·rw [if_neg h0] at h
  by_cases h1:-(n:Int)≤i
  ·rw [if_pos h1] at h
   have e:(i+n).toNat=j:=El h
   exact ⟨by rw [seqIndex_neg (by omega) h1,e],by omega,h1,by omega⟩
  ·rw [if_neg h1] at h;cases h
theorem kc {α:Type}{xs:List α}{i:Int}{v:α}(h:atI xs i=some v):∃ j,seqIndex? i xs.length=some j∧xs[j]? = some v∧j < xs.length∧-(xs.length:Int)≤i∧i < xs.length:=by
 unfold atI at h
 cases e:ixN xs.length i with
 | none=>rw [e] at h;cases h
 | some j =>
  rw [e] at h
  obtain ⟨h1,h2,h3,h4⟩:=wm e
  exact ⟨j,h1,h,h2,h3,h4⟩
theorem oM {α:Type}{xs:List α}{j:Nat}{v:α}(h:xs[j]? = some v):atI xs (j:Int)=some v:=by
 have hj:j < xs.length:=(Ed.mp h).1
 have e:ixN xs.length (j:Int)=some j:=by
  unfold ixN
  rw [if_pos (by omega),if_pos (by omega)];simp
 unfold atI;rw [e];exact h
theorem tj {α:Type}(xs:List α)(v:α):atI (xs++[v]) (-1)=some v:=by
 have hl:(xs++[v]).length=xs.length+1:=by simp
 have e:ixN (xs++[v]).length (-1)=some xs.length:=by
  unfold ixN
  rw [hl,if_neg (by decide),if_pos (by omega)]
  congr 1
  omega
 unfold atI
 rw [e]
 show (xs++[v])[xs.length]? = some v
 simp
def oN (b:Expr):Prop:=∀ o i,subscripted b false o i=operate [o,i] (getItem o i)
def IxR (X:Cx)(r:R2):Prop :=
 ∀ (value slice:Expr) (Kl:List (Addr × Obj)) (s:Shared) (σ:St) (H:Hp) (x y:V) (v u:Value) (Q:VK),Inv X Kl σ H s→bq x v→bq y u→r x y H Q →
  subscripted slice false v u=operate [v,u] (getItem v u)→wpAny (model X.prog X.w) X.A (subscriptTail value slice v u) (EP X Kl σ Q) X.xe s
def MtR (X:Cx)(id:String)(r:V→List V→Hp→VK→Prop):Prop :=
 ∀ (Kl:List (Addr × Obj)) (s:Shared) (σ:St) (H:Hp) (x:V) (xs:List V) (v:Value) (us:List Value) (Q:VK),Inv X Kl σ H s→bq x v→ba xs us→r x xs H Q →
  wpAny (model X.prog X.w) X.A (call (.builtin id) (v::us)) (EP X Kl σ Q) X.xe s
section
variable {X:Cx} {a b:Expr} {ta tb:TE} {pos:Pos}
theorem aV {r:R2}(hr:IxR X r)(ha:PE X a ta)(hb:PE X b tb)(hs:oN b):PE X (.Subscript a b pos) (tOp r ta tb):=by
 intro Kl s σ H Q I h
 exact Subscript_ (BH ha hb I h fun v u s2 x y H2 I2 rx ry q=>hr a b Kl s2 σ H2 x y v u Q I2 rx ry q (hs _ _))
inductive C7 (K:PySem.W.Frag)(x:V)(y:V)(H:Hp)(Q:VK):Prop
 | mk:∀ p xs i v,(x = .ref p)→(y = .int i)→(SqL K H p xs)→(atI xs i=some v)→(Q v H)→C7 K x y H Q
inductive C8 (K:PySem.W.Frag)(x:V)(y:V)(H:Hp)(Q:VK):Prop
 | mk:∀ p xs i v,(x = .ref p)→(y = .int i)→(SqT K H p xs)→(atI xs i=some v)→(Q v H)→C8 K x y H Q
inductive C9 (x:V)(y:V)(H:Hp)(Q:VK):Prop
 | mk:∀ z i c,(x = .str z)→(y = .int i)→(z.length≤sizeLine)→(atI z.cps.toList i=some c)→(Q (.str ⟨#[c]⟩) H)→C9 x y H Q
theorem ie:IxR X (C7 X.K):=by
 intro value slice Kl s σ H x y v u Q I rx ry h hs
 obtain ⟨p,xs,i,z,rfl,rfl,hq,he,q⟩:=h
 cases rx
 obtain ⟨t,rfl⟩:=ry
 obtain ⟨its,r,pl,hz⟩:=I.list hq
 obtain ⟨j,h1,h2,h3,h4,h5⟩:=kc he
 obtain ⟨w,ew,rw'⟩:=r.get h2
 have hl:=r.length
 have hn:=fw
 have fin:EP X Kl σ Q w s:=⟨z,H,I,rw',q⟩
 by_cases h0:0≤i
 ·have hj:i.toNat=j:=by
   rw [seqIndex_of h0 h5] at h1
   exact El h1
  exact item_listR pl.isList h0 (by omega) (by rw [hj];simpa using ew) fin hs
 ·have hj:(i+(its.toArray.size:Int)).toNat=j:=by
   rw [seqIndex_neg (by omega) h4] at h1
   rw [EC,← hl]
   exact El h1
  exact subscriptTail_builtinR (x:=w) pl.isList.typeIs slot_list_getitem.lookup
   (wpAny_getItem_list_neg (Q:=fun r s'=>r=w∧EP X Kl σ Q r s') pl.isList (by omega) (by rw [EC] <;> omega) (by omega) (by rw [hj];simpa using ew) ⟨rfl,fin⟩) hs
theorem aX:IxR X (C8 X.K):=by
 intro value slice Kl s σ H x y v u Q I rx ry h hs
 obtain ⟨p,xs,i,z,rfl,rfl,hq,he,q⟩:=h
 cases rx
 obtain ⟨t,rfl⟩:=ry
 obtain ⟨its,r,pl,hz⟩:=I.tuple hq
 obtain ⟨j,h1,h2,h3,h4,h5⟩:=kc he
 obtain ⟨w,ew,rw'⟩:=r.get h2
 have hl:=r.length
 have hn:=fw
 have fin:EP X Kl σ Q w s:=⟨z,H,I,rw',q⟩
 exact subscriptTail_builtinR (x:=w) pl.typeIs slot_tuple_getitem.lookup
  (getItem_tuple (j:=j) (Q:=fun r s'=>r=w∧EP X Kl σ Q r s') pl (by omega) (by omega) (by rw [EC,← hl];exact h1) (by simpa using ew) ⟨rfl,fin⟩) hs
theorem cN:IxR X C9:=by
 intro value slice Kl s σ H x y v u Q I rx ry h hs
 obtain ⟨z,i,c,rfl,rfl,hz,he,q⟩:=h
 obtain ⟨t,rfl⟩:=rx
 obtain ⟨t',rfl⟩:=ry
 obtain ⟨j,h1,h2,h3,h4,h5⟩:=kc he
 have hl:z.cps.toList.length=z.length:=by simp [Str.length]
 rw [hl] at h1 h4 h5
 have hn:=fw
 exact tail_any (IF s z t) slot_str_getitem.lookup (getItem_str (c:=c) (by
  have e1:decide (i < -(2 ^ 63:Int))=false:=Ea (by omega)
  have e2:decide (i≥2 ^ 63)=false:=Ea (by omega)
  rw [e1,e2,Jz]) (by rw [h1];simpa using h2) ⟨.str ⟨#[c]⟩,H,I.tok _,⟨_,rfl⟩,q⟩) hs
theorem Inv.lst {Kl:List (Addr × Obj)}{σ:St}{H:Hp}{s:Shared}{p:Addr}{xs:List V}(I:Inv X Kl σ H s)(h:H p=some (.lst xs)) :
  ∃ (its:List Value) (n:Nat),ba xs its∧s.heap.get? p=some { cls:=.type "list",data:=.seq its.toArray n }∧xs.length≤sizeLine:=by
 obtain ⟨z,its,n,r,e⟩:=I.hok p _ h
 exact ⟨its,n,r,e,z⟩
theorem jm (lo hi:Option Int)(n:Nat):(sliceBounds lo hi none n).1=((HT.sIx n 0 lo:Nat):Int)∧(sliceBounds lo hi none n).2.1=((HT.sIx n n hi:Nat):Int)∧(sliceBounds lo hi none n).2.2=1:=by
 refine ⟨?_,?_,rfl⟩
 ·cases lo with
  | none=>simp [sliceBounds,HT.sIx]
  | some i =>
   simp only [sliceBounds,HT.sIx,IZ,show (1:Int) > 0 by decide,Gb]
   by_cases h:i < 0
   ·simp only [h,Gb] <;> omega
   ·simp only [h,FF] <;> omega
 ·cases hi with
  | none=>simp [sliceBounds,HT.sIx]
  | some i =>
   simp only [sliceBounds,HT.sIx,IZ,show (1:Int) > 0 by decide,Gb]
   by_cases h:i < 0
   ·simp only [h,Gb] <;> omega
   ·simp only [h,FF] <;> omega
theorem ig (its:List Value)(lo hi:Option Int):slicePick its.toArray lo hi none=((its.drop (HT.sIx its.length 0 lo)).take (HT.sIx its.length its.length hi - HT.sIx its.length 0 lo)).toArray:=by
 obtain ⟨h1,h2,h3⟩:=jm lo hi its.toArray.size
 unfold slicePick
 rw [h1,h2,h3]
 simp only [sliceRange_one,pick_run,EC] <;> rfl
inductive C_ (K:PySem.W.Frag)(x:V)(lo:Option Int)(hi:Option Int)(H:Hp)(Q:VK):Prop
 | mk:∀ a xs,(x = .ref a)→(SqL K H a xs)→(∀ p,H p=none→Q (.ref p) (upd H p (.lst (oa xs lo hi))))→C_ K x lo hi H Q
theorem ke:SlR X (C_ X.K):=by
 intro Kl s σ H x v vl vu lo hi sl Q I rx hs pl pu h
 obtain ⟨a,xs,rfl,hx,q⟩:=h
 cases rx
 obtain ⟨its,r,ht,hz⟩:=I.list hx
 have hlen:=r.length
 refine ⟨"list",_,slot_list_getitem.lookup,ht.isList.typeIs,?_⟩
 refine wpAny_getItem_list_slice ht.isList hs pl pu .none (by simp) ?_ (by rw [EC] <;> omega)
 rw [ig,← hlen]
 refine ⟨.ref s.heap.objs.size,_,I.laid (t':=s.toks) (o:=.lst (oa xs lo hi)) (fun b ob q=>D_ _ q) (Ei _) ?_,rfl,q _ (I.hok.fresh (Ei _))⟩
 exact ⟨Ft (j_ xs lo hi) hz,_,0,(r.drop (HT.sIx xs.length 0 lo)).take (HT.sIx xs.length xs.length hi - HT.sIx xs.length 0 lo),Em _ rfl⟩
inductive dA (K:PySem.W.Frag)(xs:List V)(H:Hp)(Q:VK):Prop
 | mk:∀ p ys,(xs=[.ref p])→((SqL K H p ys ∨ SqT K H p ys))→(Q (.int ys.length) H)→dA K xs H Q
theorem bw:bZ X (.builtin "len") (dA X.K):=by
 intro Kl s σ H xs us Q I r h
 obtain ⟨p,ys,rfl,hq,q⟩:=h
 obtain ⟨u,rfl,rx⟩:=cj r
 cases rx
 have hn:=fw
 rcases hq with hq | hq
 ·obtain ⟨its,r',pl,hz⟩:=I.list hq
  have hlen:=r'.length
  exact Calls.call_len_list pl.isList (by simp only [EC] <;> omega) ⟨.int ys.length,H,I.tok _,⟨s.toks+1,by rw [EC,hlen]⟩,q⟩
 ·obtain ⟨its,r',pl,hz⟩:=I.tuple hq
  have hlen:=r'.length
  exact len_tuple pl (by simp only [EC] <;> omega) ⟨.int ys.length,H,I.tok _,⟨s.toks+1,by rw [EC,hlen]⟩,q⟩
inductive dC  (xs:List V)(H:Hp)(Q:VK):Prop
 | mk:∀ z,(xs=[.str z])→(z.length≤sizeLine)→(Q (.int z.length) H)→dC xs H Q
theorem ao:bZ X (.builtin "len") dC:=by
 intro Kl s σ H xs us Q I r h
 obtain ⟨z,rfl,hz,q⟩:=h
 obtain ⟨u,rfl,t,rfl⟩:=cj r
 have hn:=fw
 exact len_str (by omega) ⟨.int z.length,H,I.tok _,⟨_,rfl⟩,q⟩
inductive dD (K:PySem.W.Frag)(xs:List V)(H:Hp)(Q:VK):Prop
 | mk:∀ p ys,(xs=[.ref p])→((SqL K H p ys ∨ SqT K H p ys))→(∀ l,H l=none→Q (.ref l) (upd H l (.lst ys)))→dD K xs H Q
theorem jo:bZ X (.type "list") (dD X.K):=by
 intro Kl s σ H xs us Q I r h
 obtain ⟨p,ys,rfl,hq,q⟩:=h
 obtain ⟨u,rfl,rx⟩:=cj r
 cases rx
 have fin:∀ (its:List Value),ba ys its→ys.length≤sizeLine→∀ (h':Heap) (c':Nat),(∀ b o',s.heap.get? b=some o'→h'.get? b=some o') →
   h'.get? s.heap.objs.size=some { cls:=.type "list",dict:=none,data:=.seq its.toArray c',slots:=#[] }→EP X Kl σ Q (.ref s.heap.objs.size) { s with heap:=h' }:=fun its r' hz h' c' kp e =>
  ⟨.ref s.heap.objs.size,_,I.laid (t':=s.toks) kp (Ei _) (show br X.prog X.w _ h' _ (.lst ys) from ⟨hz,its,c',r',e⟩),rfl,q _ (I.hok.fresh (Ei _))⟩
 rcases hq with hq | hq
 ·obtain ⟨its,r',pl,hz⟩:=I.list hq
  have hlen:=r'.length
  obtain ⟨o,ho,hc,n,hd⟩:=pl.isList
  exact call_list_seq p (.inl rfl) ho hc hd (fun h' c' kp e=>fin its r' hz h' c' kp e) (by simp only [EC] <;> omega)
 ·obtain ⟨its,r',pl,hz⟩:=I.tuple hq
  have hlen:=r'.length
  obtain ⟨o,ho,hc,n,hd⟩:=pl
  exact call_list_seq p (.inr rfl) ho hc hd (fun h' c' kp e=>fin its r' hz h' c' kp e) (by simp only [EC] <;> omega)
inductive cX (K:PySem.W.Frag)(xs:List V)(H:Hp)(Q:VK):Prop
 | mk:∀ p ys,(xs=[.ref p])→(((SqL K H p ys∧∀ l,H l=none→Q (.ref l) (upd H l (.tup ys))) ∨ (SqT K H p ys∧Q (.ref p) H)))→cX K xs H Q
theorem ij:bZ X (.type "tuple") (cX X.K):=by
 intro Kl s σ H xs us Q I r h
 obtain ⟨p,ys,rfl,h⟩:=h
 obtain ⟨u,rfl,rx⟩:=cj r
 cases rx
 rcases h with ⟨hq,q⟩ | ⟨hq,q⟩
 ·obtain ⟨its,r',pl,hz⟩:=I.list hq
  have hlen:=r'.length
  refine call_tuple_list pl.isList (fun h' kp=>?_) (by simp only [EC] <;> omega)
  have I1:Inv X Kl σ H { s with heap:=h' }:=I.kept (t':=s.toks) kp
  have I2:Inv X Kl σ (upd H h'.objs.size (.tup ys)) { s with heap:=h'.push { cls:=.type "tuple",data:=.seq its.toArray } } :=
   I1.laid (t':=s.toks) (fun b o e=>D_ _ e) (Ei _) (show br X.prog X.w _ _ _ (.tup ys) from ⟨hz,its,r',IsTup.new _ _,.new _ _ rfl⟩)
  exact ⟨.ref h'.objs.size,_,I2,rfl,q _ (I1.hok.fresh (Ei _))⟩
 ·obtain ⟨its,r',pl,hz⟩:=I.tuple hq
  exact call_tuple_same pl ⟨.ref p,H,I,rfl,q⟩
def tyV (K:PySem.W.Frag)(T:String)(x:V)(H:Hp):Prop:=match x with
 | .str _=>T = "str"
 | .int _=>T = "int"
 | .ref p=>(T = "list"∧∃ xs,SqL K H p xs) ∨ (T = "tuple"∧((∃ o,K.lookup p=some o∧o.cls = .type "tuple"∧o.dict=none) ∨ ∃ xs,H p=some (.tup xs))) ∨
   (T = "dict"∧((∃ Km,H p=some (.dK Km)) ∨ ∃ Km,H p=some (.dT Km))) ∨ (T = "set"∧∃ S n,H p=some (.set S n))
 | _=>False
theorem vd {Kl:List (Addr × Obj)}{σ:St}{H:Hp}{s:Shared}{T:String}{x:V}{v:Value}(I:Inv X Kl σ H s)(r:bq x v)(ty:tyV X.K T x H) :
  s.TypeIs v T∧∀ a,v = .ref a→∃ ob,s.heap.get? a=some ob∧ob.dict=none:=by
 cases x with
 | str z =>
  obtain ⟨t,rfl⟩:=r
  cases (show T = "str" from ty)
  exact ⟨IF s z t,fun _ e=>nomatch e⟩
 | int i =>
  obtain ⟨t,rfl⟩:=r
  cases (show T = "int" from ty)
  exact ⟨typeIs_int s i t,fun _ e=>nomatch e⟩
 | ref p =>
  cases r
  rcases ty with ⟨rfl,xs,hq⟩ | ⟨rfl,⟨o,hk,hc,hd⟩ | ⟨xs,hk⟩⟩ | ⟨rfl,hk⟩ | ⟨rfl,S,n,hk⟩
  ·obtain ⟨its,_,pl,_⟩:=I.list hq
   refine ⟨pl.isList.typeIs,fun a e=>?_⟩
   cases e
   obtain ⟨o,n,e,c,hd,_⟩:=pl
   exact ⟨o,e,hd⟩
  ·refine ⟨⟨o,I.kIn p o hk,hc⟩,fun a e=>?_⟩
   cases e
   exact ⟨o,I.kIn _ o hk,hd⟩
  ·obtain ⟨_,_,_,⟨o,e,hc,_⟩,hn⟩:=I.hok p _ hk
   refine ⟨⟨o,e,hc⟩,fun a e=>?_⟩
   cases e
   exact hn
  ·have z:∃ o,s.heap.get? p=some o∧o.ExactDict:=by
    rcases hk with ⟨Km,hk⟩ | ⟨Km,hk⟩
    ·obtain ⟨_,_,_,_,o,_,_,e,ex,_⟩:=I.hok p _ hk
     exact ⟨o,e,ex⟩
    ·obtain ⟨_,_,_,_,o,_,_,e,ex,_⟩:=I.hok p _ hk
     exact ⟨o,e,ex⟩
   obtain ⟨o,e,ex⟩:=z
   refine ⟨⟨o,e,ex.1⟩,fun a e2=>?_⟩
   cases e2
   exact ⟨o,e,ex.2.1⟩
  ·obtain ⟨o,_,_,_,e,ex,_⟩:=I.hok p _ hk
   refine ⟨⟨o,e,ex.1⟩,fun a e2=>?_⟩
   cases e2
   exact ⟨o,e,ex.2.1⟩
 | _=>exact False.elim ty
def wq (K:PySem.W.Frag)(T:String)(r:V→List V→Hp→VK→Prop)(Q:VK):V→Hp→Prop:=fun x H1=>tyV K T x H1∧r x [] H1 Q
def DK (K:PySem.W.Frag)(T:String)(r:V→List V→Hp→VK→Prop)(to:TE):TE:=fun σ H Q=>to σ H (wq K T r Q)
def zo (r:V→List V→Hp→VK→Prop)(Q:VK)(x:V):List V→Hp→Prop:=fun xs H2=>r x xs H2 Q
def zp (K:PySem.W.Frag)(T:String)(r:V→List V→Hp→VK→Prop)(t:TA)(σ:St)(Q:VK):V→Hp→Prop:=fun x H1=>tyV K T x H1∧t σ H1 (zo r Q x)
def tBM (K:PySem.W.Frag)(T:String)(r:V→List V→Hp→VK→Prop)(to:TE)(t:TA):TE:=fun σ H Q=>to σ H (zp K T r t σ Q)
variable {o e:Expr} {es:List Expr} {to:TE} {t:TA} {name:Str} {apos KD:Pos} {T id:String} {r:V→List V→Hp→VK→Prop}
theorem lH (pa:PlainAttrs T)(slot:Slot T name id)(hty:typeOf (.builtin id)=pure (.type "method_descriptor"))(hm:MtR X id r)(ho:PE X o to)
  (hbase:attributeBase o name X.env (eval o X.env)=eval o X.env:=by rfl) (hline:(apos.endLine == KD.line)=true:=by rfl):PE X (.Call (.Attribute o name apos) [] [] KD) (DK X.K T r to):=by
 intro Kl s σ H Q I h
 refine wpAny_Call_method0_late hbase hline (thn (ho Kl s σ H _ I h) fun v s1 zq65=>?_)
 obtain ⟨x,H1,I1,r1,ty,q1⟩:=zq65
 obtain ⟨h1,h2⟩:=vd I1 r1 ty
 exact ⟨T,id,pa,slot,hty,h1,h2,Calls.callWith_builtin rfl (PySem.evalArgs_none (hm Kl s1 σ H1 x [] v [] Q I1 r1 .nil q1))⟩
theorem dM (pa:PlainAttrs T)(slot:Slot T name id)(hty:typeOf (.builtin id)=pure (.type "method_descriptor"))(hm:MtR X id r)(ho:PE X o to)(ha:PA X (e::es) t)
  (hbase:attributeBase o name X.env (eval o X.env)=eval o X.env:=by rfl)
  (hfew:((backTo KD (starEach (e::es) X.env)).all (fun x=>!x.1) && (backToKw KD (keywordEach [] X.env)).all (fun x=>x.1.isSome)
   && decide ((e::es).length+([]:List Keyword).length+(if ([]:List Keyword).isEmpty then 0 else 1) < 30))=true:=by rfl)
  (hline:(apos.endLine == KD.line)=true:=by rfl) (hs:starEach (e::es) X.env=(false,eval e X.env)::starEach es X.env:=by rfl) (hplain:(backTo KD (starEach es X.env)).any (·.1)=false:=by rfl) :
  PE X (.Call (.Attribute o name apos) (e::es) [] KD) (tBM X.K T r to t):=by
 intro Kl s σ H Q I h
 refine wpAny_Call_method_late hbase hfew hline rfl (thn (ho Kl s σ H _ I h) fun v s1 zq66=>?_)
 obtain ⟨x,H1,I1,r1,ty,q1⟩:=zq66
 obtain ⟨h1,h2⟩:=vd I1 r1 ty
 refine ⟨T,id,pa,slot,hty,h1,h2,?_⟩
 have hA:=ha KD Kl s1 σ H1 _ I1 q1
 rw [hs] at hA ⊢
 refine Calls.callWith_builtin (by show (false || (backTo KD (starEach es X.env)).any (·.1))=false;rw [hplain] <;> rfl) (Calls.evalArgs_plain ?_)
 exact thn hA fun us s2 zq67=>(by obtain ⟨vs,H2,I2,r2,q2⟩:=zq67;exact hm Kl s2 σ H2 x vs v us Q I2 r1 r2 q2)
/- xs.append(e),list.index on a module's tuple .. are MtR facts of 06m -/
end
def MtM (X:Cx)(id:String)(r:V→List V→Hp→VK→Prop):Prop :=
 ∀ (Kl:List (Addr × Obj)) (s:Shared) (σ:St) (H:Hp) (x:V) (xs:List V) (v:Value) (us:List Value) (Q:VK),Inv X Kl σ H s→bq x v→ba xs us→r x xs H Q →
  wpAny (model X.prog X.w) X.A (call (.builtin id) (v::us)) (EP X Kl σ Q) X.xe s
theorem ba.one:∀ {x:V} {us:List Value},ba [x] us→∃ u,us=[u]∧bq x u
 | _,_,.cons r .nil=>⟨_,rfl,r⟩
theorem ba.rep {xs:List V}{us:List Value}(h:ba xs us):∀ k:Nat,ba (List.replicate k xs).flatten (List.replicate k us).flatten
 | 0=>.nil
 | k+1=>by
  rw [F0,F0,E7,E7]
  exact ba.append h (ba.rep h k)
theorem jq (its:List Value):∀ (k:Nat) (acc:List Value),
  List.foldl (fun x1 x2=>x1++x2) acc.toArray (List.replicate k its.toArray)=(acc++(List.replicate k its).flatten).toArray
 | 0,acc=>by simp
 | k+1,acc=>by
  have e:acc.toArray++its.toArray=(acc++its).toArray:=by simp
  have e2:(acc++its)++(List.replicate k its).flatten=acc++(List.replicate (k+1) its).flatten:=by
   rw [F0,E7,Ek]
  rw [← e2,← jq its k (acc++its),← e,F0,Jl]
section
variable {X:Cx} {Kl:List (Addr × Obj)} {σ:St} {H:Hp} {s:Shared} {l b:Addr} {xs ys zs:List V}
theorem Inv.lset {its its':List Value}{n:Nat}{f:Array Value→Array Value}{t':Nat}(I:Inv X Kl σ H s)(hH:H l=some (.lst xs))
  (e:s.heap.get? l=some { cls:=.type "list",data:=.seq its.toArray n }) (hf:f its.toArray=its'.toArray) (hv:ba ys its') (hz:ys.length≤sizeLine) :
  Inv X Kl σ (upd H l (.lst ys)) { s with heap:=s.heap.update l (Obj.mapSeq f),toks:=t' }:=by
 have q:=PySem.IsL.update e f
 rw [hf] at q
 refine I.write (x:=l) (e:=l) (by rw [hH];exact trivial) (.inl rfl) (fun b' u hb hu=>(Fq s.heap (Obj.mapSeq f) (Ne.symm hb)).trans hu) ⟨_,q⟩ ?_
 exact ⟨hz,its',_,hv,q⟩
theorem Inv.lnew {its:List Value}{t':Nat}(I:Inv X Kl σ H s)(hv:ba ys its)(hz:ys.length≤sizeLine) :
  Inv X Kl σ (upd H s.heap.objs.size (.lst ys)) { s with heap:=s.heap.push { cls:=.type "list",data:=.seq its.toArray },toks:=t' } :=
 I.laid (fun _ _ q=>D_ _ q) (Ei _) ⟨hz,its,0,hv,Em _ rfl⟩
theorem Inv.fresh (I:Inv X Kl σ H s):H s.heap.objs.size=none:=I.hok.fresh (Ei _)
theorem Inv.lstM (I:Inv X Kl σ H s)(hH:H l=some (.lst xs)):xs.length≤sizeLine∧∃ (its:List Value) (n:Nat),ba xs its∧xs.length=its.length∧s.heap.get? l=some { cls:=.type "list",data:=.seq its.toArray n }:=by
 obtain ⟨z,its,n,r,e⟩:=I.hok l _ hH
 exact ⟨z,its,n,r,r.length,e⟩
theorem lI {n:Nat}(h:n≤sizeLine):Builtin.List.listTooLong n=false:=by
 unfold Builtin.List.listTooLong
 exact Ea (by omega)
end
section
variable {X:Cx}
inductive oO (x:V)(vs:List V)(H:Hp)(Q:VK):Prop
 | mk:∀ l xs y,(x = .ref l)→(vs=[y])→(H l=some (.lst xs))→(xs.length < sizeLine)→(Q .non (upd H l (.lst (xs++[y]))))→oO x vs H Q
theorem oP:MtM X "list.append" oO:=by
 intro Kl s σ H x vs v us Q I rx rv h
 obtain ⟨l,xs,y,rfl,rfl,hH,hz,q⟩:=h
 cases rx
 obtain ⟨u,rfl,ru⟩:=rv.one
 obtain ⟨z,its,n,r,hl,e⟩:=I.lstM hH
 refine Jt F.slot_list_append ⟨_,e,rfl⟩ F.entry_list_append (F.args_list_append_2 _ _) (PySem.list_append l its.toArray n u (by rw [EC];omega)) ⟨e,?_⟩
 refine ⟨.non,_,I.lset (its':=its++[u]) hH e (by simp) (r.append (.cons ru .nil)) ?_,rfl,q⟩
 rw [Eb,ES]
 omega
inductive oQ (x:V)(vs:List V)(H:Hp)(Q:VK):Prop
 | mk:∀ l b xs zs,(x = .ref l)→(vs=[.ref b])→(H l=some (.lst xs))→(H b=some (.lst zs))→(xs.length+zs.length≤sizeLine)→(Q .non (upd H l (.lst (xs++zs))))→oQ x vs H Q
theorem fz:MtM X "list.extend" oQ:=by
 intro Kl s σ H x vs v us Q I rx rv h
 obtain ⟨l,b,xs,zs,rfl,rfl,hH,hB,hz,q⟩:=h
 cases rx
 obtain ⟨u,rfl,ru⟩:=rv.one
 cases ru
 obtain ⟨z,its,n,r,hl,e⟩:=I.lstM hH
 obtain ⟨z2,KP,n2,r2,hl2,e2⟩:=I.lstM hB
 have hsz:its.toArray.size+KP.toArray.size≤sizeLine:=by rw [EC,EC];omega
 have hlong:¬ (!its.toArray.isEmpty && Builtin.List.listTooLong (its.toArray.size+KP.toArray.size))=true:=by
  rw [lI hsz,GK]
  exact EH
 refine Jt F.slot_list_extend ⟨_,e,rfl⟩ F.entry_list_extend (F.args_list_extend_2 _ _)
  (AutoSeq1.list_extend_list_list_0 l its.toArray n b KP.toArray n2 hlong (by rw [EC];omega) (by omega)) ⟨e,e2,?_⟩
 refine ⟨.non,_,I.lset (its':=its++KP) hH e (by simp) (r.append r2) ?_,rfl,q⟩
 rw [Eb]
 omega
inductive Da (x:V)(y:V)(H:Hp)(Q:VK):Prop
 | mk:∀ l b xs zs,(x = .ref l)→(y = .ref b)→(H l=some (.lst xs))→(H b=some (.lst zs))→(xs.length+zs.length≤sizeLine)→(∀ p,H p=none→Q (.ref p) (upd H p (.lst (xs++zs))))→Da x y H Q
theorem ve:OpR X (binaryOp .Add) Da:=by
 intro Kl s σ H x y v u Q I rx ry h
 obtain ⟨l,b,xs,zs,rfl,rfl,hH,hB,hz,q⟩:=h
 cases rx
 cases ry
 obtain ⟨z,its,n,r,hl,e⟩:=I.lstM hH
 obtain ⟨z2,KP,n2,r2,hl2,e2⟩:=I.lstM hB
 refine PySem.P.add_list e e2 ?_ (by rw [EC,EC];omega)
 have ea:its.toArray++KP.toArray=(its++KP).toArray:=by simp
 rw [ea]
 exact ⟨.ref _,_,I.lnew (t':=s.toks) (r.append r2) (by rw [Eb];omega),rfl,q _ I.fresh⟩
inductive Dd (x:V)(y:V)(H:Hp)(Q:VK):Prop
 | mk:∀ l k xs,(x = .ref l)→(y = .int k)→(H l=some (.lst xs))→(-(2 ^ 63)≤k)→(k < 2 ^ 63)→(xs.length*k.toNat≤sizeLine)→(∀ p,H p=none→Q (.ref p) (upd H p (.lst (List.replicate k.toNat xs).flatten)))→Dd x y H Q
theorem wt {α:Type}(xs:List α)(k:Nat):(List.replicate k xs).flatten.length=k*xs.length:=by
 induction k with
 | zero=>simp
 | succ k ih=>rw [F0,E7,Eb,ih,JG,Ht]
theorem zq:OpR X (binaryOp .Mult) Dd:=by
 intro Kl s σ H x y v u Q I rx ry h
 obtain ⟨l,k,xs,rfl,rfl,hH,h1,h2,hz,q⟩:=h
 cases rx
 obtain ⟨t,rfl⟩:=ry
 obtain ⟨z,its,n,r,hl,e⟩:=I.lstM hH
 have hlen:its.toArray.size*k.toNat≤sizeLine:=by rw [EC,← hl];exact hz
 have hcap:¬ its.toArray.size*k.toNat > (2 ^ 63 - 1) / 8:=by
  have:(sizeLine:Nat)≤(2 ^ 63 - 1) / 8:=by decide
  omega
 have hfit:¬ (!Builtin.List.listFitsIndex k)=true:=by
  rw [fitsIndex_both h1 h2]
  exact EH
 have hlong:¬ Builtin.List.listTooLong (its.toArray.size*k.toNat)=true:=by
  rw [lI hlen]
  exact EH
 have hnew:List.foldl (fun x1 x2=>x1++x2) #[] (List.replicate (if its.toArray.isEmpty=true then 0 else k.toNat) its.toArray)=(List.replicate k.toNat its).flatten.toArray:=by
  have f0:∀ m:Nat,List.foldl (fun x1 x2=>x1++x2) #[] (List.replicate m its.toArray)=(List.replicate m its).flatten.toArray:=fun m=>by
   have:=jq its m []
   rw [List.nil_append] at this
   exact this
  rw [f0]
  cases its with
  | nil=>simp
  | cons a r'=>rw [if_neg (by simp)]
 refine wpAny_binaryOp_repeat_ref (T:="list") (U:="int") (by decide) ⟨_,e,rfl⟩ (fun s'=>typeIs_int s' k t) noFill_list_mul F.fills_int_mul F.slot_int_rmul repeat_list F.slot_int_index.lookup
  (Jt F.slot_int_rmul (typeIs_int s k t) F.entry_int_rmul (F.args_int_rmul_2 _ _) (int___rmul___int_list k t l its.toArray n)
   ⟨e,rfl,⟨_,e,rfl⟩,Jt F.slot_list_mul ⟨_,e,rfl⟩ F.entry_list_mul (F.args_list_mul_2 _ _) (AutoListH.list___mul___list_int_3 l its.toArray n k t hfit hcap hlong) ⟨e,?_⟩⟩)
 rw [hnew]
 exact ⟨.ref _,_,I.lnew (t':=s.toks) (r.rep k.toNat) (by rw [wt,Nat.mul_comm];exact hz),rfl,q _ I.fresh⟩
end
section
variable {prog:Program} {w:World} {A:Around} {E:Value→Shared→Prop} {s:Shared}
end
section
variable {X:Cx}
end
section
variable {κ:Type} [DecidableEq κ]
def fe (Km:List (κ × V))(k:κ):Option V:=(Km.find? fun kv=>decide (kv.1=k)).map (·.2)
def eU (Km:List (κ × V))(k:κ)(v:V):List (κ × V) :=
 if (Km.any fun kv=>decide (kv.1=k))=true then Km.map (fun kv=>if kv.1=k then (kv.1,v) else kv) else Km++[(k,v)]
theorem ik {p:κ × V}{r:List (κ × V)}{k:κ}(e:p.1=k):fe (p::r) k=some p.2:=by simp [fe,GO,e]
theorem il {p:κ × V}{r:List (κ × V)}{k:κ}(e:¬ p.1=k):fe (p::r) k=fe r k:=by simp [fe,GO,e]
theorem ff (k:κ):∀ Km:List (κ × V),(Km.any fun kv=>decide (kv.1=k))=(fe Km k).isSome
 | []=>rfl
 | p::r=>by
  rw [JA]
  by_cases e:p.1=k
  ·simp only [ik e,Ee e,Bool.true_or,Option.isSome_some]
  ·rw [il e,Ea e,JB];exact ff k r
theorem dN (Km:List (κ × V))(k:κ)(v:V):(eU Km k v).length≤Km.length+1:=by
 unfold eU
 split
 ·rw [Ej];omega
 ·rw [Eb,EF,Fl];omega
theorem tm {Km:List (κ × V)}{k:κ}(v:V)(h:fe Km k=none):eU Km k v=Km++[(k,v)]:=by
 unfold eU
 rw [ff,h]
 exact if_neg (by decide)
theorem oo.isSome_eq {o:Option V}{u:Option Value}(r:oo o u):o.isSome=u.isSome:=by
 cases o with
 | none=>cases u with
  | none=>rfl
  | some _=>exact (show False from r).elim
 | some _=>cases u with
  | none=>exact (show False from r).elim
  | some _=>rfl
theorem KV.val {Km:List (κ × V)}{vs:List (κ × Value)}(r:KV Km vs)(k:κ):oo (fe Km k) (valueAt vs k):=by
 unfold KV at r
 induction r with
 | nil=>exact True.intro
 | @cons p q ps qs h t ih =>
  obtain ⟨h1,h2⟩:=h
  by_cases e:p.1=k
  ·have e':q.1=k:=h1.symm.trans e
   have b:valueAt (q::qs) k=some q.2:=by simp [valueAt,GO,e']
   rw [ik e,b];exact h2
  ·have e':¬ q.1=k:=fun z=>e (h1.trans z)
   have b:valueAt (q::qs) k=valueAt qs k:=by simp [valueAt,GO,e']
   rw [il e,b];exact ih
theorem KV.any {Km:List (κ × V)}{vs:List (κ × Value)}(r:KV Km vs)(k:κ):(Km.any fun kv=>decide (kv.1=k))=vs.any fun kv=>decide (kv.1=k):=by
 unfold KV at r
 induction r with
 | nil=>rfl
 | cons h t ih=>rw [JA,JA,ih,h.1]
theorem KV.repl {Km:List (κ × V)}{vs:List (κ × Value)}(r:KV Km vs)(k:κ){y:V}{u:Value}(ry:bq y u) :
  KV (Km.map fun kv=>if kv.1=k then (kv.1,y) else kv) (vs.map fun kv=>if kv.1=k then (kv.1,u) else kv):=by
 unfold KV at r ⊢
 induction r with
 | nil=>exact .nil
 | @cons p q ps qs h t ih =>
  rw [EO,EO]
  refine .cons ?_ ih
  obtain ⟨h1,h2⟩:=h
  by_cases e:p.1=k
  ·rw [if_pos e,if_pos (h1.symm.trans e)];exact ⟨h1,ry⟩
  ·rw [if_neg e,if_neg (fun z=>e (h1.trans z))];exact ⟨h1,h2⟩
theorem KV.put {Km:List (κ × V)}{vs:List (κ × Value)}(r:KV Km vs)(k:κ){y:V}{u:Value}(ry:bq y u):KV (eU Km k y) (stored vs k u):=by
 unfold eU stored
 rw [r.any k]
 by_cases e:(vs.any fun kv=>decide (kv.1=k))=true
 ·rw [if_pos e,if_pos e];exact r.repl k ry
 ·rw [if_neg e,if_neg e];exact Paired.snoc r ⟨rfl,ry⟩
theorem KV.length {Km:List (κ × V)}{vs:List (κ × Value)}(r:KV Km vs):Km.length=vs.length:=IL r
end
theorem oR {P:Program}{w:World}{k:Key}{u:Value}(r:bq (kV k) u):(bb P w).is k u=true:=by
 cases k with
 | inl i=>obtain ⟨t,e⟩:=(show ∃ t,u=Value.int i t from r);subst e;exact j5 P w i t
 | inr x=>obtain ⟨t,e⟩:=(show ∃ t,u=Value.str x t from r);subst e;exact j6 P w x t
theorem jr {P:Program}{w:World}:∀ {ks:List Key} {us:List Value},ba (ks.map kV) us→ItemsAre (bb P w) ks us
 | [],_,r=>by rw [Hs] at r;cases r;exact .nil
 | k::ks,_,r=>by
  rw [EO] at r
  cases r with
  | cons h t=>exact .cons (oR h) (jr t)
abbrev KT (H:Hp):List (List Key × V)→List (List Key × Addr × Value)→Prop:=Paired fun p q=>p.1=q.1∧H q.2.1=some (.tup (p.1.map kV))∧bq p.2 q.2.2
theorem KT.val {H:Hp}{Km:List (List Key × V)}{xs:List (List Key × Addr × Value)}(r:KT H Km xs)(k:List Key):oo (fe Km k) ((atKey xs k).map (·.2)):=by
 induction r with
 | nil=>exact True.intro
 | @cons p q ps qs h t ih =>
  obtain ⟨h1,_,h2⟩:=h
  by_cases e:p.1=k
  ·have e':q.1=k:=h1.symm.trans e
   have b:atKey (q::qs) k=some q.2:=by simp [atKey,GO,e']
   rw [ik e,b];exact h2
  ·have e':¬ q.1=k:=fun z=>e (h1.trans z)
   have b:atKey (q::qs) k=atKey qs k:=by simp [atKey,GO,e']
   rw [il e,b];exact ih
theorem KT.repl {H:Hp}{Km:List (List Key × V)}{xs:List (List Key × Addr × Value)}(r:KT H Km xs)(k:List Key){y:V}{u:Value}(ry:bq y u) :
  KT H (Km.map fun kv=>if kv.1=k then (kv.1,y) else kv) (xs.map (putAt k u)):=by
 induction r with
 | nil=>exact .nil
 | @cons p q ps qs h t ih =>
  rw [EO,EO]
  refine .cons ?_ ih
  obtain ⟨h1,h2,h3⟩:=h
  unfold putAt
  by_cases e:p.1=k
  ·rw [if_pos e,if_pos (h1.symm.trans e)];exact ⟨h1,h2,ry⟩
  ·rw [if_neg e,if_neg (fun z=>e (h1.trans z))];exact ⟨h1,h2,h3⟩
theorem KT.put {H:Hp}{Km:List (List Key × V)}{xs:List (List Key × Addr × Value)}(r:KT H Km xs)(k:List Key){b:Addr}{y:V}{u:Value}(hb:H b=some (.tup (k.map kV)))(ry:bq y u) :
  KT H (eU Km k y) (storedH xs k b u):=by
 have e:(Km.any fun kv=>decide (kv.1=k))=(atKey xs k).isSome:=by
  rw [ff,(r.val k).isSome_eq,Option.isSome_map]
 unfold eU storedH
 rw [e]
 by_cases q:(atKey xs k).isSome=true
 ·rw [if_pos q,if_pos q];exact r.repl k ry
 ·rw [if_neg q,if_neg q];exact Paired.snoc r ⟨rfl,hb,ry⟩
theorem KT.keeps {H H':Hp}{Km:List (List Key × V)}{xs:List (List Key × Addr × Value)}(r:KT H Km xs)(ht:∀ b ys,H b=some (.tup ys)→H' b=some (.tup ys)):KT H' Km xs :=
 Paired.mapP r fun _ _ z=>⟨z.1,ht _ _ z.2.1,z.2.2⟩
section
variable {P:Program} {w:World} {H:Hp} {h:Heap} {a:Addr}
theorem zr {u:HO}(ok:HOk P w H h)(e:Rd H a u):br P w H h a u:=e.ok ok
theorem tq {Km:List (Key × V)}(ok:HOk P w H h)(e:Rd H a (.dK Km)):Km.length≤sizeLine∧(a == sysModules)=false∧∃ vs,KV Km vs∧h.DictOf (bb P w) a vs :=
 show br P w H h a (.dK Km) from zr ok e
theorem zu {Km:List (Key × V)}(ok:HOk P w H h)(e:H a=some (.dK Km)):Km.length≤sizeLine∧(a == sysModules)=false∧∃ vs,KV Km vs∧h.DictOf (bb P w) a vs:=tq ok (.inl e)
theorem lJ {ks:List Key}(ok:HOk P w H h)(e:H a=some (.tup (ks.map kV))):(tupleKind (bb P w)).is h ks a:=by
 obtain ⟨_,its,r,⟨o,h1,h2,n,h3⟩,_⟩:=(show br P w H h a (.tup (ks.map kV)) from ok a _ e)
 exact ⟨o,its.toArray,n,h1,h2,h3,by simpa using jr r⟩
theorem tu {Km:List (List Key × V)}(ok:HOk P w H h)(e:Rd H a (.dT Km)):Km.length≤sizeLine∧(a == sysModules)=false ∧
  ∃ xs,KT H Km xs∧h.DictOfH (tupleKind (bb P w)) a xs:=by
 obtain ⟨z,y,xs,r,o,es,ep,h1,h2,h3,h4,h5⟩:=(show br P w H h a (.dT Km) from zr ok e)
 refine ⟨z,y,xs,r,o,es,ep,h1,h2,h3,h4,fun x hx=>?_,h5⟩
 have all:∀ {l:List (List Key × V)} {m:List (List Key × Addr × Value)},KT H l m→∀ x∈m,(tupleKind (bb P w)).is h x.1 x.2.1:=by
  intro l m q
  induction q with
  | nil=>intro x hx;exact nomatch hx
  | @cons p q ps qs hq t ih =>
   intro x hx
   rcases Et.mp hx with e | hx
   ·subst e
    exact lJ ok (by rw [← hq.1];exact hq.2.1)
   ·exact ih x hx
 exact all r x hx
theorem BO {Km:List (List Key × V)}(ok:HOk P w H h)(e:H a=some (.dT Km)):Km.length≤sizeLine∧(a == sysModules)=false ∧
  ∃ xs,KT H Km xs∧h.DictOfH (tupleKind (bb P w)) a xs:=tu ok (.inl e)
end
def oS (H:Hp)(a:Addr)(y:V)(r:Option V):Prop :=
 (∃ Km k,Rd H a (.dK Km)∧y=kV k∧r=fe Km k) ∨ ∃ Km k b,Rd H a (.dT Km)∧y = .ref b∧H b=some (.tup (k.map kV))∧r=fe Km k
def wu (H:Hp)(a:Addr)(y v:V)(H':Hp):Prop :=
 (∃ Km k,H a=some (.dK Km)∧y=kV k∧Km.length < sizeLine∧H'=upd H a (.dK (eU Km k v))) ∨
 ∃ Km k b,H a=some (.dT Km)∧y = .ref b∧H b=some (.tup (k.map kV))∧Km.length < sizeLine∧H'=upd H a (.dT (eU Km k v))
theorem oS.k {H:Hp}{a:Addr}{Km:List (Key × V)}{k:Key}(e:H a=some (.dK Km)):oS H a (kV k) (fe Km k):=.inl ⟨Km,k,.inl e,rfl,rfl⟩
theorem wu.k {H:Hp}{a:Addr}{Km:List (Key × V)}{k:Key}{v:V}(e:H a=some (.dK Km))(hl:Km.length < sizeLine):wu H a (kV k) v (upd H a (.dK (eU Km k v))):=.inl ⟨Km,k,e,rfl,hl,rfl⟩
section
variable {X:Cx} {Kl:List (Addr × Obj)} {σ:St} {H:Hp} {s:Shared} {a:Addr} {y v:V} {u r:Value} {o:Option V} {A:Around} {E:Value→Shared→Prop}
theorem Inv.big (I:Inv X Kl σ H s):sysModules < s.heap.objs.size:=by
 have h:mainGlobals < s.heap.objs.size:=(I.mod.glob.keeps I.bk).lt
 exact JH (by decide) h
theorem oT {Q:Value→Shared→Prop}(hu:A.units+1 < cLine)(I:Inv X Kl σ H s)(g:oS H a y (some v))(ry:bq y u)(h:∀ w' s',Inv X Kl σ H s'→bq v w'→Q w' s') :
  wpAny (model X.prog X.w) A (getItem (.ref a) u) Q E s:=by
 rcases g with ⟨Km,k,e,ey,l⟩ | ⟨Km,k,b,e,ey,eb,l⟩
 ·subst ey
  obtain ⟨z,hd,vs,rel,dd⟩:=tq I.hok e
  obtain ⟨w',hw,rw'⟩:=oo.some_of (v:=v) (o:=valueAt vs k) (by rw [l];exact rel.val k)
  exact wpAny_getItem_of (oR ry) dd.mapOf hw (h w' _ (I.tok _) rw')
 ·subst ey
  cases (show u=Value.ref b from ry)
  obtain ⟨z,hd,xs,rel,dd⟩:=tu I.hok e
  obtain ⟨w',hw,rw'⟩:=oo.some_of (v:=v) (o:=(atKey xs k).map (·.2)) (by rw [l];exact rel.val k)
  obtain ⟨p,hp,hp2⟩:=Option.map_eq_some_iff.mp hw
  refine wpAny_getItem_heap (Ip hu) (lJ I.hok eb) dd hp ?_
  rw [hp2]
  exact h w' _ (I.tok _) rw'
theorem wx {Q:Value→Shared→Prop}(hu:A.units+1 < cLine)(I:Inv X Kl σ H s)(g:oS H a y o)(ry:bq y u)(h:∀ s',Inv X Kl σ H s'→Q (.bool (!o.isSome)) s') :
  wpAny (model X.prog X.w) A (compareOp .NotIn u (.ref a)) Q E s:=by
 rcases g with ⟨Km,k,e,ey,l⟩ | ⟨Km,k,b,e,ey,eb,l⟩
 ·subst ey
  obtain ⟨z,hd,vs,rel,dd⟩:=tq I.hok e
  refine wpAny_notIn_of (oR ry) hd dd.mapOf ?_
  rw [← (rel.val k).isSome_eq,← l]
  exact h _ (I.tok _)
 ·subst ey
  cases (show u=Value.ref b from ry)
  obtain ⟨z,hd,xs,rel,dd⟩:=tu I.hok e
  refine wpAny_notIn_heap (Ip hu) (lJ I.hok eb) hd dd ?_
  have q:=(rel.val k).isSome_eq
  rw [Option.isSome_map] at q
  rw [← q,← l]
  exact h _ (I.tok _)
theorem kf {h':Heap}{t':Nat}{ob:HO}(I:Inv X Kl σ H s)(mu:Mut (H a))(hs:Heap.SameBut a s.heap h')(he:∃ q,h'.get? a=some q)(new:br X.prog X.w (upd H a ob) h' a ob) :
  Inv X Kl σ (upd H a ob) { s with heap:=h',toks:=t' } :=
 I.write (x:=a) (e:=a) mu (.inl rfl) (fun b q hb z=>(hs.2 b hb).trans z) he new
theorem vf {P:Program}{w:World}{H':Hp}{h':Heap}{Km:List (Key × V)}{vs:List (Key × Value)}(z:Km.length≤sizeLine)(hd:(a == sysModules)=false)(rel:KV Km vs)(dd:h'.DictOf (bb P w) a vs) :
  br P w H' h' a (.dK Km):=⟨z,hd,vs,rel,dd⟩
theorem oU {H':Hp}{Q:Unit→Shared→Prop}(hu:A.units+1 < cLine)(I:Inv X Kl σ H s)(g:wu H a y v H')(ry:bq y u)(rv:bq v r)(h:∀ s',Inv X Kl σ H' s'→Q () s') :
  wpAny (model X.prog X.w) A (setItem (.ref a) u r) Q E s:=by
 rcases g with ⟨Km,k,e,ey,l,eH⟩ | ⟨Km,k,b,e,ey,eb,l,eH⟩
 ·subst ey eH
  obtain ⟨z,hd,vs,rel,dd⟩:=zu I.hok e
  have hz:vs.length≤sizeLine:=by rw [← rel.length];exact z
  have hl:(eU Km k v).length≤sizeLine:=by have:=dN Km k v;omega
  refine wpAny_setItem_pairs (hsz:=hz) (oR ry) dd fun h' dd' hs=>h _ ?_
  have he:∃ q,h'.get? a=some q:=let ⟨q,_,_,hq,_⟩:=dd';⟨q,hq⟩
  exact kf I (by rw [e];exact True.intro) hs he (vf hl hd (rel.put k rv) dd')
 ·subst ey eH
  cases (show u=Value.ref b from ry)
  obtain ⟨z,hd,xs,rel,dd⟩:=BO I.hok e
  have hz:xs.length≤sizeLine:=by rw [← IL rel];exact z
  have hl:(eU Km k v).length≤sizeLine:=by have:=dN Km k v;omega
  refine wpAny_setItem_heap (hsz:=hz) (Ip hu) (lJ I.hok eb) dd fun h' dd' hs=>h _ ?_
  obtain ⟨q,es,ep,hq,h2,h3,h4,_,h5⟩:=dd'
  refine kf I (by rw [e];exact True.intro) hs ⟨q,hq⟩ ⟨hl,hd,_,(rel.put k eb rv).keeps fun c ys ec=>?_,q,es,ep,hq,h2,h3,h4,h5⟩
  rw [aH (vU ec e (fun z=>nomatch z))]
  exact ec
end
section
variable {X:Cx} {Kl:List (Addr × Obj)} {σ:St} {H:Hp} {s:Shared} {a:Addr} {Km:List (Key × V)} {k:Key} {u:Value} {A:Around} {E:Value→Shared→Prop}
end
def De (i:Expr):Prop:=∀ ov iv,subscripted i false ov iv=operate [ov,iv] (getItem ov iv)
theorem wz {prog:Program}{w:World}{A:Around}{E:Value→Shared→Prop}{s:Shared}{env:Env}{value slice:Expr}{pos:Pos}{T id:String}{Q:Value→Shared→Prop}
  (hl:typeLookup (.type T) "__getitem__" = pure (some (.builtin id))) (hs:De slice)
  (h:wpAny (model prog w) A (eval value env) (fun o s₁=>wpAny (model prog w) A (eval slice env) (fun i s₂=>s₂.TypeIs o T∧wpAny (model prog w) A (getItem o i) Q E s₂) E s₁) E s) :
  wpAny (model prog w) A (eval (.Subscript value slice pos) env) Q E s:=by
 refine Subscript_ (FZ h (fun o s₁ h₁=>FZ h₁ (fun i s₂ h₂=>?_) fun _ _ x=>x) fun _ _ x=>x)
 obtain ⟨hT,h₂⟩:=h₂
 unfold subscriptTail
 refine D9 ?_
 rw [getitemInPython_of_ne hT.not_modules]
 refine D9 (Jm hT hl ?_)
 have fin:wpAny (model prog w) A (subscripted slice false o i) (fun r s₃=>wpAny (model prog w) A (letTemporaryGo value o r >>= fun _=>pure r) Q E s₃) E s₂:=by
  rw [hs o i]
  exact wpAny_operating (FZ h₂ (fun r s₃ h₃=>D9 (wpAny_letTemporaryGo (Ep h₃))) fun _ _ x=>x)
 first
  | exact Ep (D9 fin)
  | exact D9 (Ep (D9 fin))
  | exact D9 fin
theorem kg {X:Cx}{Kl:List (Addr × Obj)}{σ:St}{H:Hp}{s:Shared}{a:Addr}{y:V}{o:Option V}(I:Inv X Kl σ H s)(g:oS H a y o):s.TypeIs (.ref a) "dict":=by
 rcases g with ⟨Km,k,e,_,_⟩ | ⟨Km,k,b,e,_,_,_⟩
 ·obtain ⟨_,_,vs,_,dd⟩:=tq I.hok e
  exact dd.typeIs
 ·obtain ⟨_,_,xs,_,dd⟩:=tu I.hok e
  exact dd.typeIs
def BP (td ty:TE):TE:=fun σ H Q=>td σ H fun x H1=>ty σ H1 fun y H2=>∃ a v,x = .ref a∧oS H2 a y (some v)∧Q v H2
def oV (ty td:TE):TE:=fun σ H Q=>ty σ H fun y H1=>td σ H1 fun x H2=>∃ a o,x = .ref a∧oS H2 a y o∧Q (.bl (!o.isSome)) H2
def BQ (td ty tv:TE):TS:=fun D σ H=>tv σ H fun v H1=>td σ H1 fun x H2=>ty σ H2 fun y H3=>∃ a H4,x = .ref a∧wu H3 a y v H4∧D.nx σ H4
section
variable {X:Cx} {o i e value:Expr} {pos pos' tpos:Pos} {td ty tv:TE}
theorem b8 (hu:X.A.units+1 < cLine)(ho:PE X o td)(hi:PE X i ty)(hs:De i):PE X (.Subscript o i pos) (BP td ty):=by
 intro Kl s σ H Q I h
 refine wz PySem.F.slot_dict_getitem.lookup hs (thn (ho Kl s σ H _ I h) fun u s1 ⟨x,H1,I1,rx,q1⟩=>thn (hi Kl s1 σ H1 _ I1 q1) fun iv s2 zq68=>?_)
 obtain ⟨y,H2,I2,ry,a,v,ex,g,q2⟩:=zq68
 subst ex
 obtain rfl:u=Value.ref a:=rx
 exact ⟨kg I2 g,oT hu I2 g ry fun w' s3 I3 rw'=>⟨v,H2,I3,rw',q2⟩⟩
theorem oW (hu:X.A.units+1 < cLine)(hi:PE X i ty)(ho:PE X o td):PC X .NotIn i o (oV ty td):=by
 intro Kl s σ H Q I h
 refine thn (hi Kl s σ H _ I h) fun iv s1 ⟨y,H1,I1,ry,q1⟩=>thn (ho Kl s1 σ H1 _ I1 q1) fun u s2 zq70=>?_
 obtain ⟨x,H2,I2,rx,a,ov,ex,g,q2⟩:=zq70
 subst ex
 obtain rfl:u=Value.ref a:=rx
 exact wx hu I2 g ry fun s3 I3=>⟨.bl (!ov.isSome),H2,I3,rfl,q2⟩
theorem fF (hu:X.A.units+1 < cLine)(ho:PE X o td)(hi:PE X i ty)(hv:PE X value tv)(hs:swapsWith value (some (.Subscript o i pos')) pos.line X.env=pure false) :
  PS X (.Assign [.Subscript o i pos'] value pos) (BQ td ty tv):=by
 intro Kl s σ H D I h
 refine wpAny_Assign_Subscript (thn (hv Kl s σ H _ I h) fun r s1 ⟨v,H1,I1,rv,q1⟩=>thn (ho Kl s1 σ H1 _ I1 q1) fun u s2 ⟨x,H2,I2,rx,q2⟩=>thn (hi Kl s2 σ H2 _ I2 q2) fun iv s3 zq71=>?_) hs
 obtain ⟨y,H3,I3,ry,a,H4,ex,g,q3⟩:=zq71
 subst ex
 obtain rfl:u=Value.ref a:=rx
 exact oU hu I3 g ry rv fun s4 I4=>⟨σ,H4,I4,q3⟩
end
theorem lK {P:Program}{w:World}{H:Hp}(h:Heap)(hb:sysModules < h.objs.size):br P w H (h.push { cls:=.type "dict",data:=.dict #[] }) h.objs.size (.dK []) :=
 ⟨E1 _,beq_eq_false_iff_ne.mpr (Ne.symm (EW hb)),[],.nil,Heap.DictOf.new h⟩
def zw:TE:=fun _ H Q=>∀ p,H p=none→Q (.ref p) (upd H p (.dK []))
section
variable {X:Cx} {pos:Pos}
theorem tw:PE X (.Dict [] [] pos) zw:=fun Kl s σ H Q I h =>
 wpAny_Dict_empty ⟨.ref s.heap.objs.size,_,I.laid (a:=s.heap.objs.size) (o:=.dK []) (t':=s.toks) (fun _ _ q=>D_ _ q) (Ei _) (lK s.heap I.big),rfl,h _ (I.hok.fresh (Ei _))⟩
end
def oX:List (TE × TE)→St→Hp→(List (V × V)→Hp→Prop)→Prop
 | [],_,H,Q=>Q [] H
 | (tk,tv)::r,σ,H,Q=>tk σ H fun x H1=>tv σ H1 fun y H2=>oX r σ H2 fun ps H3=>Q ((x,y)::ps) H3
abbrev VV:List (V × V)→List (Value × Value)→Prop:=Paired fun p q=>bq p.1 q.1∧bq p.2 q.2
def PPs (X:Cx)(pos:Pos)(keys:List (Option Expr))(values:List Expr)(trs:List (TE × TE)):Prop :=
 ∀ (Kl:List (Addr × Obj)) (s:Shared) (σ:St) (H:Hp) (Q:List (V × V)→Hp→Prop),Inv X Kl σ H s→oX trs σ H Q →
  wpAny (model X.prog X.w) X.A (evalPairs (pairTrees keys values X.env pos)) (fun vs s'=>∃ ps H',Inv X Kl σ H' s'∧VV ps vs∧Q ps H') X.xe s
theorem wA {X:Cx}{pos:Pos}:PPs X pos [] [] []:=fun Kl s σ H Q I h=>pairTrees_nil_walk ⟨[],H,I,.nil,h⟩
theorem fg {X:Cx}{pos:Pos}{k v:Expr}{ks:List (Option Expr)}{vs:List Expr}{tk tv:TE}{trs:List (TE × TE)}(hk:PE X k tk)(hv:PE X v tv)(hr:PPs X pos ks vs trs) :
  PPs X pos (some k::ks) (v::vs) ((tk,tv)::trs):=fun Kl s σ H Q I h =>
 pairTrees_cons_walk (thn (hk Kl s σ H _ I h) fun u s1 ⟨x,H1,I1,rx,q1⟩=>thn (hv Kl s1 σ H1 _ I1 q1) fun w2 s2 ⟨y,H2,I2,ry,q2⟩ =>
  thn (hr Kl s2 σ H2 _ I2 q2) fun ws s3 zq75=>(by obtain ⟨ps,H3,I3,rel,q3⟩:=zq75;exact ⟨(x,y)::ps,H3,I3,.cons ⟨rx,ry⟩ rel,q3⟩))
def fG (Km more:List (Key × V)):List (Key × V):=more.foldl (fun acc kv=>eU acc kv.1 kv.2) Km
theorem KV.merge:∀ {more:List (Key × V)} {rs:List (Key × Value)} {Km:List (Key × V)} {vs:List (Key × Value)},KV more rs→KV Km vs→KV (fG Km more) (merged vs rs):=by
 intro more rs Km vs r
 unfold KV at r
 induction r generalizing Km vs with
 | nil=>intro q;exact q
 | @cons p q ps qs h t ih =>
  intro r0
  have e:KV (eU Km p.1 p.2) (stored vs q.1 q.2):=by
   have:=r0.put p.1 h.2
   rw [← h.1];exact this
  exact ih e
theorem dU:∀ (more Km:List (Key × V)),(fG Km more).length≤Km.length+more.length
 | [],Km=>by show Km.length≤Km.length+0;omega
 | p::r,Km=>by
  have h1:=dU r (eU Km p.1 p.2)
  have h2:=dN Km p.1 p.2
  show (fG (eU Km p.1 p.2) r).length≤_
  rw [EF];omega
theorem gH {P:Program}{w:World}:∀ {Km:List (Key × V)} {ws:List (Value × Value)},VV (Km.map fun kv=>(kV kv.1,kv.2)) ws→∃ rs,Carries (bb P w) ws rs∧KV Km rs
 | [],_,r=>by rw [Hs] at r;cases r;exact ⟨[],True.intro,.nil⟩
 | p::Km,_,r=>by
  rw [EO] at r
  cases r with
  | @cons a b as bs h t =>
   obtain ⟨rs,c,q⟩:=gH (P:=P) (w:=w) t
   obtain ⟨b1,b2⟩:=b
   exact ⟨(p.1,b2)::rs,⟨oR h.1,rfl,c⟩,.cons ⟨rfl,h.2⟩ q⟩
def BR (trs:List (TE × TE)):TE:=fun σ H Q=>∀ p,H p=none→oX trs σ (upd H p (.dK [])) fun ps H2=>H2 p=some (.dK [])∧∃ Km:List (Key × V),ps=Km.map (fun kv=>(kV kv.1,kv.2))∧Km.length≤15∧Q (.ref p) (upd H2 p (.dK (fG [] Km)))
theorem wC {X:Cx}{pos:Pos}{keys:List (Option Expr)}{values:List Expr}{trs:List (TE × TE)}(h:PPs X pos keys values trs)(hall:keys.all (·.isSome)=true)(hl:keys.length=values.length)(h0:keys≠[])
  (h15:keys.length≤15):PE X (.Dict keys values pos) (BR trs):=by
 intro Kl s σ H Q I q
 have hn:=I.hok.fresh (Ei s.heap.objs.size)
 have I1:=I.laid (a:=s.heap.objs.size) (o:=.dK []) (h':=s.heap.push { cls:=.type "dict",data:=.dict #[] }) (t':=s.toks) (fun _ _ q=>D_ _ q) (Ei _) (lK s.heap I.big)
 refine wpAny_Dict_walk (knd:=bb X.prog X.w) hall hl h0 h15 (thn (h Kl _ σ _ _ I1 (q _ hn)) fun ws s2 zq76=>?_)
 obtain ⟨ps,H2,I2,rel,e,Km,ep,lk,q2⟩:=zq76
 subst ep
 obtain ⟨rs,c,rk⟩:=gH (P:=X.prog) (w:=X.w) rel
 obtain ⟨z,hd,vs0,r0,dd⟩:=zu I2.hok e
 cases r0
 refine ⟨rs,c,dd,fun h' dd' hs=>⟨.ref s.heap.objs.size,_,?_,rfl,q2⟩⟩
 have hz:(fG [] Km).length≤sizeLine:=by
  have h1:=dU Km []
  rw [Fl] at h1
  rw [Hm];omega
 have he:∃ q,h'.get? s.heap.objs.size=some q:=let ⟨q,_,_,hq,_⟩:=dd';⟨q,hq⟩
 exact kf I2 (by rw [e];exact True.intro) hs he (vf hz hd (rk.merge .nil) dd')
section
variable {X:Cx} {Kl:List (Addr × Obj)} {σ:St} {H:Hp} {s:Shared} {a:Addr} {y d:V} {u r:Value} {o:Option V} {A:Around} {E:Value→Shared→Prop}
end
section
variable {X:Cx} {o e f:Expr} {apos KD:Pos} {td ty tx:TE}
end
section
variable {X:Cx} {Kl:List (Addr × Obj)} {σ:St} {H:Hp} {s:Shared} {a:Addr} {Km:List (Key × V)} {A:Around} {E:Value→Shared→Prop}
end
section
variable {X:Cx} {Kl:List (Addr × Obj)} {σ:St} {H:Hp} {s:Shared} {a:Addr} {y:V} {u:Value} {A:Around} {E:Value→Shared→Prop}
end
end L2
namespace Att
open PySem PySem.W PySem.Calls PyProof.Rows
theorem fH {P:Params}{h:Heap}:∀ (ns:List Int) (vs:List Value),WellAll P h vs (ns.map WData.int)→IntsAre vs ns:=by
 intro ns
 induction ns with
 | nil =>
  intro vs w
  rw [Hs] at w
  cases w
  exact .nil
 | cons n ns ih =>
  intro vs w
  rw [EO] at w
  cases w with
  | cons a b =>
   cases a
   exact .cons _ _ (ih _ b)
theorem oY {l:OpenLaw}{n:Nat}(hn:l.most=some n){P:Params}{h:Heap}{args:List WData}{vals:List Value}
  (hpre:l.row.toRowW.claim.pre args=true) (hwl:WellAll P h vals args) :
  ∃ a vs ns,vals=[Value.ref a]∧args=[WData.list (ns.map WData.int)]∧h.get? a=some { cls:=.type "list",data:=.seq vs.toArray }∧IntsAre vs ns∧ns.length≤n:=by
 have hsh:WShape.hasAll [] args [.list .int]=true:=(pre_splitW hpre).1
 have hc:l.pre.holds [] { args:=args }=true:=(pre_splitW hpre).2
 obtain ⟨d,r,rfl,h1,h2⟩:=hasAllW_cons hsh
 obtain rfl:=hasAllW_nil h2
 obtain ⟨xs,rfl,h3⟩:=hasW_list h1
 obtain ⟨ns,rfl⟩:=items_int h3
 have hlen:ns.length≤n:=by
  unfold OpenLaw.pre at hc
  have h4:(WTm.not (.lt (.lit (.int (n:Int))) (.len (.arg 0)))).holds [] { args:=[.list (ns.map .int)] }=true:=by
   have h4:=(holds_andW hc).1
   rw [hn] at h4
   exact h4
  have h5:=condW_of h4 (w_not (w_lt w_lit (w_len_list (w_arg rfl))))
  rw [Ej] at h5
  refine Nat.le_of_not_lt fun q=>?_
  have q':(n:Int) < ((ns.length:Nat):Int):=by omega
  first
   | (rw [Ee q'] at h5;exact absurd h5 (by decide))
   | (simp at h5;omega)
 cases hwl with
 | cons w1 w2 =>
  cases w2
  cases w1 with
  | list ho hall=>exact ⟨_,_,ns,rfl,rfl,ho,fH ns _ hall,hlen⟩
theorem oZ (l:OpenLaw)(args:List WData):l.row.toRowW.claim.post args (.bool true) args=true :=
 postW_of (r:=l.row.toRowW) (X:=(true == true))
  (show WShape.has [] (.bool true) .bool=true by first | rfl | decide | simp [WShape.has,WShape.arms,WShape.armsAll])
  (show (WTm.eq .res (.lit (.bool true))).value [] { args:=args,res:=some (.bool true),after:=args }=some (.bool (true == true)) from w_eq_bool (w_res rfl) w_lit) rfl
theorem attach_call {l:OpenLaw}{n:Nat}{q:Program}{loose:List Str}{XP:(Str→Option Value)→Heap→Prop}{YP:World→Heap→Prop}{d:DefRec}
  (hn:l.most=some n) (hdf:d.params.defaults=[])
  (call:∀ (w:World) (s₀ s₁:Shared) (mg mb:Str→Option Value) (fa:Addr) (o:Obj) (pm cd doc:Value) (a:Addr) (vs:List Value) (ns:List Int),
   Ground q loose [] XP w s₀ mg mb s₁.heap→YP w s₁.heap →
   s₁.heap.get? fa=some o→o.data = .func (docDef d.name d.params d.body d.scope pm cd doc)→s₁.heap.CodeRec cd d.name→mg d.name=some (.ref fa) →
   s₁.heap.get? a=some { cls:=.type "list",data:=.seq vs.toArray }→IntsAre vs ns→ns.length≤n→s₁.gens=#[] →
   codeAny (model l.prog w) callerA (.call (.ref fa) ⟨[.ref a],[]⟩) (fun r s'=>r = .ok (.ret (.bool true))∧OldK s₁.heap s'.heap∧s'.os=s₁.os∧AllBare s'.gens) s₁) :
  WalkO q loose XP YP l.row.toRowW d [] (fun f vs=>PySem.call f vs):=by
 intro w s₀ s₁ mg mb G Y fa o pm cd doc dV kV ho hd hcd hD hmg hg args vals as hpre hlay hrd hwl hlo
 obtain rfl:dV = .none:=Dflts.none hD hdf
 obtain rfl:kV = .none:=Dflts.noKw hD
 obtain ⟨a,vs,ns,rfl,rfl,hobj,hints,hlen⟩:=oY hn hpre hwl
 refine enter_call (Im (call w s₀ s₁ mg mb fa o pm cd doc a vs ns G Y ho (fd_plain hd) hcd hmg hobj hints hlen hg) fun r s' hq=>?_)
 obtain ⟨rfl,h2,h3,h4⟩:=hq
 exact ⟨.inl ⟨.bool true,.bool true,[],rfl,fun _=>rfl,.bool true,oZ l _,fun _=>⟨List.Pairwise.nil,fun _ hm=>(nomatch hm)⟩⟩,h2,h3,h4⟩
section
variable {prog:Program} {w:World} {A:Around} {E:Value→Shared→Prop} {s:Shared} {K:Frag}
end
end Att
namespace L2
open PySem PySem.Spec PyProof.Rows
theorem js:∀ {vs:List Value} {ns:List Int},IntsAre vs ns→ba (ns.map V.int) vs
 | _,_,.nil=>.nil
 | _,_,.cons n t h=>.cons ⟨t,rfl⟩ (js h)
def BS (H:Hp):Prop:=∀ b,H b=none ∨ ∃ o xs,H b=some (.frz o (.lst xs))
theorem tE {P:Program}{w:World}{K:PySem.W.Frag}{mg mb:Str→Option Value}{CX:CXT}{k:Nat}{fa a:Addr}{fd:FuncData}{x:Str}{sp:Sp}{s₁:Shared}{vs:List Value}{ns:List Int}
  (KX:K.In s₁.heap) (hns:s₁.heap.Ns mainGlobals mg) (hb:s₁.heap.Ns builtinsNs mb) (hbb:∀ x:Str,x ≠ "__name__"→mb x=bootBuiltins x) (hlim:s₁.heap.NoLimit) (hg:s₁.gens=#[])
  (ha:s₁.heap.get? a=some { cls:=.type "list",data:=.seq vs.toArray }) (hi:IntsAre vs ns) (hl:ns.length≤sizeLine) (hr:gF k callerA)
  (F:∀ base:Heap,K.In base→base.Ns mainGlobals mg→nc P w K mg base CX k fa fd [x] sp) (hbind:∀ (s:Shared) (u:Value),BindsTo s fd ⟨[u],[]⟩ [(x,u)])
  (hsp:∀ H:Hp,BS H→SqL K H a (ns.map V.int)→sp [.ref a] H (fun v _=>v = .bl true) fun _ _ _=>False)
  (hCX:∀ H e s',CX [] H s₁ (fun _ _ _=>False) e s'→False) :
  codeAny (model P w) callerA (.call (.ref fa) ⟨[.ref a],[]⟩) (fun r s'=>r = .ok (.ret (.bool true))∧OldK s₁.heap s'.heap∧s'.os=s₁.os∧AllBare s'.gens) s₁:=by
 have rv:=js hi
 have lenV:=hi.length
 -- from an abstract heap in which nothing but the script may be tracked
 have core:∀ H:Hp,BS H→SqL K H a (ns.map V.int)→HOk P w H s₁.heap→(∀ b,H b≠none→b=a)→(H a≠none→K.lookup a=none) →
   codeAny (model P w) callerA (.call (.ref fa) ⟨[.ref a],[]⟩) (fun r s'=>r = .ok (.ret (.bool true))∧OldK s₁.heap s'.heap∧s'.os=s₁.os∧AllBare s'.gens) s₁:=by
  intro H hO hS hok hA hK
  have base_of:∀ {b:Addr} {o:Obj},s₁.heap.get? b=some o→H b=none→(sM s₁.heap H).get? b=some o:=fun e n=>sN e n
  have noA:∀ {b:Addr} {o:Obj} {es:Array DictEntry} {ep:Nat},s₁.heap.get? b=some o→o.data = .dict es ep→H b=none:=fun {b o es ep} e d=>by
   cases q:H b with
   | none=>rfl
   | some u =>
    have e':b=a:=hA b (by rw [q];simp)
    subst e'
    rw [ha] at e;cases e
    have d':Data.seq vs.toArray _=Data.dict es ep:=d
    cases d'
  have nsK:∀ {b:Addr} {m:Str→Option Value},s₁.heap.Ns b m→(sM s₁.heap H).Ns b m:=fun {b m} ⟨o,es,ep,e,d,r⟩=>⟨o,es,ep,base_of e (noA e d),d,r⟩
  have hKb:K.In (sM s₁.heap H):=fun b o e=>base_of (KX b o e) (by
   cases q:H b with
   | none=>rfl
   | some u =>
    have e':b=a:=hA b (by rw [q];simp)
    subst e'
    rw [hK (by rw [q];simp)] at e;cases e)
  have hM:Mod K mg (sM s₁.heap H):=⟨hKb,nsK hns,⟨mb,nsK hb,hbb⟩,let ⟨mc,h1,h2⟩:=hlim;⟨mc,nsK h1,h2⟩⟩
  have e0:Bo P w K mg (sM s₁.heap H) callerA [] s₁ H:=⟨rfl,hM,fun b o e=>vV e,Nat.le_of_eq (oq _ _),trivial,fun b hb=>absurd (show b∈([]:List Addr) from hb) (by simp),hok,.of_eq hg⟩
  refine Im ((F _ hKb (nsK hns)).run callerA [] s₁ H ⟨[.ref a],[]⟩ [.ref a] [.ref a] _ _ hr e0 (hbind s₁ (.ref a)) (.cons rfl .nil) (hsp H hO hS)) fun r s' h=>?_
  cases r with
  | error e=>exact (hCX H e s' h).elim
  | ok fl =>
   cases fl with
   | next=>exact False.elim h
   | brk=>exact False.elim h
   | cont=>exact False.elim h
   | ret u =>
    obtain ⟨v,H',os,bare,un,hok',r',q⟩:=h
    have q':v = .bl true:=q
    subst q'
    obtain rfl:u=Value.bool true:=r'
    refine ⟨rfl,OldK.of_keep fun b o e=>?_,os,bare⟩
    cases q:H b with
    | none=>exact un.keep b o e q (by intro z;exact absurd (show b∈([]:List Addr) from z) (by simp)) (by simp)
    | some u =>
     rcases hO b with z | ⟨ob,xs,z⟩
     ·rw [q] at z;cases z
     ·have z2:=un.frzs b ob _ z
      obtain ⟨e1,_⟩:=hok b _ z
      obtain ⟨e2,_⟩:=hok' b _ z2
      rw [e] at e1;cases e1
      exact e2
 cases hk:K.lookup a with
 | some o =>
  -- the script is one of the module's own objects
  have e:=KX a o hk
  rw [ha] at e
  cases e
  refine core (fun _=>none) (fun _=>.inl rfl) (.inr ⟨_,vs.toArray,_,hk,rfl,rfl,rfl,by rw [EC,lenV];exact hl,by simpa using rv⟩) (fun b u z=>by have z':(none:Option HO)=some u:=z;cases z') (fun b z=>absurd rfl z) fun z=>absurd rfl z
 | none =>
  refine core (fun b=>if b=a then some (.frz { cls:=.type "list",data:=.seq vs.toArray } (.lst (ns.map V.int))) else none) (fun b=>?_) (.inl (.inr ⟨{ cls:=.type "list",data:=.seq vs.toArray },if_pos rfl⟩)) (fun b u z=>?_) (fun b z=>?_) fun _=>hk
  ·by_cases hb:b=a
   ·exact .inr ⟨_,_,if_pos hb⟩
   ·exact .inl (if_neg hb)
  ·by_cases hb:b=a
   ·have z':=(if_pos hb).symm.trans z
    cases z'
    subst hb
    exact ⟨ha,by rw [Ej];exact hl,vs,_,rv,ha⟩
   ·have z':=(if_neg hb).symm.trans z
    cases z'
  ·by_cases hb:b=a
   ·exact hb
   ·exact absurd (if_neg hb) z
theorem o6 {l:PySem.W.OpenLaw}{n k:Nat}{q:Program}{loose:List Str}{XP:(Str→Option Value)→Heap→Prop}{YP:World→Heap→Prop}{d:DefRec}{K:Params→PySem.W.Frag}{CX:World→CXT}{sp:World→Sp}{x:Str}
  (hn:l.most=some n) (hn2:n≤sizeLine) (hdf:d.params.defaults=[]) (hr:gF k callerA)
  (hY:∀ (w:World) (h:Heap),YP w h→(K w.params).In h)
  (F:∀ (w:World) (mg:Str→Option Value) (fa:Addr) (h:Heap),(K w.params).In h→h.Ns mainGlobals mg→mg d.name=some (.ref fa) →
   ∃ fd:FuncData,(∀ (s:Shared) (u:Value),BindsTo s fd ⟨[u],[]⟩ [(x,u)]) ∧
    ∀ base:Heap,(K w.params).In base→base.Ns mainGlobals mg→nc l.prog w (K w.params) mg base (CX w) k fa fd [x] (sp w))
  (hsp:∀ (w:World) (H:Hp) (a:Addr) (ns:List Int),ns.length≤n→BS H→SqL (K w.params) H a (ns.map V.int)→sp w [.ref a] H (fun v _=>v = .bl true) fun _ _ _=>False)
  (hCX:∀ (w:World) (H:Hp) (s:Shared) (e:Value) (s':Shared),CX w [] H s (fun _ _ _=>False) e s'→False) :
  PySem.W.WalkO q loose XP YP l.row.toRowW d [] (fun f vs=>PySem.call f vs):=by
 refine Att.attach_call hn hdf fun w s₀ s₁ mg mb fa o pm cd doc a vs ns G Y ho hd hcd hmg hobj hints hlen hg=>?_
 have KX:=hY w _ Y
 obtain ⟨fd,hb,hF⟩:=F w mg fa _ KX G.T.g hmg
 exact tE KX G.T.g G.T.b G.T.builtins G.T.nolimit hg hobj hints (Ft hlen hn2) hr hF hb (fun H hO hS=>hsp w H a ns hlen hO hS) fun H e s'=>hCX w H s₁ e s'
end L2
/- THE LAST THEOREM (shape;LID,My.* are yours):
  My.Adr: a structure of the addresses that your layer names (classes,functions);My.Txt K t: a structure (Prop) of the equations over K;
  My.txt_mk:{K} {implicit addresses ..} (e1:nsIn K mainGlobals "law" = some (some (.ref f))) (e2:K.lookup f=some ⟨oc,od,.func (fnOf "law" "law" params body scope dV kV doc pm an Ks ct),sl⟩) (e3:codeIn K Ks "law" = true) ..:∃ t,My.Txt K t
set_option maxRecDepth 100000 in
set_option maxHeartbeats 0 in
theorem PySem.Challenge.cw_LID_holds : PySem.Challenge.rw_LID.Holds := by
 w_on;o_law;k_head;(case hw=>w_witness2)
 k_fill
 refine L2.o6 (l:=PySem.Challenge.rw_LID) (n:=63) (k:=40) (x:="script") (CX:=fun w=>..) (sp:=fun _=>My.sp_law) rfl (by decide) rfl ⟨rfl,by decide,by decide⟩ (fun w h Y=>PySem.W.kIn_of Y) ?F ?S ?C
 case F =>
  intro w mg fa h KX G hmg
  have T:∃ t,My.Txt (L2.KOf KX) t:=by
   dsimp only [L2.KOf]                          -- K must stand as «<heap const> w.params» for k_is
   refine' My.txt_mk ?e1 ?e2 ?e3 ..
   (case e1=>PySem.W.k_is)                    -- in the order: a name -> its address -> its object -> its parts
   (case e2=>PySem.W.k_is)
   ..
  obtain ⟨t,T⟩:=T
  have e0:=hmg.symm.trans (G9 KX G T.law)
  cases e0                                       -- fa is the law's own address
  exact ⟨_,fun s u=>.of_eq rfl,fun base kb nb=>My.law_fn T kb nb⟩     -- if «.of_eq rfl» comes too early: refine' ⟨_,?b,fun base kb nb=>My.law_fn T kb nb⟩;exact fun s u=>.of_eq rfl
 case S=>exact fun w H a ns hl hO hS=>..
 case C=>exact ..
(the tactic k_is has no namespace: write k_is) -/
namespace L2
open PySem PySem.Spec PyProof.Rows
def b9 (s:Stmt):Arguments:=match s with
 | .FunctionDef _ a _ _ _ _ _ _ _ _=>a
 | _=>{ posonlyargs:=[],args:=[],vararg:=none,kwonlyargs:=[],kw_defaults:=[],kwarg:=none,defaults:=[] }
def bB (s:Stmt):List Stmt:=match s with
 | .FunctionDef _ _ b _ _ _ _ _ _ _=>b
 | _=>[]
def ak (s:Stmt):Scope:=match s with
 | .FunctionDef _ _ _ _ _ _ sc _ _ _=>sc
 | _=>{ kind:=.function,names:=[],isGenerator:=false,isCoroutine:=false }
abbrev CX0:CXT:=fun _ _ _ _ _ _=>False
abbrev E0:XK:=fun _ _ _=>False
theorem BU {X:Cx}:oJ CX0 X E0:=fun _ _ _ _ _ _ _ h=>h.elim
structure Fun (K:PySem.W.Frag) (x qual:Str) (st:Stmt) (f:Addr) (fd:FuncData):Prop where
 ex:∃ (oc:Value) (od:Option Addr) (kV doc pm:Value) (an:Option Addr) (Ks ct:Value) (osl:Array (Option Value)),
  fd=PySem.W.fnOf x qual (b9 st) (bB st) (ak st) .none kV doc pm an Ks ct∧K.lookup f=some ⟨oc,od,.func fd,osl⟩∧PySem.W.codeIn K Ks qual=true
 kp:PySem.W.keepIn K (.ref f)=true
section
variable {P:Program} {w:World} {K:PySem.W.Frag} {mg:Str→Option Value} {base:Heap}
theorem Fun.ok {x qual:Str}{st:Stmt}{f:Addr}{fd:FuncData}{N ps:List Str}{k:Nat}{sp:Sp}(F:Fun K x qual st f fd)(S:ay N ps (ak st))(len:∀ vs H Q E,sp vs H Q E→vs.length=ps.length)
  (hbody:∀ (Ks:Value) (A:Around) (outer:List Env) (s:Shared) (H:Hp) (vs:List V) (Q:VK) (E:XK),gF k (A.deeper (envOfC qual (ak st) s.heap.objs.size f Ks))→sp vs H Q E →
   ∃ t,PSs (wg CX0 P w K mg base N qual (ak st) f Ks A outer s H E).nox (bB st) t∧t { nx:=fun _ H'=>Q .non H',rt:=Q } (start N vs) H):nc P w K mg base CX0 (k+1) f fd ps sp:=by
 obtain ⟨oc,od,kV,doc,pm,an,Ks,ct,osl,rfl,lk,hcd⟩:=F.ex
 refine BL lk hcd S len fun A outer s H vs Q E hr hsp=>?_
 obtain ⟨t,h,q⟩:=hbody Ks A outer s H vs Q E hr hsp
 exact ⟨t,h.nox,q⟩
theorem Fun.binds {x qual:Str}{st:Stmt}{f:Addr}{fd:FuncData}{ps:List Str}(F:Fun K x qual st f fd)
  (h:∀ (kV doc pm:Value) (an:Option Addr) (Ks ct:Value) (us:List Value),us.length=ps.length→bindArgs (PySem.W.fnOf x qual (b9 st) (bB st) (ak st) .none kV doc pm an Ks ct) ⟨us,[]⟩=pure (ps.zip us)):ng K fd ps []:=by
 obtain ⟨oc,od,kV,doc,pm,an,Ks,ct,osl,rfl,lk,hcd⟩:=F.ex
 exact .all (h kV doc pm an Ks ct)
theorem vg {x qual:Str}{st:Stmt}{f:Addr}{oc:Value}{od an:Option Addr}{osl:Array (Option Value)}{kV doc pm Ks ct:Value}(l:K.lookup f=some ⟨oc,od,.func (PySem.W.fnOf x qual (b9 st) (bB st) (ak st) .none kV doc pm an Ks ct),osl⟩)
  (c:PySem.W.codeIn K Ks qual=true) (k:PySem.W.keepIn K (.ref f)=true):Fun K x qual st f (PySem.W.fnOf x qual (b9 st) (bB st) (ak st) .none kV doc pm an Ks ct):=⟨⟨oc,od,kV,doc,pm,an,Ks,ct,osl,rfl,l,c⟩,k⟩
end
theorem o7 {A:Around}{k:Nat}(hr:gF k A):A.units+1 < cLine:=Nat.lt_of_le_of_lt (Nat.add_le_add_left (by decide:1≤64) _) hr.units
section
variable {X:Cx}
theorem pv (i:Nat){x:Str}{pos:Pos}(hN:X.N[i]? = some x:=by rfl)(hv:Vis X.env.scope x:=by first | exact Or.inl rfl | exact Or.inr (Or.inl rfl) | exact Or.inr (Or.inr rfl))(hd:(x == ("__debug__":Str))=false:=by decide)
  (hcd:(x == ("__classdict__":Str))=false:=by decide):PE X (.Name x pos) (Bx i):=yX hN hv hd hcd
end
theorem yN {A B:Prop}(h:B):if false=true then A else B:=by
 rw [if_neg EH]
 exact h
theorem zx {A B:Prop}(h:A):if true=true then A else B:=by
 rw [if_pos rfl]
 exact h
theorem tF {c A B:Prop}[Decidable c](h1:c→A)(h2:¬ c→B):if c then A else B:=by
 by_cases h:c
 ·rw [if_pos h]
  exact h1 h
 ·rw [if_neg h]
  exact h2 h
def aE (H H':Hp):Prop:=∀ b o,H b=some o→H' b=some o
theorem aE.refl (H:Hp):aE H H:=fun _ _ h=>h
theorem aE.trans {H H1 H2:Hp}(a:aE H H1)(b:aE H1 H2):aE H H2:=fun c o h=>b c o (a c o h)
theorem aE.free {H H':Hp}(e:aE H H'){l:Addr}(h:H' l=Option.none):H l=Option.none:=by
 cases q:H l with
 | none=>rfl
 | some o =>
  rw [e l o q] at h
  cases h
theorem aE.seq {K:PySem.W.Frag}{H H':Hp}{a:Addr}{xs:List V}(e:aE H H')(h:SqL K H a xs):SqL K H' a xs:=by
 rcases h with (h | ⟨o,h⟩) | h
 ·exact .inl (.inl (e _ _ h))
 ·exact .inl (.inr ⟨o,e _ _ h⟩)
 ·exact .inr h
section
variable {κ:Type} [DecidableEq κ]
end
def lL (cells:List (Str × Addr)):List (Str × NameKind)→List (Str × Addr)→List (Str × Addr)
 | [],acc=>acc
 | (x,k)::r,acc=>if k == NameKind.free then lL cells r ((x,(cells.lookup x).getD 0)::acc) else lL cells r acc
theorem ip {cells:List (Str × Addr)}{p:Str × Addr}:∀ {names:List (Str × NameKind)} {acc:List (Str × Addr)},p∈lL cells names acc→p∈acc ∨ ((p.1,NameKind.free)∈names∧p.2=(cells.lookup p.1).getD 0)
 | [],_,h=>.inl h
 | (x,k)::r,acc,h=>by
  unfold lL at h
  by_cases hk:(k == NameKind.free)=true
  ·rw [if_pos hk] at h
   have ek:k=NameKind.free:=by simpa using hk
   subst ek
   rcases ip h with h | ⟨h,e⟩
   ·rcases Et.mp h with h | h
    ·subst h
     exact .inr ⟨Er,rfl⟩
    ·exact .inl h
   ·exact .inr ⟨Eg _ h,e⟩
  ·rw [if_neg hk] at h
   rcases ip h with h | ⟨h,e⟩
   ·exact .inl h
   ·exact .inr ⟨Eg _ h,e⟩
theorem iq {cells:List (Str × Addr)}{p:Str × Addr}:∀ {names:List (Str × NameKind)} {acc:List (Str × Addr)},p∈acc→p∈lL cells names acc
 | [],_,h=>h
 | (x,k)::r,acc,h=>by
  unfold lL
  split
  ·exact iq (Eg _ h)
  ·exact iq h
theorem ir {cells:List (Str × Addr)}{x:Str}:∀ {names:List (Str × NameKind)} {acc:List (Str × Addr)},(x,NameKind.free)∈names→(x,(cells.lookup x).getD 0)∈lL cells names acc
 | [],_,h=>by simp at h
 | (y,k)::r,acc,h=>by
  unfold lL
  rcases Et.mp h with h | h
  ·have e1:x=y:=Ey Prod.fst h
   have e2:NameKind.free=k:=Ey Prod.snd h
   subst e1 e2
   rw [if_pos (by simp)]
   exact iq Er
  ·split
   ·exact ir h
   ·exact ir h
theorem dW {x:Str}{c:Addr}:∀ {l:List (Str × Addr)},(x,c)∈l→∃ d,l.lookup x=some d
 | [],h=>by simp at h
 | (y,d)::r,h=>by
  rw [HK]
  by_cases e:(x == y)=true
  ·rw [e];exact ⟨d,rfl⟩
  ·have e':(x == y)=false:=by simpa using e
   rw [e']
   rcases Et.mp h with h | h
   ·have:x=y:=Ey Prod.fst h
    exact absurd (by simpa using this) e
   ·exact dW h
theorem iu {env:Env}{scope:Scope}(h:∀ y∈scope.names,y.2=NameKind.free→∃ c,env.cells.lookup y.1=some c):closureFor scope env=pure (lL env.cells scope.names []):=by
 have all:∀ (names:List (Str × NameKind)) (acc:List (Str × Addr)),(∀ y∈names,y.2=NameKind.free→∃ c,env.cells.lookup y.1=some c) →
   (forIn names acc (fun (p:Str × NameKind) (r:List (Str × Addr))=>(if (p.2 == NameKind.free)=true then (do let a ← cellOf env p.1;pure (ForInStep.yield ((p.1,a)::r))) else pure (ForInStep.yield r):Sem (ForInStep (List (Str × Addr))))))=(pure (lL env.cells names acc):Sem (List (Str × Addr))):=by
  intro names
  induction names with
  | nil=>intro acc _;rfl
  | cons p r ih =>
   intro acc hh
   obtain ⟨x,k⟩:=p
   have hr:∀ y∈r,y.2=NameKind.free→∃ c,env.cells.lookup y.1=some c:=fun y hy=>hh y (Eg _ hy)
   rw [G_]
   unfold lL
   by_cases hk:(k == NameKind.free)=true
   ·obtain ⟨c,hc⟩:=hh (x,k) Er (by simpa using hk)
    have hc:env.cells.lookup x=some c:=hc
    have ec:cellOf env x=pure c:=by
     unfold cellOf
     rw [hc]
    simp only [hk,Gb,ec,pure_bind,hc,Option.getD_some]
    exact ih _ hr
   ·simp only [hk,FF,pure_bind]
    exact ih _ hr
 have e:=all scope.names [] h
 unfold closureFor
 simp only [bind_pure]
 exact e
def zy (scope sc:Scope)(NB own:List Str)(cap:List Nat)(N:List Str):Bool :=
 (scope.kind == .function) && (sc.kind == .function) &&
 (scope.names.all fun y=>match y.2 with
  | .cell=>false
  | .free=>sc.names.lookup y.1 == some NameKind.cell
  | .local=>scope.names.lookup y.1 == some NameKind.local
  | _=>true) &&
 (own.all fun x=>scope.names.lookup x == some NameKind.local && scope.names.all fun y=>!(y.1 == x) || y.2 == NameKind.local) &&
 (NB == own++cap.map fun i=>N.getD i "") && (cap.all fun i=>decide (i < N.length) && scope.names.lookup (N.getD i "") == some NameKind.free)
structure Blk (X:Cx) (scope:Scope) (NB own:List Str) (cap:List Nat):Prop where
 kind:scope.kind = .function
 outk:X.env.scope.kind = .function
 nocell:∀ y∈scope.names,y.2 ≠ .cell
 free:∀ y∈scope.names,y.2 = .free→X.env.kindOf y.1=some .cell
 names:∀ y∈scope.names,y.2 = .local→scope.names.lookup y.1=some .local
 owns:∀ x∈own,∀ y∈scope.names,y.1=x→y.2 = .local
 nb:NB=own++cap.map fun i=>X.N.getD i ""
 caps:∀ i∈cap,i < X.N.length∧scope.names.lookup (X.N.getD i "")=some .free
theorem dX {X:Cx}{scope sc:Scope}{NB own:List Str}{cap:List Nat}(hs:X.env.scope=sc)(h:zy scope sc NB own cap X.N=true):Blk X scope NB own cap:=by
 unfold zy at h
 simp only [FG] at h
 obtain ⟨⟨⟨⟨⟨h1,h2⟩,h3⟩,h4⟩,h5⟩,h6⟩:=h
 rw [Fv] at h3 h4 h6
 subst hs
 refine ⟨by simpa using h1,by simpa using h2,fun y hy e=>?_,fun y hy e=>?_,fun y hy e=>?_,fun x hx y hy e=>?_,by simpa using h5,fun i hi=>?_⟩
 ·have:=h3 y hy
  rw [e] at this
  exact absurd this (by simp)
 ·have:=h3 y hy
  rw [e] at this
  show X.env.scope.names.lookup y.1=some .cell
  simpa using this
 ·have:=h3 y hy
  rw [e] at this
  simpa using this
 ·have:=h4 x hx
  simp only [FG,Fv] at this
  have q:=this.2 y hy
  subst e
  simpa using q
 ·have:=h6 i hi
  simp only [FG] at this
  exact ⟨Gv this.1,by simpa using this.2⟩
def cxB (X:Cx)(NB own:List Str)(scope:Scope)(C:Addr)(fp:List Addr)(s₀:Shared)(H₀:Hp):Cx where
 prog:=X.prog
 w:=X.w
 K:=X.K
 mg:=X.mg
 base:=X.base
 A:=X.A
 N:=NB
 s₀:=s₀
 H₀:=H₀
 env:=compEnvC scope (lL X.env.cells scope.names []) C X.env
 outer:=X.stack
 stack:=X.stack
 ex:=fp
 fn:=fun x=>own.contains x
 calm:=X.calm
 pn:=[]
 xe:=fun _ _=>False
theorem cY {env:Env}{x:Str}{k:NameKind}(hk:k = .cell ∨ k = .free):∀ {names:List (Str × NameKind)},(∀ y∈names,y.2 ≠ .cell) →
  (names.map fun (n,k)=>if (k == NameKind.free && env.scope.kind == .function && env.kindOf n == some .cell) then (n,NameKind.cell) else (n,k)).lookup x=some k→(x,NameKind.free)∈names
 | [],_,h=>by simp at h
 | (n,q)::r,hn,h=>by
  have ih:=@cY env x k hk r fun y hy=>hn y (Eg _ hy)
  rw [EO,HK] at h
  have key:(if (q == NameKind.free && env.scope.kind == .function && env.kindOf n == some .cell)=true then (n,NameKind.cell) else (n,q)).1=n:=by split <;> rfl
  by_cases e:(x == n)=true
  ·have en:x=n:=by simpa using e
   subst en
   by_cases hq:q = .free
   ·subst hq;exact Er
   ·have hqf:(q == NameKind.free)=false:=by simpa using hq
    simp only [hqf,EV,EB,FF,beq_self_eq_true] at h
    have h':q=k:=El h
    rcases hk with z | z
    ·exact absurd (h'.trans z) (hn (x,q) Er)
    ·exact absurd (h'.trans z) hq
  ·have e':(x == n)=false:=by simpa using e
   refine Eg _ (ih ?_)
   have e2:(x == (if (q == NameKind.free && env.scope.kind == .function && env.kindOf n == some .cell)=true then (n,NameKind.cell) else (n,q)).1)=false:=by rw [key];exact e'
   rw [e2] at h
   exact h
theorem fI {env:Env}{x:Str}(hk:env.scope.kind = .function)(hc:env.kindOf x=some .cell):∀ {names:List (Str × NameKind)},names.lookup x=some .free →
  (names.map fun (n,k)=>if (k == NameKind.free && env.scope.kind == .function && env.kindOf n == some .cell) then (n,NameKind.cell) else (n,k)).lookup x=some .cell
 | [],h=>by simp at h
 | (n,q)::r,h=>by
  have ih:=@fI env x hk hc r
  rw [HK] at h
  rw [EO,HK]
  by_cases e:(x == n)=true
  ·have en:x=n:=by simpa using e
   subst en
   rw [e] at h
   have hq:q = .free:=El h
   subst hq
   simp [hk,hc]
  ·have e':(x == n)=false:=by simpa using e
   rw [e'] at h
   have key:(if (q == NameKind.free && env.scope.kind == .function && env.kindOf n == some .cell)=true then (n,NameKind.cell) else (n,q)).1=n:=by split <;> rfl
   have e2:(x == (if (q == NameKind.free && env.scope.kind == .function && env.kindOf n == some .cell)=true then (n,NameKind.cell) else (n,q)).1)=false:=by rw [key];exact e'
   rw [e2]
   exact ih h
def stB (own:List Str)(cap:List Nat)(σ:St):St:=(own.map fun _=>none)++cap.map fun i=>(σ[i]?).getD none
section
variable {X:Cx} {Kl:List (Addr × Obj)} {σ:St} {H:Hp} {s:Shared} {scope:Scope} {NB own:List Str} {cap:List Nat} {fp:List Addr} {C:Addr}
theorem Blk.cells (B:Blk X scope NB own cap)(ok:X.Ok){x:Str}{c:Addr}(h:(lL X.env.cells scope.names []).lookup x=some c):X.env.cells.lookup x=some c∧(x,NameKind.free)∈scope.names:=by
 rcases ip (FL h) with q | ⟨q,e⟩
 ·simp at q
 ·obtain ⟨d,hd⟩:=ok.has x (.inl (B.free (x,.free) q rfl))
  have e:c=(X.env.cells.lookup x).getD 0:=e
  rw [hd] at e
  refine ⟨?_,q⟩
  rw [hd,e];rfl
theorem Blk.cell (B:Blk X scope NB own cap)(ok:X.Ok){x:Str}(h:(x,NameKind.free)∈scope.names):∃ c,(lL X.env.cells scope.names []).lookup x=some c:=dW (ir h)
theorem Blk.start (B:Blk X scope NB own cap)(I:Inv X Kl σ H s)(hf:∀ b∈fp,n_ X Kl H b)(hfs:∀ b∈fp,∃ o,s.heap.get? b=some o){h':Heap}{tk:Nat}{m:Str→Option Value}(hC:s.heap.objs.size≤C)
  (k:∀ b o,s.heap.get? b=some o→h'.get? b=some o) (hn:h'.Ns C m) :
  Inv (cxB X NB own scope C fp s H) [] (stB own cap σ) H { s with heap:=h',toks:=tk }:=by
 have hlen:NB.length=own.length+cap.length:=by rw [B.nb];simp
 have okB:(cxB X NB own scope C fp s H).Ok:=by
  refine ⟨I.ok.mod,B.kind,I.ok.glob,I.ok.blt,hC,fun x y c h1 h2=>I.ok.inj x y c (B.cells I.ok h1).1 (B.cells I.ok h2).1,fun x hx=>?_,fun x c h1 h2=>?_,I.ok.hd,I.ok.frames,.inl rfl,fun b hb=>⟨?_,fun x c h=>?_⟩,I.bs,Ft I.ok.bsz I.sz,fun b o e hb=>?_,fun b hb z=>?_,I.stack,I.stkFree⟩
  ·have:(x,NameKind.free)∈scope.names:=by
    rcases hx with z | z
    ·exact cY (.inl rfl) B.nocell z
    ·exact cY (.inr rfl) B.nocell z
   exact B.cell I.ok this
  ·have hx:x∈own:=by simpa [cxB] using h1
   have q:=B.owns x hx _ (B.cells I.ok h2).2 rfl
   exact absurd q (by simp)
  ·obtain ⟨o,e⟩:=hfs b hb
   exact EW (EL (Eo e) hC)
  ·exact (hf b hb).2.2.2.2.1 x c (B.cells I.ok h).1
  ·have hb:b∈fp:=hb
   rcases (hf b hb).2.2.2.1 with z | z
   ·exact I.ok.noex b o e z
   ·exact absurd (EL (Eo e) (Ft I.ok.bsz z)) (Fs _)
  ·rcases Et.mp (I.stkSub b z) with z | z
   ·exact (hf b hb).2.1 z
   ·exact (hf b hb).2.2.1 z
 refine ⟨okB,rfl,I.bare,Un.kept k,⟨m,hn,fun i x v e1 e2 e3=>?_⟩,fun x c h=>?_,I.hok.fresh hC,fun x c h=>I.freeC x c (B.cells I.ok h).1,fun p hp=>absurd (show p∈([]:List (Addr × Obj)) from hp) (by simp),I.hok.kept k,?_⟩
 ·have e1:NB[i]? = some x:=e1
  have hi:¬ i < own.length:=fun hi=>by
   unfold stB at e2
   rw [E3 (by simpa using hi),Ff] at e2
   cases q:own[i]? <;> rw [q] at e2 <;> cases e2
  unfold stB at e2
  rw [ED (by simpa using hi),Ff] at e2
  rw [B.nb,ED (by omega),Ff] at e1
  simp only [Ej] at e2
  cases q:cap[i - own.length]? with
  | none=>rw [q] at e1;cases e1
  | some j =>
   rw [q] at e1 e2
   have ex:X.N.getD j "" = x:=El e1
   have ev:(σ[j]?).getD none=some v:=El e2
   obtain ⟨hj,hjf⟩:=B.caps j (EY q)
   rw [ex] at hjf
   have hN:X.N[j]? = some x:=by rw [← ex,EE,fu hj];rfl
   have hσ:σ[j]? = some (some v):=by
    cases z:σ[j]? with
    | none=>rw [z] at ev;cases ev
    | some u=>rw [z] at ev;exact Ey some ev
   have hmem:(x,NameKind.free)∈scope.names:=FL hjf
   have hkc:=B.free _ hmem rfl
   obtain ⟨m0,hn0,hl⟩:=I.loc
   obtain ⟨u,r,l⟩:=hl j x v hN hσ (.inr (.inl hkc))
   refine ⟨u,r,.inr ⟨.inl (fI B.outk hkc hjf),?_⟩⟩
   obtain ⟨c,hc⟩:=B.cell I.ok hmem
   refine ⟨c,hc,?_⟩
   rcases l with ⟨z,_⟩ | ⟨_,c',hc',⟨oc,hoc,hd⟩⟩
   ·rw [show X.env.kindOf x=some .cell from hkc] at z;cases z
   ·have:=(B.cells I.ok hc).1
    rw [hc'] at this
    have:c'=c:=El this
    subst this
    exact ⟨oc,k _ _ hoc,hd⟩
 ·obtain ⟨v,oc,hoc,hd⟩:=I.cell x c (B.cells I.ok h).1
  exact ⟨v,oc,k _ _ hoc,hd⟩
 ·show (stB own cap σ).length=NB.length
  unfold stB
  rw [hlen];simp
theorem Blk.done (B:Blk X scope NB own cap)(I:Inv X Kl σ H s)(hf:∀ b∈fp,n_ X Kl H b){σB:St}{H':Hp}{s':Shared}{h'':Heap}{D:Addr}{ys:List V}{its:List Value}{n:Nat}(hC:s.heap.objs.size≤C)(hD:s.heap.objs.size≤D)(hDC:D≠C)
  (J:Inv (cxB X NB own scope C fp s H) [] σB H' s') (hn:H' D=none) (e:s'.heap.get? D=some { cls:=.type "list",data:=.seq its.toArray n }) (hv:ba ys its) (hz:ys.length≤sizeLine)
  (sb:Heap.SameBut C s'.heap h''):Inv X Kl σ (upd H' D (.lst ys)) { s' with heap:=h'' }:=by
 have un:Un (frs X.stack) fp H H' s.heap s'.heap:=J.base
 have neC:∀ {b o},s.heap.get? b=some o→b≠C:=fun q=>EW (EL (Eo q) hC)
 have neD:∀ {b o},s.heap.get? b=some o→b≠D:=fun q=>EW (EL (Eo q) hD)
 have hCn:H' C=none:=J.free
 refine I.call' (s':={ s' with heap:=h'' }) (ch:=fp) J.os ⟨fun b o q n hb hx=>?_,fun b o q n hb hx=>?_,fun b o q n hx=>?_,fun b o q hx=>?_,fun b xs q=>?_,fun b o u q=>?_,fun b ps q=>?_⟩ (fun b u q=>?_) J.bare fun b hb=>?_
 ·exact (sb.2 b (neC q)).trans (un.keep b o q n hb hx)
 ·obtain ⟨sl,r⟩:=un.slot b o q n hb hx
  exact ⟨sl,(sb.2 b (neC q)).trans r⟩
 ·rw [aH (neD q)]
  exact un.free b o q n hx
 ·obtain ⟨o',r⟩:=un.there b o q hx
  exact ⟨o',(sb.2 b (neC q)).trans r⟩
 ·have r:=un.tups b xs q
  rw [aH (ax r hn)]
  exact r
 ·have r:=un.frzs b o u q
  rw [aH (ax r hn)]
  exact r
 ·obtain ⟨more,r⟩:=un.tbls b ps q
  exact ⟨more,by rw [aH (ax r hn)];exact r⟩
 ·by_cases hb:b=D
  ·subst hb
   rw [ah] at q
   cases q
   exact ⟨hz,its,n,hv,(sb.2 b hDC).trans e⟩
  ·rw [aH hb] at q
   refine (J.hok b u q).stay (fun c v hc r=>(sb.2 c ?_).trans r) (fun c r=>?_) fun c xs r=>?_
   ·rcases hc with z | z
    ·rw [z];exact ax q hCn
    ·exact ax z hCn
   ·rw [aH (ax r hn)];exact r
   ·rw [aH (ax r hn)];exact r
 ·obtain ⟨_,f1,_,f3,f4,f5⟩:=hf b hb
  exact ⟨f3,f1,f4,f5⟩
end
def PIf (X:Cx)(ifs:List Expr)(t:TT):Prop :=
 ∀ (Kl:List (Addr × Obj)) (s:Shared) (σ:St) (H:Hp) (Q:Bool→Hp→Prop),Inv X Kl σ H s→t σ H Q →
  wpAny (model X.prog X.w) X.A (forIn ifs true fun c r=>if r=true then do let ok ← isTrue c X.env (eval c X.env);pure (ForInStep.yield ok) else pure (ForInStep.yield r)) (TP X Kl σ Q) X.xe s
def DM:TT:=fun _ H Q=>Q true H
theorem cC {X:Cx}:PIf X [] DM:=fun _ _ _ H _ I h=>wpAny_tests_nil ⟨H,I,h⟩
theorem lM {X:Cx}{c:Expr}{t:TT}(h:PT X c t):PIf X [c] t:=fun Kl s σ H Q I q=>wpAny_tests_one (h Kl s σ H Q I q)
section
variable {prog:Program} {w:World} {A:Around} {R:Result→Shared→Prop} {s:Shared}
abbrev noE:Value→Shared→Prop:=fun _ _=>False
theorem o8 {elt tg iter:Expr}{ifs:List Expr}{scope:Scope}{pos:Pos}{it acc:Value}{env:Env}(I:Nat→Shared→Prop)
  (turn:∀ n s,I n s→wpAny (model prog w) A (pyNext it) (fun r s₁=>match r with
   | none=>R (.ok .next) s₁
   | some v=>wpAny (model prog w) A (letOwnedTupleGo tg it v) (fun _ s₀=>wpAny (model prog w) A (assign tg env v) (fun _ s₂ =>
     wpAny (model prog w) A (forIn ifs true fun c r=>if r=true then do let ok ← isTrue c env (eval c env);pure (ForInStep.yield ok) else pure (ForInStep.yield r)) (fun ok s₃ =>
      if ok=true then wpAny (model prog w) A (eval elt env) (fun x s₄=>wpAny (model prog w) A (call (.builtin "list.append") [acc,x]) (fun _ s₅=>∃ m,m < n∧I m s₅) noE s₄) noE s₃
      else ∃ m,m < n∧I m s₃) noE s₂) noE s₀) noE s₁) noE s)
  (n:Nat) (h:I n s):codeAny (model prog w) A (.compLoop (.ListComp elt [⟨tg,iter,ifs,0⟩] scope pos) 0 it acc env) R s:=by
 refine codeAny_loop rfl I (fun n s hI=>?_) n h
 show wpAny _ A ((compTurn (.ListComp elt [⟨tg,iter,ifs,0⟩] scope pos) 0 it acc env).onRaise (fun x=>do noteFrame x env;theTreesLotGoes x)) _ _ s
 refine wpAny_noted ?_
 rw [compTurn_list]
 refine D9 (wpAny_standAt (D9 (FZ (turn n s hI) (fun r s₁ h₁=>?_) fun _ _ z=>False.elim z)))
 cases r with
 | none=>exact Ep h₁
 | some v =>
  refine D9 (FZ h₁ (fun _ s₀ h₀=>D9 (FZ h₀ (fun _ s₂ h₂=>D9 (FZ h₂ (fun ok s₃ h₃=>?_) fun _ _ z=>False.elim z)) fun _ _ z=>False.elim z)) fun _ _ z=>False.elim z)
  cases ok with
  | false=>exact Ep ⟨rfl,h₃⟩
  | true=>exact D9 (D9 (FZ h₃ (fun x s₄ h₄=>D9 (FZ h₄ (fun _ s₅ h₅=>Ep (Ep ⟨rfl,h₅⟩)) fun _ _ z=>False.elim z)) fun _ _ z=>False.elim z))
end
def wD (own:List Str)(cap:List Nat)(g:TG)(ti:TT)(te:TE)(Q:VK)(σ:St)(J:It)(H1:Hp):Prop:=∃ W:Nat→Nat→List V→St→Hp→Prop,(∃ m,W 0 m [] (stB own cap σ) H1)∧∀ i m ys σ H,W i m ys σ H →
 (J.stop i H∧ys.length≤sizeLine∧∀ D,H D=none→Q (.ref D) (upd H D (.lst ys))) ∨
 (J.go i H∧ys.length < sizeLine∧∀ x H',J.yld i H x H'→g x σ H' fun σ2 H2=>ti σ2 H2 fun b H3=>if b=true then te σ2 H3 fun y H4=>∃ m',m' < m∧W (i+1) m' (ys++[y]) σ2 H4 else ∃ m',m' < m∧W (i+1) m' ys σ2 H3)
def wF (own:List Str)(cap:List Nat)(wi:TI)(g:TG)(ti:TT)(te:TE):TE:=fun σ H Q=>wi σ H fun J H1=>wD own cap g ti te Q σ J H1
theorem lN {X:Cx}{pos2:Pos}{use:Option (Value→Sem Unit)}{QQ:Value→Shared→Prop}{Kl:List (Addr × Obj)}{s:Shared}{σ:St}{H:Hp}{Q:VK}{elt iter tg:Expr}{ifs:List Expr}{scope:Scope}{pos:Pos}{NB own:List Str}{cap:List Nat}{wi:TI}{g:TG}{ti:TT}{te:TE}(B:Blk X scope NB own cap)(hc:X.calm=true)(hi:PI X tg iter wi)
  (hg:∀ C fp s₀ H₀,PG (cxB X NB own scope C fp s₀ H₀) tg g) (ht:∀ C fp s₀ H₀,PIf (cxB X NB own scope C fp s₀ H₀) ifs ti) (he:∀ C fp s₀ H₀,PE (cxB X NB own scope C fp s₀ H₀) elt te)
  (hs:∀ x,foldedSetIterable iter X.env x=pure x) (I0:Inv X Kl σ H s) (h:wF own cap wi g ti te σ H Q)
  (fin:∀ (fp:List Addr) (C:Addr) (s2 s4:Shared) (H2 H3:Hp) (σ3:St) (its:List Value) (ys:List V) (k:Nat),Inv X Kl σ H2 s2→(∀ b∈fp,n_ X Kl H2 b)→s2.heap.objs.size≤C→s2.heap.objs.size≠C→Inv (cxB X NB own scope C fp s2 H2) [] σ3 H3 s4→H3 s2.heap.objs.size=none→s4.heap.get? s2.heap.objs.size=some { cls:=.type "list",data:=.seq its.toArray k }→ba ys its→ys.length≤sizeLine→Q (.ref s2.heap.objs.size) (upd H3 s2.heap.objs.size (.lst ys)) →
   compPost (model X.prog X.w) X.A X.xe use QQ (.ref s2.heap.objs.size) C (.ok .next) s4):wpAny (model X.prog X.w) X.A (comprehension (.ListComp elt [⟨tg,iter,ifs,0⟩] scope pos) scope X.env pos2 (newList []) false (eval iter X.env) use) QQ X.xe s:=by
 have hclos:=iu (env:=X.env) (scope:=scope) fun y hy e=>I0.ok.has y.1 (.inl (B.free y hy e))
 refine wpAny_comprehension_free (use:=use) rfl hs hclos B.kind B.names (thn (hi Kl s σ H _ I0 h) fun v s1 h1=>thn h1 fun itv s2 h2=>?_)
 obtain ⟨it,fp,tn,J,H2,rfl,I,T,KR,f2,W,⟨m0,w0⟩,turn⟩:=h2
 refine Ha ?_
 refine wpAny_newFunctionEnv B.nocell (by intro y hy;simp at hy) (fun h₁ hns₁ hsb₁=>?_) B.kind
 dsimp only at hns₁ hsb₁ ⊢
 generalize hP:s2.heap.push { cls:=.type "list",dict:=none,data:=.seq ([]:List Value).toArray }=P at hns₁ hsb₁ ⊢
 have hC:P.objs.size=s2.heap.objs.size+1:=by rw [← hP,FI]
 have hDC:s2.heap.objs.size≠P.objs.size:=by rw [hC];exact EW (Gg _)
 have KQ:s2.heap.objs.size≤P.objs.size:=by rw [hC];exact IM _
 have old:∀ b o,s2.heap.get? b=some o→h₁.get? b=some o:=fun b o e=>by
  refine (hsb₁.2 b ?_).trans (D_ _ (hP ▸ D_ _ e))
  exact EW (EL (Eo e) KQ)
 have hD:h₁.get? s2.heap.objs.size=some { cls:=.type "list",data:=.seq ([]:List Value).toArray 0 }:=by
  refine (hsb₁.2 _ hDC).trans (D_ _ ?_)
  rw [← hP]
  exact Em _ rfl
 have hfs:∀ b∈fp,∃ o,s2.heap.get? b=some o:=fun b hb=>let ⟨o,e,_⟩:=T.obj _ _ KR b hb;⟨o,e⟩
 have st4:tn 0 h₁:=T.keep _ _ _ KR fun b _ o e=>old b o e
 generalize htk:s2.toks+([]:List (Str × Value)).length=tk4
 have I4:=B.start (C:=P.objs.size) (tk:=tk4) I f2 hfs KQ old hns₁
 have fOk:∀ {H':Hp} {b:Addr} {ob:Obj},b∈fp→H' b=none→n_ (cxB X NB own scope P.objs.size fp s2 H2) [(s2.heap.objs.size,ob)] H' b:=fun {H' b ob} hb hn=>by
  obtain ⟨o,e⟩:=hfs b hb
  refine ⟨hn,(I4.ok.exf b hb).1,I4.ok.exfs b hb,.inl hb,(I4.ok.exf b hb).2,fun p hp=>?_⟩
  have ep:p=(s2.heap.objs.size,ob):=Ec.mp (show p∈[(s2.heap.objs.size,ob)] from hp)
  rw [ep]
  exact fun z=>absurd (Eo e) (by rw [← z];exact Fs _)
 have dnf:s2.heap.objs.size∉frs X.stack:=fun z=>by
  rcases Et.mp (I.stkSub _ z) with z | z
  ·exact absurd I.lt (by rw [← z];exact Fs _)
  ·exact I.nofs (Ei _) z
 have I3D:∀ {σ3:St} {H3:Hp} {s3:Shared} {its:List Value} {k:Nat},Inv (cxB X NB own scope P.objs.size fp s2 H2) [] σ3 H3 s3→s3.heap.get? s2.heap.objs.size=some { cls:=.type "list",data:=.seq its.toArray k }→H3 s2.heap.objs.size=none →
   Inv (cxB X NB own scope P.objs.size fp s2 H2) [(s2.heap.objs.size,{ cls:=.type "list",data:=.seq its.toArray k })] σ3 H3 s3:=fun I3 e n=>I3.pins_of fun p hp=>by
  have ep:=Ec.mp hp
  subst ep
  exact ⟨e,n,hDC,dnf,fun v z=>by cases z⟩
 have ndf:s2.heap.objs.size∉fp:=fun z=>by
  obtain ⟨o,e⟩:=hfs _ z
  exact absurd (Eo e) (Fs _)
 have nCD:∀ x c,(cxB X NB own scope P.objs.size fp s2 H2).env.cells.lookup x=some c→c≠s2.heap.objs.size:=fun x c e z=>by
  obtain ⟨v,o,ho,_⟩:=I.cell x c (B.cells I.ok e).1
  rw [z] at ho
  exact absurd (Eo ho) (Fs _)
 have loop:∀ s₃:Shared,s₃ = { s2 with heap:=h₁,toks:=tk4 }→codeAny (model X.prog X.w) X.A (.compLoop (.ListComp elt [⟨tg,iter,ifs,0⟩] scope pos) 0 (.ref it) (.ref s2.heap.objs.size) (cxB X NB own scope P.objs.size fp s2 H2).env)
   (compPost (model X.prog X.w) X.A X.xe use QQ (.ref s2.heap.objs.size) P.objs.size) s₃:=by
  rintro s₃ rfl
  refine o8 (fun n s'=>∃ i σB H' ys its k,Inv (cxB X NB own scope P.objs.size fp s2 H2) [] σB H' s'∧tn i s'.heap∧(∀ b∈fp,H' b=none)∧s'.heap.get? s2.heap.objs.size=some { cls:=.type "list",data:=.seq (its:List Value).toArray k }∧ba ys its∧H' s2.heap.objs.size=none∧W i n ys σB H') ?_ m0
   ⟨0,stB own cap σ,H2,[],[],0,I4,st4,fun b hb=>(f2 b hb).1,hD,.nil,I.hok.fresh (Ei _),w0⟩
  rintro n s3 ⟨i,σ3,H3,ys,its,k,I3,st3,fr3,hD3,rv,hn3,w3⟩
  rcases turn i n ys σ3 H3 w3 with ⟨stop,hz,q⟩ | ⟨go,hz,step⟩
  ·refine thn (T.done (cxB X NB own scope P.objs.size fp s2 H2) rfl rfl rfl hc i _ s3 σ3 H3 noE (I3D I3 hD3 hn3) (fun b hb=>fOk hb (fr3 b hb)) st3 stop) fun r s4 zq1=>?_
   obtain ⟨hr,I4'⟩:=zq1
   subst hr
   have hD4:s4.heap.get? s2.heap.objs.size=some { cls:=.type "list",data:=.seq (its:List Value).toArray k }:=(I4'.pin (s2.heap.objs.size,_) (Ex _ (Ec.mpr rfl))).1
   have I5:Inv (cxB X NB own scope P.objs.size fp s2 H2) [] σ3 H3 s4:=I4'.pins_of fun p hp=>absurd (show p∈([]:List (Addr × Obj)) from hp) (by simp)
   exact fin fp _ s2 s4 H2 H3 σ3 its ys k I f2 KQ hDC I5 hn3 hD4 rv hz (q _ hn3)
  ·refine thn (T.item (cxB X NB own scope P.objs.size fp s2 H2) rfl rfl rfl hc i _ s3 σ3 H3 noE (I3D I3 hD3 hn3) (fun b hb=>fOk hb (fr3 b hb)) st3 go) fun r s4 zq2=>?_
   obtain ⟨u,hr,h4⟩:=zq2
   subst hr
   refine thn h4 fun _ s5 zq3=>?_
   obtain ⟨x,H5,I5,r5,y5,st5,fr5⟩:=zq3
   have I5':=I5.pinned (fun b hb=>fOk hb (fr5 b hb)) (T.obj _ _ st5)
   refine thn (hg _ fp s2 H2 _ s5 σ3 H5 x u _ I5' r5 (step x H5 y5)) fun _ s6 zq4=>?_
   obtain ⟨σ6,H6,I6,q6⟩:=zq4
   refine thn (ht _ fp s2 H2 _ s6 σ6 H6 _ I6 q6) fun b s7 zq5=>?_
   obtain ⟨H7,I7,q7⟩:=zq5
   have pinned:∀ {σ8:St} {H8:Hp} {s8:Shared},Inv (cxB X NB own scope P.objs.size fp s2 H2) ([(s2.heap.objs.size,{ cls:=.type "list",data:=.seq (its:List Value).toArray k })]++jh fp s5.heap) σ8 H8 s8 →
     tn (i+1) s8.heap∧(∀ b∈fp,H8 b=none)∧s8.heap.get? s2.heap.objs.size=some { cls:=.type "list",data:=.seq (its:List Value).toArray k }∧H8 s2.heap.objs.size=none:=fun {σ8 H8 s8} I8=>by
    refine ⟨T.keep _ _ _ st5 fun b hb o e=>(I8.pin (b,o) (Ex _ (Ex _ (dh hb e)))).1,fun b hb=>?_,?_,?_⟩
    ·obtain ⟨o,e,d⟩:=T.obj _ _ st5 b hb
     exact (I8.pin (b,o) (Ex _ (Ex _ (dh hb e)))).2.1
    ·exact (I8.pin (s2.heap.objs.size,_) (Ex _ (ER _ (Ec.mpr rfl)))).1
    ·exact (I8.pin (s2.heap.objs.size,_) (Ex _ (ER _ (Ec.mpr rfl)))).2.1
   have nopin:∀ {pp:List (Addr × Obj)} {σ8:St} {H8:Hp} {s8:Shared},Inv (cxB X NB own scope P.objs.size fp s2 H2) pp σ8 H8 s8→Inv (cxB X NB own scope P.objs.size fp s2 H2) [] σ8 H8 s8:=fun I8=>I8.pins_of fun p hp=>absurd (show p∈([]:List (Addr × Obj)) from hp) (by simp)
   cases b with
   | false =>
    rw [if_neg EH] at q7 ⊢
    obtain ⟨m',hm,w7⟩:=q7
    obtain ⟨p1,p2,p3,p4⟩:=pinned I7
    exact ⟨m',hm,i+1,σ6,H7,ys,its,k,nopin I7,p1,p2,p3,rv,p4,w7⟩
   | true =>
    rw [if_pos rfl] at q7 ⊢
    refine thn (he _ fp s2 H2 _ s7 σ6 H7 _ I7 q7) fun yv s8 zq6=>?_
    obtain ⟨y,H8,I8,r8,m',hm,w8⟩:=zq6
    obtain ⟨p1,p2,p3,p4⟩:=pinned I8
    refine Jt F.slot_list_append ⟨_,p3,rfl⟩ F.entry_list_append (F.args_list_append_2 _ _) (PySem.list_append s2.heap.objs.size its.toArray k yv (by rw [EC,← rv.length];omega)) ⟨p3,?_⟩
    have q:=PySem.IsL.update p3 fun a=>a.push yv
    have ea:its.toArray.push yv=(its++[yv]).toArray:=by simp
    rw [ea] at q
    have I9:Inv (cxB X NB own scope P.objs.size fp s2 H2) [] σ6 H8 { s8 with heap:=s8.heap.update s2.heap.objs.size (Obj.mapSeq fun a=>a.push yv),toks:=s8.toks } :=
     (nopin I8).turned (it:=s2.heap.objs.size) (fun b o hb e=>(Fq s8.heap _ (Ne.symm hb)).trans e) p4 hDC (.inr (Ei _)) (fun x c e=>nCD x c e) fun p hp=>absurd (show p∈([]:List (Addr × Obj)) from hp) (by simp)
    refine ⟨m',hm,i+1,σ6,H8,ys++[y],its++[yv],_,I9,?_,p2,q,rv.append (.cons r8 .nil),p4,w8⟩
    refine T.keep _ _ _ p1 fun b hb o e=>(Fq s8.heap _ ?_).trans e
    intro z
    rw [z] at ndf
    exact ndf hb
 exact codeAny_compStart_list (loop _ rfl) (T.self X.A 0 _ _ _ st4 (loop _ rfl))
theorem eK {X:Cx}{elt iter tg:Expr}{ifs:List Expr}{scope:Scope}{pos:Pos}{NB own:List Str}{cap:List Nat}{wi:TI}{g:TG}{ti:TT}{te:TE}(B:Blk X scope NB own cap)(hc:X.calm=true)(hi:PI X tg iter wi)
  (hg:∀ C fp s₀ H₀,PG (cxB X NB own scope C fp s₀ H₀) tg g) (ht:∀ C fp s₀ H₀,PIf (cxB X NB own scope C fp s₀ H₀) ifs ti) (he:∀ C fp s₀ H₀,PE (cxB X NB own scope C fp s₀ H₀) elt te)
  (hs:∀ x,foldedSetIterable iter X.env x=pure x:=by intro _;rfl):PE X (.ListComp elt [⟨tg,iter,ifs,0⟩] scope pos) (wF own cap wi g ti te):=by
 intro Kl s σ H Q I0 h
 rw [eval_ListComp]
 refine lN (use:=none) (QQ:=EP X Kl σ Q) B hc hi hg ht he hs I0 h fun fp C s2 s4 H2 H3 σ3 its ys k I f2 KQ hDC I5 hn3 hD4 rv hz q=>?_
 obtain ⟨mC,hnC,_⟩:=I5.loc
 exact ⟨mC,hnC,fun h'' sb=>⟨.ref s2.heap.objs.size,_,B.done I f2 KQ (Ei _) hDC I5 hn3 hD4 rv hz sb,rfl,q⟩⟩
theorem cD {own:List Str}{cap:List Nat}{J:It}{g:TG}{ti:TT}{te:TE}{σ:St}{H:Hp}{Q:VK}(n:Nat)(Pv:Nat→List V→St→Hp→Prop)(h0:Pv 0 [] (stB own cap σ) H)(hz:∀ i ys σ H,i≤n→Pv i ys σ H→ys.length≤i)(hn:n≤sizeLine)
  (hgo:∀ i ys σ H,i < n→Pv i ys σ H→J.go i H) (hst:∀ ys σ H,Pv n ys σ H→J.stop n H)
  (hs:∀ i ys σ H x H' (N:List V→St→Hp→Prop),i < n→Pv i ys σ H→J.yld i H x H'→(∀ ys' σ' H'',Pv (i+1) ys' σ' H''→N ys' σ' H'')→g x σ H' fun σ2 H2=>ti σ2 H2 fun b H3=>if b=true then te σ2 H3 fun y H4=>N (ys++[y]) σ2 H4 else N ys σ2 H3)
  (hd:∀ ys σ H D,Pv n ys σ H→H D=none→Q (.ref D) (upd H D (.lst ys))) :
  wD own cap g ti te Q σ J H:=by
 refine ⟨fun i m ys σ H=>m=n - i∧i≤n∧Pv i ys σ H,⟨n,by simp,E1 _,h0⟩,?_⟩
 rintro i m ys σ H ⟨rfl,hi,p⟩
 have hl:=hz i ys σ H hi p
 by_cases Kq:i < n
 ·refine .inr ⟨hgo i ys σ H Kq p,by omega,fun x H' y=>?_⟩
  exact hs i ys σ H x H' (fun ys' σ' H''=>∃ m',m' < n - i∧m'=n - (i+1)∧i+1≤n∧Pv (i+1) ys' σ' H'') Kq p y fun ys' σ' H'' q=>⟨n - (i+1),by omega,rfl,Kq,q⟩
 ·have e:i=n:=by omega
  subst e
  exact .inl ⟨hst ys σ H p,by omega,fun D hD=>hd ys σ H D p hD⟩
def Its (z:Str):It:=⟨fun i _=>i < z.cps.size,fun i H x H'=>H'=H∧∃ c,z.cps[i]? = some c∧x = .str ⟨#[c]⟩,fun i _=>i=z.cps.size⟩
theorem cE {P:Program}{w:World}{K:PySem.W.Frag}{tg:Expr}{it n:Nat}{Pv:Nat→Value→Prop}{st:Nat→Heap→Prop}{J:It}{T:String}{fl:Nat→Array Value}
  (W:∀ A:Around,A.handled=none→Walks P w A it [it] [it] n Pv st) (hst:∀ i h,st i h→∃ o,h.get? it=some o∧o.cls = .type T∧o.data = .fields (fl i))
  (hT:["enumerate","zip","dict_itemiterator","dict_reverseitemiterator","odict_iterator","itertools.zip_longest","itertools.pairwise"].contains T=false)
  (hgo:∀ i H,J.go i H→i < n) (hstop:∀ i H,J.stop i H→i=n) (hy:∀ i H u,J.go i H→Pv i u→∃ x,bq x u∧J.yld i H x H)
  (hself:∀ (A:Around) (i:Nat) (s:Shared) (Q:Value→Shared→Prop) (E:Value→Shared→Prop),st i s.heap→Q (.ref it) s→wpAny (model P w) A (pyIter (.ref it)) Q E s):yM P w K tg J [it] it st where
 mem:=by simp
 obj:=fun i h s b hb=>by
  have e:b=it:=by simpa using hb
  subst e
  obtain ⟨o,e,c,d⟩:=hst i h s
  exact ⟨o,e,fun v z=>by rw [d] at z;cases z⟩
 keep:=fun i h h' s k=>(W {} rfl).frame i h h' s k
 item:=by
  intro X hP hw hK hc i Kl s σ H E I hf s0 hg
  subst hP hw hK
  obtain ⟨f0,f1,f2,f3,f4,f5⟩:=hf it (by simp)
  refine (W X.A (I.ok.hd hc)).item i s _ _ (hgo i H hg) s0 fun v h' tk hv st' kk=>?_
  have I1:Inv X Kl σ H { s with heap:=h',toks:=tk }:=I.turned (fun b o hb e=>kk b o (by simpa using hb) e) f0 f1 f3 f4 f5
  obtain ⟨o,e,c,d⟩:=hst _ _ st'
  obtain ⟨x,rx,yx⟩:=hy i H v hg hv
  exact ⟨v,rfl,sT (s:={ s with heap:=h',toks:=tk }) e c d hT ⟨x,H,I1,rx,yx,st',fun b hb=>(hf b hb).1⟩⟩
 done:=by
  intro X hP hw hK hc i Kl s σ H E I hf s0 hg
  subst hP hw hK
  obtain ⟨f0,f1,f2,f3,f4,f5⟩:=hf it (by simp)
  have e:=hstop i H hg
  subst e
  exact (W X.A (I.ok.hd hc)).done s _ _ s0 fun h' tk kk=>⟨rfl,I.turned (fun b o hb e=>kk b o (by simpa using hb) e) f0 f1 f3 f4 f5⟩
 self:=hself
section
variable {X:Cx} {tg:Expr}
def DN (tl:TE):TI:=fun σ H R=>tl σ H fun x H1=>∃ z,x = .str z∧R (Its z) H1
theorem o9 {z:Str}{i:Nat}{H:Hp}{u:Value}(h:SignAt z i u):∃ x,bq x u∧(Its z).yld i H x H:=by
 obtain ⟨c,t,e,rfl⟩:=h
 exact ⟨.str ⟨#[c]⟩,⟨t,rfl⟩,rfl,c,e,rfl⟩
theorem jt {l:Expr}{tl:TE}(hl:PE X l tl):PI X tg l (DN tl):=by
 intro Kl s σ H R I h
 refine thn (hl Kl s σ H _ I h) fun v s1 zq1=>?_
 obtain ⟨x,H1,I1,r1,q1⟩:=zq1
 obtain ⟨z,rfl,q⟩:=q1
 obtain ⟨t,rfl⟩:=r1
 have fp:∀ b∈[s1.heap.objs.size],n_ X Kl H1 b:=fun b hb=>by
  have e:b=s1.heap.objs.size:=by simpa using hb
  subst e
  exact I1.fpOk (Ei _) (I1.hok.fresh (Ei _))
 cases ha:z.cps.all (· < 128)
 ·refine wpAny_pyIter_wide ha ⟨s1.heap.objs.size,[s1.heap.objs.size],_,Its z,H1,rfl,I1.kept (t':=s1.toks) fun b o e=>D_ _ e,
   cE (T:="str_iterator") (fl:=fun i=>#[.str z t,.int i 0]) (fun A hh=>Walks.strWide hh _ z t) (fun i h st=>st) (by decide) (fun i H g=>g) (fun i H g=>g) (fun i H u _ hu=>o9 hu) (fun A i s Q E st h=>wpAny_pyIter_striter_wide st h),⟨_,Em _ rfl,rfl,rfl⟩,fp,q⟩
 ·refine Hb ha ⟨s1.heap.objs.size,[s1.heap.objs.size],_,Its z,H1,rfl,I1.kept (t':=s1.toks) fun b o e=>D_ _ e,
   cE (T:="str_ascii_iterator") (fl:=fun i=>#[.str z t,.int i 0]) (fun A hh=>Walks.strAscii hh _ z t) (fun i h st=>st) (by decide) (fun i H g=>g) (fun i H g=>g) (fun i H u _ hu=>o9 hu) (fun A i s Q E st h=>wpAny_pyIter_striter_ascii st h),⟨_,Em _ rfl,rfl,rfl⟩,fp,q⟩
inductive Dg (x:V)(lo:Option Int)(hi:Option Int)(H:Hp)(Q:VK):Prop
 | mk:∀ z,(x = .str z)→(z.length≤sizeLine)→(Q (.str (Txt.slice z lo hi)) H)→Dg x lo hi H Q
theorem bV:SlR X Dg:=by
 intro Kl s σ H x v vl vu lo hi sl Q I rx hs pl pu h
 obtain ⟨z,rfl,hz,q⟩:=h
 obtain ⟨t,rfl⟩:=rx
 have fin:∀ (lo hi:Option Int),Q (.str (Txt.slice z lo hi)) H→∀ t' k,EP X Kl σ Q (.str (Txt.slice z lo hi) t') { s with toks:=k }:=fun lo hi q t' k=>⟨.str _,H,I.tok _,⟨_,rfl⟩,q⟩
 refine ⟨"str",_,F.slot_str_getitem.lookup,IF _ _ _,?_⟩
 cases pl with
 | none =>
  cases pu with
  | none=>exact GA (l:=none) (u:=none) (st:=none) hs rfl (HV ⟨Ft (Hu z _ _) hz,fun t' k=>fin _ _ q t' k⟩)
  | int j uj=>exact GA (l:=none) (u:=some (j,uj)) (st:=none) hs rfl (HV ⟨Ft (Hu z _ _) hz,fun t' k=>fin _ _ q t' k⟩)
 | int i ui =>
  cases pu with
  | none=>exact GA (l:=some (i,ui)) (u:=none) (st:=none) hs rfl (HV ⟨Ft (Hu z _ _) hz,fun t' k=>fin _ _ q t' k⟩)
  | int j uj=>exact GA (l:=some (i,ui)) (u:=some (j,uj)) (st:=none) hs rfl (HV ⟨Ft (Hu z _ _) hz,fun t' k=>fin _ _ q t' k⟩)
inductive vh (x:V)(vs:List V)(H:Hp)(Q:VK):Prop
 | mk:∀ z,(x = .str z)→(vs=[])→(z.length≤5592405)→(Q (.str (Txt.upper z)) H)→vh x vs H Q
inductive vi (x:V)(vs:List V)(H:Hp)(Q:VK):Prop
 | mk:∀ z,(x = .str z)→(vs=[])→(z.length≤5592405)→(Q (.str (Txt.lower z)) H)→vi x vs H Q
theorem lO:MtR X "str.upper" vh:=by
 intro Kl s σ H x vs v us Q I rx rv h
 obtain ⟨z,rfl,rfl,hz,q⟩:=h
 obtain ⟨t,rfl⟩:=rx
 cases rv
 exact SCL.upper hz fun _=>⟨.str _,H,I.tok _,⟨_,rfl⟩,q⟩
theorem lP:MtR X "str.lower" vi:=by
 intro Kl s σ H x vs v us Q I rx rv h
 obtain ⟨z,rfl,rfl,hz,q⟩:=h
 obtain ⟨t,rfl⟩:=rx
 cases rv
 exact SCL.lower hz fun _=>⟨.str _,H,I.tok _,⟨_,rfl⟩,q⟩
theorem eL:∀ {ys:List Str} {us:List Value},ba (ys.map V.str) us→StrsAre us ys
 | [],_,r=>by
  rw [Hs] at r
  cases r
  exact .nil
 | y::ys,us,r=>by
  rw [EO] at r
  cases r with
  | cons r1 r2 =>
   obtain ⟨t,e⟩:=r1
   subst e
   exact .cons y t (eL r2)
inductive zC (K:PySem.W.Frag)(x:V)(vs:List V)(H:Hp)(Q:VK):Prop
 | mk:∀ z p ys,(x = .str z)→(vs=[.ref p])→(SqL K H p (ys.map V.str))→((ys.map (·.length)).sum+ys.length*z.length≤16777216)→(Q (.str (Txt.join z ys)) H)→zC K x vs H Q
theorem kh:MtR X "str.join" (zC X.K):=by
 intro Kl s σ H x vs v us Q I rx rv h
 obtain ⟨z,p,ys,rfl,rfl,hq,hz,q⟩:=h
 obtain ⟨t,rfl⟩:=rx
 obtain ⟨u,rfl,ru⟩:=cj rv
 cases ru
 obtain ⟨its,r,pl,_⟩:=I.list hq
 exact join_list pl.isList (by simpa using eL r) hz fun t' k=>⟨.str _,H,I.tok _,⟨_,rfl⟩,q⟩
inductive eV  (x:V)(y:V)(H:Hp)(Q:VK):Prop
 | mk:∀ z n,(x = .str z)→(y = .int n)→(MulOk z n)→(Q (.str (Txt.mul z n)) H)→eV x y H Q
theorem nh:OpR X (binaryOp .Mult) eV:=by
 intro Kl s σ H x y v u Q I rx ry h
 obtain ⟨z,n,rfl,rfl,hz,q⟩:=h
 obtain ⟨t,rfl⟩:=rx
 obtain ⟨t',rfl⟩:=ry
 exact SB.mul hz fun t' k=>⟨.str _,H,I.tok _,⟨_,rfl⟩,q⟩
end
theorem o_ {z:Str}{g:TG}{tb:TS}{D:j4}{σ:St}{H:Hp}(Pv:Nat→St→Hp→Prop)(h0:Pv 0 σ H)
  (hs:∀ i c σ H,z.cps[i]? = some c→Pv i σ H→g (.str ⟨#[c]⟩) σ H fun σ2 H2=>tb { D with nx:=Pv (i+1),ct:=Pv (i+1),bk:=D.nx } σ2 H2) (hd:∀ σ H,Pv z.cps.size σ H→D.nx σ H) :
  ∃ W:Nat→Nat→St→Hp→Prop,(∃ m,W 0 m σ H)∧∀ i m σ H,W i m σ H →
   ((Its z).stop i H∧D.nx σ H) ∨ ((Its z).go i H∧∃ N:St→Hp→Prop,(∀ σ' H',N σ' H'→∃ m',m' < m∧W (i+1) m' σ' H')∧∀ x H',(Its z).yld i H x H'→g x σ H' fun σ2 H2=>tb { D with nx:=N,ct:=N,bk:=D.nx } σ2 H2):=by
 refine ⟨fun i m σ H=>m=z.cps.size - i∧i≤z.cps.size∧Pv i σ H,⟨z.cps.size,by simp,E1 _,h0⟩,?_⟩
 rintro i m σ H ⟨rfl,hi,p⟩
 by_cases Kq:i < z.cps.size
 ·refine .inr ⟨Kq,Pv (i+1),fun σ' H' p'=>⟨z.cps.size - (i+1),by omega,rfl,Kq,p'⟩,fun x H' y=>?_⟩
  obtain ⟨e,c,hc,ex⟩:=y
  subst e ex
  exact hs i c σ _ hc p
 ·have e:i=z.cps.size:=by omega
  subst e
  exact .inl ⟨rfl,hd σ H p⟩
end L2
namespace PySem
open Sem (wp)
open Builtin Builtin.SmallTypes
namespace F
theorem lookup_str_reversed:typeLookup (.type "str") "__reversed__" = pure none:=by rw [HW,GP]; kernel_rfl
theorem iw:Slot "reversed" "__init__" "object.__init__" :=
 .of (owner:="object") (n:="__init__") (by rw [HW,GP];kernel_rfl) (by decide +kernel) (by decide +kernel) (by decide +kernel)
  (by first | exact .inl (by decide +kernel) | exact .inr (by decide +kernel)) (by rw [Iz];kernel_rfl)
theorem called_rvs:TypeCalled "reversed" "reversed.__new__" "object.__init__" :=
 ⟨by decide +kernel,create_reversed,⟨_,_,mro_reversed⟩,made_reversed,plain_reversed_new,sub_reversed_self,iw⟩
end F
set_option maxHeartbeats 1000000 in
theorem pb (x:Str)(t:Tok):Meets (Builtin.«reversed.__new__» ⟨[.type "reversed",.str x t],[]⟩) (fun _ R s=>¬ (x.length:Int)≥2 ^ 63 ∧
   ∀ tk,R (.ok (.ret (.ref s.heap.objs.size))) { s with heap:=s.heap.push { cls:=.type "reversed",data:=.fields #[.str x t,rawInt ((x.length:Int) - 1)] },toks:=tk }) :=
 .of_wp fun prog w A R s h=>by
  obtain ⟨hx,h⟩:=h
  unfold Builtin.«reversed.__new__»
  refine D9 (HX (newClass_reversed _) ?_)
  try dsimp only
  refine D9 (HX (a:=()) (by first | rfl | kernel_rfl) ?_)
  refine D9 (HX (a:=()) (by first | rfl | kernel_rfl) ?_)
  try dsimp only
  refine D9 (Jm (IF s x t) F.lookup_str_reversed ?_)
  try dsimp only
  refine D9 ?_
  have hl:=F.slot_str_getitem.lookup
  have hT:=IF s x t
  have hD:isSubtype (.type "str") (.type "dict")=pure false:=by rw [Iz];kernel_rfl
  repeat (any_goals (first | assumption | refine PySem.P.len_str hx ?_ | wp_step))
  exact ⟨_,rfl,h _⟩
def Heap.IsRvs (h:Heap)(a:Addr)(x:Str)(t:Tok)(i:Int):Prop:=∃ o,h.get? a=some o∧o.cls = .type "reversed"∧o.data = .fields #[.str x t,rawInt i]
theorem Heap.IsRvs.typeIs {s:Shared}{a:Addr}{x:Str}{t:Tok}{i:Int}(y:s.heap.IsRvs a x t i):s.TypeIs (.ref a) "reversed":=let ⟨o,ho,hc,_⟩:=y; ⟨o,ho,hc⟩
namespace F
theorem slot_rvs_next:Slot "reversed" "__next__" "reversed.__next__" :=
 .of (owner:="reversed") (n:="__next__") (by rw [HW,GP];kernel_rfl) (by decide +kernel) (by decide +kernel) (by decide +kernel)
  (by first | exact .inl (by decide +kernel) | exact .inr (by decide +kernel)) (by rw [Iz];kernel_rfl)
theorem entry_rvs_next:entryFor table "reversed.__next__" = some Builtin.«reversed.__next__»:=entryFor_of_tree (by kernel_rfl)
theorem args_rvs_next (a:Value):argsOk "reversed.__next__" ⟨[a],[]⟩:=by unfold argsOk; kernel_rfl
theorem slot_rvs_iter:Slot "reversed" "__iter__" "reversed.__iter__" :=
 .of (owner:="reversed") (n:="__iter__") (by rw [HW,GP];kernel_rfl) (by decide +kernel) (by decide +kernel) (by decide +kernel)
  (by first | exact .inl (by decide +kernel) | exact .inr (by decide +kernel)) (by rw [Iz];kernel_rfl)
theorem args_rvs_iter (a:Value):argsOk "reversed.__iter__" ⟨[a],[]⟩:=by unfold argsOk; kernel_rfl
theorem entry_rvs_iter:entryFor table "reversed.__iter__" = some Builtin.«dict_keyiterator.__iter__» :=
 entryFor_alias (id':="dict_keyiterator.__iter__") (by kernel_rfl) rfl (by decide +kernel) (by kernel_rfl)
end F
section
variable {prog:Program} {w:World} {A:Around} {E:Value→Shared→Prop} {s:Shared} {x:Str} {t:Tok}
theorem ju {Q:Value→Shared→Prop}(hx:¬ (x.length:Int)≥2 ^ 63)
  (h:∀ tk,Q (.ref s.heap.objs.size) { s with heap:=s.heap.push { cls:=.type "reversed",data:=.fields #[.str x t,rawInt ((x.length:Int) - 1)] },toks:=tk }):wpAny (model prog w) A (call (.type "reversed") [.str x t]) Q E s :=
 callType_new F.called_rvs (by decide) (F.typeCall_reversed_1 _) (F.newCall_reversed_1 _) (fun obj=>F.args_object_init_2 obj _) F.entry_reversed_new (pb x t) ⟨hx,fun tk=>⟨⟨_,Em _ rfl,rfl⟩,h tk⟩⟩
theorem ix {it:Addr}{i:Int}{Q:Value→Shared→Prop}(hit:s.heap.IsRvs it x t i)(h:Q (.ref it) s):wpAny (model prog w) A (pyIter (.ref it)) Q E s:=by
 refine wpAny_pyIter_slot hit.typeIs F.slot_rvs_iter (FR F.slot_rvs_iter hit.typeIs F.entry_rvs_iter ?_ (F.args_rvs_iter _))
 show wpAny _ _ (ret (.ref it)) _ _ s
 exact Ep ⟨_,rfl,"reversed",_,hit.typeIs,F.slot_rvs_next.lookup,h⟩
theorem iy {it:Addr}{i:Nat}{c:Nat}{Q:Option Value→Shared→Prop}(hit:s.heap.IsRvs it x t (i:Int))(hx:x.cps[i]? = some c)(h63:(i:Int) < 2 ^ 63)
  (hQ:∀ h' tk u,h'.IsRvs it x t ((i:Int) - 1)→Heap.SameBut it s.heap h'→Q (some (.str ⟨#[c]⟩ u)) { s with heap:=h',toks:=tk }):wpAny (model prog w) A (pyNext (.ref it)) Q E s:=by
 obtain ⟨o,ho,hc,hd⟩:=id hit
 unfold pyNext
 refine D9 (Hc (GB (name:=Str.ofString "__next__") hit.typeIs F.slot_rvs_next
  (FR F.slot_rvs_next hit.typeIs F.entry_rvs_next ?_ (F.args_rvs_next _))))
 unfold Builtin.«reversed.__next__»
 refine D9 (HX (a:=(Value.ref it,[])) rfl ?_)
 try dsimp only
 refine D9 (FS ho hd (x:=.str x t) rfl ?_)
 refine D9 (FS ho hd (x:=rawInt (i:Int)) rfl ?_)
 show wpAny _ _ (if (i:Int) < 0 then _ else _) _ _ s
 rw [if_neg (by omega)]
 refine D9 (Jm (IF s x t) F.slot_str_getitem.lookup ?_)
 show wpAny _ _ (if (some (Value.builtin "str.__getitem__")).isNone=true then _ else _) _ _ s
 rw [if_neg (by decide)]
 refine D9 (wpAny_mkInt ?_)
 have Kq:i < x.length:=by
  have:=Ge.mp hx
  exact this.1
 refine D9 (Hc (PySem.P.getItem_str (c:=c) ?_ ?_ ?_))
 ·have e1:decide ((i:Int) < -(2 ^ 63:Int))=false:=Ea (by omega)
  have e2:decide ((i:Int)≥2 ^ 63)=false:=Ea (by omega)
  rw [e1,e2,Jz]
 ·rw [PySem.StrLaws.seqIndex_nonneg (by omega) (by omega)]
  simpa using hx
 try dsimp only
 refine D9 (FS ho hd (x:=rawInt (i:Int)) rfl ?_)
 show wpAny _ _ (setField (.ref it) 1 (rawInt ((i:Int) - 1)) >>= _) _ _ _
 refine D9 (Jv ho hd (by simp) ?_)
 refine Ep ⟨_,rfl,Ep (hQ _ _ _ ?_ (HY ..))⟩
 exact ⟨_,Hv _ ho (Obj.isFreed_of_fields (Hd hd _)),(Obj.cls_mapFields ..).trans hc,by
  rw [Hd hd];simp⟩
theorem jv {it:Addr}{Q:Option Value→Shared→Prop}(hh:A.handled=none)(hit:s.heap.IsRvs it x t (-1))
  (hQ:∀ h',(∀ b o,b≠it→s.heap.get? b=some o→h'.get? b=some o)→Q none { s with heap:=h' }):wpAny (model prog w) A (pyNext (.ref it)) Q E s:=by
 obtain ⟨o,ho,hc,hd⟩:=id hit
 unfold pyNext
 refine D9 (Hc (GB (name:=Str.ofString "__next__") hit.typeIs F.slot_rvs_next
  (FR F.slot_rvs_next hit.typeIs F.entry_rvs_next ?_ (F.args_rvs_next _))))
 unfold Builtin.«reversed.__next__»
 refine D9 (HX (a:=(Value.ref it,[])) rfl ?_)
 try dsimp only
 refine D9 (FS ho hd (x:=.str x t) rfl ?_)
 refine D9 (FS ho hd (x:=rawInt (-1)) rfl ?_)
 show wpAny _ _ (if (-1:Int) < 0 then _ else _) _ _ s
 rw [if_pos (by decide)]
 refine D9 (Gh ?_)
 refine D9 ?_
 show wpAny _ _ (setField (.ref it) 1 (rawInt (-1)) >>= fun _=>setField (.ref it) 0 .none) _ _ s
 refine D9 (Jv ho hd (by simp) ?_)
 have ho2:=Hv (Obj.mapFields fun a=>a.setIfInBounds 1 (rawInt (-1))) ho (Obj.isFreed_of_fields (Hd hd _))
 have hd2:=Hd hd fun a=>a.setIfInBounds 1 (rawInt (-1))
 refine Jv ho2 hd2 (by simp) ?_
 generalize hh2:(s.heap.update it _).update it _=h2
 have kk:∀ b o,b≠it→s.heap.get? b=some o→h2.get? b=some o:=fun b o hb e=>by
  rw [← hh2]
  exact (Fq _ _ (Ne.symm hb)).trans ((Fq _ _ (Ne.symm hb)).trans e)
 have hz:A.in1.handled=none:=hh
 have sub:=isSubtype_stop
 repeat (any_goals (first | assumption | wp_step))
 unfold raiseNew
 refine D9 (wpAny_handled ?_)
 rw [hz]
 refine D9 (Ep (wpAny_throw ?_))
 refine D9 (wpAny_isInstance (T:="StopIteration") (b:=true) ?_ sub (Ep (hQ _ fun b o hb e=>?_)))
 ·exact ⟨_,Em _ rfl,rfl⟩
 exact D_ _ (D_ _ (kk b o hb e))
theorem pe (hh:A.handled=none)(it:Addr)(x:Str)(t:Tok)(h63:(x.cps.size:Int) < 2 ^ 63) :
  Walks prog w A it [it] [it] x.cps.size (fun i v=>∃ c u,x.cps[x.cps.size - 1 - i]? = some c∧v = .str ⟨#[c]⟩ u) (fun i h=>i≤x.cps.size∧h.IsRvs it x t ((x.cps.size:Int) - 1 - (i:Int))) where
 sub:=fun _ hb=>hb
 frame:=fun _ _ _ st hk=>let ⟨l,o,ho,r⟩:=st;⟨l,o,hk it (by simp) o ho,r⟩
 item:=fun i s Q E hi y hQ=>by
  have e:(x.cps.size:Int) - 1 - (i:Int)=((x.cps.size - 1 - i:Nat):Int):=by omega
  have hit:=y.2
  rw [e] at hit
  have hx:x.cps[x.cps.size - 1 - i]? = some (x.cps[x.cps.size - 1 - i]'(by omega)):=GY (by omega)
  refine iy hit hx (by omega) fun h' tk u hit' K0=>?_
  have e2:((x.cps.size - 1 - i:Nat):Int) - 1=(x.cps.size:Int) - 1 - ((i+1:Nat):Int):=by omega
  rw [e2] at hit'
  exact hQ _ h' tk ⟨_,u,hx,rfl⟩ ⟨hi,hit'⟩ fun b o hb eo=>K0.extBut b o (fun h=>hb (by simp [h])) eo
 done:=fun s Q E y hQ=>by
  have e:(x.cps.size:Int) - 1 - (x.cps.size:Int) = -1:=by omega
  have hit:=y.2
  rw [e] at hit
  exact jv hh hit fun h' he'=>hQ h' s.toks fun b o hb eo=>he' b o (fun h=>hb (by simp [h])) eo
 self:=fun _ _ _ _ y hQ=>ix y.2 hQ
end
end PySem
namespace L2
open PySem PySem.Spec PyProof.Rows
def BV (z:Str):It:=⟨fun i _=>i < z.cps.size,fun i H x H'=>H'=H∧∃ c,z.cps[z.cps.size - 1 - i]? = some c∧x = .str ⟨#[c]⟩,fun i _=>i=z.cps.size⟩
section
variable {X:Cx} {tg:Expr}
def BW (ta:TA):TI:=fun σ H R=>ta σ H fun vs H1=>∃ z,vs=[.str z]∧z.length≤sizeLine∧R (BV z) H1
theorem wG {a:Expr}{ta:TA}{p pos:Pos}(hg:Gl X "reversed")(hm:X.mg "reversed" = none)(hb:bootBuiltins "reversed" = some (.type "reversed"))(ha:PA X [a] ta)(hs:starEach [a] X.env=[(false,eval a X.env)]:=by rfl) :
  PI X tg (.Call (.Name "reversed" p) [a] [] pos) (BW ta):=by
 intro Kl s σ H R I h
 refine Call_ (fo I hg hm hb (FK (thn (ha pos Kl s σ H _ I h) fun us s1 zq1=>?_) hs rfl))
 obtain ⟨vs,H1,I1,r1,q1⟩:=zq1
 obtain ⟨z,rfl,hz,q⟩:=q1
 obtain ⟨u,rfl,t,rfl⟩:=cj r1
 have hn:=fw
 have hsz:z.cps.size=z.length:=rfl
 refine ju (by omega) fun tk=>?_
 have hit:Heap.IsRvs (s1.heap.push { cls:=.type "reversed",data:=.fields #[.str z t,rawInt ((z.length:Int) - 1)] }) s1.heap.objs.size z t ((z.length:Int) - 1):=⟨_,Em _ rfl,rfl,rfl⟩
 refine ix (s:={ s1 with heap:=s1.heap.push { cls:=.type "reversed",data:=.fields #[.str z t,rawInt ((z.length:Int) - 1)] },toks:=tk }) hit ?_
 refine ⟨s1.heap.objs.size,[s1.heap.objs.size],_,BV z,H1,rfl,I1.kept (t':=tk) fun b o e=>D_ _ e,
  cE (T:="reversed") (fl:=fun i=>#[.str z t,rawInt ((z.cps.size:Int) - 1 - (i:Int))]) (fun A hh=>pe hh _ z t (by omega)) (fun i h st=>st.2) (by decide) (fun i H g=>g) (fun i H g=>g)
   (fun i H u _ ⟨c,t',e,eu⟩=>⟨.str ⟨#[c]⟩,⟨t',eu⟩,rfl,c,e,rfl⟩) (fun A i s Q E st h=>ix st.2 h),⟨E1 _,by simpa [hsz] using hit⟩,fun b hb=>?_,q⟩
 have e:b=s1.heap.objs.size:=by simpa using hb
 subst e
 exact I1.fpOk (Ei _) (I1.hok.fresh (Ei _))
structure DTx (K:PySem.W.Frag) (w:World) (a:Addr):Prop where
 ob:∃ (es:Array DictEntry) (n:Nat),K.lookup a=some ⟨.type "dict",none,.dict es n,#[]⟩∧PySem.W.KeysLit w.params es.toList
theorem tG {a:Addr}(D:DTx X.K X.w a):IxR X (fun x y H Q=>∃ z z' t,x = .ref a∧y = .str z∧PySem.W.nsIn X.K a z=some (some (.str z' t))∧Q (.str z') H):=by
 intro value slice Kl s σ H x y v u Q I rx ry h hs
 obtain ⟨z,z',t',rfl,rfl,e,q⟩:=h
 cases rx
 obtain ⟨t,rfl⟩:=ry
 obtain ⟨es,n,hl,hk⟩:=D.ob
 obtain ⟨m,F⟩:=I.fr
 exact PySem.W.topItem_K F I.ok.mod.kin hl hk e ⟨.str z',H,I.tok _,⟨_,rfl⟩,q⟩ hs
def tH (K:PySem.W.Frag)(a:Addr)(Q:VK):V→Hp→Prop:=fun y H1=>∃ z z' t,y = .str z∧PySem.W.nsIn K a z=some (some (.str z' t))∧Q (.str z') H1
def BX (K:PySem.W.Frag)(a:Addr)(ti:TE):TE:=fun σ H Q=>ti σ H (tH K a Q)
theorem ki {K:PySem.W.Frag}{w:World}{a:Addr}{x:Str}{i:Expr}{ti:TE}{p pos:Pos}(D:DTx K w a)(hK:X.K=K)(hw:X.w=w)(hg:Gl X x)(hm:X.mg x=some (.ref a))(hi:PE X i ti)(hs:oN i)
  (hd:(x == ("__debug__":Str))=false:=by decide):PE X (.Subscript (.Name x p) i pos) (BX K a ti):=by
 subst hK hw
 intro Kl s σ H Q I h
 refine Subscript_ (g_ I hg hm (thn (hi Kl s σ H _ I h) fun u s2 zq2=>?_) hd)
 obtain ⟨y,H2,I2,ry,z,z',t',e1,e2,q⟩:=zq2
 exact tG D _ _ Kl s2 σ H2 (.ref a) y (.ref a) u Q I2 rfl ry ⟨z,z',t',rfl,e1,e2,q⟩ (hs _ _)
end
end L2
namespace Wd
abbrev L:=Fin 12
def inv (x:L):L:=if h:x.val < 6 then ⟨x.val+6,by omega⟩ else ⟨x.val - 6,by omega⟩
theorem aq:∀ x:L,inv (inv x)=x:=by decide
theorem cO:∀ x:L,inv x≠x:=by decide
def bk (w:List L):List L:=(w.map inv).reverse
theorem ph (u v:List L):bk (u++v)=bk v++bk u:=by simp [bk]
theorem BY (w:List L):bk (bk w)=w:=by
 unfold bk
 rw [List.map_reverse,FV,Fp]
 have:(inv ∘ inv)=id:=funext fun x=>aq x
 rw [this,List.map_id]
theorem bj (w:List L):(bk w).length=w.length:=by simp [bk]
theorem dE (x:L):bk [x]=[inv x]:=rfl
def push (st:List L)(x:L):List L:=match st with
 | []=>[x]
 | y::r=>if y=inv x then r else x::y::r
def act (w:List L)(st:List L):List L:=w.foldl push st
theorem iz (x:L)(w st:List L):act (x::w) st=act w (push st x):=rfl
theorem dj (u v st:List L):act (u++v) st=act v (act u st):=by simp [act,List.foldl_append]
theorem tI (u:List L)(x:L)(st:List L):act (u++[x]) st=push (act u st) x:=by rw [dj]; rfl
def Rd:List L→Prop
 | []=>True
 | [_]=>True
 | x::y::r=>y≠inv x∧Rd (y::r)
theorem Rd.tail:∀ {x:L} {r:List L},Rd (x::r)→Rd r
 | _,[],_=>trivial
 | _,_::_,h=>h.2
theorem pj {st:List L}(x:L)(h:Rd st):Rd (push st x):=by
 cases st with
 | nil=>trivial
 | cons y r =>
  show Rd (if y=inv x then r else x::y::r)
  split
  ·exact h.tail
  ·rename_i hn
   exact ⟨hn,h⟩
theorem lQ:∀ (w:List L) {st:List L},Rd st→Rd (act w st)
 | [],_,h=>h
 | x::w,st,h=>lQ w (pj x h)
theorem pk {st:List L}(x:L)(h:Rd st):push (push st x) (inv x)=st:=by
 cases st with
 | nil =>
  show (if x=inv (inv x) then [] else _)=_
  rw [if_pos (aq x).symm]
 | cons y r =>
  show push (if y=inv x then r else x::y::r) (inv x)=y::r
  by_cases e:y=inv x
  ·rw [if_pos e]
   subst e
   cases r with
   | nil=>rfl
   | cons z r =>
    show (if z=inv (inv x) then r else inv x::z::r)=_
    rw [if_neg h.1]
  ·rw [if_neg e]
   show (if x=inv (inv x) then y::r else _)=_
   rw [if_pos (aq x).symm]
def red (w:List L):List L:=(act w []).reverse
theorem px:∀ {st:List L},Rd st→act st.reverse []=st
 | [],_=>rfl
 | x::r,h=>by
  rw [IG,tI,px h.tail]
  cases r with
  | nil=>rfl
  | cons y r =>
   show (if y=inv x then r else _)=_
   rw [if_neg h.1]
theorem pz:Rd []:=trivial
theorem kj (st:List L)(x:L):(push st x).length≤st.length+1:=by
 cases st with
 | nil=>simp [push]
 | cons y r =>
  show (if y=inv x then r else x::y::r).length≤_
  split
  ·simp only [EF];omega
  ·simp
theorem gI:∀ (w st:List L),(act w st).length≤st.length+w.length
 | [],_=>by simp [act]
 | x::w,st=>by
  have:=gI w (push st x)
  have:=kj st x
  rw [iz,EF]
  omega
theorem ni (w:List L):(red w).length≤w.length:=by
 have:=gI w []
 simpa [red] using this
def rep:Nat→List L→List L
 | 0,_=>[]
 | n+1,w=>rep n w++w
theorem iA (w:List L):∀ n,rep n w++w=w++rep n w
 | 0=>by simp [rep]
 | n+1=>by
  show (rep n w++w)++w=w++(rep n w++w)
  rw [← Ek,← iA w n]
theorem gJ (w:List L):∀ n,(rep n w).length=n*w.length
 | 0=>by simp [rep]
 | n+1=>by
  show (rep n w++w).length=_
  rw [Eb,gJ w n,JG]
def pw (w:List L)(n:Int):List L:=rep n.natAbs (if n < 0 then bk w else w)
def vj (k:Nat)(w:List L):Prop:=∀ i x y,i+1 < k→w[i]? = some x→w[i+1]? = some y→y≠inv x
theorem wH:∀ {w:List L} {k:Nat},w.length≤k→vj k w→act w []=w.reverse:=by
 have all:∀ (u st:List L),Rd st→(∀ x y,st.head? = some x→u.head? = some y→y≠inv x)→vj u.length u→act u st=u.reverse++st:=by
  intro u
  induction u with
  | nil=>intro st _ _ _;rfl
  | cons x u ih =>
   intro st h hd hr
   have e:push st x=x::st:=by
    cases st with
    | nil=>rfl
    | cons y r =>
     show (if y=inv x then r else _)=_
     rw [if_neg]
     intro e
     have:=hd y x rfl rfl
     rw [e,aq] at this
     exact this rfl
   rw [iz,e,ih (x::st),IG,Ek]
   ·rfl
   ·rw [← e];exact pj x h
   ·intro a b ha hb
    have ea:a=x:=(El ha).symm
    subst ea
    cases u with
    | nil=>cases hb
    | cons c u =>
     have eb:b=c:=(El hb).symm
     subst eb
     exact hr 0 a b (by simp) rfl rfl
   ·intro i a b hi ha hb
    exact hr (i+1) a b (by simp only [EF];omega) ha hb
 intro w k hk h
 have:=all w [] pz (fun x y hx=>by cases hx) (fun i x y hi=>h i x y (by omega))
 simpa using this
theorem fJ {w:List L}{k:Nat}(hk:w.length≤k)(h:vj k w):red w=w:=by
 unfold red
 rw [wH hk h,FV]
theorem pA {w:List L}{k:Nat}(h:vj (k+1) w)(hn:∀ x y,w[k]? = some x→w[k+1]? = some y→y≠inv x):vj (k+2) w:=by
 intro i x y hi hx hy
 by_cases e:i=k
 ·subst e;exact hn x y hx hy
 ·exact h i x y (by omega) hx hy
theorem tJ {w:List L}{k:Nat}(h:vj (k+1) w):vj (k - 1+1) (w.take k++w.drop (k+2)):=by
 intro i x y hi hx hy
 by_cases hk:k=0
 ·omega
 ·have e1:(w.take k++w.drop (k+2))[i]? = w[i]?:=by
   by_cases hl:i < (w.take k).length
   ·rw [E3 hl,E6 (by omega)]
   ·rw [Es] at hl
    rw [Fu (l:=w) (by omega)]
    rw [Fu]
    rw [Eb,Es,Fb]
    omega
  have e2:(w.take k++w.drop (k+2))[i+1]? = w[i+1]?:=by
   by_cases hl:i+1 < (w.take k).length
   ·rw [E3 hl,E6 (by omega)]
   ·rw [Es] at hl
    rw [Fu (l:=w) (by omega)]
    rw [Fu]
    rw [Eb,Es,Fb]
    omega
  rw [e1] at hx
  rw [e2] at hy
  exact h i x y (by omega) hx hy
theorem wI {w:List L}{k:Nat}{x:L}(hx:w[k]? = some x)(hy:w[k+1]? = some (inv x)):red (w.take k++w.drop (k+2))=red w:=by
 obtain ⟨h1,e1⟩:=Ed.mp hx
 obtain ⟨h2,e2⟩:=Ed.mp hy
 have e:w=w.take k++([x,inv x]++w.drop (k+2)):=by
  have a:=(EI k w).symm
  have b:w.drop k=x::inv x::w.drop (k+2):=by
   rw [E4 h1,E4 h2,e1,e2]
  rw [b] at a
  exact a
 have q:red (w.take k++([x,inv x]++w.drop (k+2)))=red (w.take k++w.drop (k+2)):=by
  unfold red
  rw [dj,dj,dj]
  show (act (w.drop (k+2)) (push (push (act (w.take k) []) x) (inv x))).reverse=_
  rw [pk x (lQ _ pz)]
 rw [← q,← e]
end Wd
namespace L2
open PySem PySem.Spec PyProof.Rows Wd
def cp (x:L):Nat:=if x.val < 6 then 97+x.val else 59+x.val
theorem tK:∀ x:L,cp x < 128:=by decide
theorem vk:∀ x y:L,cp x=cp y→x=y:=by decide
def toS (w:List L):Str:=⟨(w.map cp).toArray⟩
def tx (w:List L):V:=.str (toS w)
theorem aZ (w:List L):(toS w).cps.toList=w.map cp:=by simp [toS]
theorem ae (w:List L):(toS w).length=w.length:=by simp [toS,Str.length]
theorem bo (w:List L):(toS w).cps.size=w.length:=by simp [toS]
theorem dk (u v:List L):toS u++toS v=toS (u++v):=by
 apply Str.ext'
 rw [Str.cps_append]
 simp [toS]
theorem dm:∀ {u v:List L},u.map cp=v.map cp→u=v
 | [],[],_=>rfl
 | [],_::_,h=>by simp at h
 | _::_,[],h=>by simp at h
 | x::u,y::v,h=>by
  simp only [EO,Jn] at h
  rw [vk x y h.1,dm h.2]
theorem kl {u v:List L}(h:toS u=toS v):u=v:=by
 have:(toS u).cps.toList=(toS v).cps.toList:=by rw [h]
 rw [aZ,aZ] at this
 exact dm this
theorem gK {u v:List L}(h:tx u=tx v):u=v:=kl (V.str.inj h)
theorem wJ:toS []=("":Str):=by decide +kernel
theorem gL:tx []=V.str ("":Str):=Ey V.str wJ
theorem pF (u v:List L):decide (tx u=tx v)=decide (u=v):=by
 by_cases h:u=v
 ·subst h;simp
 ·rw [Ea h,Ea fun e=>h (gK e)]
theorem pG:toS [0,1,2,3,4,5]=("abcdef":Str):=by decide +kernel
theorem big:toS [6,7,8,9,10,11]=("ABCDEF":Str):=by decide +kernel
theorem cZ {w:List L}{i c:Nat}(h:(toS w).cps[i]? = some c):∃ x,w[i]? = some x∧(⟨#[c]⟩:Str)=toS [x]:=by
 have h:((w.map cp).toArray)[i]? = some c:=h
 rw [List.getElem?_toArray,Ff] at h
 cases e:w[i]? with
 | none=>rw [e] at h;cases h
 | some x =>
  rw [e] at h
  have:cp x=c:=El h
  exact ⟨x,rfl,by rw [← this];rfl⟩
theorem bN {w:List L}{k:Nat}{x:L}{i:Int}(hk:i=(k:Int))(h:w[k]? = some x):atI (toS w).cps.toList i=some (cp x):=by
 subst hk
 rw [aZ]
 obtain ⟨hl,e⟩:=Ed.mp h
 unfold atI ixN
 rw [if_pos (by omega),if_pos (by rw [Ej];omega)]
 show (w.map cp)[((k:Nat):Int).toNat]? = _
 rw [E2,Ff,h]
 rfl
def nj (w:List L)(lo hi:Option Int):List L:=(w.drop (HT.sIx w.length 0 lo)).take (HT.sIx w.length w.length hi - HT.sIx w.length 0 lo)
theorem wK (lo hi:Option Int)(n:Nat):Builtin.Str.strSliceIndices lo hi 1 n=(List.range (HT.sIx n n hi - HT.sIx n 0 lo)).map (fun k=>HT.sIx n 0 lo+k):=by
 have cl:∀ v:Int,max (0:Int) (min (if v < 0 then v+(n:Int) else v) (n:Int))=(((if v < 0 then (v+(n:Int)).toNat else min v.toNat n):Nat):Int):=fun v=>by
  by_cases hv:v < 0
  ·simp only [if_pos hv];omega
  ·simp only [if_neg hv];omega
 have fin:∀ a b:Nat,sliceRange (a:Int) (b:Int) 1=(List.range (b - a)).map (fun k=>a+k):=fun a b=>by
  unfold sliceRange
  simp only [show ((1:Int) > 0)=True from by simp,Gb]
  by_cases Kq:(a:Int) < b
  ·have e3:(((b:Int) - a+1 - 1) / 1).toNat=b - a:=by first | omega | (simp;done) | (simp;omega)
   simp only [Kq,Gb,e3]
   exact List.map_congr_left fun k _=>by omega
  ·have:b - a=0:=by omega
   simp [Kq,this]
 unfold Builtin.Str.strSliceIndices
 simp only [show ((1:Int) > 0)=True from by simp,Gb]
 cases lo with
 | none =>
  cases hi with
  | none=>exact fin 0 n
  | some j=>simp only [cl];exact fin 0 _
 | some i =>
  cases hi with
  | none=>simp only [cl];exact fin _ n
  | some j=>simp only [cl];exact fin _ _
theorem aO (w:List L)(lo hi:Option Int):Txt.slice (toS w) lo hi=toS (nj w lo hi):=by
 have h1:=HT.vc w.length 0 (E1 _) lo
 have h2:=HT.vc w.length w.length (Ei _) hi
 unfold Txt.slice
 rw [wK,ae]
 split
 ·rename_i h
  have hl:HT.sIx w.length w.length hi - HT.sIx w.length 0 lo=w.length:=by simpa using h
  have e:nj w lo hi=w:=by
   unfold nj
   rw [hl]
   have ha:HT.sIx w.length 0 lo=0 ∨ w.length=0:=by omega
   rcases ha with ha | ha
   ·rw [ha,IA,GF]
   ·have:w=[]:=Fg ha
    subst this
    simp
  rw [e]
 ·apply Str.ext'
  show (List.filterMap _ _).toArray=_
  have e:=StrLaws.picks (w.map cp) (HT.sIx w.length w.length hi - HT.sIx w.length 0 lo) (HT.sIx w.length 0 lo)
  by_cases hle:HT.sIx w.length 0 lo≤HT.sIx w.length w.length hi
  ·have e:=e (by rw [Ej];omega)
   have e2:(fun k:Nat=>(toS w).cps[k]?)=fun k:Nat=>(w.map cp)[k]?:=funext fun k=>by simp [toS]
   rw [e2,e]
   simp [toS,nj,JC,JD]
  ·have z:HT.sIx w.length w.length hi - HT.sIx w.length 0 lo=0:=by omega
   rw [z]
   simp [toS,nj,z]
theorem dY (w:List L){n:Int}(h:0≤n):nj w none (some n)=w.take n.toNat:=by
 obtain ⟨k,rfl⟩:=Fn h
 unfold nj
 rw [HT.ib,HT.fy,IA,JI,E2]
 by_cases hk:k≤w.length
 ·rw [Nat.min_eq_left hk]
 ·rw [Nat.min_eq_right (by omega),GF,E9 (by omega)]
theorem iB (w:List L){n:Int}(h:0≤n):nj w (some n) none=w.drop n.toNat:=by
 obtain ⟨k,rfl⟩:=Fn h
 unfold nj
 rw [HT.ib,HT.fy,E2]
 by_cases hk:k≤w.length
 ·rw [Nat.min_eq_left hk,E9 (by rw [Fb];omega)]
 ·rw [Nat.min_eq_right (by omega),I_,Ga (by omega)]
  simp
theorem gM (w:List L)(lo hi:Option Int):(nj w lo hi).length≤w.length:=by
 unfold nj
 rw [Es,Fb]
 omega
theorem pH (w:List L):Txt.upper (toS w)=⟨((w.map cp).map up1).toArray⟩:=by
 rw [upper_ascii fun c hc=>by rw [aZ] at hc;obtain ⟨x,_,rfl⟩:=EU.mp hc;exact tK x]
 simp [toS]
theorem jw (w:List L):Txt.lower (toS w)=⟨((w.map cp).map lo1).toArray⟩:=by
 rw [lower_ascii fun c hc=>by rw [aZ] at hc;obtain ⟨x,_,rfl⟩:=EU.mp hc;exact tK x]
 simp [toS]
theorem BZ:∀ x:L,x.val < 6→up1 (cp x)=cp (inv x):=by decide
theorem B0:∀ x:L,¬ x.val < 6→lo1 (cp x)=cp (inv x):=by decide
theorem fK {x:L}(h:x.val < 6):Txt.upper (toS [x])=toS [inv x]:=by
 rw [pH]
 show (⟨#[up1 (cp x)]⟩:Str)=⟨#[cp (inv x)]⟩
 rw [BZ x h]
theorem jx {x:L}(h:¬ x.val < 6):Txt.lower (toS [x])=toS [inv x]:=by
 rw [jw]
 show (⟨#[lo1 (cp x)]⟩:Str)=⟨#[cp (inv x)]⟩
 rw [B0 x h]
theorem ex1:∀ x:L,cp x∈List.map cp [0,1,2,3,4,5]→x.val < 6:=by decide
theorem ex2:∀ x:L,x.val < 6→(List.map cp [0,1,2,3,4,5])[x.val]? = some (cp x):=by decide
theorem tL (x:L):(!(Builtin.Str.occurrences ("abcdef":Str) (toS [x]) 0 ("abcdef":Str).length 1).isEmpty)=decide (x.val < 6):=by
 have h:=StrLaws.found_iff ("abcdef":Str) (toS [x])
 have e:(∃ i,i+(toS [x]).length≤("abcdef":Str).length∧Builtin.Str.subAt ("abcdef":Str) (toS [x]) i=true) ↔ x.val < 6:=by
  have e2:∀ i,(i+(toS [x]).length≤("abcdef":Str).length∧Builtin.Str.subAt ("abcdef":Str) (toS [x]) i=true) ↔ ("abcdef":Str).cps.toList[i]? = some (cp x):=fun i=>StrLaws.subAt_one _ _ _
  rw [show (("abcdef":Str))=toS [0,1,2,3,4,5] from pG.symm] at e2 ⊢
  constructor
  ·rintro ⟨i,hi⟩
   have hi:=(e2 i).mp hi
   rw [aZ] at hi
   exact ex1 x (EY hi)
  ·intro hx
   refine ⟨x.val,(e2 x.val).mpr ?_⟩
   rw [aZ]
   exact ex2 x hx
 rw [EA,h,e,Eh]
theorem tM:∀ w:List L,Txt.join ("":Str) (w.map fun x=>toS [x])=toS w:=by
 intro w
 have e0:("":Str)=Str.empty:=by decide +kernel
 unfold Txt.join
 rw [StrLaws.glued_eq_join,e0]
 induction w with
 | nil=>rfl
 | cons x r ih =>
  cases r with
  | nil=>rfl
  | cons y r =>
   show toS [x]++Str.empty++Str.join Str.empty ((y::r).map fun x=>toS [x])=_
   rw [ih,Str.append_empty,dk]
   rfl
theorem wL (w:List L):((w.map fun x=>toS [x]).map (·.length)).sum=w.length:=by
 induction w with
 | nil=>rfl
 | cons x r ih =>
  simp only [EO,List.sum_cons,EF]
  rw [ih,ae]
  simp only [ES]
  omega
theorem eW (w:List L):∀ (n:Nat) (acc:Array Nat),(List.replicate n (toS w).cps).foldl (· ++ ·) acc=acc++((rep n w).map cp).toArray
 | 0,acc=>by simp [rep]
 | n+1,acc=>by
  rw [F0,Jl,eW w n]
  show _=acc++((rep n w++w).map cp).toArray
  rw [iA]
  simp [toS]
theorem pI:∀ n,rep n ([]:List L)=[]
 | 0=>rfl
 | n+1=>by show rep n []++[]=[];rw [pI n];rfl
theorem wM (w:List L)(n:Int):Txt.mul (toS w) n=toS (rep n.toNat w):=by
 unfold Txt.mul
 by_cases h1:n < 1
 ·rw [if_pos h1]
  have:n.toNat=0:=by omega
  rw [this]
  rfl
 ·rw [if_neg h1]
  split
  ·rename_i h
   rw [ae] at h
   simp only [Bool.or_eq_true,GL] at h
   rcases h with h | h
   ·subst h
    show toS w=toS (rep 1 w)
    show toS w=toS ([]++w)
    rfl
   ·have:w=[]:=Fg h
    subst this
    rw [pI]
  ·apply Str.ext'
   show (List.replicate n.toNat (toS w).cps).foldl (· ++ ·) #[]=_
   rw [eW]
   simp [toS]
theorem pJ (w:List L){n:Int}(h1:-1000000≤n)(h2:n≤1000)(hw:w.length≤10000):MulOk (toS w) n:=by
 refine ⟨?_,fun hn _=>?_,fun hn _=>?_⟩
 ·have e1:decide (n < -(2 ^ 63:Int))=false:=Ea (by omega)
  have e2:decide (n≥2 ^ 63)=false:=Ea (by omega)
  rw [e1,e2,Jz]
 ·rw [ae]
  have hn1:1≤n:=by omega
  have q:(9223372036854775:Int)≤(2 ^ 63 - 1) / n:=by
   rw [Int.le_ediv_iff_mul_le (by omega)]
   omega
  omega
 ·rw [ae]
  unfold Builtin.Str.tooLong
  have e:sizeLine=16777216:=Hm
  obtain ⟨k,rfl⟩:=Fn (show 0≤n by omega)
  have hk:k≤1000:=by omega
  rw [E2]
  have q:w.length*k≤10000*1000:=Nat.mul_le_mul hw hk
  exact Ea (by omega)
structure Fnc (P:Program) (w:World) (K:PySem.W.Frag) (mg:Str→Option Value) (base:Heap) (x:Str) (ps:List Str) (k:Nat) (sp:Sp):Prop where
 ex:∃ (f:Addr) (fd:FuncData),mg x=some (.ref f)∧PySem.W.keepIn K (.ref f)=true∧ng K fd ps []∧nc P w K mg base CX0 k f fd ps sp
theorem aC {X:Cx}{x:Str}{ps:List Str}{k j:Nat}{sp:Sp}{e:Expr}{es:List Expr}{t:TA}{p pos:Pos}(F:Fnc X.prog X.w X.K X.mg X.base x ps j sp)(hr:gF k X.A)(hj:j≤k)(hg:Gl X x)(ha:PA X (e::es) t)
  (hdb:(x == ("__debug__":Str))=false:=by decide) (he:starEach (e::es) X.env=(false,eval e X.env)::starEach es X.env:=by rfl) (hpl:(backTo pos (starEach es X.env)).any (·.1)=false:=by rfl) :
  PE X (.Call (.Name x p) (e::es) [] pos) (zg sp [] E0 t):=by
 obtain ⟨f,fd,hm,hk,hb,F⟩:=F.ex
 exact we F (hr.mono hj) hg hm hk hb .nil BU ha hdb he hpl
structure Df (K:PySem.W.Frag) (mg:Str→Option Value) (x:Str) (st:Stmt):Prop where
 ex:∃ (f:Addr) (fd:FuncData),mg x=some (.ref f)∧Fun K x x st f fd
theorem Df.ok {P:Program}{w:World}{K:PySem.W.Frag}{mg:Str→Option Value}{base:Heap}{x:Str}{st:Stmt}{N ps:List Str}{k:Nat}{sp:Sp}(D:Df K mg x st)(S:ay N ps (ak st))
  (hb:∀ (kV doc pm:Value) (an:Option Addr) (Ks ct:Value) (us:List Value),us.length=ps.length→bindArgs (PySem.W.fnOf x x (b9 st) (bB st) (ak st) .none kV doc pm an Ks ct) ⟨us,[]⟩=pure (ps.zip us))
  (len:∀ vs H Q E,sp vs H Q E→vs.length=ps.length)
  (hbody:∀ (f:Addr) (Ks:Value) (A:Around) (outer:List Env) (s:Shared) (H:Hp) (vs:List V) (Q:VK) (E:XK),gF k (A.deeper (envOfC x (ak st) s.heap.objs.size f Ks))→sp vs H Q E →
   ∃ t,PSs (wg CX0 P w K mg base N x (ak st) f Ks A outer s H E).nox (bB st) t∧t { nx:=fun _ H'=>Q .non H',rt:=Q } (start N vs) H):Fnc P w K mg base x ps (k+1) sp:=by
 obtain ⟨f,fd,hm,F⟩:=D.ex
 exact ⟨f,fd,hm,F.kp,F.binds hb,F.ok S len fun Ks A outer s H vs Q E hr h=>hbody f Ks A outer s H vs Q E hr h⟩
def bC (d:Addr)(H H':Hp):Prop:=∀ b o,b≠d→H b=some o→H' b=some o
theorem bC.refl (d:Addr)(H:Hp):bC d H H:=fun _ _ _ h=>h
theorem bC.trans {d:Addr}{H H1 H2:Hp}(a:bC d H H1)(b:bC d H1 H2):bC d H H2:=fun c o n h=>b c o n (a c o n h)
theorem aE.b {d:Addr}{H H':Hp}(a:aE H H'):bC d H H':=fun b o _ h=>a b o h
theorem aE.new {H:Hp}{a:Addr}{o:HO}(h:H a=none):aE H (upd H a o):=fun b u e=>by rw [aH (ax e h)]; exact e
theorem bC.upd {d:Addr}{H:Hp}{o:HO}:bC d H (upd H d o):=fun b u n e=>by rw [aH n]; exact e
theorem aE.then {H H1:Hp}{a:Addr}{o:HO}(s:aE H H1)(h:H1 a=none):aE H (L2.upd H1 a o):=s.trans (aE.new h)
def kS (x:Str):Key:=.inr x
def fkv (c:Addr)(i l t:Int):List (Key × V):=[(kS "cells",.ref c),(kS "at",.int i),(kS "left",.int l),(kS "turn",.int t)]
theorem B2:¬ (kS "cells" = kS "at"):=by decide +kernel
theorem B3:¬ (kS "cells" = kS "left"):=by decide +kernel
theorem B4:¬ (kS "cells" = kS "turn"):=by decide +kernel
theorem Bp:¬ (kS "at" = kS "left"):=by decide +kernel
theorem Bq:¬ (kS "at" = kS "turn"):=by decide +kernel
theorem Br:¬ (kS "left" = kS "turn"):=by decide +kernel
theorem fh {κ:Type}[DecidableEq κ]{k:κ}{v:V}{r:List (κ × V)}:fe ((k,v)::r) k=some v:=by unfold fe; simp
theorem ck {κ:Type}[DecidableEq κ]{k k':κ}{v:V}{r:List (κ × V)}(h:¬ k'=k):fe ((k',v)::r) k=fe r k:=by unfold fe; simp [h]
theorem pK (c:Addr)(i l t:Int):fe (fkv c i l t) (kS "cells")=some (.ref c):=fh
theorem Dh (c:Addr)(i l t:Int):fe (fkv c i l t) (kS "at")=some (.int i):=(ck B2).trans fh
theorem jy (c:Addr)(i l t:Int):fe (fkv c i l t) (kS "left")=some (.int l):=(ck B3).trans ((ck Bp).trans fh)
theorem pL (c:Addr)(i l t:Int):fe (fkv c i l t) (kS "turn")=some (.int t):=(ck B4).trans ((ck Bq).trans ((ck Br).trans fh))
theorem DO:¬ (kS "turn" = kS "at"):=fun e=>Bq e.symm
theorem DP:¬ (kS "left" = kS "at"):=fun e=>Bp e.symm
theorem DQ:¬ (kS "turn" = kS "left"):=fun e=>Br e.symm
theorem DR (c:Addr)(i l t z:Int):eU (fkv c i l t) (kS "at") (.int z)=fkv c z l t:=by simp [eU,fkv,B2,DP,DO]
theorem pM (c:Addr)(i l t z:Int):eU (fkv c i l t) (kS "left") (.int z)=fkv c i z t:=by simp [eU,fkv,B3,Bp,DQ]
theorem zD (c:Addr)(i l t z:Int):eU (fkv c i l t) (kS "turn") (.int z)=fkv c i l z:=by simp [eU,fkv,B4,Bq,Br]
theorem fL (c:Addr)(i l t:Int):(fkv c i l t).length < sizeLine:=by show 4 < sizeLine; decide
theorem B5 (c:Addr)(i l t:Int):fG [] (fkv c i l t)=fkv c i l t:=by simp [fG,eU,fkv,B2,B3,B4,Bp,Bq,Br]
structure Fd (H:Hp) (d:Addr):Prop where
 ex:∃ (c:Addr) (i l t:Int) (ns:List Int),H d=some (.dK (fkv c i l t))∧H c=some (.lst (ns.map V.int))∧ns≠[]∧ns.length≤64
theorem Fd.same {H H':Hp}{d:Addr}(F:Fd H d)(s:aE H H'):Fd H' d:=by
 obtain ⟨c,i,l,t,ns,h1,h2,h3,h4⟩:=F.ex
 exact ⟨c,i,l,t,ns,s _ _ h1,s _ _ h2,h3,h4⟩
theorem Fd.new {H:Hp}{d a:Addr}{o:HO}(F:Fd H d)(h:H a=none):Fd (upd H a o) d:=F.same (aE.new h)
theorem Fd.ne {H:Hp}{d a:Addr}(F:Fd H d)(h:H a=none):a≠d:=by
 obtain ⟨c,i,l,t,ns,h1,h2,h3,h4⟩:=F.ex
 exact (ax h1 h).symm
inductive gN (vs:List V)(H:Hp)(Q:VK)(Kv:XK):Prop
 | mk:∀ (d:Addr) (m:Int),(vs=[.ref d,.int m])→(Fd H d)→(0 < m)→(m < 1000000)→(∀ (r:Int) (H':Hp),0≤r→r < m→Fd H' d→bC d H H'→Q (.int r) H')→gN vs H Q Kv
inductive pN (K:PySem.W.Frag)(vs:List V)(H:Hp)(Q:VK)(Kv:XK):Prop
 | mk:∀ (a:Addr) (ns:List Int),(vs=[.ref a])→(SqL K H a (ns.map V.int))→(ns.length≤63)→(∀ (d:Addr) (H':Hp),H d=none→Fd H' d→aE H H'→Q (.ref d) H')→pN K vs H Q Kv
theorem wN {ns:List Int}(h:ns≠[])(i:Int):∃ n:Int,atI (ns.map V.int) (i % ((ns.map V.int).length:Int))=some (.int n):=by
 have hl:0 < ns.length:=ET.mpr h
 rw [Ej]
 have h0:=EM i (show (ns.length:Int)≠0 by omega)
 have h1:=Ez i (show (0:Int) < ns.length by omega)
 obtain ⟨k,hk⟩:=Fn h0
 rw [hk] at h1 ⊢
 have hk':k < ns.length:=by omega
 refine ⟨ns[k],?_⟩
 unfold atI ixN
 rw [if_pos (by omega),if_pos (by rw [Ej];omega)]
 show (ns.map V.int)[((k:Nat):Int).toNat]? = _
 rw [E2,Ff,fu hk']
 rfl
mutual
inductive Dt (H:Hp):V→PyData→Prop where
 | non:Dt H .non .none
 | bl (b:Bool):Dt H (.bl b) (.bool b)
 | int (i:Int):Dt H (.int i) (.int i)
 | str (x:Str):Dt H (.str x) (.str x)
 | lst {a:Addr} {xs:List V} {ds:List PyData}:H a=some (.lst xs)→Dts H xs ds→Dt H (.ref a) (.list ds)
 | tup {a:Addr} {xs:List V} {ds:List PyData}:H a=some (.tup xs)→Dts H xs ds→Dt H (.ref a) (.tuple ds)
inductive Dts (H:Hp):List V→List PyData→Prop where
 | nil:Dts H [] []
 | cons {v:V} {d:PyData} {vs:List V} {ds:List PyData}:Dt H v d→Dts H vs ds→Dts H (v::vs) (d::ds)
end
section
variable {P:Program} {w:World} {H:Hp} {h:Heap}
mutual
theorem Dt.reads (ok:HOk P w H h):∀ {v:V} {d:PyData},Dt H v d→∀ {u:Value},bq v u→∃ as,Reads h u d as
 | _,_,.non,u,r=>by cases r;exact ⟨_,.none⟩
 | _,_,.bl b,u,r=>by cases r;exact ⟨_,.bool b⟩
 | _,_,.int i,u,r=>by obtain ⟨t,rfl⟩:=r;exact ⟨_,.int i t⟩
 | _,_,.str x,u,r=>by obtain ⟨t,rfl⟩:=r;exact ⟨_,.str x t⟩
 | _,_,.lst e q,u,r=>by
  cases r
  obtain ⟨_,its,n,rv,g⟩:=ok _ _ e
  obtain ⟨as,ra⟩:=Dts.reads ok q rv
  exact ⟨_,.list g rfl rfl (by simpa using ra)⟩
 | _,_,.tup e q,u,r=>by
  cases r
  obtain ⟨_,its,rv,⟨ob,g,c,n,d⟩,_⟩:=ok _ _ e
  obtain ⟨as,ra⟩:=Dts.reads ok q rv
  exact ⟨_,.tuple g c d (by simpa using ra)⟩
theorem Dts.reads (ok:HOk P w H h):∀ {vs:List V} {ds:List PyData},Dts H vs ds→∀ {us:List Value},ba vs us→∃ as,ReadsAll h us ds as
 | _,_,.nil,_,r=>by cases r;exact ⟨_,.nil⟩
 | _,_,.cons q qs,_,r=>by
  cases r with
  | cons r rs =>
   obtain ⟨as,a1⟩:=Dt.reads ok q r
   obtain ⟨bs,a2⟩:=Dts.reads ok qs rs
   exact ⟨_,.cons a1 a2⟩
end
end
section
variable {X:Cx}
end
def B6 (m:Str)(ys:List Str):Prop:=m∈ys∧∀ y∈ys,m.cps.toList≤y.cps.toList
theorem eX:∀ (r:List Str) (x:Str),risingS x r=true→B6 x (x::r)
 | [],x,_=>⟨by simp,fun y hy=>by rw [Ec.mp hy];exact List.le_refl _⟩
 | z::r,x,h=>by
  unfold risingS at h
  rw [FG] at h
  have h1:x.cps.toList≤z.cps.toList:=by
   have:=h.1
   rw [ltCps_eq] at this
   exact Jy.mp (by simpa using this)
  have ih:=eX r z h.2
  refine ⟨by simp,fun y hy=>?_⟩
  rcases Et.mp hy with e | hy
  ·rw [e];exact List.le_refl _
  ·exact List.le_trans h1 (ih.2 y hy)
theorem eY:∀ {us:List Value} {ys:List Str},StrsAre us ys→ba (ys.map V.str) us
 | _,_,.nil=>.nil
 | _,_,.cons y t r=>.cons ⟨t,rfl⟩ (eY r)
section
variable {X:Cx}
end
end L2
namespace Kx
open PySem PySem.Spec PyProof.Rows L2 Wd
theorem zE:bootBuiltins "list" = some (.type "list"):=by kernel_rfl
theorem B7:bootBuiltins "int" = some (.type "int"):=by kernel_rfl
theorem B8:bootBuiltins "abs" = some (.builtin "abs"):=by kernel_rfl
theorem wO:bootBuiltins "max" = some (.builtin "max"):=by kernel_rfl
theorem zF:bootBuiltins "min" = some (.builtin "min"):=by kernel_rfl
theorem iC:bootBuiltins "sorted" = some (.builtin "sorted"):=by kernel_rfl
theorem wQ:bootBuiltins "tuple" = some (.type "tuple"):=by kernel_rfl
theorem eZ:bootBuiltins "isinstance" = some (.builtin "isinstance"):=by kernel_rfl
theorem zG:bootBuiltins "all" = some (.builtin "all"):=by kernel_rfl
theorem zH:bootBuiltins "str" = some (.type "str"):=by kernel_rfl
theorem B9:bootBuiltins "zip" = some (.type "zip"):=by kernel_rfl
theorem nq:bootBuiltins "reversed" = some (.type "reversed"):=by kernel_rfl
structure Bt (K:PySem.W.Frag) (w:World) (mg:Str→Option Value) (aB:Addr):Prop where
 len:mg "len" = none
 repr:mg "repr" = none
 abs:mg "abs" = none
 max:mg "max" = none
 int:mg "int" = none
 list:mg "list" = none
 range:mg "range" = none
 reversed:mg "reversed" = none
 min:mg "min" = none
 sorted:mg "sorted" = none
 tuple:mg "tuple" = none
 isinstance:mg "isinstance" = none
 all:mg "all" = none
 str:mg "str" = none
 zip:mg "zip" = none
 mgB:mg "BACKS" = some (.ref aB)
 dB:DTx K w aB
 gB:∀ x:L,∃ t,PySem.W.nsIn K aB (toS [x])=some (some (.str (toS [inv x]) t))
theorem dg {H:Hp}{d:Addr}{Km:List (Key × V)}{k:Str}{v:V}(h:H d=some (.dK Km))(e:fe Km (kS k)=some v):oS H d (.str k) (some v):=by
 have q:=oS.k (k:=kS k) h
 rw [e] at q
 exact q
theorem dp {H:Hp}{d:Addr}{Km kvs':List (Key × V)}{k:Str}{v:V}(h:H d=some (.dK Km))(hl:Km.length < sizeLine)(e:eU Km (kS k) v=kvs'):wu H d (.str k) v (upd H d (.dK kvs')):=by
 have q:=wu.k (k:=kS k) (v:=v) h hl
 rw [e] at q
 exact q
theorem B_ {ns:List Int}(h:ns.length≤63):oa (ns.map V.int) none (some 63)=ns.map V.int:=by
 unfold oa
 have e:HT.sIx (ns.map V.int).length (ns.map V.int).length (some 63)=(ns.map V.int).length:=by
  have:=HT.fy (ns.map V.int).length (ns.map V.int).length 63
  rw [show ((63:Nat):Int)=63 from rfl] at this
  rw [this,Ej]
  omega
 rw [e,HT.ib,IA,JI,GF]
def tN (w:List L):List V:=w.map fun x=>tx [x]
theorem lS (w:List L):tN w=(w.map fun x=>toS [x]).map V.str:=by unfold tN; rw [Fp]; rfl
theorem jz (w:List L)(x:L):tN w++[tx [x]]=tN (w++[x]):=by unfold tN; rw [E_]; rfl
theorem fM (w:List L):(tN w).length=w.length:=by unfold tN; rw [Ej]
theorem jA (w:List L):V.str (Txt.join ("":Str) (w.map fun x=>toS [x]))=tx w:=Ey V.str (tM w)
theorem jB (w:List L)(h:w.length≤1000000):((w.map fun x=>toS [x]).map (·.length)).sum+(w.map fun x=>toS [x]).length*("":Str).length≤16777216:=by
 have e:("":Str).length=0:=by decide +kernel
 rw [e,wL]
 omega
theorem aP:sizeLine=16777216:=Hm
inductive nt (vs:List V)(H:Hp)(Q:VK)(Kv:XK):Prop
 | mk:∀ w,(vs=[tx w])→(w.length≤5000)→(∀ H',aE H H'→Q (tx (bk w)) H')→nt vs H Q Kv
inductive wR (vs:List V)(H:Hp)(Q:VK)(Kv:XK):Prop
 | mk:∀ w,(vs=[tx w])→(w.length≤5000)→(∀ H',aE H H'→Q (tx (red w)) H')→wR vs H Q Kv
theorem dF (u v:List L):V.str (toS u++toS v)=tx (u++v):=Ey V.str (dk u v)
def sg (m:Int):List L:=([0,1,2,3,4,5]:List L).take m.toNat++([6,7,8,9,10,11]:List L).take m.toNat
theorem jC {m:Int}(h1:1≤m)(h2:m≤6):(sg m).length=2*m.toNat:=by
 unfold sg
 rw [Eb,Es,Es]
 simp only [EF,Fl]
 omega
theorem tO {m:Int}(h1:1≤m):V.str (Txt.slice ("abcdef":Str) none (some m)++Txt.slice ("ABCDEF":Str) none (some m))=tx (sg m):=by
 rw [← pG,← big,aO,aO,dY _ (by omega),dY _ (by omega),dF]
 rfl
theorem jD:("abcdef":Str).length=6:=by decide +kernel
theorem vm:("ABCDEF":Str).length=6:=by decide +kernel
theorem vn (u:List L){i:Nat}{y:L}(hi:i < u.length)(h:u[u.length - 1 - i]? = some y):(bk u)[i]? = some (inv y):=by
 unfold bk
 rw [Hw (by rw [Ej];exact hi),Ej,Ff,h]
 rfl
theorem dZ {u:List L}{i:Nat}{x:L}(h:u[i]? = some x):u.take (i+1)=u.take i++[x]:=by
 obtain ⟨hl,e⟩:=Ed.mp h
 rw [GS,h]
 rfl
theorem gO {c:Bool}{A B:Prop}(hc:c=true)(h:A):if c=true then A else B:=by rw [if_pos hc]; exact h
theorem gP {c:Bool}{A B:Prop}(hc:c=false)(h:B):if c=true then A else B:=by rw [hc]; exact yN h
theorem sm6:∀ j:Fin 6,([0,1,2,3,4,5]:List L)[j.val]? = some ⟨j.val,JH j.isLt (by decide)⟩:=by decide
def dws (ws:List (List L)):List PyData:=ws.map fun w=>.str (toS w)
theorem pO {H:Hp}:∀ (ws:List (List L)),Dts H (ws.map tx) (dws ws)
 | []=>.nil
 | w::r=>.cons (.str (toS w)) (pO r)
end Kx
namespace L2
open PySem PySem.Spec PyProof.Rows Wd
section
variable {X:Cx} {tg:Expr}
inductive zI (x:V)(vs:List V)(H:Hp)(Q:VK):Prop
 | mk:∀ z y i,(x = .str z)→(vs=[.str y,.int i])→(Q (.int (Txt.find3 z y i)) H)→zI x vs H Q
theorem wU:MtR X "str.find" zI:=by
 intro Kl s σ H x vs v us Q I rx rv h
 obtain ⟨z,y,i,rfl,rfl,q⟩:=h
 obtain ⟨t,rfl⟩:=rx
 obtain ⟨u1,u2,rfl,⟨t1,rfl⟩,⟨t2,rfl⟩⟩:=m_ rv
 exact SC.find3 ⟨.int _,H,I.tok _,⟨_,rfl⟩,q⟩
inductive vo (x:V)(vs:List V)(H:Hp)(Q:VK):Prop
 | mk:∀ z y,(x = .str z)→(vs=[.str y])→(Q (.int (Txt.count z y)) H)→vo x vs H Q
theorem lU:MtR X "str.count" vo:=by
 intro Kl s σ H x vs v us Q I rx rv h
 obtain ⟨z,y,rfl,rfl,q⟩:=h
 obtain ⟨t,rfl⟩:=rx
 obtain ⟨u1,rfl,⟨t1,rfl⟩⟩:=cj rv
 exact SC.count ⟨.int _,H,I.tok _,⟨_,rfl⟩,q⟩
end
section
variable {X:Cx} {o e:Expr} {es:List Expr} {to:TE} {t:TA} {name:Str} {apos KD:Pos} {T id:String} {r:V→List V→Hp→VK→Prop} {K:PySem.W.Frag}
theorem pP (hK:X.K=K)(pa:PlainAttrs T)(slot:Slot T name id)(hty:typeOf (.builtin id)=pure (.type "method_descriptor"))(hm:MtR X id r)(ho:PE X o to)(ha:PA X (e::es) t)
  (hbase:attributeBase o name X.env (eval o X.env)=eval o X.env:=by rfl)
  (hfew:((backTo KD (starEach (e::es) X.env)).all (fun x=>!x.1) && (backToKw KD (keywordEach [] X.env)).all (fun x=>x.1.isSome)
   && decide ((e::es).length+([]:List Keyword).length+(if ([]:List Keyword).isEmpty then 0 else 1) < 30))=true:=by rfl)
  (hline:(apos.endLine == KD.line)=true:=by rfl) (hs:starEach (e::es) X.env=(false,eval e X.env)::starEach es X.env:=by rfl) (hplain:(backTo KD (starEach es X.env)).any (·.1)=false:=by rfl) :
  PE X (.Call (.Attribute o name apos) (e::es) [] KD) (tBM K T r to t):=by
 subst hK
 exact dM pa slot hty hm ho ha hbase hfew hline hs hplain
end
theorem c0 (s:Str)(c limit:Nat):∀ (n lo:Nat) (st:Array Nat × Nat),st.2≤lo→st.1.size+n≤limit→lo+n=s.length+1 →
  (forIn (List.range' lo n) st (StrLaws.occBody s ⟨#[c]⟩ s.length limit)).run.fst.size=st.1.size+(s.cps.toList.drop lo).count c
 | 0,lo,st,_,_,hl=>by
  have:s.cps.toList.drop lo=[]:=Ga (by simp [Str.length] at hl ⊢;omega)
  rw [this]
  rfl
 | n+1,lo,st,h1,h2,hl=>by
  rw [List.range'_succ,G_]
  unfold StrLaws.occBody
  have key:=StrLaws.subAt_one s c lo
  by_cases hc:s.cps.toList[lo]? = some c
  ·obtain ⟨k1,k2⟩:=key.mpr hc
   rw [if_pos ⟨⟨⟨by omega,h1⟩,k1⟩,k2⟩]
   have ih:=c0 s c limit n (lo+1) (st.1.push lo,lo+(⟨#[c]⟩:Str).length) (Ei _) (by rw [Array.size_push];omega) (by omega)
   obtain ⟨Kq,ev⟩:=Ed.mp hc
   have ed:(s.cps.toList.drop lo).count c=(s.cps.toList.drop (lo+1)).count c+1:=by rw [E4 Kq,ev,List.count_cons_self]
   rw [ed]
   refine Eq.trans ih ?_
   rw [Array.size_push]
   omega
  ·have hn:¬ ((((st.1.size < limit∧st.2≤lo)∧lo+(⟨#[c]⟩:Str).length≤s.length)∧Builtin.Str.subAt s ⟨#[c]⟩ lo=true)):=fun z=>hc (key.mp ⟨z.1.2,z.2⟩)
   rw [if_neg hn]
   have ih:=c0 s c limit n (lo+1) (st.1,st.2) (by show st.2≤lo+1;omega) (by show st.1.size+n≤limit;omega) (by omega)
   have ed:(s.cps.toList.drop lo).count c=(s.cps.toList.drop (lo+1)).count c:=by
    by_cases Kq:lo < s.cps.toList.length
    ·have ne:¬ s.cps.toList[lo]=c:=fun e=>hc (by rw [fu Kq,e])
     rw [E4 Kq,List.count_cons_of_ne ne]
    ·rw [Ga (by omega),Ga (by omega)]
   rw [ed]
   exact ih
theorem jE (w:List L)(x:L):Txt.count (toS w) (toS [x])=((w.count x:Nat):Int):=by
 unfold Txt.count
 have q:=c0 (toS w) (cp x) ((toS w).length+1) ((toS w).length+1) 0 (#[],0) (Ei _) (by simp) (by omega)
 rw [show toS [x]=(⟨#[cp x]⟩:Str) from rfl,StrLaws.occ_eq]
 rw [Ef,JI,q,IA,aZ]
 have:(w.map cp).count (cp x)=w.count x:=by
  clear q
  induction w with
  | nil=>rfl
  | cons y r ih =>
   rw [EO,HZ,HZ,ih]
   by_cases e:y=x
   ·subst e;simp
   ·have e2:¬ cp y=cp x:=fun z=>e (vk y x z)
    simp [e,e2]
 rw [this]
 simp
theorem lV:∀ {bs:List Bool} {us:List Value} {i:Nat} {v:Value},ba (bs.map V.bl) us→us[i]? = some v→∃ b,bs[i]? = some b∧v = .bool b
 | [],us,i,v,r,h=>by
  rw [Hs] at r
  cases r
  simp at h
 | b::bs,us,i,v,r,h=>by
  rw [EO] at r
  cases r with
  | cons r1 r2 =>
   cases i with
   | zero =>
    simp at h
    subst h
    exact ⟨b,rfl,r1⟩
   | succ i =>
    obtain ⟨b',e1,e2⟩:=lV (i:=i) r2 (by simpa using h)
    exact ⟨b',by simpa using e1,e2⟩
theorem lX:∀ bs:List Bool,((List.range bs.length).all fun i=>bs.getD i true)=bs.all id
 | []=>rfl
 | b::bs=>by
  rw [EF,List.range_succ_eq_map,JE,Ir,JE]
  have ih:=lX bs
  show (b && (List.range bs.length).all fun i=>(b::bs).getD (i+1) true)=_
  have e:(fun i=>(b::bs).getD (i+1) true)=fun i=>bs.getD i true:=by funext i;simp
  rw [e,ih]
  rfl
section
variable {X:Cx}
inductive Di (K:PySem.W.Frag)(xs:List V)(H:Hp)(Q:VK):Prop
 | mk:∀ (l:Addr) (bs:List Bool),(xs=[.ref l])→(SqL K H l (bs.map V.bl))→(Q (.bl (bs.all id)) H)→Di K xs H Q
theorem dG (hc:X.calm=true):bZ X (.builtin "all") (Di X.K):=by
 intro Kl s σ H xs us Q I r h
 obtain ⟨l,bs,rfl,hq,q⟩:=h
 obtain ⟨u,rfl,ru⟩:=cj r
 cases ru
 obtain ⟨its,rv,pl,_⟩:=I.list hq
 have hl:=pl.isList
 have hlen:its.length=bs.length:=by rw [← rv.length,Ej]
 have Kq:l < s.heap.objs.size:=by obtain ⟨_,e,_⟩:=hl;exact Eo e
 refine call_all_walk (Hl hl ?_)
 refine ⟨_,_,_,_,_,_,fun i=>bs.getD i true,rfl,Walks.list (A:=X.A.in1) (I.ok.hd hc) _ l (EW Kq) its.toArray,⟨⟨_,Em _ rfl,rfl,rfl⟩,hl.push _⟩,?_,fun h' tk hk=>?_⟩
 ·intro i v s' Q' E' hP hQ'
  have hP:its[i]? = some v:=by simpa using hP
  obtain ⟨b,hb,e⟩:=lV rv hP
  subst e
  have:bs.getD i true=b:=by rw [EE,hb];rfl
  have hQ':Q' (bs.getD i true) s':=hQ'
  rw [this] at hQ'
  exact Fk hQ'
 ·have old:∀ b o,s.heap.get? b=some o→h'.get? b=some o:=fun b o e=>hk b o (fun z=>by rw [Ec.mp z] at e;exact absurd (Eo e) (Fs _)) (D_ _ e)
  refine ⟨.bl _,H,I.kept old,rfl,?_⟩
  have e:((List.range its.toArray.size).all fun i=>bs.getD i true)=bs.all id:=by
   rw [EC,hlen]
   exact lX bs
  rw [e]
  exact q
inductive cF (K:PySem.W.Frag)(xs:List V)(H:Hp)(Q:VK):Prop
 | mk:∀ x t b n,(xs=[x,.ty n])→(lD K H x t)→(PySem.W.kitOne K t (.type n)=some b)→(Q (.bl b) H)→cF K xs H Q
theorem km:bZ X (.builtin "isinstance") (cF X.K):=by
 intro Kl s σ H xs us Q I r h
 obtain ⟨x,t,b,n,rfl,ty,e,q⟩:=h
 obtain ⟨u,u2,rfl,rx,r2⟩:=m_ r
 cases r2
 exact oI I rx ty e fun tk=>⟨.bl b,H,I.tok _,rfl,q⟩
def DS (K:PySem.W.Frag)(a:Addr)(to:TE):TE:=fun σ H Q=>to σ H fun y H1=>∃ (z:Str) (r:Option Value),y = .str z∧PySem.W.nsIn K a z=some r∧Q (.bl r.isSome) H1
theorem zJ {K:PySem.W.Frag}{w:World}{a:Addr}{x:Str}{o:Expr}{to:TE}{p pos:Pos}(D:DTx K w a)(hK:X.K=K)(hw:X.w=w)(hlo:(a == sysModules)=false)(hg:Gl X x)(hm:X.mg x=some (.ref a))(ho:PE X o to)
  (hd:(x == ("__debug__":Str))=false:=by decide):PE X (.Compare o [.In] [.Name x p] pos) (DS K a to):=by
 subst hK hw
 intro Kl s σ H Q I h
 refine wpAny_Compare1 (thn (ho Kl s σ H _ I h) fun v s1 ⟨y,H1,I1,ry,z,r,e1,e2,q⟩=>g_ I1 hg hm ?_ hd) rfl
 subst e1
 obtain ⟨t,rfl⟩:=ry
 obtain ⟨es,n,hl,hk⟩:=D.ob
 obtain ⟨m,F⟩:=I1.fr
 exact PySem.W.topIn_K F I1.ok.mod.kin hl hk e2 hlo ⟨.bl _,H1,I1.tok _,rfl,q⟩
inductive vp (x:V)(vs:List V)(H:Hp)(Q:VK):Prop
 | mk:∀ z y i rest,(x = .str z)→(vs=[.str y])→(Builtin.Str.occurrences z y 0 z.length 1=i::rest)→(Q (.int (i:Nat)) H)→vp x vs H Q
theorem cH:MtR X "str.index" vp:=by
 intro Kl s σ H x vs v us Q I rx rv h
 obtain ⟨z,y,i,rest,rfl,rfl,ho,q⟩:=h
 obtain ⟨t,rfl⟩:=rx
 obtain ⟨u1,rfl,⟨t1,rfl⟩⟩:=cj rv
 exact SC.index ho ⟨.int _,H,I.tok _,⟨_,rfl⟩,q⟩
def tP (z:Str):List V:=z.cps.toList.map fun c=>.str ⟨#[c]⟩
theorem nu {z:Str}{acc:Array Value}(h:ItemsOf (SignAt z) acc z.cps.size):ba (tP z) acc.toList:=by
 have all:∀ (cs:List Nat) (us:List Value),cs.length=us.length→(∀ (j:Nat) (v:Value),us[j]? = some v→∃ c u,cs[j]? = some c∧v = .str ⟨#[c]⟩ u)→ba (cs.map fun c=>V.str ⟨#[c]⟩) us:=by
  intro cs
  induction cs with
  | nil =>
   intro us hl _
   cases us with
   | nil=>exact .nil
   | cons _ _=>simp at hl
  | cons c cs ih =>
   intro us hl hh
   cases us with
   | nil=>simp at hl
   | cons u us =>
    obtain ⟨c',t,e1,e2⟩:=hh 0 u rfl
    have:c=c':=El e1
    subst this
    exact .cons ⟨t,e2⟩ (ih us (by simpa using hl) fun j v hj=>hh (j+1) v (by simpa using hj))
 refine all _ _ (by rw [Ef,Ef];exact h.1.symm) fun j v hj=>?_
 obtain ⟨c,u,e1,e2⟩:=h.2 j v (by simpa using hj)
 exact ⟨c,u,by simpa using e1,e2⟩
end
end L2
namespace PySem
open Sem (wp)
structure Ap5 (z TI TO i1 i2:Addr):Prop where
 TIz:TI≠z
 TOz:TO≠z
 i1z:i1≠z
 i2z:i2≠z
 TITO:TI≠TO
 TIi1:TI≠i1
 TIi2:TI≠i2
 TOi1:TO≠i1
 TOi2:TO≠i2
 i12:i1≠i2
abbrev je (h:Heap)(i:Addr)(x:Str)(t:Tok)(k:Nat):Prop:=h.IsStrIter i "str_ascii_iterator" x t k
section
variable {prog:Program} {w:World} {A:Around} {E:Value→Shared→Prop} {s:Shared} {z TI TO i1 i2:Addr} {x y:Str} {t u:Tok} {k c d:Nat} {a b:Value}
theorem pQ {Q:Value→Shared→Prop}(D:Ap5 z TI TO i1 i2)
  (hz:IsZip s.heap z TI TO .none) (hTI:IsPair s.heap TI (.ref i1) (.ref i2)) (hTO:IsPair s.heap TO a b) (h1:je s.heap i1 x t k) (h2:je s.heap i2 y u k) (hx:x.cps[k]? = some c) (hy:y.cps[k]? = some d)
  (hQ:∀ h' tk t1 t2,IsZip h' z TI TO (rawInt s.heap.objs.size)→IsPair h' TO (.str ⟨#[c]⟩ t1) (.str ⟨#[d]⟩ t2)→je h' i1 x t (k+1)→je h' i2 y u (k+1)→IsPair h' s.heap.objs.size (.str ⟨#[c]⟩ t1) (.str ⟨#[d]⟩ t2) →
   (∀ e o,e≠z→e≠TO→e≠i1→e≠i2→s.heap.get? e=some o→h'.get? e=some o)→Q (.ref s.heap.objs.size) { s with heap:=h',toks:=tk }) :
  wpAny (model prog w) A (Builtin.«zip.__next__» ⟨[.ref z],[]⟩) (fun fin s'=>∃ v,fin = .done (.ret v)∧Q v s') E s:=by
 show wpAny _ _ (field (.ref z) 2 >>= _) _ _ _
 refine D9 (FS hz rfl (x:=.bool false) rfl ?_)
 show wpAny _ _ (field (.ref z) 3 >>= _) _ _ _
 refine D9 (FS hz rfl (x:=.ref TI) rfl (D9 (GZ hTI rfl ?_)))
 show wpAny _ _ (Builtin.SmallTypes.ownedTupleIsFree (.ref z) >>= _) _ _ _
 refine D9 ?_
 unfold Builtin.SmallTypes.ownedTupleIsFree
 refine D9 (FS hz rfl (x:=.none) rfl (Ep ?_))
 simp only [Gb]
 refine D9 (Gh (D9 (FS hz rfl (x:=.ref TO) rfl (D9 (Gk hz (by simp) fun g1 hz1 e1=>?_)))))
 have hz1:IsZip g1 z TI TO .ellipsis:=hz1
 refine D9 ?_
 simp only [G3,List.zipIdx_nil,G_,List.forIn_nil]
 refine D9 (D9 (IP ?_))
 show wpAny _ _ (Builtin.SmallTypes.nextOf (.ref i1) >>= _) _ _ _
 refine D9 (He (h1.extBut e1.extBut D.i1z) hx fun g2 j1 e2=>Ep ?_)
 have o2:IsPair g2 TO a b:=e2.extBut _ _ D.TOi1 (e1.extBut _ _ D.TOz hTO)
 refine D9 (GZ o2 rfl (D9 (HM o2 fun g3 o3 e3=>D9 (wpAny_letGo (Ep ?_)))))
 have o3:IsPair g3 TO (.str ⟨#[c]⟩ s.toks) b:=o3
 refine D9 (D9 (IP ?_))
 show wpAny _ _ (Builtin.SmallTypes.nextOf (.ref i2) >>= _) _ _ _
 refine D9 (He (((h2.extBut e1.extBut D.i2z).extBut e2.extBut D.i12.symm).extBut e3.extBut D.TOi2.symm) hy fun g4 j2 e4=>Ep ?_)
 have o4:IsPair g4 TO (.str ⟨#[c]⟩ s.toks) b:=e4.extBut _ _ D.TOi2 o3
 refine D9 (GZ o4 rfl (D9 (HM o4 fun g5 o5 e5=>D9 (wpAny_letGo (Ep (Ep ?_))))))
 have o5:IsPair g5 TO (.str ⟨#[c]⟩ s.toks) (.str ⟨#[d]⟩ (s.toks+1)):=o5
 refine D9 (GZ o5 rfl (D9 (wpAny_newTuple ?_)))
 have hsz:g5.objs.size=s.heap.objs.size:=by rw [e5.1,e4.1,e3.1,e2.1,e1.1]
 have z5:IsZip g5 z TI TO .ellipsis:=e5.extBut _ _ D.TOz.symm (e4.extBut _ _ D.i2z.symm (e3.extBut _ _ D.TOz.symm (e2.extBut _ _ D.i1z.symm hz1)))
 have kk:∀ e o,e≠z→e≠TO→e≠i1→e≠i2→s.heap.get? e=some o→g5.get? e=some o:=fun e o n1 n2 n3 n4 q=>e5.extBut _ _ n2 (e4.extBut _ _ n4 (e3.extBut _ _ n2 (e2.extBut _ _ n3 (e1.extBut _ _ n1 q))))
 have j1':je g5 i1 x t (k+1):=((j1.extBut e3.extBut D.TOi1.symm).extBut e4.extBut D.i12).extBut e5.extBut D.TOi1.symm
 have j2':je g5 i2 y u (k+1):=j2.extBut e5.extBut D.TOi2.symm
 have zlt:z < g5.objs.size:=Eo z5
 show wpAny _ _ (Builtin.SmallTypes.ownedTupleHandOut (.ref z) (.ref g5.objs.size) >>= _) _ _ _
 refine D9 ?_
 unfold Builtin.SmallTypes.ownedTupleHandOut
 have z6:IsZip (g5.push { cls:=.type "tuple",data:=.seq #[.str ⟨#[c]⟩ s.toks,.str ⟨#[d]⟩ (s.toks+1)] }) z TI TO .ellipsis:=D_ _ z5
 refine D9 (Gk z6 (by simp) fun g7 z7 e7=>?_)
 have z7:IsZip g7 z TI TO (rawInt g5.objs.size):=z7
 refine Gk z7 (by simp) fun g8 z8 e8=>?_
 have z8:IsZip g8 z TI TO (rawInt g5.objs.size):=z8
 have up:∀ e o,e≠z→g5.get? e=some o→g8.get? e=some o:=fun e o n1 q=>e8.extBut _ _ n1 (e7.extBut _ _ n1 (D_ _ q))
 have T8:IsPair g8 g5.objs.size (.str ⟨#[c]⟩ s.toks) (.str ⟨#[d]⟩ (s.toks+1)):=e8.extBut _ _ (Hr zlt) (e7.extBut _ _ (Hr zlt) (Em _ rfl))
 rw [hsz] at z8 T8
 refine Ep ⟨_,rfl,?_⟩
 show Q (.ref g5.objs.size) _
 rw [hsz]
 exact hQ g8 _ _ _ z8 (up _ _ D.TOz o5) (let ⟨o,ho,r⟩:=j1';⟨o,up _ o D.i1z ho,r⟩) (let ⟨o,ho,r⟩:=j2';⟨o,up _ o D.i2z ho,r⟩) T8 fun e o n1 n2 n3 n4 q=>up e o n1 (kk e o n1 n2 n3 n4 q)
theorem tQ {Q:Fin→Shared→Prop}(hh:A.handled=none)(D:Ap5 z TI TO i1 i2)
  (hz:IsZip s.heap z TI TO .none) (hTI:IsPair s.heap TI (.ref i1) (.ref i2)) (hTO:IsPair s.heap TO a b) (h1:je s.heap i1 x t k) (h2:je s.heap i2 y u k) (hend:x.cps[k]? = none ∨ y.cps[k]? = none)
  (hE:∀ h' tk e,(∀ c o,c≠z→c≠TO→c≠i1→c≠i2→s.heap.get? c=some o→h'.get? c=some o)→(∃ o,h'.get? e=some o∧o.cls = .type "StopIteration")→E (.ref e) { s with heap:=h',toks:=tk }) :
  wpAny (model prog w) A (Builtin.«zip.__next__» ⟨[.ref z],[]⟩) Q E s:=by
 show wpAny _ _ (field (.ref z) 2 >>= _) _ _ _
 refine D9 (FS hz rfl (x:=.bool false) rfl ?_)
 show wpAny _ _ (field (.ref z) 3 >>= _) _ _ _
 refine D9 (FS hz rfl (x:=.ref TI) rfl (D9 (GZ hTI rfl ?_)))
 show wpAny _ _ (Builtin.SmallTypes.ownedTupleIsFree (.ref z) >>= _) _ _ _
 refine D9 ?_
 unfold Builtin.SmallTypes.ownedTupleIsFree
 refine D9 (FS hz rfl (x:=.none) rfl (Ep ?_))
 simp only [Gb]
 refine D9 (Gh (D9 (FS hz rfl (x:=.ref TO) rfl (D9 (Gk hz (by simp) fun g1 hz1 e1=>?_)))))
 have hz1:IsZip g1 z TI TO .ellipsis:=hz1
 refine D9 ?_
 simp only [G3,List.zipIdx_nil,G_,List.forIn_nil]
 refine D9 (D9 (IP ?_))
 show wpAny _ _ (Builtin.SmallTypes.nextOf (.ref i1) >>= _) _ _ _
 cases hx:x.cps[k]? with
 | none =>
  refine D9 (wpAny_nextOf_ascii_end hh (h1.extBut e1.extBut D.i1z) hx fun g2 e e2 he=>?_)
  obtain ⟨oe,hoe,hce⟩:=he
  have z2:IsZip g2 z TI TO .ellipsis:=e2 _ _ D.i1z.symm hz1
  have hez:e≠z:=fun q=>by subst q;rw [z2] at hoe;cases hoe;simp at hce
  exact Gk z2 (by simp) fun g3 _ e3=>hE g3 _ e (fun c o n1 _ n3 _ q=>e3.extBut _ _ n1 (e2 _ _ n3 (e1.extBut _ _ n1 q))) ⟨oe,e3.extBut _ _ hez hoe,hce⟩
 | some c =>
  have hy:y.cps[k]? = none:=by
   rcases hend with h | h
   ·rw [hx] at h;cases h
   ·exact h
  refine D9 (He (h1.extBut e1.extBut D.i1z) hx fun g2 j1 e2=>Ep ?_)
  have o2:IsPair g2 TO a b:=e2.extBut _ _ D.TOi1 (e1.extBut _ _ D.TOz hTO)
  refine D9 (GZ o2 rfl (D9 (HM o2 fun g3 o3 e3=>D9 (wpAny_letGo (Ep ?_)))))
  refine D9 (D9 (IP ?_))
  show wpAny _ _ (Builtin.SmallTypes.nextOf (.ref i2) >>= _) _ _ _
  refine D9 (wpAny_nextOf_ascii_end hh (((h2.extBut e1.extBut D.i2z).extBut e2.extBut D.i12.symm).extBut e3.extBut D.TOi2.symm) hy fun g4 e e4 he=>?_)
  obtain ⟨oe,hoe,hce⟩:=he
  have z4:IsZip g4 z TI TO .ellipsis:=e4 _ _ D.i2z.symm (e3.extBut _ _ D.TOz.symm (e2.extBut _ _ D.i1z.symm hz1))
  have hez:e≠z:=fun q=>by subst q;rw [z4] at hoe;cases hoe;simp at hce
  exact Gk z4 (by simp) fun g5 _ e5=>hE g5 _ e (fun c o n1 n2 n3 n4 q=>e5.extBut _ _ n1 (e4 _ _ n4 (e3.extBut _ _ n2 (e2.extBut _ _ n3 (e1.extBut _ _ n1 q))))) ⟨oe,e5.extBut _ _ hez hoe,hce⟩
theorem nv {Q:Option Value→Shared→Prop}(D:Ap5 z TI TO i1 i2)
  (hz:IsZip s.heap z TI TO .none) (hTI:IsPair s.heap TI (.ref i1) (.ref i2)) (hTO:IsPair s.heap TO a b) (h1:je s.heap i1 x t k) (h2:je s.heap i2 y u k) (hx:x.cps[k]? = some c) (hy:y.cps[k]? = some d)
  (hQ:∀ h' tk t1 t2,IsZip h' z TI TO (rawInt s.heap.objs.size)→IsPair h' TO (.str ⟨#[c]⟩ t1) (.str ⟨#[d]⟩ t2)→je h' i1 x t (k+1)→je h' i2 y u (k+1)→IsPair h' s.heap.objs.size (.str ⟨#[c]⟩ t1) (.str ⟨#[d]⟩ t2) →
   (∀ e o,e≠z→e≠TO→e≠i1→e≠i2→s.heap.get? e=some o→h'.get? e=some o)→Q (some (.ref s.heap.objs.size)) { s with heap:=h',toks:=tk }) :
  wpAny (model prog w) A (pyNext (.ref z)) Q E s:=by
 have hT:s.TypeIs (.ref z) "zip":=⟨_,hz,rfl⟩
 unfold pyNext
 exact D9 (Hc (GB (name:=Str.ofString "__next__") hT H_ (FR H_ hT F.entry_zip_next
  (pQ D hz hTI hTO h1 h2 hx hy fun h' tk t1 t2 b1 b2 b3 b4 b5 b6=>Ep (hQ h' tk t1 t2 b1 b2 b3 b4 b5 b6)) (F.args_zip_next_1 _))))
theorem pR {Q:Option Value→Shared→Prop}(hh:A.handled=none)(D:Ap5 z TI TO i1 i2)
  (hz:IsZip s.heap z TI TO .none) (hTI:IsPair s.heap TI (.ref i1) (.ref i2)) (hTO:IsPair s.heap TO a b) (h1:je s.heap i1 x t k) (h2:je s.heap i2 y u k) (hend:x.cps[k]? = none ∨ y.cps[k]? = none)
  (hQ:∀ h' tk,(∀ c o,c≠z→c≠TO→c≠i1→c≠i2→s.heap.get? c=some o→h'.get? c=some o)→Q none { s with heap:=h',toks:=tk }):wpAny (model prog w) A (pyNext (.ref z)) Q E s:=by
 have hT:s.TypeIs (.ref z) "zip":=⟨_,hz,rfl⟩
 unfold pyNext
 refine D9 (Hc (GB (name:=Str.ofString "__next__") hT H_ (FR H_ hT F.entry_zip_next
  (tQ hh D hz hTI hTO h1 h2 hend fun h' tk e hk he=>?_) (F.args_zip_next_1 _))))
 obtain ⟨o,ho,hc⟩:=he
 refine D9 (wpAny_isInstance (T:="StopIteration") (b:=true) ⟨o,ho,hc⟩ isSubtype_stop ?_)
 exact Ep (hQ _ _ hk)
end
abbrev zs1 (h:Heap)(x:Str)(t:Tok):Heap:=h.push { cls:=.type "str_ascii_iterator",data:=.fields #[.str x t,.int 0 0] }
abbrev zs2 (h:Heap)(x y:Str)(t u:Tok):Heap:=(zs1 h x t).push { cls:=.type "str_ascii_iterator",data:=.fields #[.str y u,.int 0 0] }
abbrev zs3 (h:Heap)(x y:Str)(t u:Tok):Heap:=(zs2 h x y t u).push { cls:=.type "tuple",data:=.seq #[.ref h.objs.size,.ref (zs1 h x t).objs.size] }
abbrev zs4 (h:Heap)(x y:Str)(t u:Tok):Heap:=(zs3 h x y t u).push { cls:=.type "tuple",data:=.seq #[.none,.none] }
abbrev zs5 (h:Heap)(x y:Str)(t u:Tok):Heap:=(zs4 h x y t u).push { cls:=.type "zip",data:=.fields #[.none,.bool false,.bool false,.ref (zs2 h x y t u).objs.size,.ref (zs3 h x y t u).objs.size] }
set_option maxHeartbeats 2000000 in
theorem ny (x y:Str)(t u:Tok)(hx:x.cps.all (· < 128)=true)(hy:y.cps.all (· < 128)=true) :
  Meets (Builtin.«zip.__new__» ⟨[.type "zip",.str x t,.str y u],[]⟩) (fun _ R s=>R (.ok (.ret (.ref (zs4 s.heap x y t u).objs.size))) { s with heap:=zs5 s.heap x y t u }) :=
 .of_wp fun prog w A R s h=>by
  obtain ⟨hp,g,d,tk,os⟩:=s
  have hsub:=sub_zip
  wp_walk using Hb hx,Hb hy
  exact ⟨_,rfl,h⟩
end PySem
namespace PySem
theorem pS {prog:Program}{w:World}{A:Around}{E:Value→Shared→Prop}{s:Shared}{x y:Str}{t u:Tok}{Q:Value→Shared→Prop}(hx:x.cps.all (· < 128)=true)(hy:y.cps.all (· < 128)=true)
  (h:∀ h',IsZip h' (s.heap.objs.size+4) (s.heap.objs.size+2) (s.heap.objs.size+3) .none→IsPair h' (s.heap.objs.size+2) (.ref s.heap.objs.size) (.ref (s.heap.objs.size+1))→IsPair h' (s.heap.objs.size+3) .none .none →
   je h' s.heap.objs.size x t 0→je h' (s.heap.objs.size+1) y u 0→(∀ c o,s.heap.get? c=some o→h'.get? c=some o)→Q (.ref (s.heap.objs.size+4)) { s with heap:=h' }) :
  wpAny (model prog w) A (call (.type "zip") [.str x t,.str y u]) Q E s:=by
 refine callType_new F.called_zip (by decide) (F.typeCall_zip_2 _ _) (F.newCall_zip_2 _ _) (fun obj=>F.args_object_init_3 obj _ _) F.entry_zip_new (ny x y t u hx hy) ?_
 have n1:(zs1 s.heap x t).objs.size=s.heap.objs.size+1:=FI ..
 have n2:(zs2 s.heap x y t u).objs.size=s.heap.objs.size+2:=by rw [FI,n1]
 have n3:(zs3 s.heap x y t u).objs.size=s.heap.objs.size+3:=by rw [FI,n2]
 have n4:(zs4 s.heap x y t u).objs.size=s.heap.objs.size+4:=by rw [FI,n3]
 have g5:(zs5 s.heap x y t u).get? (zs4 s.heap x y t u).objs.size=some _:=Em _ rfl
 have g4:(zs5 s.heap x y t u).get? (zs3 s.heap x y t u).objs.size=some _:=D_ _ (Em _ rfl)
 have g3:(zs5 s.heap x y t u).get? (zs2 s.heap x y t u).objs.size=some _:=D_ _ (D_ _ (Em _ rfl))
 have g2:(zs5 s.heap x y t u).get? (zs1 s.heap x t).objs.size=some _:=D_ _ (D_ _ (D_ _ (Em _ rfl)))
 have g1:(zs5 s.heap x y t u).get? s.heap.objs.size=some _:=D_ _ (D_ _ (D_ _ (D_ _ (Em _ rfl))))
 show _∧_
 rw [n2,n3,n4] at g5
 rw [n1,n2] at g3
 rw [n3] at g4
 rw [n1] at g2
 rw [n4]
 exact ⟨⟨_,g5,rfl⟩,h _ g5 g3 g4 ⟨_,g1,rfl,rfl⟩ ⟨_,g2,rfl,rfl⟩ fun c o q=>D_ _ (D_ _ (D_ _ (D_ _ (D_ _ q))))⟩
end PySem
namespace L2
open PySem PySem.Spec PyProof.Rows
def Itz (x y:Str):It:=⟨fun i _=>i < min x.cps.size y.cps.size,
 fun i H v H'=>∃ (T:Addr) (c d:Nat),H T=none∧v = .ref T∧x.cps[i]? = some c∧y.cps[i]? = some d∧H'=upd H T (.tup [.str ⟨#[c]⟩,.str ⟨#[d]⟩]),
 fun i _=>i=min x.cps.size y.cps.size⟩
theorem Inv.stepT {X:Cx}{Kl:List (Addr × Obj)}{σ:St}{H:Hp}{s:Shared}{h':Heap}{t':Nat}{ch:List Addr}{T:Addr}{xs:List V}{its:List Value}(I:Inv X Kl σ H s)(hf:∀ b∈ch,n_ X Kl H b)
  (k:∀ b o,b∉ch→s.heap.get? b=some o→h'.get? b=some o) (hT:s.heap.objs.size≤T) (hz:xs.length≤sizeLine) (rv:ba xs its) (ht:IsTup h' T its.toArray) (hnd:NoD h' T) (there:∀ b∈ch,∃ o,s.heap.get? b=some o):Inv X Kl σ (upd H T (.tup xs)) { s with heap:=h',toks:=t' }:=by
 have hn:H T=none:=I.hok.fresh hT
 have ne:∀ {b o},s.heap.get? b=some o→b≠T:=fun e=>EW (EL (Eo e) hT)
 have nch:∀ {b u},H b=some u→b∉ch:=fun e z=>by rw [(hf _ z).1] at e;cases e
 refine I.step (g':=s.gens) (d':=s.drawn) (ch:=ch) (fun b hb=>?_) (fun b o _ _ hc e _=>k b o hc e) (fun b o _ _ hc e _=>⟨o.slots,k b o hc e⟩) (fun b o _ e n=>by rw [aH (ne e)];exact n) (fun b o hc e=>⟨o,k b o hc e⟩)
  (fun b ys e=>by rw [aH (ax e hn)];exact e) (fun b o u e=>by rw [aH (ax e hn)];exact e) (fun b ps e=>⟨#[],by rw [aH (ax e hn),e];simp⟩) (fun m hm=>?_) (fun b u e=>?_) I.bare
 ·obtain ⟨_,f1,_,f3,f4,f5⟩:=hf b hb
  exact ⟨f3,f1,f4,f5⟩
 ·obtain ⟨o,es,ep,ho,r⟩:=hm
  exact ⟨o,es,ep,k _ o (fun z=>(hf _ z).2.1 rfl) ho,r⟩
 ·by_cases hb:b=T
  ·subst hb
   rw [ah] at e
   cases e
   exact ⟨hz,its,rv,ht,hnd⟩
  ·rw [aH hb] at e
   refine (I.hok b u e).stay (fun c v hc q=>k c v ?_ q) (fun c q=>by rw [aH (ax q hn)];exact q) fun c ys q=>by rw [aH (ax q hn)];exact q
   rcases hc with z | z
   ·rw [z];exact nch e
   ·exact nch z
theorem tR {P:Program}{w:World}{K:PySem.W.Frag}{elts:List Expr}{k:Nat}{pos:Pos}{z TI TO i1 i2:Addr}(x y:Str)(t u:Tok)(D:Ap5 z TI TO i1 i2) :
  yM P w K (.Tuple elts k pos) (Itz x y) [z,TI,TO,i1,i2] z (fun i h=>IsZip h z TI TO .none∧IsPair h TI (.ref i1) (.ref i2)∧(∃ a b,IsPair h TO a b)∧je h i1 x t i∧je h i2 y u i) where
 mem:=by simp
 obj:=fun i h st b hb=>by
  obtain ⟨s1,s2,⟨a,c,s3⟩,⟨o1,s4,_,d4⟩,⟨o2,s5,_,d5⟩⟩:=st
  simp only [Et,EN,FM] at hb
  rcases hb with rfl | rfl | rfl | rfl | rfl
  ·exact ⟨_,s1,fun v q=>by cases q⟩
  ·exact ⟨_,s2,fun v q=>by cases q⟩
  ·exact ⟨_,s3,fun v q=>by cases q⟩
  ·exact ⟨_,s4,fun v q=>by rw [d4] at q;cases q⟩
  ·exact ⟨_,s5,fun v q=>by rw [d5] at q;cases q⟩
 keep:=fun i h h' st kk=>by
  obtain ⟨s1,s2,⟨a,c,s3⟩,⟨o1,s4,r4⟩,⟨o2,s5,r5⟩⟩:=st
  exact ⟨kk z (by simp) _ s1,kk TI (by simp) _ s2,⟨a,c,kk TO (by simp) _ s3⟩,⟨o1,kk i1 (by simp) _ s4,r4⟩,⟨o2,kk i2 (by simp) _ s5,r5⟩⟩
 item:=by
  intro X hP hw hK hc i Kl s σ H E I hf st hg
  subst hP hw hK
  have hg:i < min x.cps.size y.cps.size:=hg
  obtain ⟨s1,s2,⟨a,c,s3⟩,s4,s5⟩:=st
  have hx:x.cps[i]? = some (x.cps[i]'(by omega)):=GY (by omega)
  have hy:y.cps[i]? = some (y.cps[i]'(by omega)):=GY (by omega)
  generalize x.cps[i]'(by omega)=c1 at hx
  generalize y.cps[i]'(by omega)=c2 at hy
  refine nv D s1 s2 s3 s4 s5 hx hy fun h' tk t1 t2 b1 b2 b3 b4 b5 b6=>⟨_,rfl,?_⟩
  refine wpAny_letOwnedTupleGo_zip b1 fun h2 c1' e2=>?_
  have kk:∀ b o,b∉[z,TI,TO,i1,i2]→s.heap.get? b=some o→h2.get? b=some o:=fun b o hb e=>by
   simp only [Et,EN,FM,not_or] at hb
   exact e2.extBut _ _ hb.1 (b6 b o hb.1 hb.2.2.1 hb.2.2.2.1 hb.2.2.2.2 e)
  have hTz:s.heap.objs.size≠z:=Hr (Eo s1)
  have I2:Inv X Kl σ (upd H s.heap.objs.size (.tup [.str ⟨#[c1]⟩,.str ⟨#[c2]⟩])) { s with heap:=h2,toks:=tk } :=
   I.stepT (ch:=[z,TI,TO,i1,i2]) (its:=[.str ⟨#[c1]⟩ t1,.str ⟨#[c2]⟩ t2]) hf kk (Ei _) (by show 2≤sizeLine;decide) (.cons ⟨_,rfl⟩ (.cons ⟨_,rfl⟩ .nil)) ⟨_,e2.extBut _ _ hTz b5,rfl,_,rfl⟩ ⟨_,e2.extBut _ _ hTz b5,rfl⟩ (fun b hb=>by
    obtain ⟨o1,q4,_⟩:=s4
    obtain ⟨o2,q5,_⟩:=s5
    simp only [Et,EN,FM] at hb
    rcases hb with rfl | rfl | rfl | rfl | rfl
    ·exact ⟨_,s1⟩
    ·exact ⟨_,s2⟩
    ·exact ⟨_,s3⟩
    ·exact ⟨_,q4⟩
    ·exact ⟨_,q5⟩)
  have hnT:H s.heap.objs.size=none:=I.hok.fresh (Ei _)
  have sTI:IsPair h2 TI (.ref i1) (.ref i2):=e2.extBut _ _ D.TIz (b6 _ _ D.TIz D.TITO D.TIi1 D.TIi2 s2)
  refine ⟨.ref s.heap.objs.size,_,I2,rfl,⟨s.heap.objs.size,c1,c2,hnT,rfl,hx,hy,rfl⟩,⟨c1',sTI,⟨_,_,e2.extBut _ _ D.TOz b2⟩,b3.extBut e2.extBut D.i1z,b4.extBut e2.extBut D.i2z⟩,fun b hb=>?_⟩
  have Kq:∃ o,s.heap.get? b=some o:=by
   obtain ⟨o1,q4,_⟩:=s4
   obtain ⟨o2,q5,_⟩:=s5
   simp only [Et,EN,FM] at hb
   rcases hb with rfl | rfl | rfl | rfl | rfl
   ·exact ⟨_,s1⟩
   ·exact ⟨_,s2⟩
   ·exact ⟨_,s3⟩
   ·exact ⟨_,q4⟩
   ·exact ⟨_,q5⟩
  obtain ⟨o,q⟩:=Kq
  rw [aH (EW (Eo q))]
  exact (hf b hb).1
 done:=by
  intro X hP hw hK hc i Kl s σ H E I hf st hg
  subst hP hw hK
  have hg:i=min x.cps.size y.cps.size:=hg
  obtain ⟨s1,s2,⟨a,c,s3⟩,s4,s5⟩:=st
  refine pR (I.ok.hd hc) D s1 s2 s3 s4 s5 ?_ fun h' tk kk=>⟨rfl,?_⟩
  ·by_cases hle:x.cps.size≤y.cps.size
   ·exact .inl (Jd (by omega))
   ·exact .inr (Jd (by omega))
  ·have nch:∀ {b u},H b=some u→b∉[z,TI,TO,i1,i2]:=fun e q=>by rw [(hf _ q).1] at e;cases e
   have k2:∀ b o,b∉[z,TI,TO,i1,i2]→s.heap.get? b=some o→h'.get? b=some o:=fun b o hb e=>by
    simp only [Et,EN,FM,not_or] at hb
    exact kk b o hb.1 hb.2.2.1 hb.2.2.2.1 hb.2.2.2.2 e
   refine I.step (g':=s.gens) (d':=s.drawn) (ch:=[z,TI,TO,i1,i2]) (fun b hb=>?_) (fun b o _ _ hc e _=>k2 b o hc e) (fun b o _ _ hc e _=>⟨o.slots,k2 b o hc e⟩) (fun _ _ _ _ n=>n) (fun b o hc e=>⟨o,k2 b o hc e⟩)
    (fun _ _ e=>e) (fun _ _ _ e=>e) (fun b ps e=>⟨#[],by rw [e];simp⟩) (fun m hm=>?_) (fun b u e=>?_) I.bare
   ·obtain ⟨_,f1,_,f3,f4,f5⟩:=hf b hb
    exact ⟨f3,f1,f4,f5⟩
   ·obtain ⟨o,es,ep,ho,r⟩:=hm
    exact ⟨o,es,ep,k2 _ o (fun q=>(hf _ q).2.1 rfl) ho,r⟩
   ·refine (I.hok b u e).stay (fun c v hc q=>k2 c v ?_ q) (fun _ q=>q) fun _ _ q=>q
    rcases hc with q | q
    ·rw [q];exact nch e
    ·exact nch q
 self:=fun _ _ _ _ _ st h=>wpAny_pyIter_zip st.1 h
section
variable {X:Cx}
theorem zK (n:Nat):Ap5 (n+4) (n+2) (n+3) n (n+1):=by
 constructor <;> (intro h;have h:(_:Nat)=_:=h;omega)
def DT (ta:TA):TI:=fun σ H R=>ta σ H fun vs H1=>∃ x y,vs=[.str x,.str y]∧x.cps.all (· < 128)=true∧y.cps.all (· < 128)=true∧R (Itz x y) H1
theorem zL {a b:Expr}{ta:TA}{p pos tp:Pos}{elts:List Expr}{k:Nat}(hg:Gl X "zip")(hm:X.mg "zip" = none)(hb:bootBuiltins "zip" = some (.type "zip"))(ha:PA X [a,b] ta)(hs:starEach [a,b] X.env=(false,eval a X.env)::starEach [b] X.env:=by rfl)(hs2:(backTo pos (starEach [b] X.env)).any (·.1)=false:=by rfl) :
  PI X (.Tuple elts k tp) (.Call (.Name "zip" p) [a,b] [] pos) (DT ta):=by
 intro Kl s σ H R I h
 refine Call_ (fo I hg hm hb (FK (thn (ha pos Kl s σ H _ I h) fun us s1 zq1=>?_) hs hs2))
 obtain ⟨vs,H1,I1,r1,q1⟩:=zq1
 obtain ⟨x,y,rfl,hx,hy,q⟩:=q1
 obtain ⟨u1,u2,rfl,⟨t,rfl⟩,⟨u,rfl⟩⟩:=m_ r1
 refine pS hx hy fun h' b1 b2 b3 b4 b5 b6=>?_
 have I2:Inv X Kl σ H1 { s1 with heap:=h',toks:=s1.toks }:=I1.kept b6
 refine wpAny_pyIter_zip (s:={ s1 with heap:=h',toks:=s1.toks }) b1 ?_
 refine ⟨s1.heap.objs.size+4,[s1.heap.objs.size+4,s1.heap.objs.size+2,s1.heap.objs.size+3,s1.heap.objs.size,s1.heap.objs.size+1],_,Itz x y,H1,rfl,I2,
  tR x y t u (zK s1.heap.objs.size),⟨b1,b2,⟨_,_,b3⟩,b4,b5⟩,fun b hb=>?_,q⟩
 have hge:s1.heap.objs.size≤b:=by
  simp only [Et,EN,FM] at hb
  rcases hb with rfl | rfl | rfl | rfl | rfl <;> omega
 exact I1.fpOk hge (I1.hok.fresh hge)
theorem wV {K:PySem.W.Frag}{es:List Expr}{k:Nat}{t:TGs}{n:Nat}{pos:Pos}(hK:X.K=K)(hc:X.calm=true)(h:PGs X es t)
  (hn:(assignEach es X.env).length=n:=by rfl) (hst:(assignEach es X.env).findIdx? (·.1)=none:=by rfl):PG X (.Tuple es k pos) (C2 K n t):=by
 subst hK
 exact y6 hc h hn hst
end
end L2
namespace L2
open PySem PySem.Spec PyProof.Rows Wd
def pT:Expr→Bool
 | .Starred _ _=>false
 | _=>true
theorem wW {e:Expr}(h:pT e=true)(es:List Expr)(env:Env):starEach (e::es) env=(false,eval e env)::starEach es env:=by
 cases e <;> first | rfl | cases h
theorem sH {X:Cx}{e:Expr}{es:List Expr}{te:TE}{t:TA}(ha:PE X e te)(hr:PA X es t)(h:pT e=true:=by rfl):PA X (e::es) (zf te t):=aa ha hr (wW h _ _)
theorem lY {X:Cx}{K:PySem.W.Frag}(hK:X.K=K):bZ X (.builtin "isinstance") (cF K):=by
 subst hK
 exact km
def ltr (c:Nat):Option L:=([0,1,2,3,4,5,6,7,8,9,10,11]:List L).find? fun x=>cp x == c
theorem lZ:∀ x:L,ltr (cp x)=some x:=by decide
theorem fi {c:Nat}{x:L}(h:ltr c=some x):cp x=c:=by
 have:=List.find?_some h
 simpa using this
def tT (z:Str):Bool:=match z.cps.toList with
 | [c]=>(ltr c).isSome
 | _=>false
def okC (m:Int)(c:Nat):Bool:=match ltr c with
 | some x=>decide (((x.val % 6:Nat):Int) < m)
 | none=>false
def isW (m:Int)(z:Str):Bool:=z.cps.toList.all (okC m)
def Dj:V→Bool
 | .str z=>tT z
 | _=>false
def wdV (m:Int):V→Bool
 | .str z=>isW m z
 | _=>false
inductive Th (K:PySem.W.Frag)(H:Hp):V→Prop
 | str (z:Str) (h:z.length≤500):Th K H (.str z)
 | oth {x:V} {n:String} (ty:lD K H x (.type n)) (e:PySem.W.kitOne K (.type n) (.type "str")=some false) (ns:∀ z,x ≠ .str z):Th K H x
theorem tU {x:V}(ns:∀ z,x ≠ .str z):Dj x=false:=by
 cases x with
 | str z=>exact absurd rfl (ns z)
 | _=>rfl
theorem pU {m:Int}{x:V}(ns:∀ z,x ≠ .str z):wdV m x=false:=by
 cases x with
 | str z=>exact absurd rfl (ns z)
 | _=>rfl
theorem pV {K:PySem.W.Frag}:PySem.W.kitOne K (.type "str") (.type "str")=some true:=by unfold PySem.W.kitOne; rw [if_pos (by rfl)]
structure Bk (K:PySem.W.Frag) (a:Addr):Prop where
 lo:(a == sysModules)=false
 all:∀ z:Str,∃ r,PySem.W.nsIn K a z=some r∧r.isSome=tT z
def Bs (e:DictEntry):Str:=match e.key with
 | .str x _=>x
 | _=>""
def iD:List Str:=([0,1,2,3,4,5,6,7,8,9,10,11]:List L).map fun x=>toS [x]
theorem Ca:∀ x:L,x∈([0,1,2,3,4,5,6,7,8,9,10,11]:List L):=by decide
theorem tV (z:Str):tT z=iD.any (fun y=>y == z):=by
 have key:∀ c:Nat,(ltr c).isSome=iD.any (fun y=>y == (⟨#[c]⟩:Str)):=by
  intro c
  rw [EA]
  constructor
  ·intro h
   obtain ⟨x,hx⟩:=Gu.mp h
   have e:=fi hx
   rw [GG]
   refine ⟨toS [x],EU.mpr ⟨x,Ca x,rfl⟩,?_⟩
   rw [← e]
   exact GL.mpr rfl
  ·intro h
   obtain ⟨y,hy,e⟩:=GG.mp h
   obtain ⟨x,_,rfl⟩:=EU.mp hy
   have e:=GL.mp e
   have e2:[cp x]=[c]:=Ey (fun s:Str=>s.cps.toList) e
   have e3:cp x=c:=by simpa using e2
   rw [← e3,lZ]
   rfl
 obtain ⟨⟨l⟩⟩:=z
 match l with
 | [c]=>exact key c
 | [] =>
  symm
  show _=false
  rw [GQ]
  intro y hy e
  obtain ⟨x,_,rfl⟩:=EU.mp hy
  have e:=Ey (fun s:Str=>s.cps.toList.length) (GL.mp e)
  cases e
 | a::b::r =>
  symm
  show _=false
  rw [GQ]
  intro y hy e
  obtain ⟨x,_,rfl⟩:=EU.mp hy
  have e:=Ey (fun s:Str=>s.cps.toList.length) (GL.mp e)
  cases e
theorem Cb {K:PySem.W.Frag}{w:World}{a:Addr}{es:Array DictEntry}{n:Nat}(lo:(a == sysModules)=false)(hl:K.lookup a=some ⟨.type "dict",none,.dict es n,#[]⟩)(hk:PySem.W.KeysLit w.params es.toList)(hn:es.toList.map Bs=iD):Bk K a:=by
 refine ⟨lo,fun z=>?_⟩
 have hs:∀ e∈es.toList,e.key.isStr z=(Bs e == z)∧e.refKey=false:=by
  intro e he
  obtain ⟨x,t,e1,_⟩:=hk.all e he
  unfold Bs DictEntry.refKey
  rw [e1]
  exact ⟨rfl,rfl⟩
 have ha:es.toList.any (fun e=>e.key.isStr z)=tT z:=by
  rw [tV,← hn,List.any_map]
  rw [EA,GG,GG]
  constructor
  ·rintro ⟨e,he,q⟩
   exact ⟨e,he,by rw [(hs e he).1] at q;exact q⟩
  ·rintro ⟨e,he,q⟩
   exact ⟨e,he,by rw [(hs e he).1];exact q⟩
 have hr:es.toList.any (fun e=>e.refKey)=false:=by
  rw [GQ]
  intro e he
  rw [(hs e he).2]
  decide
 unfold PySem.W.nsIn
 rw [hl]
 dsimp only
 cases hf:es.toList.find? (fun e=>e.key.isStr z) with
 | some e =>
  refine ⟨some e.val,rfl,?_⟩
  rw [← ha]
  symm
  exact GG.mpr ⟨e,List.mem_of_find?_eq_some hf,by have:=List.find?_some hf;exact this⟩
 | none =>
  refine ⟨none,?_,?_⟩
  ·dsimp only
   rw [hr]
   rfl
  ·rw [← ha]
   symm
   show _=false
   rw [GQ]
   intro e he q
   exact List.find?_eq_none.mp hf e he q
end L2
namespace Kx
open PySem PySem.Spec PyProof.Rows L2 Wd
inductive iE (K:PySem.W.Frag)(vs:List V)(H:Hp)(Q:VK)(Kv:XK):Prop
 | mk:∀ x,(vs=[x])→(Th K H x)→(Q (.bl (Dj x)) H)→iE K vs H Q Kv
inductive wX (vs:List V)(H:Hp)(Q:VK)(Kv:XK):Prop
 | mk:∀ (x:L),(vs=[tx [x]])→(Q (.int ((x.val % 6:Nat):Int)) H)→wX vs H Q Kv
inductive wY (K:PySem.W.Frag)(vs:List V)(H:Hp)(Q:VK)(Kv:XK):Prop
 | mk:∀ (m:Int) (x:V),(vs=[.int m,x])→(1≤m)→(m≤6)→(Th K H x)→(∀ H',aE H H'→Q (.bl (wdV m x)) H')→wY K vs H Q Kv
inductive ko (vs:List V)(H:Hp)(Q:VK)(Kv:XK):Prop
 | mk:∀ u,(vs=[tx u])→(u.length≤500)→(∀ H',aE H H'→Q (.bl (decide (red u=u))) H')→ko vs H Q Kv
theorem asc (u:List L):(toS u).cps.all (· < 128)=true:=by
 rw [← Array.all_toList,aZ,Fv]
 intro c hc
 obtain ⟨x,_,rfl⟩:=EU.mp hc
 exact Ee (tK x)
theorem zM:∀ {st:List L},Rd st→∀ i x y,st[i]? = some x→st[i+1]? = some y→y≠inv x
 | [],_,i,x,y,h,_=>by simp at h
 | [a],_,i,x,y,_,h=>by simp at h
 | a::b::r,h,i,x,y,h1,h2=>by
  cases i with
  | zero =>
   simp at h1 h2
   subst h1 h2
   exact fun e=>h.1 (by first | exact e | rw [e,aq] | exact e.symm)
  | succ i=>exact zM h.tail i x y (by simpa using h1) (by simpa using h2)
def sI (u:List L):Bool:=decide (red u=u) && (decide (u=[]) || !decide (u.getLast? = u.head?.map inv))
theorem wZ:sI []=true:=by decide
theorem tX {u:List L}(KG:u≠[]):∃ x z,u[0]? = some x∧u[u.length - 1]? = some z∧atI (toS u).cps.toList (-1)=some (cp z)∧sI u=(decide (red u=u) && !decide (z=inv x)):=by
 have e:u=u.dropLast++[u.getLast KG]:=(HP KG).symm
 refine ⟨u.head KG,u.getLast KG,?_,?_,?_,?_⟩
 ·cases u with
  | nil=>exact absurd rfl KG
  | cons a r=>rfl
 ·rw [List.getLast_eq_getElem,fu]
 ·generalize u.getLast KG=z at e
  rw [e,aZ,E_]
  exact tj _ _
 ·unfold sI
  rw [List.getLast?_eq_some_getLast KG,List.head?_eq_some_head KG,Ea KG]
  simp
def chk (u:List L):List Bool:=List.zipWith (fun x y=>!decide (tx [inv x]=tx [y])) u (u.drop 1)
theorem pX {u:List L}{i:Nat}{x y:L}(h1:u[i]? = some x)(h2:(u.drop 1)[i]? = some y):(chk u)[i]? = some (!decide (tx [inv x]=tx [y])):=by
 unfold chk
 rw [List.getElem?_zipWith,h1,h2]
theorem gQ (u:List L):(chk u).length=u.length - 1:=by unfold chk; rw [List.length_zipWith,Fb]; omega
theorem vq {x y:L}:tx [x]=tx [y] ↔ x=y:=⟨fun e=>by have:=gK e; simpa using this,fun e=>by rw [e]⟩
theorem w4 (u:List L):(chk u).all id=decide (red u=u):=by
 rw [EA,Eh,Fv]
 constructor
 ·intro h
  refine fJ (k:=u.length) (Ei _) fun i x y hi h1 h2 e=>?_
  have q:=pX h1 (show (u.drop 1)[i]? = some y by rw [E8,Ht];exact h2)
  have q2:=h _ (EY q)
  rw [e] at q2
  simp at q2
 ·intro h b hb
  obtain ⟨i,hi⟩:=List.mem_iff_getElem?.mp hb
  have Kq:i < u.length - 1:=by rw [← gQ];exact (Ed.mp hi).1
  have h1:u[i]? = some (u[i]'(by omega)):=fu (by omega)
  have h2:u[i+1]? = some (u[i+1]'(by omega)):=fu (by omega)
  generalize u[i]'(by omega)=x at h1
  generalize u[i+1]'(by omega)=y at h2
  have q:=pX h1 (show (u.drop 1)[i]? = some y by rw [E8,Ht];exact h2)
  rw [q] at hi
  have hi:=El hi
  rw [← hi]
  have ha:act u []=u.reverse:=by
   have:=Ey List.reverse h
   unfold red at this
   rwa [FV] at this
  have hr:Rd u.reverse:=by rw [← ha];exact lQ u trivial
  have n:=zM hr (u.length - 1 - (i+1)) y x (by rw [Hw (by omega),show u.length - 1 - (u.length - 1 - (i+1))=i+1 by omega];exact h2)
   (by rw [Hw (by omega),show u.length - 1 - (u.length - 1 - (i+1)+1)=i by omega];exact h1)
  have:¬ (tx [inv x]=tx [y]):=fun e=>n (by rw [← vq.mp e,aq])
  rw [Ea this]
  rfl
inductive fN (vs:List V)(H:Hp)(Q:VK)(Kv:XK):Prop
 | mk:∀ u,(vs=[tx u])→(u.length≤500)→(∀ H',aE H H'→Q (.bl (sI u)) H')→fN vs H Q Kv
theorem zN:∀ x:L,Builtin.Str.occurrences ("abcdef":Str) (Txt.lower (toS [x])) 0 ("abcdef":Str).length 1=[x.val % 6]:=by
 have q:∀ x:L,Builtin.Str.occurrences ("abcdef":Str) (⟨(([x].map cp).map lo1).toArray⟩:Str) 0 ("abcdef":Str).length 1=[x.val % 6]:=by decide +kernel
 intro x
 rw [jw]
 exact q x
theorem zO (m:Int)(x:L):okC m (cp x)=decide (((x.val % 6:Nat):Int) < m):=by unfold okC; rw [lZ]
theorem pY {c:Nat}(h:(ltr c).isSome=true):∃ x:L,(⟨#[c]⟩:Str)=toS [x]∧c=cp x:=by
 obtain ⟨x,hx⟩:=Gu.mp h
 exact ⟨x,by rw [← fi hx];rfl,(fi hx).symm⟩
theorem zP {m:Int}{c:Nat}(h:(ltr c).isSome=false):okC m c=false:=by
 unfold okC
 cases e:ltr c with
 | none=>rfl
 | some x=>rw [e] at h;cases h
theorem DU (c:Nat):okC 6 c=(ltr c).isSome:=by
 unfold okC
 cases ltr c with
 | none=>rfl
 | some x=>exact Ee (by have:=IH x.val (show 0 < 6 by decide);omega)
theorem tY {K:PySem.W.Frag}{H:Hp}{m:Int}{x:V}(h:Th K H x)(e:wdV m x=true):∃ z,x = .str z∧z.length≤500:=by
 cases h with
 | str z hz=>exact ⟨z,rfl,hz⟩
 | oth ty q ns=>rw [pU ns] at e;cases e
end Kx
namespace L2
open PySem PySem.Spec PyProof.Rows Wd
section
variable {X:Cx}
inductive vt (x:V)(y:V)(H:Hp)(Q:VK):Prop
 | mk:∀ a b xs,(x = .ref a)→(y = .ref b)→(H a=some (.lst xs))→(H b=some (.lst []))→(Q (.bl (!xs.isEmpty)) H)→vt x y H Q
theorem d3 (hu:X.A.units+64 < cLine):OpR X (compareOp .NotEq) vt:=by
 intro Kl s σ H x y v u Q I rx ry h
 obtain ⟨a,b,xs,rfl,rfl,ha,hb,q⟩:=h
 cases rx
 cases ry
 obtain ⟨its,n,rv,ea,_⟩:=I.lst ha
 obtain ⟨KP,n2,rv2,eb,_⟩:=I.lst hb
 cases rv2
 have hla:s.heap.IsList a its.toArray:=⟨_,ea,rfl,_,rfl⟩
 have hlb:s.heap.IsList b ([]:List Value).toArray:=⟨_,eb,rfl,_,rfl⟩
 cases xs with
 | nil =>
  cases rv
  refine II (SeqAt.RcNeAt.lists (e:=fun _=>true) hla hlb rfl (by omega) (fun j hj=>by simp at hj)) ?_
  exact ⟨.bl false,H,I,rfl,q⟩
 | cons z r =>
  cases rv with
  | cons r1 r2 =>
   refine II (SeqAt.RcNeAt.lists_lengths hla hlb (by simp) (by omega)) ?_
   exact ⟨.bl true,H,I,rfl,q⟩
end
end L2
namespace Kx
open PySem PySem.Spec PyProof.Rows L2 Wd
def ofS (z:Str):Option (List L):=z.cps.toList.mapM ltr
theorem l7:∀ {l:List Nat} {u:List L},l.mapM ltr=some u→l=u.map cp
 | [],u,h=>by simp at h;subst h;rfl
 | c::r,u,h=>by
  rw [IB] at h
  cases hc:ltr c with
  | none=>rw [hc] at h;cases h
  | some x =>
   cases hr:r.mapM ltr with
   | none=>rw [hc,hr] at h;cases h
   | some v =>
    rw [hc,hr] at h
    cases h
    rw [EO,← fi hc,← l7 hr]
theorem p0:∀ u:List L,(u.map cp).mapM ltr=some u
 | []=>rfl
 | x::r=>by rw [EO,IB,lZ,p0 r];rfl
theorem tZ {z:Str}{u:List L}(h:ofS z=some u):z=toS u:=by
 have e:=l7 h
 unfold toS
 rw [← e]
theorem w5 (u:List L):ofS (toS u)=some u:=by unfold ofS; rw [aZ]; exact p0 u
theorem l9:∀ l:List Nat,l.all (okC 6)=(l.mapM ltr).isSome
 | []=>rfl
 | c::r=>by
  rw [JE,IB,DU,l9 r]
  cases ltr c <;> cases r.mapM ltr <;> rfl
theorem DV (z:Str):isW 6 z=(ofS z).isSome:=l9 _
theorem Cc {x:V}(h:wdV 6 x=true):∃ u,x=tx u:=by
 cases x with
 | str z =>
  have h:isW 6 z=true:=h
  rw [DV] at h
  obtain ⟨u,e⟩:=Gu.mp h
  exact ⟨u,by rw [tZ e];rfl⟩
 | _=>cases h
theorem s12:toS [0,1,2,3,4,5,6,7,8,9,10,11]=("abcdefABCDEF":Str):=by decide +kernel
end Kx
namespace L2
open PySem PySem.Spec PyProof.Rows Wd
theorem p5 {K:PySem.W.Frag}{a:Addr}{xs:List V}{own:List Str}{cap:List Nat}{g:TG}{ti:TT}{te:TE}{σ:St}{H:Hp}{Q:VK}(Pv:Nat→List V→St→Hp→Prop)(h0:Pv 0 [] (stB own cap σ) H)(hz:∀ i ys σ H,i≤xs.length→Pv i ys σ H→ys.length≤i)(hn:xs.length≤sizeLine)
  (hl:∀ i ys σ H,Pv i ys σ H→SqL K H a xs)
  (hs:∀ i ys σ H x (N:List V→St→Hp→Prop),xs[i]? = some x→Pv i ys σ H→(∀ ys' σ' H'',Pv (i+1) ys' σ' H''→N ys' σ' H'')→g x σ H fun σ2 H2=>ti σ2 H2 fun b H3=>if b=true then te σ2 H3 fun y H4=>N (ys++[y]) σ2 H4 else N ys σ2 H3)
  (hd:∀ ys σ H D,Pv xs.length ys σ H→H D=none→Q (.ref D) (upd H D (.lst ys))) :
  wD own cap g ti te Q σ (Itl K a) H:=by
 refine cD (J:=Itl K a) xs.length Pv h0 hz hn (fun i ys σ H hi p=>⟨xs,xs[i],hl i ys σ H p,fu hi⟩) (fun ys σ H p=>⟨xs,hl _ ys σ H p,Ei _⟩) ?_ hd
 rintro i ys σ H x H' N hi p ⟨rfl,hx⟩ hN
 exact hs i ys σ _ x N (hx xs (hl i ys σ _ p)) p hN
theorem Cd {X:Cx}{a:Expr}{ta:TE}(ha:PE X a ta)(he:∀ whole,isTrue a X.env whole=(do let v ← whole; standAt a.pos; holding [v] (truthy v))):PT X a (v9 ta):=by
 intro Kl s σ H Q I h
 refine isTrue_plain (thn (ha Kl s σ H _ I h) fun v s1 ⟨x,H1,I1,r1,q1⟩=>vb Kl s1 σ H1 x v Q I1 r1 ?_) (he _)
 obtain ⟨k,e,q⟩:=q1
 subst e
 exact ⟨k,rfl,q⟩
theorem w9 (x z:L)(mid:List L):nj (x::(mid++[z])) (some 1) (some (((x::(mid++[z])).length:Int) - 1))=mid:=by
 have e:(((x::(mid++[z])).length:Int) - 1)=((mid.length+1:Nat):Int):=by simp only [EF,Eb,Fl];omega
 rw [e]
 unfold nj
 have h1:=HT.fy (x::(mid++[z])).length 0 1
 have h2:=HT.fy (x::(mid++[z])).length (x::(mid++[z])).length (mid.length+1)
 have l:(x::(mid++[z])).length=mid.length+2:=by simp
 rw [show ((1:Nat):Int)=1 from rfl] at h1
 rw [h1,h2,l]
 rw [show min 1 (mid.length+2)=1 by omega,show min (mid.length+1) (mid.length+2)=mid.length+1 by omega]
 simp
end L2
namespace L2
open PySem PySem.Spec PyProof.Rows
theorem kq {X:Cx}{i:Nat}{y:Str}{py spos:Pos}{elt iter tg:Expr}{ifs:List Expr}{scope:Scope}{pos:Pos}{NB own:List Str}{cap:List Nat}{wi:TI}{g:TG}{ti:TT}{te:TE}(hN:X.N.Nodup)(hi0:X.N[i]? = some y)(hx:Loc X.env.scope y)(B:Blk X scope NB own cap)(hc:X.calm=true)(hi:PI X tg iter wi)
  (hg:∀ C fp s₀ H₀,PG (cxB X NB own scope C fp s₀ H₀) tg g) (ht:∀ C fp s₀ H₀,PIf (cxB X NB own scope C fp s₀ H₀) ifs ti) (he:∀ C fp s₀ H₀,PE (cxB X NB own scope C fp s₀ H₀) elt te)
  (hs:∀ x,foldedSetIterable iter X.env x=pure x:=by intro _;rfl) (hsw:swapsWith (.ListComp elt [⟨tg,iter,ifs,0⟩] scope pos) (some (.Name y py)) spos.line X.env=pure true:=by rfl) (hf:X.fn y=true ∨ X.env.scope.names.lookup y=some .local:=by first | exact .inl rfl | exact .inr rfl | assumption):PS X (.Assign [.Name y py] (.ListComp elt [⟨tg,iter,ifs,0⟩] scope pos) spos) (C3 (wF own cap wi g ti te) (sS i)):=by
 intro Kl s σ H DD I0 h
 rw [exec_Assign_Name_used _ _ _ _ hsw]
 refine D9 (wpAny_standAt (D9 ?_))
 show wpAny _ X.A (do let _ ← comprehension (.ListComp elt [⟨tg,iter,ifs,0⟩] scope pos) scope X.env _ (newList []) false (eval iter X.env) (some (assign (.Name y py) X.env))) _ _ s
 refine D9 (FZ (lN (use:=some (assign (.Name y py) X.env)) (QQ:=fun _ s'=>SP X Kl DD .next s') (pos:=pos) B hc hi hg ht he hs I0 h fun fp C s2 s4 H2 H3 σ3 its ys k I f2 KQ hDC I5 hn3 hD4 rv hz q=>?_) (fun _ s' hq=>Ep (Ep hq)) fun _ _ e=>e)
 obtain ⟨mC,hnC,_⟩:=I5.loc
 have I6:Inv X Kl σ (upd H3 s2.heap.objs.size (.lst ys)) s4:=B.done (h'':=s4.heap) I f2 KQ (Ei _) hDC I5 hn3 hD4 rv hz ⟨rfl,fun _ _=>rfl⟩
 obtain ⟨oC,es,ep,hoC,hdC,rC⟩:=hnC
 have hCn:(upd H3 s2.heap.objs.size (.lst ys)) C=none:=by rw [aH hDC.symm];exact I5.free
 have nL:C≠X.env.locals:=fun z=>absurd I.lt (by rw [← z];exact Nat.not_lt.mpr KQ)
 have I7:Inv X (Kl++[(C,oC)]) σ (upd H3 s2.heap.objs.size (.lst ys)) s4:=I6.pins_of fun p hp=>by
  rcases Ew.mp hp with z | z
  ·exact I6.pin p (Ex _ z)
  ·have ep:=Ec.mp z
   subst ep
   exact ⟨hoC,hCn,nL,I.nofs KQ,fun v z=>by rw [hdC] at z;cases z⟩
 refine thn (aR (pos:=py) hN hi0 hx hf (Kl++[(C,oC)]) s4 σ _ (.ref s2.heap.objs.size) (.ref s2.heap.objs.size) (fun σ' H'=>DD.nx σ' H'∧H'=upd H3 s2.heap.objs.size (.lst ys)) I7 rfl ⟨q,rfl⟩) fun _ s5 zq2=>?_
 obtain ⟨σ5,H5,I8,q5,e5⟩:=zq2
 subst e5
 have pC:=(I8.pin (C,oC) (Ex _ (Ex _ (Ec.mpr rfl)))).1
 refine ⟨mC,⟨oC,es,ep,pC,hdC,rC⟩,fun h'' sb=>⟨σ5,_,?_,q5⟩⟩
 have I9:Inv X Kl σ5 (upd H3 s2.heap.objs.size (.lst ys)) s5:=I8.pins_of fun p hp=>I8.pin p (Ex _ (ER _ hp))
 refine I9.turned (t':=s5.toks) (it:=C) (fun b o hb e=>(sb.2 b hb).trans e) hCn nL (.inr (Ft I.sz KQ)) (fun x c e z=>?_) fun p hp z=>?_
 ·obtain ⟨v,o,ho,_⟩:=I.cell x c e
  exact absurd (Eo ho) (by rw [z];exact Nat.not_lt.mpr KQ)
 ·exact absurd (Eo (I.pin p hp).1) (by rw [z];exact Nat.not_lt.mpr KQ)
end L2
namespace L2
open PySem PySem.Spec PyProof.Rows Wd
section
variable {X:Cx}
theorem p8 {i o:Expr}{ty td:TE}{pos:Pos}(hu:X.A.units+1 < cLine)(hi:PE X i ty)(ho:PE X o td)(h1:behindInMarks .NotIn o=false):PT X (.Compare i [.NotIn] [o] pos) (tB (oV ty td)):=yY (oW hu hi ho) h1
end
end L2
namespace L2
open PySem PySem.Spec PyProof.Rows
section
variable {X:Cx}
theorem dq {i j:Int}{its:List Value}(r:ba [.int i,.int j] its):∃ t u,its=[.int i t,.int j u]:=by
 obtain ⟨u1,u2,rfl,⟨t1,rfl⟩,⟨t2,rfl⟩⟩:=m_ r
 exact ⟨t1,t2,rfl⟩
def nAt (i j:Int)(k:Nat):Int:=if k=0 then i else j
inductive d6 (K:PySem.W.Frag)(xs:List V)(H:Hp)(Q:VK):Prop
 | mk:∀ p i j,(xs=[.ref p])→(SqT K H p [.int i,.int j])→(Q (.int (if j < i then j else i)) H)→d6 K xs H Q
theorem kr (hc:X.calm=true):bZ X (.builtin "min") (d6 X.K):=by
 intro Kl s σ H xs us Q I r h
 obtain ⟨p,i,j,rfl,hq,q⟩:=h
 obtain ⟨u,rfl,ru⟩:=cj r
 cases ru
 obtain ⟨its,rv,ht,_⟩:=I.tuple hq
 obtain ⟨t,u,rfl⟩:=dq rv
 have Kq:p < s.heap.objs.size:=by obtain ⟨_,e,_⟩:=ht;exact Eo e
 refine call_min_walk (Ik ht ?_)
 refine ⟨_,_,_,_,_,_,fun a b=>decide (nAt i j a < nAt i j b),rfl,Walks.tuple (A:=X.A.in1) (I.ok.hd hc) _ p (EW Kq) _,⟨⟨_,Em _ rfl,rfl,rfl⟩,ht.push _⟩,fun b hb=>?_,?_,?_,fun v h' tk hP hk=>?_⟩
 ·show b < (s.heap.push _).objs.size
  rw [FI]
  rcases Et.mp hb with e | hb
  ·rw [e];exact Gg _
  ·rw [Ec.mp hb];exact Gw Kq
 ·exact HL 1
 ·refine CmpOf.ints_lt (nAt i j) fun a v hv=>?_
  match a,hv with
  | 0,hv=>exact ⟨t,(El hv).symm⟩
  | 1,hv=>exact ⟨u,(El hv).symm⟩
  | (a+2),hv=>simp at hv
 ·have old:∀ b o,s.heap.get? b=some o→h'.get? b=some o:=fun b o e=>hk b o (fun z=>by rw [Ec.mp z] at e;exact absurd (Eo e) (Fs _)) (D_ _ e)
  have hP:[Value.int i t,Value.int j u].toArray[if decide (j < i)=true then 1 else 0]? = some v:=hP
  by_cases h:j < i
  ·rw [if_pos (Ee h)] at hP
   rw [if_pos h] at q
   exact ⟨.int j,H,I.kept old,⟨u,(El hP).symm⟩,q⟩
  ·rw [Ea h] at hP
   rw [if_neg h] at q
   exact ⟨.int i,H,I.kept old,⟨t,(El hP).symm⟩,q⟩
inductive d7 (K:PySem.W.Frag)(xs:List V)(H:Hp)(Q:VK):Prop
 | mk:∀ p i j,(xs=[.ref p])→(SqT K H p [.int i,.int j])→(Q (.int (if j > i then j else i)) H)→d7 K xs H Q
theorem ku (hc:X.calm=true):bZ X (.builtin "max") (d7 X.K):=by
 intro Kl s σ H xs us Q I r h
 obtain ⟨p,i,j,rfl,hq,q⟩:=h
 obtain ⟨u,rfl,ru⟩:=cj r
 cases ru
 obtain ⟨its,rv,ht,_⟩:=I.tuple hq
 obtain ⟨t,u,rfl⟩:=dq rv
 have Kq:p < s.heap.objs.size:=by obtain ⟨_,e,_⟩:=ht;exact Eo e
 refine call_max_walk (Ik ht ?_)
 refine ⟨_,_,_,_,_,_,fun a b=>decide (nAt i j a > nAt i j b),rfl,Walks.tuple (A:=X.A.in1) (I.ok.hd hc) _ p (EW Kq) _,⟨⟨_,Em _ rfl,rfl,rfl⟩,ht.push _⟩,fun b hb=>?_,?_,?_,fun v h' tk hP hk=>?_⟩
 ·show b < (s.heap.push _).objs.size
  rw [FI]
  rcases Et.mp hb with e | hb
  ·rw [e];exact Gg _
  ·rw [Ec.mp hb];exact Gw Kq
 ·exact HL 1
 ·refine CmpOf.ints_gt (nAt i j) fun a v hv=>?_
  match a,hv with
  | 0,hv=>exact ⟨t,(El hv).symm⟩
  | 1,hv=>exact ⟨u,(El hv).symm⟩
  | (a+2),hv=>simp at hv
 ·have old:∀ b o,s.heap.get? b=some o→h'.get? b=some o:=fun b o e=>hk b o (fun z=>by rw [Ec.mp z] at e;exact absurd (Eo e) (Fs _)) (D_ _ e)
  have hP:[Value.int i t,Value.int j u].toArray[if decide (j > i)=true then 1 else 0]? = some v:=hP
  by_cases h:j > i
  ·rw [if_pos (Ee h)] at hP
   rw [if_pos h] at q
   exact ⟨.int j,H,I.kept old,⟨u,(El hP).symm⟩,q⟩
  ·rw [Ea h] at hP
   rw [if_neg h] at q
   exact ⟨.int i,H,I.kept old,⟨t,(El hP).symm⟩,q⟩
end
end L2
namespace Wd
structure Srf (u:List L):Prop where
 ne:u≠[]
 nd:u.Nodup
 iv:∀ x∈u,inv x∈u
 le:u.length≤12
theorem Srf.pos {u:List L}(S:Srf u):0 < u.length:=ET.mpr S.ne
def cb (u:List L)(g:Nat):L:=u.getD ((g+1) % u.length) 0
def bp (u:List L)(g:Nat):Nat:=u.idxOf (inv (cb u g))
theorem bI {u:List L}(S:Srf u)(g:Nat):u[(g+1) % u.length]? = some (cb u g):=by
 have h:=IH (g+1) S.pos
 unfold cb
 rw [EE,fu h]
 rfl
theorem cI {u:List L}(S:Srf u)(g:Nat):cb u g∈u:=EY (bI S g)
theorem bW {u:List L}(S:Srf u)(g:Nat):bp u g < u.length:=F8 (S.iv _ (cI S g))
structure Sn (u:List L) (S:List Nat):Prop where
 nd:S.Nodup
 lt:∀ g∈S,g < u.length
theorem p9:∀ (n:Nat) (S:List Nat),S.Nodup→(∀ g∈S,g < n)→S.length≤n
 | 0,S,_,h=>by
  cases S with
  | nil=>exact Ei _
  | cons a r=>exact absurd (h a Er) (Jo _)
 | n+1,S,nd,h=>by
  by_cases hn:n∈S
  ·have q:=p9 n (S.erase n) (nd.erase n) fun g hg=>by
    have:=(List.Nodup.mem_erase_iff nd).mp hg
    have:=h g this.2
    omega
   rw [G5 hn] at q
   omega
  ·have q:=p9 n S nd fun g hg=>by
    have h1:=h g hg
    have h2:g≠n:=fun e=>hn (e ▸ hg)
    omega
   omega
theorem Sn.le {u:List L}{S:List Nat}(h:Sn u S):S.length≤u.length:=p9 _ _ h.nd h.lt
theorem Sn.snoc {u:List L}{S:List Nat}(h:Sn u S){g:Nat}(hg:g < u.length)(hn:g∉S):Sn u (S++[g]):=by
 refine ⟨?_,fun x hx=>?_⟩
 ·rw [Fh]
  refine ⟨h.nd,by simp,fun a ha b hb e=>?_⟩
  rw [Ec] at hb
  subst hb
  exact hn (e ▸ ha)
 ·rcases Ew.mp hx with h1 | h1
  ·exact h.lt x h1
  ·rw [Ec] at h1
   exact h1 ▸ hg
theorem Sn.nil (u:List L):Sn u []:=⟨FJ,fun _ h=>absurd h (by simp)⟩
def p_ (u:List L):Nat→Nat→List Nat→List L→List Nat × List L
 | 0,_,S,w=>(S,w)
 | n+1,g,S,w=>if g∈S then (S,w) else p_ u n (bp u g) (S++[g]) (w++[cb u g])
def wk (u:List L)(g:Nat)(S:List Nat)(w:List L):List Nat × List L:=p_ u (u.length+1 - S.length) g S w
theorem qa {u:List L}{g:Nat}{S:List Nat}{w:List L}(h:g∈S):wk u g S w=(S,w):=by
 unfold wk
 cases u.length+1 - S.length with
 | zero=>rfl
 | succ n=>unfold p_;rw [if_pos h]
theorem l_ {u:List L}{g:Nat}{S:List Nat}{w:List L}(hs:Sn u S)(hg:g < u.length)(h:g∉S):wk u g S w=wk u (bp u g) (S++[g]) (w++[cb u g]):=by
 have h1:=(hs.snoc hg h).le
 rw [Eb,ES] at h1
 unfold wk
 rw [Eb,ES]
 have e:u.length+1 - S.length=(u.length+1 - (S.length+1))+1:=by omega
 rw [e]
 show (if g∈S then (S,w) else _)=_
 rw [if_neg h]
def cq (u:List L):Nat→List Nat × List (List L)
 | 0=>([],[])
 | i+1=>if i∈(cq u i).1 then cq u i else ((wk u i (cq u i).1 []).1,(cq u i).2++[(wk u i (cq u i).1 []).2])
theorem kx (u:List L):∀ i,(cq u i).2.length≤i
 | 0=>Ei _
 | i+1=>by
  have:=kx u i
  unfold cq
  split
  ·omega
  ·show ((cq u i).2++[_]).length≤i+1
   rw [Eb,ES]
   omega
theorem fO {u:List L}{i:Nat}(h:i∈(cq u i).1):cq u (i+1)=cq u i:=by
 show (if _ then _ else _)=_
 rw [if_pos h]
theorem eM {u:List L}{i:Nat}(h:i∉(cq u i).1):cq u (i+1)=((wk u i (cq u i).1 []).1,(cq u i).2++[(wk u i (cq u i).1 []).2]):=by
 show (if _ then _ else _)=_
 rw [if_neg h]
def fam (k:Nat):List L:=(List.range k).flatMap fun j=>if h:j < 6 then [⟨j,by omega⟩,⟨j+6,by omega⟩] else []
theorem vv:∀ k:Fin 7,(fam k.val).Nodup∧(∀ x∈fam k.val,inv x∈fam k.val)∧(fam k.val).length=2*k.val:=by decide
theorem t_ {k:Nat}(h:k < 6):fam (k+1)=fam k++[⟨k,by omega⟩,⟨k+6,by omega⟩]:=by
 unfold fam
 rw [Jp,Ia]
 simp [h]
theorem zQ {k:Nat}{u:List L}(h1:1≤k)(h6:k≤6)(p:u.Perm (fam k)):Srf u:=by
 obtain ⟨a,b,c⟩:=vv ⟨k,by omega⟩
 have hl:=p.length_eq
 have c:(fam k).length=2*k:=c
 refine ⟨fun e=>?_,(p.nodup_iff).mpr a,fun x hx=>p.mem_iff.mpr (b x (p.mem_iff.mp hx)),by omega⟩
 subst e
 rw [c] at hl
 simp at hl
 omega
theorem ua {u v:List L}(x:L)(i:Nat)(p:u.Perm v):(u.take i++x::u.drop i).Perm (v++[x]):=by
 refine FT.trans ?_
 rw [EI]
 exact ((List.Perm.cons x p).trans (List.perm_append_singleton x v).symm)
def hol (u:List L):List (List L):=(cq u u.length).2
end Wd
namespace Kx
open PySem PySem.Spec PyProof.Rows L2 Wd
theorem qb (u:List L)(x:L)(i:Nat):StrLaws.At (toS u) (toS [x]) (toS u).length i ↔ u[i]? = some x:=by
 unfold StrLaws.At
 rw [ae,ae,StrLaws.subAt_eq,ae,aZ,aZ,GL,← JD,← JC]
 simp only [ES]
 constructor
 ·rintro ⟨h1,h2⟩
  have h2:=dm h2
  have:(u.drop i).take 1=[u[i]]:=by rw [E4 (by omega)];rfl
  rw [this] at h2
  rw [fu (by omega)]
  exact Ey some (Gm h2).1
 ·intro h
  obtain ⟨hl,e⟩:=Ed.mp h
  refine ⟨by omega,?_⟩
  rw [E4 hl,e]
  rfl
theorem gR {u:List L}{x:L}(h:x∈u):∃ rest,Builtin.Str.occurrences (toS u) (toS [x]) 0 (toS u).length 1=u.idxOf x::rest:=by
 have Kq:=F8 h
 have hx:u[u.idxOf x]? = some x:=by rw [fu Kq];exact Ey some (FQ Kq)
 rcases StrLaws.occ_head (toS u) (toS [x]) 1 (Ei 1) with ⟨h0,hn⟩ | ⟨i,r,h0,hi,hn⟩
 ·exact absurd ((qb u x _).mpr hx) (hn _)
 ·refine ⟨r,?_⟩
  rw [h0]
  have hi:=(qb u x i).mp hi
  have:i=u.idxOf x:=by
   rcases IJ i (u.idxOf x) with h1 | h1 | h1
   ·have q:=List.not_of_lt_findIdx (p:=(· == x)) h1
    obtain ⟨hl,e⟩:=Ed.mp hi
    exact absurd (GL.mpr e) (by simpa using q)
   ·exact h1
   ·exact absurd ((qb u x _).mpr hx) (hn _ h1)
  rw [this]
def sk (S:List Nat):List (Key × V):=S.map fun g:Nat=>(Sum.inl (g:Int),V.bl true)
theorem qc (S:List Nat)(g:Nat):(fe (sk S) (Sum.inl (g:Int))).isSome=decide (g∈S):=by
 rw [← ff]
 unfold sk
 rw [List.any_map,EA,GG,Eh]
 constructor
 ·rintro ⟨x,hx,e⟩
  have e:(Sum.inl (x:Int):Key)=Sum.inl (g:Int):=Gv e
  have e:=Sum.inl.inj e
  have:x=g:=by omega
  exact this ▸ hx
 ·intro h
  exact ⟨g,h,Ee rfl⟩
theorem zR {S:List Nat}{g:Nat}(h:g∉S):eU (sk S) (Sum.inl (g:Int)) (V.bl true)=sk (S++[g]):=by
 have e:=qc S g
 rw [Ea h] at e
 rw [tm _ (by cases h:fe (sk S) (Sum.inl (g:Int)) with | none=>rfl | some v=>rw [h] at e;cases e)]
 unfold sk
 rw [E_]
 rfl
theorem zT (S:List Nat):(sk S).length=S.length:=by unfold sk; rw [Ej]
inductive qd (vs:List V)(H:Hp)(Q:VK)(Kv:XK):Prop
 | mk:∀ (u:List L) (g:Nat) (a:Addr) (S:List Nat),(vs=[tx u,.int g,.ref a])→(Srf u)→(g < u.length)→(Sn u S)→(H a=some (.dK (sk S)))→(∀ H',H' a=some (.dK (sk (wk u g S []).1))→Sn u (wk u g S []).1→bC a H H'→Q (tx (wk u g S []).2) H')→qd vs H Q Kv
inductive iF (vs:List V)(H:Hp)(Q:VK)(Kv:XK):Prop
 | mk:∀ u,(vs=[tx u])→(Srf u)→(∀ (l:Addr) (H':Hp),H l=none→H' l=some (.lst ((hol u).map tx))→aE H H'→Q (.ref l) H')→iF vs H Q Kv
inductive fP (vs:List V)(H:Hp)(Q:VK)(Kv:XK):Prop
 | mk:∀ u,(vs=[tx u])→(Srf u)→(∀ (H':Hp),aE H H'→Q (.int ((1+(u.length:Int) / 2 - ((hol u).length:Int)) / 2)) H')→fP vs H Q Kv
theorem w_ (u:List L)(i:Nat):((cq u i).2.map tx).length≤i:=by
 rw [Ej]
 exact kx u i
theorem sm_at {i:Nat}(h:i < 6):atI ("abcdef":Str).cps.toList (i:Int)=some (cp ⟨i,by omega⟩):=by
 rw [← pG]
 exact bN (k:=i) rfl (sm6 ⟨i,h⟩)
end Kx
namespace Wd
def rot (w:List L)(p:Nat):List L:=w.drop p++w.take p
theorem ky {w:List L}{p i:Nat}(hp:p≤w.length)(hi:i < w.length):(rot w p)[i]? = w[(i+p) % w.length]?:=by
 unfold rot
 by_cases h:i < w.length - p
 ·rw [E3 (by rw [Fb];exact h),E8,Fj (by omega),Ht]
 ·rw [ED (by rw [Fb];omega),Fb,E6 (by omega)]
  have:(i+p) % w.length=i - (w.length - p):=by
   rw [Nat.mod_eq_sub_mod (by omega),Fj (by omega)]
   omega
  rw [this]
def Per (w:List L)(p:Nat):Prop:=∀ i,i < w.length→w[(i+p) % w.length]? = w[i]?
theorem nA {w:List L}{p:Nat}(hp:p≤w.length)(h:rot w p=w):Per w p:=fun i hi=>by rw [← ky hp hi,h]
theorem nC {w:List L}{p:Nat}(hp:p≤w.length)(h:Per w p):rot w p=w:=by
 apply List.ext_getElem?
 intro i
 by_cases hi:i < w.length
 ·rw [ky hp hi,h i hi]
 ·have:(rot w p).length=w.length:=by unfold rot;rw [Eb,Fb,Es];omega
  rw [Fu (by omega),Fu (by omega)]
theorem Per.mul {w:List L}{p:Nat}(h:Per w p)(hn:0 < w.length):∀ k i,w[(i+k*p) % w.length]? = w[i % w.length]?
 | 0,i=>by simp
 | k+1,i=>by
  have ih:=Per.mul h hn k i
  have q:=h ((i+k*p) % w.length) (IH _ hn)
  rw [Nat.mod_add_mod] at q
  rw [show i+(k+1)*p=i+k*p+p by rw [JG];omega,q,ih]
structure vw (w:List L) (p:Nat):Prop where
 pos:1≤p
 le:p≤w.length
 same:rot w p=w
 least:∀ q,1≤q→q < p→rot w q≠w
theorem vw.dvd {w:List L}{p:Nat}(R:vw w p):p*(w.length / p)=w.length:=by
 have hp:=R.pos
 have hn:0 < w.length:=EL R.pos R.le
 have P:=nA R.le R.same
 have hd:=Nat.div_add_mod w.length p
 by_cases h0:w.length % p=0
 ·omega
 ·have Kq:=IH w.length hp
  refine absurd (nC (by have:=R.le;omega) fun i hi=>?_) (R.least (w.length % p) (by omega) Kq)
  have q:=P.mul hn (w.length / p) (i+w.length % p)
  rw [← q,show i+w.length % p+w.length / p*p=i+w.length by rw [Nat.mul_comm];omega,Nat.add_mod_right,Fj hi]
theorem xf {w:List L}(h:w≠[]):∃ p,vw w p:=by
 have hn:0 < w.length:=ET.mpr h
 have all:∀ k,1≤k→k≤w.length→rot w k=w→∃ p,vw w p:=by
  intro k
  induction k using Nat.strongRecOn with
  | ind k ih =>
   intro h1 h2 h3
   by_cases hx:∃ q,1≤q∧q < k∧rot w q=w
   ·obtain ⟨q,a,b,c⟩:=hx
    exact ih q b a (by omega) c
   ·exact ⟨k,h1,h2,h3,fun q a b c=>hx ⟨q,a,b,c⟩⟩
 exact all w.length hn (Ei _) (by unfold rot;simp)
structure SK (u:List L) (k:Nat):Prop where
 pm:u.Perm (fam k)
 lo:1≤k
 hi:k≤6
theorem SK.srf {u:List L}{k:Nat}(h:SK u k):Srf u:=zQ h.lo h.hi h.pm
theorem qe {k:Nat}(h:k≤6):(fam k).length=2*k:=(vv ⟨k,by omega⟩).2.2
theorem SK.len {u:List L}{k:Nat}(h:SK u k):u.length=2*k:=by rw [h.pm.length_eq,qe h.hi]
theorem xg:∀ (k:Fin 7) (x:L),x∈fam k.val ↔ x.val % 6 < k.val:=by decide
theorem SK.mem {u:List L}{k:Nat}(h:SK u k)(x:L):x∈u ↔ x.val % 6 < k:=by
 rw [h.pm.mem_iff]
 exact xg ⟨k,by have:=h.hi;omega⟩ x
theorem qf:∀ x:L,(inv x).val % 6=x.val % 6:=by decide
theorem cn {u:List L}(nd:u.Nodup){i:Nat}{x:L}(h:u[i]? = some x):u.idxOf x=i:=by
 obtain ⟨hi,e⟩:=Ed.mp h
 subst e
 exact List.Nodup.idxOf_getElem nd i hi
theorem iG {u:List L}{x:L}(h:x∈u):u[u.idxOf x]? = some x:=by
 have Kq:=F8 h
 rw [fu Kq]
 exact Ey some (FQ Kq)
theorem aF {u:List L}{x:L}(h:x∈u):u.idxOf x < u.length:=F8 h
theorem aL {u:List L}{x y:L}(hx:x∈u)(hy:y∈u)(h:u.idxOf x=u.idxOf y):x=y:=by
 have h1:=iG hx
 have h2:=iG hy
 rw [h,h2] at h1
 exact (El h1).symm
def rfI (u:List L)(a b:L):Int:=((u.idxOf b:Int) - (u.idxOf a:Int)) % (u.length:Int)
theorem xh {n a b:Nat}(ha:a < n)(hb:b < n):((b:Int) - (a:Int)) % (n:Int)=if a≤b then (b:Int) - a else (b:Int) - a+n:=by
 split
 ·exact Fo (by omega) (by omega)
 ·have:(b:Int) - a=((b:Int) - a+n)+(n:Int)*(-1):=by omega
  rw [this,Ih,Fo (by omega) (by omega)]
  omega
theorem aG {u:List L}{a b:L}(ha:a∈u)(hb:b∈u):rfI u a b=if u.idxOf a≤u.idxOf b then (u.idxOf b:Int) - (u.idxOf a:Int) else (u.idxOf b:Int) - (u.idxOf a:Int)+(u.length:Int):=xh (aF ha) (aF hb)
def ic (u:List L)(x z:L):Int:=if rfI u x z < rfI u x (inv x) then 1 else 0
def sd (u:List L)(x y:L):Int:=ic u x y - ic u x (inv y)
structure vz (u:List L) (x y:L):Prop where
 mx:x∈u
 mX:inv x∈u
 my:y∈u
 mY:inv y∈u
 n1:u.idxOf x≠u.idxOf (inv x)
 n2:u.idxOf x≠u.idxOf y
 n3:u.idxOf x≠u.idxOf (inv y)
 n4:u.idxOf (inv x)≠u.idxOf y
 n5:u.idxOf (inv x)≠u.idxOf (inv y)
 n6:u.idxOf y≠u.idxOf (inv y)
theorem iH {u:List L}(U:Srf u){x y:L}(hx:x∈u)(hy:y∈u)(h1:x≠y)(h2:x≠inv y):vz u x y:=by
 have hX:=U.iv x hx
 have hY:=U.iv y hy
 refine ⟨hx,hX,hy,hY,fun e=>cO x (aL hx hX e).symm,fun e=>h1 (aL hx hy e),fun e=>h2 (aL hx hY e),fun e=>h2 ?_,fun e=>h1 ?_,fun e=>cO y (aL hy hY e).symm⟩
 ·rw [← aL hX hy e,aq]
 ·have:=Ey inv (aL hX hY e)
  rw [aq,aq] at this
  exact this
theorem vz.swap {u:List L}{x y:L}(F:vz u x y):vz u y x:=⟨F.my,F.mY,F.mx,F.mX,F.n6,F.n2.symm,F.n4.symm,F.n3.symm,F.n5.symm,F.n1⟩
theorem iI {u:List L}{x y:L}(F:vz u x y):sd u y x = - sd u x y:=by
 have a1:=aF F.mx
 have a2:=aF F.mX
 have a3:=aF F.my
 have a4:=aF F.mY
 have n1:=F.n1;have n2:=F.n2;have n3:=F.n3;have n4:=F.n4;have n5:=F.n5;have n6:=F.n6
 unfold sd ic
 rw [aG F.mx F.my,aG F.mx F.mX,aG F.mx F.mY,aG F.my F.mx,aG F.my F.mY,aG F.my F.mX]
 generalize u.idxOf x=a at *
 generalize u.idxOf (inv x)=b at *
 generalize u.idxOf y=c at *
 generalize u.idxOf (inv y)=d at *
 generalize u.length=n at *
 grind
def psd (u:List L)(x y:L):Int :=
 if (decide (min (u.idxOf x) (u.idxOf (inv x)) < u.idxOf y∧u.idxOf y < max (u.idxOf x) (u.idxOf (inv x))) != decide (min (u.idxOf x) (u.idxOf (inv x)) < u.idxOf (inv y)∧u.idxOf (inv y) < max (u.idxOf x) (u.idxOf (inv x))))=true
 then (if rfI u x (inv y) < rfI u x y then -1 else 1) else 0
theorem zU {u:List L}{x y:L}(F:vz u x y):psd u x y=sd u x y:=by
 have a1:=aF F.mx
 have a2:=aF F.mX
 have a3:=aF F.my
 have a4:=aF F.mY
 have n1:=F.n1;have n2:=F.n2;have n3:=F.n3;have n4:=F.n4;have n5:=F.n5;have n6:=F.n6
 unfold psd sd ic
 rw [aG F.mx F.my,aG F.mx F.mX,aG F.mx F.mY]
 generalize u.idxOf x=a at *
 generalize u.idxOf (inv x)=b at *
 generalize u.idxOf y=c at *
 generalize u.idxOf (inv y)=d at *
 generalize u.length=n at *
 grind
def bh:Nat→(Nat→Int)→Int
 | 0,_=>0
 | n+1,f=>bh n f+f n
theorem aI {f g:Nat→Int}:∀ (n:Nat),(∀ i,i < n→f i=g i)→bh n f=bh n g
 | 0,_=>rfl
 | n+1,h=>by
  show bh n f+f n=bh n g+g n
  rw [aI n fun i hi=>h i (by omega),h n (by omega)]
theorem bx {f:Nat→Int}(n:Nat)(h:∀ i,i < n→f i=0):bh n f=0:=by
 rw [aI n h]
 clear h
 induction n with
 | zero=>rfl
 | succ n ih =>
  show bh n (fun _=>0)+0=0
  rw [ih]
  rfl
theorem bX (f g:Nat→Int):∀ n,bh n (fun i=>f i+g i)=bh n f+bh n g
 | 0=>rfl
 | n+1=>by
  show bh n (fun i=>f i+g i)+(f n+g n)=(bh n f+f n)+(bh n g+g n)
  rw [bX f g n]
  omega
theorem d8 (f:Nat→Int):∀ n,bh n (fun i=>- f i) = - bh n f
 | 0=>rfl
 | n+1=>by
  show bh n (fun i=>- f i) + - f n = - (bh n f+f n)
  rw [d8 f n]
  omega
theorem iJ (c:Int)(f:Nat→Int):∀ n,bh n (fun i=>c*f i)=c*bh n f
 | 0=>by
  show (0:Int)=c*0
  rw [Iu]
 | n+1=>by
  show bh n (fun i=>c*f i)+c*f n=c*(bh n f+f n)
  rw [iJ c f n,Int.mul_add]
theorem fQ (f:Nat→Nat→Int)(m:Nat):∀ n,bh n (fun x=>bh m fun y=>f x y)=bh m (fun y=>bh n fun x=>f x y)
 | 0=>(bx m fun _ _=>rfl).symm
 | n+1=>by
  show bh n (fun x=>bh m fun y=>f x y)+bh m (fun y=>f n y)=bh m (fun y=>bh n (fun x=>f x y)+f n y)
  rw [fQ f m n,bX]
theorem dO {f:Nat→Int}{j:Nat}:∀ (n:Nat),j < n→(∀ i,i < n→i≠j→f i=0)→bh n f=f j
 | 0,h,_=>absurd h (Jo _)
 | n+1,h,hz=>by
  show bh n f+f n=f j
  by_cases e:j=n
  ·subst e
   rw [bx j fun i hi=>hz i (by omega) (by omega),Jq]
  ·rw [dO n (by omega) fun i hi=>hz i (by omega),hz n (by omega) (fun e'=>e e'.symm),Gz]
theorem jF (g:Nat→Nat→Int):∀ k,bh k (fun x=>bh (k - (x+1)) fun j=>g x (x+1+j)+g (x+1+j) x)=bh k (fun x=>bh k fun y=>if x=y then 0 else g x y)
 | 0=>rfl
 | k+1=>by
  have e1:bh (k+1) (fun x=>bh (k+1 - (x+1)) fun j=>g x (x+1+j)+g (x+1+j) x)=bh k (fun x=>bh (k - (x+1)) fun j=>g x (x+1+j)+g (x+1+j) x)+bh k (fun x=>g x k+g k x):=by
   show bh k (fun x=>bh (k+1 - (x+1)) fun j=>g x (x+1+j)+g (x+1+j) x)+bh (k+1 - (k+1)) _=_
   rw [Hx]
   show _+0=_
   rw [Gz,← bX]
   refine aI k fun x hx=>?_
   have e:k+1 - (x+1)=(k - (x+1))+1:=by omega
   rw [e]
   show _+(g x (x+1+(k - (x+1)))+g (x+1+(k - (x+1))) x)=_
   rw [show x+1+(k - (x+1))=k by omega]
  have e2:bh (k+1) (fun x=>bh (k+1) fun y=>if x=y then 0 else g x y)=bh k (fun x=>bh k fun y=>if x=y then 0 else g x y)+bh k (fun x=>g x k+g k x):=by
   show bh k (fun x=>bh k (fun y=>if x=y then 0 else g x y)+(if x=k then 0 else g x k))+(bh k (fun y=>if k=y then 0 else g k y)+(if k=k then 0 else g k k))=_
   rw [bX,if_pos rfl,Gz,bX]
   rw [aI (f:=fun x=>if x=k then 0 else g x k) (g:=fun x=>g x k) k fun x hx=>if_neg (by omega)]
   rw [aI (f:=fun y=>if k=y then 0 else g k y) (g:=fun y=>g k y) k fun y hy=>if_neg (by omega)]
   exact IQ _ _ _
  rw [e1,e2,jF g k]
def lt6 (j:Nat):L:=if h:j < 12 then ⟨j,h⟩ else 0
def dfi (w:List L)(x:L):Int:=((w.count x:Nat):Int) - ((w.count (inv x):Nat):Int)
def trm (u w1 w2:List L)(x y:Nat):Int:=sd u (lt6 x) (lt6 y)*(dfi w1 (lt6 x)*dfi w2 (lt6 y) - dfi w1 (lt6 y)*dfi w2 (lt6 x))
def bal (u:List L)(k:Nat)(w1 w2:List L):Int:=bh k fun x=>bh (k - (x+1)) fun j=>trm u w1 w2 x (x+1+j)
def wgt (u:List L)(k:Nat)(w1 w2:List L):Int:=bh k fun x=>bh k fun y=>if x=y then 0 else dfi w1 (lt6 x)*dfi w2 (lt6 y)*sd u (lt6 x) (lt6 y)
theorem fR {j:Nat}(h:j < 6):(lt6 j).val=j:=by
 unfold lt6
 rw [dif_pos (by omega)]
theorem qg:∀ x:L,x.val < 6→(inv x).val=x.val+6:=by decide
theorem SK.four {u:List L}{k:Nat}(h:SK u k){x y:Nat}(hx:x < k)(hy:y < k)(hn:x≠y):vz u (lt6 x) (lt6 y):=by
 have h6:=h.hi
 have vx:=fR (show x < 6 by omega)
 have vy:=fR (show y < 6 by omega)
 refine iH h.srf ((h.mem _).mpr (by rw [vx];omega)) ((h.mem _).mpr (by rw [vy];omega)) (fun e=>hn ?_) (fun e=>?_)
 ·rw [← vx,← vy,e]
 ·have:=qg (lt6 y) (by omega)
  rw [← e] at this
  omega
theorem qh {u:List L}{k:Nat}(h:SK u k)(w1 w2:List L):bal u k w1 w2=wgt u k w1 w2:=by
 unfold bal wgt
 rw [← jF (fun x y=>dfi w1 (lt6 x)*dfi w2 (lt6 y)*sd u (lt6 x) (lt6 y)) k]
 refine aI k fun x hx=>aI _ fun j hj=>?_
 have:=iI (h.four hx (show x+1+j < k by omega) (by omega))
 unfold trm
 rw [this]
 generalize sd u (lt6 x) (lt6 (x+1+j))=s
 grind
theorem iK (u:List L)(k:Nat)(w1 w2:List L):bal u k w2 w1 = - bal u k w1 w2:=by
 unfold bal
 rw [← d8]
 refine aI k fun x hx=>?_
 rw [← d8]
 refine aI _ fun j hj=>?_
 unfold trm
 grind
theorem vA (w:List L)(x:L):dfi (bk w) x = - dfi w x:=by
 have c:∀ (w:List L) (x:L),(bk w).count x=w.count (inv x):=fun w x=>by
  unfold bk
  rw [List.count_reverse]
  induction w with
  | nil=>rfl
  | cons y w ih =>
   rw [EO,HZ,HZ,ih]
   have:(inv y == x)=(y == inv x):=by
    rw [EA,GL,GL]
    constructor
    ·intro e;rw [← e,aq]
    ·intro e;rw [e,aq]
   rw [this]
 unfold dfi
 rw [c,c,aq]
 omega
theorem kz (v w:List L)(x:L):dfi (v++w) x=dfi v x+dfi w x:=by
 unfold dfi
 rw [List.count_append,List.count_append]
 omega
theorem kA (x:L):dfi [] x=0:=rfl
theorem zV (u:List L)(k:Nat)(w1 w2:List L):bal u k (bk w1) w2 = - bal u k w1 w2:=by
 unfold bal
 rw [← d8]
 refine aI k fun x hx=>?_
 rw [← d8]
 refine aI _ fun j hj=>?_
 unfold trm
 rw [vA,vA]
 grind
theorem ub (u:List L)(k:Nat)(w:List L):bal u k w w=0:=by
 unfold bal
 refine bx k fun x hx=>bx _ fun j hj=>?_
 unfold trm
 grind
theorem xi (u:List L)(k:Nat)(w:List L):bal u k [] w=0:=by
 unfold bal
 refine bx k fun x hx=>bx _ fun j hj=>?_
 unfold trm
 rw [kA,kA]
 grind
theorem qi (u:List L)(k:Nat)(w1 w2 w3:List L):bal u k w1 (w2++w3)=bal u k w1 w2+bal u k w1 w3:=by
 unfold bal
 rw [← bX]
 refine aI k fun x hx=>?_
 rw [← bX]
 refine aI _ fun j hj=>?_
 unfold trm
 rw [kz,kz]
 grind
def tau (u:List L)(y l:L):Int:=if l=y ∨ l=inv y then 0 else ic u y (inv l) - ic u y l
def gp (u:List L)(y:L):List L→Int
 | []=>0
 | l::w=>tau u y l+gp u y w
theorem jG (u:List L)(y l:L):∀ w,gp u y (w++[l])=gp u y w+tau u y l
 | []=>by
  show tau u y l+0=0+tau u y l
  omega
 | x::w=>by
  show tau u y x+gp u y (w++[l])=(tau u y x+gp u y w)+tau u y l
  rw [jG u y l w]
  omega
def bg (u:List L)(y:L)(g:Nat):Int:=ic u y (u.getD g 0)
theorem cJ {u:List L}{g:Nat}(h:g < u.length):u[g]? = some (u.getD g 0):=by
 rw [EE,fu h]
 rfl
theorem uc {u:List L}(U:Srf u){y:L}(hy:y∈u){g:Nat}(hg:g < u.length):tau u y (cb u g)=bg u y (bp u g) - bg u y g:=by
 have hY:=U.iv y hy
 have hp:=U.pos
 have m1:u.getD g 0∈u:=EY (cJ hg)
 have i1:u.idxOf (u.getD g 0)=g:=cn U.nd (cJ hg)
 have m2:=cI U g
 have i2:u.idxOf (cb u g)=(g+1) % u.length:=cn U.nd (bI U g)
 have m3:=U.iv _ m2
 have e3:u.getD (bp u g) 0=inv (cb u g):=by
  have:=cJ (bW U g)
  rw [show u[bp u g]? = some (inv (cb u g)) from iG m3] at this
  exact (El this).symm
 have q:(g+1) % u.length=if g+1=u.length then 0 else g+1:=by
  split
  ·rename_i h
   rw [h,Hy]
  ·exact Fj (by omega)
 have a1:=aF hy
 have a2:=aF hY
 have n1:u.idxOf y≠u.idxOf (inv y):=fun e=>cO y (aL hy hY e).symm
 unfold bg
 rw [e3]
 unfold tau
 by_cases h1:cb u g=y
 ·rw [if_pos (.inl h1),h1]
  rw [h1,q] at i2
  unfold ic
  rw [aG hy hY,aG hy m1,i1]
  generalize u.idxOf y=a at *
  generalize u.idxOf (inv y)=b at *
  generalize u.length=n at *
  grind
 ·by_cases h2:cb u g=inv y
  ·rw [if_pos (.inr h2),h2,aq]
   rw [h2,q] at i2
   unfold ic
   rw [aG hy hY,aG hy m1,aG hy hy,i1]
   generalize u.idxOf y=a at *
   generalize u.idxOf (inv y)=b at *
   generalize u.length=n at *
   grind
  ·rw [if_neg (fun z=>z.elim h1 h2)]
   have k1:u.idxOf (cb u g)≠u.idxOf y:=fun e=>h1 (aL m2 hy e)
   have k2:u.idxOf (cb u g)≠u.idxOf (inv y):=fun e=>h2 (aL m2 hY e)
   have e:ic u y (cb u g)=ic u y (u.getD g 0):=by
    rw [q] at i2
    unfold ic
    rw [aG hy hY,aG hy m1,aG hy m2,i1]
    generalize u.idxOf (cb u g)=c at *
    generalize u.idxOf y=a at *
    generalize u.idxOf (inv y)=b at *
    generalize u.length=n at *
    grind
   rw [e]
theorem iL {u:List L}(U:Srf u){g h:Nat}(hg:g < u.length)(hh:h < u.length)(e:bp u g=bp u h):g=h:=by
 have e1:=aL (U.iv _ (cI U g)) (U.iv _ (cI U h)) e
 have e1:cb u g=cb u h:=by
  have:=Ey inv e1
  rw [aq,aq] at this
  exact this
 have i1:u.idxOf (cb u g)=(g+1) % u.length:=cn U.nd (bI U g)
 have i2:u.idxOf (cb u h)=(h+1) % u.length:=cn U.nd (bI U h)
 have q:∀ g,g < u.length→(g+1) % u.length=if g+1=u.length then 0 else g+1:=fun g hg=>by
  split
  ·rename_i h
   rw [h,Hy]
  ·exact Fj (by omega)
 rw [e1,i2,q g hg,q h hh] at i1
 split at i1 <;> split at i1 <;> omega
def nD (u:List L)(S:List Nat):Prop:=∀ z,z < u.length→bp u z∈S→z∈S
structure Way (u:List L) (g0:Nat) (P:List Nat) (g:Nat):Prop where
 ex:(P=[]∧g=g0) ∨ ∃ (Q:List Nat) (z:Nat),P=Q++[z]∧g=bp u z∧P.head? = some g0∧∀ s∈P,s=g0 ∨ ∃ q∈Q,bp u q=s
theorem Way.snoc {u:List L}{g0 g:Nat}{P:List Nat}(W:Way u g0 P g):Way u g0 (P++[g]) (bp u g):=by
 refine ⟨.inr ⟨P,g,rfl,rfl,?_,fun s hs=>?_⟩⟩
 ·rcases W.ex with ⟨rfl,rfl⟩ | ⟨Q,z,rfl,rfl,h,_⟩
  ·rfl
  ·rw [List.head?_append,h]
   rfl
 ·rcases W.ex with ⟨rfl,rfl⟩ | ⟨Q,z,rfl,rfl,h,hq⟩
  ·have:s=g:=by simpa using hs
   exact .inl this
  ·rcases Ew.mp hs with hs | hs
   ·rcases hq s hs with e | ⟨q,hq1,hq2⟩
    ·exact .inl e
    ·exact .inr ⟨q,ER _ hq1,hq2⟩
   ·have:s=bp u z:=by simpa using hs
    exact .inr ⟨z,by simp,this.symm⟩
theorem qj {u:List L}(U:Srf u){S0:List Nat}{g0:Nat}(hw:nD u S0)(h0:g0∉S0)(y:L)(hy:y∈u):∀ (m:Nat) (g:Nat) (P:List Nat) (w:List L),u.length - (S0++P).length≤m→Sn u (S0++P)→g < u.length→Way u g0 P g →
  nD u (wk u g (S0++P) w).1∧gp u y (wk u g (S0++P) w).2=gp u y w+bg u y g0 - bg u y g:=by
 intro m
 induction m with
 | zero =>
  intro g P w hm hs hg W
  by_cases h:g∈S0++P
  ·exact stop U hw h0 hs hg W h w
  ·have:=(hs.snoc hg h).le
   rw [Eb,ES] at this
   omega
 | succ m ih =>
  intro g P w hm hs hg W
  by_cases h:g∈S0++P
  ·exact stop U hw h0 hs hg W h w
  ·rw [l_ hs hg h,Ek]
   have K0:=hs.snoc hg h
   rw [Ek] at K0
   obtain ⟨a1,a2⟩:=ih (bp u g) (P++[g]) (w++[cb u g]) (by simp only [Eb,ES] at hm ⊢;omega) K0 (bW U g) W.snoc
   refine ⟨a1,?_⟩
   rw [a2,jG,uc U hy hg]
   omega
where
 stop {u:List L} (U:Srf u) {S0:List Nat} {g0:Nat} (hw:nD u S0) (h0:g0∉S0) {y:L} {g:Nat} {P:List Nat} (hs:Sn u (S0++P)) (hg:g < u.length) (W:Way u g0 P g) (h:g∈S0++P) (w:List L) :
   nD u (wk u g (S0++P) w).1∧gp u y (wk u g (S0++P) w).2=gp u y w+bg u y g0 - bg u y g:=by
  rw [qa h]
  show nD u (S0++P)∧gp u y w=_
  rcases W.ex with ⟨rfl,rfl⟩ | ⟨Q,z,rfl,rfl,hh,hq⟩
  ·rw [FC] at h
   exact absurd h h0
  ·have hz:z < u.length:=hs.lt z (by simp)
   have nd:=hs.nd
   rw [Fh] at nd
   obtain ⟨nd1,nd2,nd3⟩:=nd
   rw [Fh] at nd2
   obtain ⟨nd4,nd5,nd6⟩:=nd2
   have e0:bp u z=g0:=by
    rcases Ew.mp h with h | h
    ·exact absurd rfl (nd3 z (hw z hz h) z (by simp))
    ·rcases hq _ h with e | ⟨q,q1,q2⟩
     ·exact e
     ·have:=iL U (hs.lt q (by simp [q1])) hz q2
      exact absurd rfl (nd6 q q1 q (by simp [this]))
   refine ⟨fun a ha hs2=>?_,by rw [e0];omega⟩
   rcases Ew.mp hs2 with hs2 | hs2
   ·exact ER _ (hw a ha hs2)
   ·rcases hq _ hs2 with e | ⟨q,q1,q2⟩
    ·have:=iL U ha hz (e.trans e0.symm)
     subst this
     simp
    ·have:=iL U (hs.lt q (by simp [q1])) ha q2
     subst this
     simp [q1]
theorem qk {u:List L}(U:Srf u):∀ (m g:Nat) (S:List Nat) (w:List L),u.length - S.length≤m→Sn u S→g < u.length→Sn u (wk u g S w).1
 | 0,g,S,w,hm,hs,hg=>by
  by_cases h:g∈S
  ·rw [qa h]
   exact hs
  ·have:=(hs.snoc hg h).le
   rw [Eb,ES] at this
   omega
 | m+1,g,S,w,hm,hs,hg=>by
  by_cases h:g∈S
  ·rw [qa h]
   exact hs
  ·rw [l_ hs hg h]
   exact qk U m _ _ _ (by simp only [Eb,ES];omega) (hs.snoc hg h) (bW U g)
theorem ql {u:List L}(U:Srf u){y:L}(hy:y∈u):∀ i,i≤u.length→Sn u (cq u i).1∧nD u (cq u i).1∧∀ w∈(cq u i).2,gp u y w=0
 | 0,_=>⟨Sn.nil u,fun z _ h=>absurd h (by simp [cq]),fun w h=>absurd h (by simp [cq])⟩
 | i+1,hi=>by
  obtain ⟨h1,h2,h3⟩:=ql U hy i (by omega)
  by_cases h:i∈(cq u i).1
  ·rw [fO h]
   exact ⟨h1,h2,h3⟩
  ·rw [eM h]
   have q:=qj U (S0:=(cq u i).1) (g0:=i) h2 h y hy _ i [] [] (Ei _) (by rw [FC];exact h1) (by omega) ⟨.inl ⟨rfl,rfl⟩⟩
   rw [FC] at q
   refine ⟨qk U _ i _ [] (Ei _) h1 (by omega),q.1,fun w hw=>?_⟩
   rcases Ew.mp hw with hw | hw
   ·exact h3 w hw
   ·rw [Ec] at hw
    subst hw
    rw [q.2]
    show 0+_ - _=(0:Int)
    omega
theorem e9 {u:List L}(U:Srf u):∀ (n g:Nat) (S:List Nat) (w:List L),(∀ l∈w,l∈u)→∀ l∈(p_ u n g S w).2,l∈u
 | 0,_,_,_,h=>h
 | n+1,g,S,w,h=>by
  unfold p_
  split
  ·exact h
  ·refine e9 U n _ _ _ fun l hl=>?_
   rcases Ew.mp hl with hl | hl
   ·exact h l hl
   ·rw [Ec] at hl
    exact hl ▸ cI U g
theorem bO {u:List L}(U:Srf u):∀ i,∀ w∈(cq u i).2,∀ l∈w,l∈u
 | 0,w,h=>absurd h (by simp [cq])
 | i+1,w,h=>by
  by_cases hi:i∈(cq u i).1
  ·rw [fO hi] at h
   exact bO U i w h
  ·rw [eM hi] at h
   rcases Ew.mp h with h | h
   ·exact bO U i w h
   ·rw [Ec] at h
    subst h
    exact e9 U _ _ _ [] (fun l hl=>absurd hl (by simp))
theorem iM (l x:L):dfi [l] x=(if l=x then 1 else 0) - (if l=inv x then 1 else 0):=by
 have c:∀ a b:L,(([a].count b:Nat):Int)=if a=b then 1 else 0:=fun a b=>by
  rw [List.count_singleton]
  by_cases h:a=b
  ·rw [if_pos h,h]
   simp
  ·rw [if_neg h]
   simp [h]
 unfold dfi
 rw [c,c]
theorem kC:∀ l:L,l=lt6 (l.val % 6) ∨ l=inv (lt6 (l.val % 6)):=by decide
theorem kD:∀ (l:L) (x:Fin 6),x.val≠l.val % 6→l≠lt6 x.val∧l≠inv (lt6 x.val):=by decide
theorem ma:∀ l:L,¬ (l=lt6 (l.val % 6)∧l=inv (lt6 (l.val % 6))):=by decide
theorem Ce {u:List L}{k:Nat}(h:SK u k){y:Nat}(hy:y < k){l:L}(hl:l∈u):bh k (fun x=>if x=y then 0 else dfi [l] (lt6 x)*sd u (lt6 x) (lt6 y))=tau u (lt6 y) l:=by
 have h6:=h.hi
 have hj:=(h.mem l).mp hl
 rw [dO k hj]
 ·unfold tau
  by_cases e:l.val % 6=y
  ·subst e
   rw [if_pos rfl,if_pos (kC l)]
  ·rw [if_neg e]
   have q:=kD l ⟨y,by omega⟩ (fun z=>e z.symm)
   rw [if_neg (fun z=>z.elim q.1 q.2),iM]
   have F:=h.four hj hy e
   have an:=iI F.swap
   rcases kC l with e1 | e1
   ·have e2:¬ l=inv (lt6 (l.val % 6)):=fun z=>ma l ⟨e1,z⟩
    rw [if_pos e1,if_neg e2,an,← e1]
    unfold sd
    omega
   ·have e2:¬ l=lt6 (l.val % 6):=fun z=>ma l ⟨z,e1⟩
    have e3:lt6 (l.val % 6)=inv l:=by rw [e1,aq,← e1]
    rw [if_neg e2,if_pos e1,an,e3]
    unfold sd
    rw [aq]
    omega
 ·intro i hi hn
  by_cases e:i=y
  ·rw [if_pos e]
  ·rw [if_neg e,iM]
   have q:=kD l ⟨i,by omega⟩ hn
   rw [if_neg q.1,if_neg q.2]
   omega
theorem z_all {u:List L}{k:Nat}(h:SK u k){y:Nat}(hy:y < k):∀ w:List L,(∀ l∈w,l∈u)→bh k (fun x=>if x=y then 0 else dfi w (lt6 x)*sd u (lt6 x) (lt6 y))=gp u (lt6 y) w
 | [],_=>bx k fun x _=>by
  split
  ·rfl
  ·rw [kA,Int.zero_mul]
 | l::w,hw=>by
  have ih:=z_all h hy w fun z hz=>hw z (Eg _ hz)
  show _=tau u (lt6 y) l+gp u (lt6 y) w
  rw [← ih,← Ce h hy (hw l Er),← bX]
  refine aI k fun x _=>?_
  have e:dfi (l::w) (lt6 x)=dfi [l] (lt6 x)+dfi w (lt6 x):=kz [l] w (lt6 x)
  rw [e]
  split
  ·rfl
  ·rw [Int.add_mul]
theorem ud {u:List L}{k:Nat}(h:SK u k){w:List L}(hw:w∈hol u)(v:List L):bal u k w v=0:=by
 rw [qh h]
 unfold wgt
 rw [fQ]
 refine bx k fun y hy=>?_
 have h6:=h.hi
 have my:lt6 y∈u:=(h.mem _).mpr (by rw [fR (by omega)];omega)
 have z:=z_all h hy w (bO h.srf _ w hw)
 rw [(ql h.srf my u.length (Ei _)).2.2 w hw] at z
 have e:bh k (fun x=>if x=y then 0 else dfi w (lt6 x)*dfi v (lt6 y)*sd u (lt6 x) (lt6 y))=dfi v (lt6 y)*bh k (fun x=>if x=y then 0 else dfi w (lt6 x)*sd u (lt6 x) (lt6 y)):=by
  rw [← iJ]
  refine aI k fun x _=>?_
  split
  ·rw [Iu]
  ·grind
 rw [e,z,Iu]
end Wd
namespace L2
open PySem PySem.Spec PyProof.Rows
section
variable {prog:Program} {w:World} {A:Around} {E:Value→Shared→Prop} {s:Shared}
theorem jH {Q:List Value→Shared→Prop}(hh:A.handled=none)(z:Str)(t:Tok)(hn:z.cps.size≤sizeLine)
  (k:∀ (h':Heap) (tk:Nat) (acc:Array Value),(∀ b o,s.heap.get? b=some o→h'.get? b=some o)→s.heap.objs.size < h'.objs.size→ItemsOf (SignAt z) acc z.cps.size→Q acc.toList { s with heap:=h',toks:=tk }) :
  wpAny (model prog w) A (collect (.str z t)) Q E s:=by
 unfold collect
 refine (D9 (Jw (F_ F.entry_proto_collect ?_)))
 rw [Gq F.plain_proto_collect _]
 show wpAny _ A.in1 (newList [] >>= fun q=>again (.builtin "list.__iadd__" ⟨[q,.str z t],[]⟩)) _ _ s
 refine (D9 (wpAny_newObj_type (Ep ⟨plainId_quiet F.plain_list_iadd _,F_ F.entry_list_iadd ?_⟩)))
 rw [Gq F.plain_list_iadd _]
 have hS:(s.heap.push { cls:=.type "list",data:=.seq ([]:List Value).toArray }).get? s.heap.objs.size=some { cls:=.type "list",data:=.seq #[] }:=Em _ rfl
 show wpAny _ A.in1 (Builtin.List.listExtendWith (.ref s.heap.objs.size) (.str z t) (.ref s.heap.objs.size)) _ _ { s with heap:=s.heap.push { cls:=.type "list",data:=.seq ([]:List Value).toArray } }
 refine wpAny_extend_str (R:=fun r s'=>match r with
  | .ok (.ret v)=>wpAny (model prog w) A (match v with
   | .ref a=>do
    match (← load a).data with
    | .seq xs _=>pure xs.toList
    | _=>unsupported "internal:collect"
   | _=>unsupported "internal:collect") Q E s'
  | .ok _=>False
  | .error e=>E e s') (s:={ s with heap:=s.heap.push { cls:=.type "list",data:=.seq ([]:List Value).toArray } }) (hn:=hn) hh z t s.heap.objs.size (.ref s.heap.objs.size) _ hS fun h' tk acc c' hk hS' hacc=>?_
 show wpAny _ A (load s.heap.objs.size >>= _) _ _ { s with heap:=h',toks:=tk }
 exact D9 (wpAny_load hS' (Ep (k h' tk acc (fun b o e=>hk b o (EW (Eo e)) (D_ _ e)) (Eo hS') hacc)))
end
section
variable {X:Cx}
def c4 (z:Str):List Str:=z.cps.toList.map fun c=>⟨#[c]⟩
theorem xj (z:Str):tP z=(c4 z).map V.str:=by unfold tP c4; rw [Fp]; rfl
inductive bY  (xs:List V)(H:Hp)(Q:VK):Prop
 | mk:∀ z,(xs=[.str z])→(z.length < 64)→(∀ p zs,H p=none→zs.Perm (c4 z)→sortedS zs=true→Q (.ref p) (upd H p (.lst (zs.map V.str))))→bY xs H Q
theorem cR (hc:X.calm=true):bZ X (.builtin "sorted") bY:=by
 intro Kl s σ H xs us Q I r h
 obtain ⟨z,rfl,hz,q⟩:=h
 obtain ⟨u,rfl,t,rfl⟩:=cj r
 have KF:sizeLine=16777216:=Hm
 refine (IC kind_sorted plain_sorted entry_sorted (args_sorted1 _) ?_)
 unfold Builtin.«sorted»
 refine (D9 (m:=checkCount "sorted" 1 1 _) (Ep ?_))
 refine D9 (jH (A:=X.A.in1) (I.ok.hd hc) z t (by have:z.cps.size < 64:=hz;omega) fun h' tk acc hk Kq hI=>?_)
 have hv:ba (tP z) acc.toList:=nu hI
 rw [xj] at hv
 have hS:=eL hv
 have hlen:acc.toList.length=z.length:=by
  rw [← hv.length,Ej]
  unfold c4
  rw [Ej,Ef]
  rfl
 refine (D9 (Ha ?_))
 have hoL:(h'.push (seqObj "list" acc.toList.toArray 0)).get? h'.objs.size=some (seqObj "list" acc.toList.toArray 0):=Em _ rfl
 refine (D9 (GT (FR slot_list_sort ⟨_,hoL,rfl⟩ entry_list_sort (list_sort_treeK strKind_oneLt hoL hS.keysOf (fun v₁ v₂ rest e=>keyKind_strs (by rw [← e];exact hS)) (by omega) fun st' a1 a2=>⟨_,rfl,?_⟩) (args_list_sort _))))
 obtain ⟨zs,h1,h2,h3⟩:=sorted_out_str hS a1 a2
 refine Ep ⟨_,rfl,?_⟩
 obtain ⟨e,he⟩:=sortedHeap_at (out:=(arrOf st').map (·.2)) hoL
 have hzl:(zs.map V.str).length≤sizeLine:=by
  rw [Ej,h2.length_eq]
  unfold c4
  rw [Ej,Ef]
  have:z.cps.size < 64:=hz
  omega
 have old:∀ b o,s.heap.get? b=some o→(sortedHeap (h'.push (seqObj "list" acc.toList.toArray 0)) h'.objs.size acc.toList ((arrOf st').map (·.2))).get? b=some o:=fun b o eb=>by
  have e1:=hk b o eb
  have e2:=Eo e1
  rw [sortedHeap_old (EW e2) (by rw [FI];exact Gw e2)]
  exact D_ _ e1
 have I2:Inv X Kl σ (upd H h'.objs.size (.lst (zs.map V.str))) { s with heap:=sortedHeap (h'.push (seqObj "list" acc.toList.toArray 0)) h'.objs.size acc.toList ((arrOf st').map (·.2)),toks:=tk } :=
  I.laid old (Hq Kq) ⟨hzl,((arrOf st').map (·.2)).toList,e,eY h1,by rw [Array.toArray_toList];exact he⟩
 exact ⟨.ref h'.objs.size,_,I2,rfl,q _ zs (I.hok.fresh (Hq Kq)) h2 h3⟩
end
end L2
namespace PySem
open Sem (wp)
open AutoSeq1 (wpAny_loadPart')
section
variable {prog:Program} {w:World} {A:Around} {E:Value→Shared→Prop} {s:Shared}
end
end PySem
namespace L2
open PySem PySem.Spec PyProof.Rows Wd
section
variable {X:Cx}
end
end L2
namespace PySem
open Sem (wp)
section
variable {prog:Program} {w:World} {A:Around} {E:Value→Shared→Prop} {s:Shared} {z TI TO i1 i2:Addr} {k n1 n2:Nat} {a b:Value} {fp1 fp2:List Addr} {P1 P2:Nat→Value→Prop} {S1 S2:Nat→Heap→Prop}
end
end PySem
namespace PySem
end PySem
namespace L2
open PySem PySem.Spec PyProof.Rows Wd
section
variable {X:Cx}
end
end L2
namespace Kx
open PySem PySem.Spec PyProof.Rows L2 Wd
def jn (yl:List Nat):List (List Nat)→List Nat
 | []=>[]
 | [p]=>p
 | p::q::r=>p++yl++jn yl (q::r)
def Gd (c:Nat):Prop:=(48≤c∧c≤57) ∨ 65≤c
end Kx
namespace L2
open PySem PySem.Spec PyProof.Rows Wd
section
variable {X:Cx} {tg:Expr}
end
end L2
namespace Kx
open PySem PySem.Spec PyProof.Rows L2 Wd
def dV:V→PyData
 | .int i=>.int i
 | .str z=>.str z
 | _=>.none
end Kx
namespace L2
open PySem PySem.Spec PyProof.Rows
section
variable {X:Cx}
end
end L2
namespace Kx
open PySem PySem.Spec PyProof.Rows L2 Wd
theorem jI:∀ (r:List Str) (x:Str),risingS x r=true→(x::r).Pairwise fun a b=>a.cps.toList≤b.cps.toList
 | [],x,_=>by simp
 | z::r,x,h=>by
  have l:=eX (z::r) x h
  unfold risingS at h
  rw [FG] at h
  exact List.Pairwise.cons (fun y hy=>l.2 y (Eg _ hy)) (jI r z h.2)
theorem jJ {l:List Str}(h:sortedS l=true):l.Pairwise fun a b=>a.cps.toList≤b.cps.toList:=by
 cases l with
 | nil=>exact .nil
 | cons x r=>exact jI r x h
theorem nG {a b:List Str}(ha:sortedS a=true)(hb:sortedS b=true)(p:a.Perm b):a=b :=
 List.Perm.eq_of_pairwise (fun x y _ _ h1 h2=>Str.ext' (Array.toList_inj.mp (List.le_antisymm h1 h2))) (jJ ha) (jJ hb) p
theorem nH {x y:Str}:(c4 x).Perm (c4 y) ↔ x.cps.toList.Perm y.cps.toList:=by
 unfold c4
 constructor
 ·intro h
  have:=h.map (fun s:Str=>s.cps.getD 0 0)
  rw [Fp,Fp] at this
  have e:((fun s:Str=>s.cps.getD 0 0) ∘ fun c=>(⟨#[c]⟩:Str))=id:=by funext c;rfl
  rw [e,List.map_id,List.map_id] at this
  exact this
 ·intro h
  exact h.map _
def ends (k:Nat):List L:=(List.range k).map lt6++bk ((List.range k).map lt6)
def nI (u:List L):Bool:=(List.range u.length).all fun q=>decide (q=0) || !decide (rot u q=u)
def Bu (u:List L):Bool:=decide (1≤u.length) && decide (u.length≤30) && sI u && nI u
def zW (k:Nat)(z:Str):Bool:=match ofS z with
 | some u=>isW (k:Int) z && Bu u
 | none=>false
def xk (k:Nat):V→Bool
 | .str z=>zW k z
 | _=>false
theorem ue {k:Nat}{x:V}(ns:∀ z,x ≠ .str z):xk k x=false:=by
 cases x with
 | str z=>exact absurd rfl (ns z)
 | _=>rfl
theorem qm {u:List L}{p:Nat}(R:vw u p):nI u=decide (p=u.length):=by
 unfold nI
 rw [EA,Fv,Eh]
 constructor
 ·intro h
  refine ID fun hn=>?_
  have hle:=R.le
  have hp:=R.pos
  have:=h p (GJ.mpr (by omega))
  rw [Ee R.same,Ea (show ¬ p=0 by omega)] at this
  cases this
 ·intro e q hq
  have hq:=GJ.mp hq
  by_cases h0:q=0
  ·rw [Ee h0]
   rfl
  ·rw [Ea h0,Ea (R.least q (by omega) (by omega))]
   rfl
theorem uf {u:List L}{p:Nat}(R:vw u p):u.length / p=1 ↔ p=u.length:=by
 have hd:=R.dvd
 have hp:=R.pos
 constructor
 ·intro h
  rw [h] at hd
  omega
 ·intro h
  subst h
  exact Nat.div_self (by omega)
end Kx
namespace Tv
open PySem PyProof.Rows
theorem av {σ:Type}{M:Model}{A:Around}{E:Value→Shared→Prop}{s:Shared}{α:Type}{c:Prop}[Decidable c]{x y:StateT σ Sem α}{Q:α→σ→Prop}{st:σ}(h:c)(p:wpS M A E s x Q st):wpS M A E s (if c then x else y) Q st:=by
 rw [if_pos h];exact p
theorem aw {σ:Type}{M:Model}{A:Around}{E:Value→Shared→Prop}{s:Shared}{α:Type}{c:Prop}[Decidable c]{x y:StateT σ Sem α}{Q:α→σ→Prop}{st:σ}(h:¬ c)(p:wpS M A E s y Q st):wpS M A E s (if c then x else y) Q st:=by
 rw [if_neg h];exact p
def kof (κ:KeyKind)(p:Keyed):κ.α:=(κ.keyOf p.1).getD κ.dflt
def Gd (κ:KeyKind)(p:Keyed):Prop:=∃ a,κ.keyOf p.1=some a
theorem Gd.eq {κ:KeyKind}{p:Keyed}(h:Gd κ p):κ.keyOf p.1=some (kof κ p):=by
 obtain ⟨a,e⟩:=h
 unfold kof
 rw [e]
 rfl
structure TB (kd:SortKind) (st:SortSt):Prop where
 kind:kindOf st=kd
 failed:failedOf st=none
def Lt1 (κ:KeyKind)(prog:Program)(w:World)(A:Around)(s:Shared)(kd:SortKind):Prop:=∀ (E:Value→Shared→Prop) (x y:Value) (a b:κ.α) (Q:Bool→Shared→Prop),κ.keyOf x=some a→κ.keyOf y=some b→Q (κ.blt a b) s→wpAny (model prog w) A (keyLt' kd x y) Q E s
def gal:Bool→Keyed→Array Keyed→Nat→Nat→Nat→StateT SortSt Sem (Option Nat):=sortPriv% PySem.Builtin.gallop
def gbd (lf:Bool)(key:Keyed)(arr:Array Keyed)(b i:Nat):StateT SortSt Sem (Option Bool):=do
 let it ← elem' arr (b+i)
 if lf then lt' it key else return (← lt' key it).map (!·)
def Bv (lf:Bool)(key:Keyed)(arr:Array Keyed)(b n d0 u0:Nat):StateT SortSt Sem (Option Nat):=do
 let mut dn:=d0
 let mut up:=u0
 for _ in [0:n] do
  if dn≥up then break
  let md:=dn+(up - dn) / 2
  let some mr ← gbd lf key arr b md | return none
  if mr then dn:=md+1 else up:=md
 return some up
theorem zX (lf:Bool)(key:Keyed)(arr:Array Keyed)(b n h:Nat):gal lf key arr b n h=(do
 let mut la:=0
 let mut of:=1
 let some rt ← gbd lf key arr b h | return none
 if rt then
  for _ in [0:n] do
   if of≥n - h then break
   let some mr ← gbd lf key arr b (h+of) | return none
   if !mr then break
   la:=of
   of:=2*of+1
  Bv lf key arr b n (h+la+1) (h+min of (n - h))
 else
  for _ in [0:n] do
   if of≥h+1 then break
   let some fd ← gbd lf key arr b (h - of) | return none
   if fd then break
   la:=of
   of:=2*of+1
  Bv lf key arr b n (h+1 - min of (h+1)) (h - la)):=rfl
section
variable {prog:Program} {w:World} {A:Around} {E:Value→Shared→Prop} {s:Shared} {κ:KeyKind} {kd:SortKind}
theorem jK {st:SortSt}{x y:Keyed}{Q:Option Bool→SortSt→Prop}(hO:Lt1 κ prog w A s kd)(hB:TB kd st)(hx:Gd κ x)(hy:Gd κ y)(h:Q (some (κ.blt (kof κ x) (kof κ y))) st):wpS (model prog w) A E s (lt' x y) Q st:=by
 rw [lt'_eq]
 refine En (Ib ?_)
 rw [hB.kind]
 refine En (Ju (Hc (hO _ x.1 y.1 _ _ _ hx.eq hy.eq ⟨rfl,?_⟩)))
 exact Eu h
def bdB (κ:KeyKind)(lf:Bool)(key:κ.α)(x:κ.α):Bool:=if lf then κ.blt x key else !κ.blt key x
theorem xm {st:SortSt}{lf:Bool}{key p:Keyed}{arr:Array Keyed}{b i:Nat}{Q:Option Bool→SortSt→Prop}(hO:Lt1 κ prog w A s kd)(hB:TB kd st)(hk:Gd κ key)(e:arr[b+i]? = some p)(hp:Gd κ p)
  (h:Q (some (bdB κ lf (kof κ key) (kof κ p))) st):wpS (model prog w) A E s (gbd lf key arr b i) Q st:=by
 unfold gbd
 rw [elem'_eq,e]
 refine En (Eu ?_)
 unfold bdB at h
 cases lf with
 | true=>exact jK hO hB hp hk h
 | false=>exact En (jK hO hB hk hp (Eu h))
theorem kF {st:SortSt}{lf:Bool}{key:Keyed}{arr:Array Keyed}{b n h:Nat}{Q:Option Nat→SortSt→Prop}(hO:Lt1 κ prog w A s kd)(hB:TB kd st)(hk:Gd κ key)(B:Nat→Bool)(hh:h < n)
  (at_:∀ i,i < n→∃ p,arr[b+i]? = some p∧Gd κ p∧bdB κ lf (kof κ key) (kof κ p)=B i) (mono:∀ i j,i≤j→j < n→B j=true→B i=true)
  (hq:∀ k,k≤n→(∀ i,i < k→B i=true)→(∀ i,k≤i→i < n→B i=false)→Q (some k) st):wpS (model prog w) A E s (gal lf key arr b n h) Q st:=by
 have ask:∀ {i:Nat} {R:Option Bool→SortSt→Prop},i < n→R (some (B i)) st→wpS (model prog w) A E s (gbd lf key arr b i) R st:=fun {i R} hi r=>by
  obtain ⟨p,e,g,eb⟩:=at_ i hi
  exact xm hO hB hk e g (by rw [eb];exact r)
 have no:∀ i j,i≤j→j < n→B i=false→B j=false:=fun i j Kw hj e=>by
  cases ej:B j with
  | false=>rfl
  | true=>rw [mono i j Kw hj ej] at e;cases e
 -- the last part
 have fin:∀ dn up,dn≤up→up≤n→(∀ i,i < dn→B i=true)→(∀ i,up≤i→i < n→B i=false)→wpS (model prog w) A E s (Bv lf key arr b n dn up) Q st:=by
  intro dn up h1 h2 h3 h4
  unfold Bv
  refine En (FW (Fm (I:=fun x c st'=>st'=st∧∃ dn up,c=(none,dn,up)∧dn≤up∧up≤n∧up - dn≤n - x∧(∀ i,i < dn→B i=true)∧(∀ i,up≤i→i < n→B i=false))
   (Q:=fun c st'=>st'=st∧∃ k,c=(none,k,k)∧k≤n∧(∀ i,i < k→B i=true)∧(∀ i,k≤i→i < n→B i=false)) ?step ?fin ⟨rfl,dn,up,rfl,h1,h2,by omega,h3,h4⟩) ?post)
  case post =>
   rintro c st' ⟨rfl,k,rfl,a1,a2,a3⟩
   exact Eu (hq k a1 a2 a3)
  case fin =>
   rintro c st' ⟨rfl,dn,up,rfl,a1,a2,a3,a4,a5⟩
   have:dn=up:=by omega
   subst this
   exact ⟨rfl,dn,rfl,a2,a4,a5⟩
  case step =>
   rintro x c st' _ hx ⟨rfl,dn,up,rfl,a1,a2,a3,a4,a5⟩
   dsimp only
   by_cases hd:dn≥up
   ·refine av hd ?_
    have:dn=up:=by omega
    subst this
    exact Eu ⟨rfl,dn,rfl,a2,a4,a5⟩
   ·refine aw hd ?_
    refine En (ask (by omega) ?_)
    cases eb:B (dn+(up - dn) / 2) with
    | true =>
     simp only [Gb]
     exact Eu ⟨rfl,dn+(up - dn) / 2+1,up,rfl,by omega,a2,by omega,fun i hi=>mono i _ (by omega) (by omega) eb,a5⟩
    | false =>
     simp only [EB,FF]
     exact Eu ⟨rfl,dn,dn+(up - dn) / 2,rfl,by omega,by omega,by omega,a4,fun i hi1 hi2=>no _ i (by omega) hi2 eb⟩
 rw [zX]
 refine En (ask hh ?_)
 cases eh:B h with
 | true =>
  dsimp only
  refine av rfl ?_
  refine En (FW (Fm (I:=fun x c st'=>st'=st∧∃ la of,c=(none,la,of)∧la < of∧x+1≤of∧h+la < n∧B (h+la)=true)
   (Q:=fun c st'=>st'=st∧∃ la of,c=(none,la,of)∧la < of∧h+la < n∧B (h+la)=true∧(of≥n - h ∨ (h+of < n∧B (h+of)=false))) ?step ?fin ⟨rfl,0,1,rfl,by omega,by omega,by omega,eh⟩) ?post)
  case post =>
   rintro c st' ⟨rfl,la,of,rfl,a1,a2,a3,a4⟩
   dsimp only
   refine fin (h+la+1) (h+min of (n - h)) (by omega) (by omega) (fun i hi=>mono i _ (by omega) a2 a3) fun i hi1 hi2=>?_
   rcases a4 with a4 | ⟨a4,a5⟩
   ·omega
   ·exact no _ i (by omega) hi2 a5
  case fin =>
   rintro c st' ⟨rfl,la,of,rfl,a1,a2,a3,a4⟩
   exact ⟨rfl,la,of,rfl,a1,a3,a4,.inl (by omega)⟩
  case step =>
   rintro x c st' _ hx ⟨rfl,la,of,rfl,a1,a2,a3,a4⟩
   dsimp only
   by_cases ho:of≥n - h
   ·refine av ho ?_
    exact Eu ⟨rfl,la,of,rfl,a1,a3,a4,.inl ho⟩
   ·refine aw ho ?_
    refine En (ask (by omega) ?_)
    cases eb:B (h+of) with
    | true =>
     simp only [HQ,EB,FF]
     exact Eu ⟨rfl,of,2*of+1,rfl,by omega,by omega,by omega,eb⟩
    | false =>
     simp only [Bool.not_false,Gb]
     exact Eu ⟨rfl,la,of,rfl,a1,a3,a4,.inr ⟨by omega,eb⟩⟩
 | false =>
  dsimp only
  refine aw EH ?_
  refine En (FW (Fm (I:=fun x c st'=>st'=st∧∃ la of,c=(none,la,of)∧la < of∧x+1≤of∧la≤h∧B (h - la)=false)
   (Q:=fun c st'=>st'=st∧∃ la of,c=(none,la,of)∧la < of∧la≤h∧B (h - la)=false∧(of≥h+1 ∨ (of≤h∧B (h - of)=true))) ?step ?fin ⟨rfl,0,1,rfl,by omega,by omega,by omega,eh⟩) ?post)
  case post =>
   rintro c st' ⟨rfl,la,of,rfl,a1,a2,a3,a4⟩
   dsimp only
   refine fin (h+1 - min of (h+1)) (h - la) (by omega) (by omega) (fun i hi=>?_) fun i hi1 hi2=>no _ i hi1 hi2 a3
   rcases a4 with a4 | ⟨a4,a5⟩
   ·omega
   ·exact mono i _ (by omega) (by omega) a5
  case fin =>
   rintro c st' ⟨rfl,la,of,rfl,a1,a2,a3,a4⟩
   exact ⟨rfl,la,of,rfl,a1,a3,a4,.inl (by omega)⟩
  case step =>
   rintro x c st' _ hx ⟨rfl,la,of,rfl,a1,a2,a3,a4⟩
   dsimp only
   by_cases ho:of≥h+1
   ·refine av ho ?_
    exact Eu ⟨rfl,la,of,rfl,a1,a3,a4,.inl ho⟩
   ·refine aw ho ?_
    refine En (ask (by omega) ?_)
    cases eb:B (h - of) with
    | false =>
     simp only [EB,FF]
     exact Eu ⟨rfl,of,2*of+1,rfl,by omega,by omega,by omega,eb⟩
    | true =>
     simp only [Gb]
     exact Eu ⟨rfl,la,of,rfl,a1,a3,a4,.inr ⟨by omega,eb⟩⟩
end
def mlo:Array Keyed→Array Keyed→StateT SortSt Sem (Array Keyed):=sortPriv% PySem.Builtin.mergeLo
def smg:Nat→StateT SortSt Sem Unit:=sortPriv% PySem.Builtin.setMinGallop
abbrev mDn (a b o:Array Keyed)(i j:Nat):Array Keyed:=o++a.extract i a.size++b.extract j b.size
abbrev mLa (a b o:Array Keyed)(i j:Nat):Array Keyed:=o++b.extract j b.size++a.extract i a.size
theorem zY (a b:Array Keyed):mlo a b=(do
 rule "list.sort.merge-lo"
 let mut o:Array Keyed:=#[← elem' b 0]
 let mut i:=0
 let mut j:=1
 if j == b.size then return mDn a b o i j
 if i+1 == a.size then return mLa a b o i j
 let mut g:=gallopOf (← get)
 for _ in [0:a.size+b.size] do
  let mut p:=0
  let mut q:=0
  for _ in [0:a.size+b.size] do
   let some w ← lt' (← elem' b j) (← elem' a i) | return mDn a b o i j
   if w then
    o:=o.push (← elem' b j)
    j:=j+1
    q:=q+1
    p:=0
    if j == b.size then return mDn a b o i j
    if q≥g then break
   else
    o:=o.push (← elem' a i)
    i:=i+1
    p:=p+1
    q:=0
    if i+1 == a.size then return mLa a b o i j
    if p≥g then break
  rule "list.sort.gallop"
  g:=g+1
  for _ in [0:a.size+b.size] do
   if g > 1 then g:=g - 1
   smg g
   let some k ← gal false (← elem' b j) a i (a.size - i) 0 | return mDn a b o i j
   p:=k
   if k > 0 then
    o:=o++a.extract i (i+k)
    i:=i+k
    if i+1 == a.size then return mLa a b o i j
    if i == a.size then return mDn a b o i j
   o:=o.push (← elem' b j)
   j:=j+1
   if j == b.size then return mDn a b o i j
   let some k ← gal true (← elem' a i) b j (b.size - j) 0 | return mDn a b o i j
   q:=k
   if k > 0 then
    o:=o++b.extract j (j+k)
    j:=j+k
    if j == b.size then return mDn a b o i j
   o:=o.push (← elem' a i)
   i:=i+1
   if i+1 == a.size then return mLa a b o i j
   if p < 7 && q < 7 then break
  g:=g+1
  smg g
 unsupported "internal:list.sort.merge-bound"):=rfl
end Tv
namespace Tv
open PySem PyProof.Rows
variable {κ:KeyKind} {kd:SortKind}
def lek (κ:KeyKind)(x y:Keyed):Prop:=κ.kle (kof κ x) (kof κ y)
theorem d9 {x y z:Keyed}(h:lek κ x y)(g:lek κ y z):lek κ x z:=GH h g
theorem ug (x:Keyed):lek κ x x:=FD _
def Srt (κ:KeyKind)(l:List Keyed):Prop:=l.Pairwise (lek κ)
theorem Srt.drop {l:List Keyed}(h:Srt κ l)(i:Nat):Srt κ (l.drop i):=List.Pairwise.sublist (List.drop_sublist i l) h
theorem Srt.take {l:List Keyed}(h:Srt κ l)(i:Nat):Srt κ (l.take i):=List.Pairwise.sublist (List.take_sublist i l) h
def Lel (κ:KeyKind)(l m:List Keyed):Prop:=∀ x∈l,∀ y∈m,lek κ x y
theorem a_ {l m:List Keyed}:Srt κ (l++m) ↔ Srt κ l∧Srt κ m∧Lel κ l m:=List.pairwise_append
theorem Srt.at {l:List Keyed}(h:Srt κ l){i j:Nat}{x y:Keyed}(Kw:i≤j)(hx:l[i]? = some x)(hy:l[j]? = some y):lek κ x y:=by
 by_cases e:i=j
 ·subst e
  rw [hx] at hy
  cases hy
  exact ug _
 ·obtain ⟨h1,e1⟩:=Ed.mp hx
  obtain ⟨h2,e2⟩:=Ed.mp hy
  have:=FE.mp h i j h1 h2 (by omega)
  rw [e1,e2] at this
  exact this
theorem bP {l:List Keyed}{i:Nat}{x:Keyed}(h:l[i]? = some x):l.drop i=x::l.drop (i+1):=by
 obtain ⟨h1,e1⟩:=Ed.mp h
 rw [E4 h1,e1]
theorem a8 {l:List Keyed}{i:Nat}{x:Keyed}(h:l[i]? = some x):l.take (i+1)=l.take i++[x]:=by
 rw [GS,h]
 rfl
structure Mc (κ:KeyKind) (A B O:List Keyed) (i j:Nat):Prop where
 pm:O.Perm (A.take i++B.take j)
 so:Srt κ O
 la:Lel κ O (A.drop i)
 lb:Lel κ O (B.drop j)
 hi:i≤A.length
 hj:j≤B.length
theorem Mc.pushA {A B O:List Keyed}{i j:Nat}(M:Mc κ A B O i j)(sA:Srt κ A){x:Keyed}(h:A[i]? = some x)(hx:Lel κ [x] (B.drop j)):Mc κ A B (O++[x]) (i+1) j:=by
 have ed:=bP h
 have sd:=sA.drop i
 rw [ed] at sd
 have sd':=GN.mp sd
 refine ⟨?_,a_.mpr ⟨M.so,IR _ _,fun o ho y hy=>?_⟩,fun o ho y hy=>?_,fun o ho y hy=>?_,(Ed.mp h).1,M.hj⟩
 ·rw [a8 h]
  refine (M.pm.append_right [x]).trans ?_
  rw [Ek,Ek]
  exact FH _ Fi
 ·rw [Ec] at hy
  subst hy
  exact M.la o ho _ (by rw [ed];exact Er)
 ·rcases Ew.mp ho with ho | ho
  ·exact M.la o ho y (by rw [ed];exact Eg _ hy)
  ·rw [Ec] at ho
   subst ho
   exact sd'.1 y hy
 ·rcases Ew.mp ho with ho | ho
  ·exact M.lb o ho y hy
  ·exact hx o ho y hy
theorem Mc.pushB {A B O:List Keyed}{i j:Nat}(M:Mc κ A B O i j)(sB:Srt κ B){x:Keyed}(h:B[j]? = some x)(hx:Lel κ [x] (A.drop i)):Mc κ A B (O++[x]) i (j+1):=by
 have ed:=bP h
 have sd:=sB.drop j
 rw [ed] at sd
 have sd':=GN.mp sd
 refine ⟨?_,a_.mpr ⟨M.so,IR _ _,fun o ho y hy=>?_⟩,fun o ho y hy=>?_,fun o ho y hy=>?_,M.hi,(Ed.mp h).1⟩
 ·rw [a8 h]
  refine (M.pm.append_right [x]).trans ?_
  rw [Ek]
 ·rw [Ec] at hy
  subst hy
  exact M.lb o ho _ (by rw [ed];exact Er)
 ·rcases Ew.mp ho with ho | ho
  ·exact M.la o ho y hy
  ·exact hx o ho y hy
 ·rcases Ew.mp ho with ho | ho
  ·exact M.lb o ho y (by rw [ed];exact Eg _ hy)
  ·rw [Ec] at ho
   subst ho
   exact sd'.1 y hy
theorem Mc.pushAs {A B O:List Keyed}{i j:Nat}(M:Mc κ A B O i j)(sA:Srt κ A):∀ k,i+k≤A.length→Lel κ ((A.drop i).take k) (B.drop j)→Mc κ A B (O++(A.drop i).take k) (i+k) j
 | 0,_,_=>by simpa using M
 | k+1,hk,hl=>by
  have Kq:i+k < A.length:=by omega
  have e:(A.drop i)[k]? = some A[i+k]:=by rw [E8,fu Kq]
  have et:(A.drop i).take (k+1)=(A.drop i).take k++[A[i+k]]:=a8 e
  rw [et] at hl ⊢
  have ih:=Mc.pushAs M sA k (by omega) fun x hx=>hl x (ER _ hx)
  have:=ih.pushA sA (fu Kq) fun x hx=>hl x (Ex _ hx)
  rw [Ek] at this
  exact this
theorem Mc.pushBs {A B O:List Keyed}{i j:Nat}(M:Mc κ A B O i j)(sB:Srt κ B):∀ k,j+k≤B.length→Lel κ ((B.drop j).take k) (A.drop i)→Mc κ A B (O++(B.drop j).take k) i (j+k)
 | 0,_,_=>by simpa using M
 | k+1,hk,hl=>by
  have Kq:j+k < B.length:=by omega
  have e:(B.drop j)[k]? = some B[j+k]:=by rw [E8,fu Kq]
  have et:(B.drop j).take (k+1)=(B.drop j).take k++[B[j+k]]:=a8 e
  rw [et] at hl ⊢
  have ih:=Mc.pushBs M sB k (by omega) fun x hx=>hl x (ER _ hx)
  have:=ih.pushB sB (fu Kq) fun x hx=>hl x (Ex _ hx)
  rw [Ek] at this
  exact this
def Mg (κ:KeyKind)(A B R:List Keyed):Prop:=R.Perm (A++B)∧Srt κ R
theorem Mc.perm {A B O:List Keyed}{i j:Nat}(M:Mc κ A B O i j):(O++(A.drop i++B.drop j)).Perm (A++B):=by
 have h1:(O++(A.drop i++B.drop j)).Perm ((A.take i++B.take j)++(A.drop i++B.drop j)):=M.pm.append_right _
 refine h1.trans ?_
 have h2:((A.take i++B.take j)++(A.drop i++B.drop j)).Perm ((A.take i++A.drop i)++(B.take j++B.drop j)):=by
  rw [Ek,Ek]
  refine FH _ ?_
  rw [← Ek,← Ek]
  exact Fy _ Fi
 rw [EI,EI] at h2
 exact h2
theorem Mc.done {A B O:List Keyed}{i j:Nat}(M:Mc κ A B O i j)(sA:Srt κ A)(sB:Srt κ B)(h:i=A.length ∨ j=B.length):Mg κ A B (O++A.drop i++B.drop j):=by
 refine ⟨by rw [Ek];exact M.perm,?_⟩
 rw [Ek]
 refine a_.mpr ⟨M.so,a_.mpr ⟨sA.drop i,sB.drop j,fun x hx y hy=>?_⟩,fun o ho y hy=>?_⟩
 ·rcases h with h | h
  ·subst h;rw [I_] at hx;cases hx
  ·subst h;rw [I_] at hy;cases hy
 ·rcases Ew.mp hy with hy | hy
  ·exact M.la o ho y hy
  ·exact M.lb o ho y hy
theorem Mc.last {A B O:List Keyed}{i j:Nat}(M:Mc κ A B O i j)(sA:Srt κ A)(sB:Srt κ B)(h:i+1=A.length)(hl:∀ z,A[A.length - 1]? = some z→Lel κ B [z]):Mg κ A B (O++B.drop j++A.drop i):=by
 have Kq:i < A.length:=by omega
 have ed:A.drop i=[A[i]]:=by rw [bP (fu Kq),Hi (by omega)]
 refine ⟨?_,?_⟩
 ·refine List.Perm.trans ?_ M.perm
  rw [Ek]
  exact FH _ Fi
 ·rw [Ek]
  refine a_.mpr ⟨M.so,a_.mpr ⟨sB.drop j,sA.drop i,fun x hx y hy=>?_⟩,fun o ho y hy=>?_⟩
  ·rw [ed] at hy
   exact hl A[i] (by rw [show A.length - 1=i by omega];exact fu Kq) x (GW hx) y hy
  ·rcases Ew.mp hy with hy | hy
   ·exact M.lb o ho y hy
   ·exact M.la o ho y hy
theorem me (a b o:Array Keyed)(i j:Nat):(mDn a b o i j).toList=o.toList++a.toList.drop i++b.toList.drop j:=by
 simp [mDn,Fw,E9]
theorem mf (a b o:Array Keyed)(i j:Nat):(mLa a b o i j).toList=o.toList++b.toList.drop j++a.toList.drop i:=by
 simp [mLa,Fw,E9]
theorem mh (a:Array Keyed)(i k:Nat):(a.extract i (i+k)).toList=(a.toList.drop i).take k:=by
 simp [Fw,List.take_drop]
theorem mi {lf:Bool}{key x y:κ.α}(h:κ.kle x y)(hb:bdB κ lf key y=true):bdB κ lf key x=true:=by
 unfold bdB at hb ⊢
 cases lf with
 | true=>exact KeyOrd.klt_of_kle_of_klt h hb
 | false =>
  have hb:(!κ.blt key y)=true:=hb
  have hy:κ.kle y key:=by show κ.blt key y=false;simpa using hb
  have:=GH h hy
  show (!κ.blt key x)=true
  have this:κ.blt key x=false:=this
  rw [this]
  rfl
end Tv
namespace Tv
open PySem PyProof.Rows
section
variable {prog:Program} {w:World} {A:Around} {E:Value→Shared→Prop} {s:Shared} {κ:KeyKind} {kd:SortKind}
structure Ok (kd:SortKind) (st st':SortSt):Prop where
 tb:TB kd st'
 ar:arrOf st'=arrOf st
 pd:pendingOf st'=pendingOf st
theorem Ok.refl {st:SortSt}(h:TB kd st):Ok kd st st:=⟨h,rfl,rfl⟩
theorem iN {st st':SortSt}{g:Nat}{Q:Unit→SortSt→Prop}(h:Ok kd st st')(q:∀ Ko,Ok kd st Ko→Q () Ko):wpS (model prog w) A E s (smg g) Q st':=by
 refine G6 (q _ ⟨⟨h.tb.kind,h.tb.failed⟩,h.ar,h.pd⟩)
theorem aN {st:SortSt}{arr:Array Keyed}{i:Nat}{x:Keyed}{Q:Keyed→SortSt→Prop}(e:arr.toList[i]? = some x)(h:Q x st):wpS (model prog w) A E s (elem' arr i) Q st:=by
 have e':arr[i]? = some x:=by simpa using e
 rw [elem'_eq,e']
 exact Eu h
theorem mj {st:SortSt}{lf:Bool}{key:Keyed}{arr:Array Keyed}{i:Nat}{Q:Option Nat→SortSt→Prop}(hO:Lt1 κ prog w A s kd)(hB:TB kd st)(hk:Gd κ key)(hg:∀ x∈arr.toList,Gd κ x)(sa:Srt κ arr.toList)(hi:i < arr.size)
  (hq:∀ k,i+k≤arr.size→(∀ x∈(arr.toList.drop i).take k,bdB κ lf (kof κ key) (kof κ x)=true)→(∀ x∈arr.toList.drop (i+k),bdB κ lf (kof κ key) (kof κ x)=false)→Q (some k) st) :
  wpS (model prog w) A E s (gal lf key arr i (arr.size - i) 0) Q st:=by
 have hl:arr.toList.length=arr.size:=Ef
 refine kF hO hB hk (fun t=>match arr.toList[i+t]? with | some p=>bdB κ lf (kof κ key) (kof κ p) | none=>false) (by omega) (fun t ht=>?_) (fun t u htu hu hb=>?_) (fun k hk' h1 h2=>hq k (by omega) (fun x hx=>?_) fun x hx=>?_)
 ·have Kq:i+t < arr.toList.length:=by omega
  have e:=fu Kq
  refine ⟨arr.toList[i+t],by simpa using e,hg _ (Fc Kq),?_⟩
  rw [e]
 ·have h1:i+t < arr.toList.length:=by omega
  have h2:i+u < arr.toList.length:=by omega
  have e1:=fu h1
  have e2:=fu h2
  rw [e2] at hb
  rw [e1]
  exact mi (sa.at (by omega) e1 e2) hb
 ·obtain ⟨t,e⟩:=Fx hx
  have ht:t < k:=by
   have:=(Ed.mp e).1
   rw [Es] at this
   omega
  rw [Hf,if_pos ht,E8] at e
  have:=h1 t ht
  rw [e] at this
  exact this
 ·obtain ⟨t,e⟩:=Fx hx
  rw [E8] at e
  have Kq:=(Ed.mp e).1
  have:=h2 (k+t) (by omega) (by omega)
  rw [show i+(k+t)=i+k+t by omega,e] at this
  exact this
theorem not_lt {x y:Keyed}(h:κ.blt (kof κ x) (kof κ y)=false):lek κ y x:=h
theorem uh {x y:Keyed}(h:κ.blt (kof κ x) (kof κ y)=true):lek κ x y:=GU h
theorem fS {l:List Keyed}(sl:Srt κ l){i:Nat}{x y:Keyed}(e:l[i]? = some y)(h:lek κ x y):Lel κ [x] (l.drop i):=fun z hz t ht=>by
 rw [Ec] at hz
 subst hz
 rw [bP e] at ht
 rcases Et.mp ht with rfl | ht
 ·exact h
 ·have sd:=sl.drop i
  rw [bP e] at sd
  exact d9 h ((GN.mp sd).1 t ht)
abbrev MSt:=Option (Array Keyed) × Array Keyed × Nat × Nat × Nat × Nat × Nat
def jp3 (a b:Array Keyed)(i g p q:Nat)(o:Array Keyed)(j:Nat):StateT SortSt Sem (ForInStep MSt):=do
 let e ← elem' a i
 if (i+1+1 == a.size)=true then pure (.done (some (mLa a b (o.push e) (i+1) j),o.push e,i+1,j,g,p,q))
 else if (decide (p < 7) && decide (q < 7))=true then pure (.done (none,o.push e,i+1,j,g,p,q)) else pure (.yield (none,o.push e,i+1,j,g,p,q))
def jp2 (a b:Array Keyed)(j g p q:Nat)(o:Array Keyed)(i:Nat):StateT SortSt Sem (ForInStep MSt):=do
 let e ← elem' b j
 if (j+1 == b.size)=true then pure (.done (some (mDn a b (o.push e) i (j+1)),o.push e,i,j+1,g,p,q))
 else do
  let f ← elem' a i
  let y ← gal true f b (j+1) (b.size - (j+1)) 0
  match y with
  | some k=>if k > 0 then (if (j+1+k == b.size)=true then pure (.done (some (mDn a b (o.push e++b.extract (j+1) (j+1+k)) i (j+1+k)),o.push e++b.extract (j+1) (j+1+k),i,j+1+k,g,p,k)) else jp3 a b i g p k (o.push e++b.extract (j+1) (j+1+k)) (j+1+k)) else jp3 a b i g p k (o.push e) (j+1)
  | _=>pure (.done (some (mDn a b (o.push e) i (j+1)),o.push e,i,j+1,g,p,q))
def jp1 (a b:Array Keyed)(o:Array Keyed)(i j p q g:Nat):StateT SortSt Sem (ForInStep MSt):=do
 smg g
 let e ← elem' b j
 let y ← gal false e a i (a.size - i) 0
 match y with
 | some k=>if k > 0 then (if (i+k+1 == a.size)=true then pure (.done (some (mLa a b (o++a.extract i (i+k)) (i+k) j),o++a.extract i (i+k),i+k,j,g,k,q)) else if (i+k == a.size)=true then pure (.done (some (mDn a b (o++a.extract i (i+k)) (i+k) j),o++a.extract i (i+k),i+k,j,g,k,q)) else jp2 a b j g k q (o++a.extract i (i+k)) (i+k)) else jp2 a b j g k q o i
 | _=>pure (.done (some (mDn a b o i j),o,i,j,g,p,q))
def Pst (κ:KeyKind)(a b:Array Keyed)(x:Nat)(st:SortSt)(r:ForInStep MSt)(st':SortSt):Prop:=match r with
 | .done c=>((∃ r z,c=(some r,z)∧Mg κ a.toList b.toList r.toList) ∨ ∃ o i j g p q,c=(none,o,i,j,g,p,q)∧Mc κ a.toList b.toList o.toList i j∧i+1 < a.size∧j < b.size∧x+2≤i+j)∧Ok kd st st'
 | .yield c=>∃ o i j g p q,c=(none,o,i,j,g,p,q)∧Mc κ a.toList b.toList o.toList i j∧i+1 < a.size∧j < b.size∧x+2≤i+j∧Ok kd st st'
structure Two (κ:KeyKind) (a b:Array Keyed):Prop where
 ga:∀ x∈a.toList,Gd κ x
 gb:∀ x∈b.toList,Gd κ x
 sa:Srt κ a.toList
 sb:Srt κ b.toList
 hl:∀ z,a.toList[a.size - 1]? = some z→Lel κ b.toList [z]
theorem Two.atA {a b:Array Keyed}(T:Two κ a b){i:Nat}(hi:i < a.size):∃ x,a.toList[i]? = some x∧Gd κ x:=⟨a.toList[i]'(by rw [Ef]; exact hi),fu (by rw [Ef]; exact hi),T.ga _ (Fc _)⟩
theorem Two.atB {a b:Array Keyed}(T:Two κ a b){i:Nat}(hi:i < b.size):∃ x,b.toList[i]? = some x∧Gd κ x:=⟨b.toList[i]'(by rw [Ef]; exact hi),fu (by rw [Ef]; exact hi),T.gb _ (Fc _)⟩
theorem Two.dn {a b:Array Keyed}(T:Two κ a b){o:Array Keyed}{i j:Nat}(M:Mc κ a.toList b.toList o.toList i j)(h:i=a.size ∨ j=b.size):Mg κ a.toList b.toList (mDn a b o i j).toList:=by
 rw [me]
 exact M.done T.sa T.sb (by rw [Ef,Ef];exact h)
theorem Two.ls {a b:Array Keyed}(T:Two κ a b){o:Array Keyed}{i j:Nat}(M:Mc κ a.toList b.toList o.toList i j)(h:i+1=a.size):Mg κ a.toList b.toList (mLa a b o i j).toList:=by
 rw [mf]
 exact M.last T.sa T.sb (by rw [Ef];exact h) (by rw [Ef];exact T.hl)
theorem qo {st st':SortSt}{a b o:Array Keyed}{i j g p q x:Nat}{xa:Keyed}(T:Two κ a b)(M:Mc κ a.toList b.toList o.toList i j)(hi:i+1 < a.size)(hj:j < b.size)(hx:x+2≤i+j)(ok:Ok kd st st')(KO:a.toList[i]? = some xa)(hle:Lel κ [xa] (b.toList.drop j)) :
  wpS (model prog w) A E s (jp3 a b i g p q o j) (Pst (kd:=kd) κ a b x st) st':=by
 unfold jp3
 refine En (aN KO ?_)
 have M':Mc κ a.toList b.toList (o.push xa).toList (i+1) j:=by rw [Gx];exact M.pushA T.sa KO hle
 by_cases hia:i+1+1=a.size
 ·refine av (by simpa using hia) ?_
  exact Eu ⟨.inl ⟨_,_,rfl,T.ls M' hia⟩,ok⟩
 ·refine aw (by simpa using hia) ?_
  by_cases hpq:(decide (p < 7) && decide (q < 7))=true
  ·refine av hpq ?_
   exact Eu ⟨.inr ⟨_,_,_,_,_,_,rfl,M',by omega,hj,by omega⟩,ok⟩
  ·refine aw hpq ?_
   exact Eu ⟨_,_,_,_,_,_,rfl,M',by omega,hj,by omega,ok⟩
theorem fj {x y:Keyed}:bdB κ false (kof κ x) (kof κ y)=true→lek κ y x:=fun h=>by
 unfold bdB at h
 have h:(!κ.blt (kof κ x) (kof κ y))=true:=h
 show κ.blt (kof κ x) (kof κ y)=false
 simpa using h
theorem fT {x y:Keyed}:bdB κ false (kof κ x) (kof κ y)=false→lek κ x y:=fun h=>by
 unfold bdB at h
 have h:(!κ.blt (kof κ x) (kof κ y))=false:=h
 exact uh (by simpa using h)
theorem kG {x y:Keyed}:bdB κ true (kof κ x) (kof κ y)=true→lek κ y x:=fun h=>uh h
theorem iO {x y:Keyed}:bdB κ true (kof κ x) (kof κ y)=false→lek κ x y:=fun h=>h
theorem qp {st st':SortSt}{a b o:Array Keyed}{i j g p q x:Nat}{xb:Keyed}(hO:Lt1 κ prog w A s kd)(T:Two κ a b)(M:Mc κ a.toList b.toList o.toList i j)(hi:i+1 < a.size)(hj:j < b.size)(hx:x+2≤i+j)(ok:Ok kd st st')(KN:b.toList[j]? = some xb)(hle:Lel κ [xb] (a.toList.drop i)) :
  wpS (model prog w) A E s (jp2 a b j g p q o i) (Pst (kd:=kd) κ a b x st) st':=by
 have la:a.toList.length=a.size:=Ef
 have lb:b.toList.length=b.size:=Ef
 unfold jp2
 refine En (aN KN ?_)
 have M':Mc κ a.toList b.toList (o.push xb).toList i (j+1):=by rw [Gx];exact M.pushB T.sb KN hle
 by_cases hjb:j+1=b.size
 ·refine av (by simpa using hjb) ?_
  exact Eu ⟨.inl ⟨_,_,rfl,T.dn M' (.inr hjb)⟩,ok⟩
 refine aw (by simpa using hjb) ?_
 obtain ⟨xa,KO,gxa⟩:=T.atA (i:=i) (by omega)
 refine En (aN KO (En (mj hO ok.tb gxa T.gb T.sb (by omega) fun k hk t1 t2=>?_)))
 dsimp only
 have MB:Mc κ a.toList b.toList ((o.push xb).toList++(b.toList.drop (j+1)).take k) i (j+1+k):=M'.pushBs T.sb k (by omega) fun z hz=>fS T.sa KO (kG (t1 z hz)) z (Ec.mpr rfl)
 have rest:Lel κ [xa] (b.toList.drop (j+1+k)):=fun z hz y hy=>by
  rw [Ec] at hz
  subst hz
  exact iO (t2 y hy)
 by_cases hk0:k > 0
 ·refine av hk0 ?_
  have MB':Mc κ a.toList b.toList (o.push xb++b.extract (j+1) (j+1+k)).toList i (j+1+k):=by rw [Ic,mh];exact MB
  by_cases hje:j+1+k=b.size
  ·refine av (by simpa using hje) ?_
   exact Eu ⟨.inl ⟨_,_,rfl,T.dn MB' (.inr hje)⟩,ok⟩
  ·refine aw (by simpa using hje) ?_
   exact qo T MB' hi (by omega) (by omega) ok KO rest
 ·refine aw hk0 ?_
  have:k=0:=by omega
  subst this
  exact qo T M' hi (by omega) (by omega) ok KO rest
theorem qq {st st':SortSt}{a b o:Array Keyed}{i j g p q x:Nat}(hO:Lt1 κ prog w A s kd)(T:Two κ a b)(M:Mc κ a.toList b.toList o.toList i j)(hi:i+1 < a.size)(hj:j < b.size)(hx:x+2≤i+j)(ok:Ok kd st st') :
  wpS (model prog w) A E s (jp1 a b o i j p q g) (Pst (kd:=kd) κ a b x st) st':=by
 have la:a.toList.length=a.size:=Ef
 have lb:b.toList.length=b.size:=Ef
 unfold jp1
 refine En (iN ok fun st3 ok3=>?_)
 obtain ⟨xb,KN,gxb⟩:=T.atB hj
 refine En (aN KN (En (mj hO ok3.tb gxb T.ga T.sa (by omega) fun k hk t1 t2=>?_)))
 dsimp only
 have MA:Mc κ a.toList b.toList (o.toList++(a.toList.drop i).take k) (i+k) j:=M.pushAs T.sa k (by omega) fun z hz=>fS T.sb KN (fj (t1 z hz)) z (Ec.mpr rfl)
 have rest:Lel κ [xb] (a.toList.drop (i+k)):=fun z hz y hy=>by
  rw [Ec] at hz
  subst hz
  exact fT (t2 y hy)
 by_cases hk0:k > 0
 ·refine av hk0 ?_
  have MA':Mc κ a.toList b.toList (o++a.extract i (i+k)).toList (i+k) j:=by rw [Ic,mh];exact MA
  by_cases h1:i+k+1=a.size
  ·refine av (by simpa using h1) ?_
   exact Eu ⟨.inl ⟨_,_,rfl,T.ls MA' h1⟩,ok3⟩
  ·refine aw (by simpa using h1) ?_
   by_cases h2:i+k=a.size
   ·refine av (by simpa using h2) ?_
    exact Eu ⟨.inl ⟨_,_,rfl,T.dn MA' (.inl h2)⟩,ok3⟩
   ·refine aw (by simpa using h2) ?_
    exact qp hO T MA' (by omega) hj (by omega) ok3 KN rest
 ·refine aw hk0 ?_
  have:k=0:=by omega
  subst this
  exact qp hO T M hi hj hx ok3 KN rest
abbrev TS (α:Type):=StateT SortSt Sem α
abbrev T6:=Option (Array Keyed) × Array Keyed × Nat × Nat × Nat × Nat
abbrev T5:=Option (Array Keyed) × Array Keyed × Nat × Nat × Nat
def mBe {α:Type}(c:Option (Array Keyed) × α):TS (Array Keyed):=match c.1 with
 | some r=>pure r
 | none=>unsupported "internal:list.sort.merge-bound"
def mB1 (a b:Array Keyed)(g:Nat):T6→TS (ForInStep T6):=fun (_,o,i,j,p,q)=>do
 let y ← elem' b j
 let x ← elem' a i
 let w ← lt' y x
 match w with
 | some w =>
  if w=true then do
   let e ← elem' b j
   if (j+1 == b.size)=true then pure (.done (some (mDn a b (o.push e) i (j+1)),o.push e,i,j+1,0,q+1))
   else if q+1≥g then pure (.done (none,o.push e,i,j+1,0,q+1)) else pure (.yield (none,o.push e,i,j+1,0,q+1))
  else do
   let e ← elem' a i
   if (i+1+1 == a.size)=true then pure (.done (some (mLa a b (o.push e) (i+1) j),o.push e,i+1,j,p+1,0))
   else if p+1≥g then pure (.done (none,o.push e,i+1,j,p+1,0)) else pure (.yield (none,o.push e,i+1,j,p+1,0))
 | _=>pure (.done (some (mDn a b o i j),o,i,j,p,q))
def mB3 (a b:Array Keyed):MSt→TS (ForInStep MSt):=fun (_,o,i,j,g,p,q)=>if g > 1 then jp1 a b o i j p q (g - 1) else jp1 a b o i j p q g
def mB2 (a b:Array Keyed)(g:Nat):T6→TS (ForInStep T5)
 | (some r,o,i,j,_)=>pure (.done (some r,o,i,j,g))
 | (none,o,i,j,p,q)=>do
  rule "list.sort.gallop"
  match ← forIn [0:a.size+b.size] ((none,o,i,j,g+1,p,q):MSt) fun _ d=>mB3 a b d with
  | (some r,o,i,j,g,_)=>pure (.done (some r,o,i,j,g))
  | (none,o,i,j,g,_)=>do
   smg (g+1)
   pure (.yield (none,o,i,j,g+1))
def mB0 (a b:Array Keyed):T5→TS (ForInStep T5):=fun (_,o,i,j,g)=>do
 let d ← forIn [0:a.size+b.size] ((none,o,i,j,0,0):T6) fun _ d=>mB1 a b g d
 mB2 a b g d
theorem xo (a b:Array Keyed):mlo a b=(do
 rule "list.sort.merge-lo"
 let e ← elem' b 0
 if (1 == b.size)=true then pure (mDn a b #[e] 0 1)
 else if (0+1 == a.size)=true then pure (mLa a b #[e] 0 1)
 else do
  let st ← get
  let c ← forIn [0:a.size+b.size] ((none,#[e],0,1,gallopOf st):T5) fun _ c=>mB0 a b c
  mBe c):=by
 rw [zY]
 refine Ey (bind _) (funext fun u=>Ey (bind _) (funext fun e=>Ey (ite _ _) (Ey (ite _ _) (Ey (bind _) (funext fun st=>?_)))))
 refine congr (Ey bind (Ey (forIn _ _) (funext fun x=>funext fun c=>?_))) (funext fun c=>?_)
 ·refine congr (Ey bind (Ey (forIn _ _) (funext fun y=>funext fun d=>rfl))) (funext fun d=>?_)
  rcases d with ⟨_ | r,d⟩
  ·refine Ey (bind _) (funext fun u=>?_)
   refine congr (Ey bind (Ey (forIn _ _) (funext fun y=>funext fun d=>rfl))) (funext fun d=>?_)
   rcases d with ⟨_ | r,d⟩ <;> rfl
  ·rfl
 ·rcases c with ⟨_ | r,c⟩ <;> rfl
theorem xp {st:SortSt}{a b:Array Keyed}{Q:Array Keyed→SortSt→Prop}(hO:Lt1 κ prog w A s kd)(hB:TB kd st)(ga:∀ x∈a.toList,Gd κ x)(gb:∀ x∈b.toList,Gd κ x)(sa:Srt κ a.toList)(sb:Srt κ b.toList)(h0:0 < a.size)(h1:0 < b.size)
  (hf:∀ x y,a.toList[0]? = some x→b.toList[0]? = some y→lek κ y x) (hl:∀ z,a.toList[a.size - 1]? = some z→Lel κ b.toList [z])
  (hq:∀ r st',Ok kd st st'→Mg κ a.toList b.toList r.toList→Q r st'):wpS (model prog w) A E s (mlo a b) Q st:=by
 have la:a.toList.length=a.size:=Ef
 have lb:b.toList.length=b.size:=Ef
 have hl:∀ z,a.toList[a.toList.length - 1]? = some z→Lel κ b.toList [z]:=by rw [la];exact hl
 have atA:∀ {i:Nat},i < a.size→∃ x,a.toList[i]? = some x∧Gd κ x:=fun {i} hi=>⟨a.toList[i]'(by omega),fu (by omega),ga _ (Fc _)⟩
 have atB:∀ {i:Nat},i < b.size→∃ x,b.toList[i]? = some x∧Gd κ x:=fun {i} hi=>⟨b.toList[i]'(by omega),fu (by omega),gb _ (Fc _)⟩
 rw [xo]
 refine En (Ju (Gh ⟨rfl,?_⟩))
 obtain ⟨y0,ey0,gy0⟩:=atB h1
 obtain ⟨x0,ex0,gx0⟩:=atA h0
 refine En (aN ey0 ?_)
 have M0:Mc κ a.toList b.toList [y0] 0 1:=by
  have:Mc κ a.toList b.toList ([]++[y0]) 0 (0+1):=Mc.pushB (O:=[]) (i:=0) (j:=0) ⟨G0 _,.nil,(fun x hx=>by cases hx),(fun x hx=>by cases hx),E1 _,E1 _⟩ sb ey0 (fS sa ex0 (hf _ _ ex0 ey0))
  exact this
 have dn:∀ {o:Array Keyed} {i j:Nat},Mc κ a.toList b.toList o.toList i j→(i=a.size ∨ j=b.size)→Mg κ a.toList b.toList (mDn a b o i j).toList:=fun M h=>by rw [me];exact M.done sa sb (by rw [la,lb];exact h)
 have ls:∀ {o:Array Keyed} {i j:Nat},Mc κ a.toList b.toList o.toList i j→i+1=a.size→Mg κ a.toList b.toList (mLa a b o i j).toList:=fun M h=>by rw [mf];exact M.last sa sb (by rw [la];exact h) hl
 by_cases hb1:1=b.size
 ·refine av (by simpa using hb1) ?_
  exact Eu (hq _ _ (.refl hB) (dn (o:=#[y0]) M0 (.inr hb1)))
 refine aw (by simpa using hb1) ?_
 by_cases ha1:0+1=a.size
 ·refine av (by simpa using ha1) ?_
  exact Eu (hq _ _ (.refl hB) (ls (o:=#[y0]) M0 ha1))
 refine aw (by simpa using ha1) ?_
 refine En (Ib ?_)
 refine En (FW (Fm (I:=fun x c st'=>∃ o i j g,c=(none,o,i,j,g)∧Mc κ a.toList b.toList o.toList i j∧i+1 < a.size∧j < b.size∧x+1≤i+j∧Ok kd st st')
  (Q:=fun c st'=>∃ r z,c=(some r,z)∧Mg κ a.toList b.toList r.toList∧Ok kd st st') ?step ?fin ⟨#[y0],0,1,_,rfl,M0,by omega,by omega,by omega,.refl hB⟩) ?post)
 case post =>
  rintro c st' ⟨r,z,rfl,m,ok⟩
  unfold mBe
  exact Eu (hq _ _ ok m)
 case fin =>
  rintro c st' ⟨o,i,j,g,rfl,M,hi,hj,hx,ok⟩
  omega
 case step =>
  rintro x c st1 _ hx ⟨o,i,j,g,rfl,M,hi,hj,Kw,ok1⟩
  unfold mB0
  dsimp only
  refine En (FW (Fm (I:=fun y c st'=>st'=st1∧∃ o i j p q,c=(none,o,i,j,p,q)∧Mc κ a.toList b.toList o.toList i j∧i+1 < a.size∧j < b.size∧x+1+y≤i+j)
   (Q:=fun c st'=>st'=st1∧((∃ r z,c=(some r,z)∧Mg κ a.toList b.toList r.toList) ∨ ∃ o i j p q,c=(none,o,i,j,p,q)∧Mc κ a.toList b.toList o.toList i j∧i+1 < a.size∧j < b.size∧x+2≤i+j)) ?step1 ?fin1 ⟨rfl,o,i,j,0,0,rfl,M,hi,hj,by omega⟩) ?post1)
  case fin1 =>
   rintro c st' ⟨rfl,o,i,j,p,q,rfl,M,hi,hj,hy⟩
   exact ⟨rfl,.inr ⟨o,i,j,p,q,rfl,M,hi,hj,by omega⟩⟩
  case step1 =>
   rintro y c st' _ hy ⟨rfl,o,i,j,p,q,rfl,M,hi,hj,Kw⟩
   unfold mB1
   dsimp only
   obtain ⟨xb,KN,gxb⟩:=atB hj
   obtain ⟨xa,KO,gxa⟩:=atA (i:=i) (by omega)
   refine En (aN KN (En (aN KO (En (jK hO ok1.tb gxb gxa ?_)))))
   cases eb:κ.blt (kof κ xb) (kof κ xa) with
   | true =>
    simp only [Gb]
    refine En (aN KN ?_)
    have M':Mc κ a.toList b.toList (o.push xb).toList i (j+1):=by rw [Gx];exact M.pushB sb KN (fS sa KO (uh eb))
    by_cases hjb:j+1=b.size
    ·refine av (by simpa using hjb) ?_
     exact Eu ⟨rfl,.inl ⟨_,_,rfl,dn M' (.inr hjb)⟩⟩
    ·refine aw (by simpa using hjb) ?_
     by_cases hqg:q+1≥g
     ·refine av hqg ?_
      exact Eu ⟨rfl,.inr ⟨_,_,_,_,_,rfl,M',hi,by omega,by omega⟩⟩
     ·refine aw hqg ?_
      exact Eu ⟨rfl,_,_,_,_,_,rfl,M',hi,by omega,by omega⟩
   | false =>
    simp only [EB,FF]
    refine En (aN KO ?_)
    have M':Mc κ a.toList b.toList (o.push xa).toList (i+1) j:=by rw [Gx];exact M.pushA sa KO (fS sb KN (not_lt eb))
    by_cases hia:i+1+1=a.size
    ·refine av (by simpa using hia) ?_
     exact Eu ⟨rfl,.inl ⟨_,_,rfl,ls M' hia⟩⟩
    ·refine aw (by simpa using hia) ?_
     by_cases hpg:p+1≥g
     ·refine av hpg ?_
      exact Eu ⟨rfl,.inr ⟨_,_,_,_,_,rfl,M',by omega,hj,by omega⟩⟩
     ·refine aw hpg ?_
      exact Eu ⟨rfl,_,_,_,_,_,rfl,M',by omega,hj,by omega⟩
  case post1 =>
   rintro c st' ⟨rfl,⟨r,z,rfl,m⟩ | ⟨o,i,j,p,q,rfl,M,hi,hj,Kw⟩⟩
   ·exact Eu ⟨r,_,rfl,m,ok1⟩
   unfold mB2
   dsimp only
   refine En (Ju (Gh ⟨rfl,?_⟩))
   refine En (FW (Fm (I:=fun y c st'=>∃ o i j g p q,c=(none,o,i,j,g,p,q)∧Mc κ a.toList b.toList o.toList i j∧i+1 < a.size∧j < b.size∧x+2≤i+j∧Ok kd st st')
    (Q:=fun c st'=>((∃ r z,c=(some r,z)∧Mg κ a.toList b.toList r.toList) ∨ ∃ o i j g p q,c=(none,o,i,j,g,p,q)∧Mc κ a.toList b.toList o.toList i j∧i+1 < a.size∧j < b.size∧x+2≤i+j)∧Ok kd st st') ?step2 ?fin2 ⟨o,i,j,_,p,q,rfl,M,hi,hj,Kw,ok1⟩) ?post2)
   case fin2 =>
    rintro c st' ⟨o,i,j,g,p,q,rfl,M,hi,hj,Kw,ok⟩
    exact ⟨.inr ⟨o,i,j,g,p,q,rfl,M,hi,hj,Kw⟩,ok⟩
   case post2 =>
    rintro c st' ⟨⟨r,z,rfl,m⟩ | ⟨o,i,j,g,p,q,rfl,M,hi,hj,Kw⟩,ok⟩
    ·exact Eu ⟨r,_,rfl,m,ok⟩
    ·dsimp only
     exact En (iN ok fun Ko ok'=>Eu ⟨o,i,j,_,rfl,M,hi,hj,by omega,ok'⟩)
   case step2 =>
    rintro y c KR _ hy ⟨o,i,j,g,p,q,rfl,M,hi,hj,Kw,ok2⟩
    change wpS _ _ _ _ (if g > 1 then jp1 a b o i j p q (g - 1) else jp1 a b o i j p q g) _ _
    refine FW (Q:=Pst (kd:=kd) κ a b x st) ?_ fun r st' h=>?_
    rotate_left
    ·cases r with
     | done c=>exact h
     | yield c=>exact h
    by_cases hg:g > 1
    ·refine av hg ?_
     exact qq hO ⟨ga,gb,sa,sb,by rw [← la];exact hl⟩ M hi hj Kw ok2
    ·refine aw hg ?_
     exact qq hO ⟨ga,gb,sa,sb,by rw [← la];exact hl⟩ M hi hj Kw ok2
end
end Tv
namespace Tv
open PySem PyProof.Rows
def mhi:Array Keyed→Array Keyed→StateT SortSt Sem (Array Keyed):=sortPriv% PySem.Builtin.mergeHi
abbrev hDn (a b o:Array Keyed)(i j:Nat):Array Keyed:=a.extract 0 i++b.extract 0 j++o.reverse
abbrev hFb (a b o:Array Keyed)(i j:Nat):Array Keyed:=b.extract 0 j++a.extract 0 i++o.reverse
theorem zZ (a b:Array Keyed):mhi a b=(do
 rule "list.sort.merge-hi"
 let mut i:=a.size - 1
 let mut j:=b.size
 let mut o:Array Keyed:=#[← elem' a i]
 if i == 0 then return hDn a b o i j
 if j == 1 then return hFb a b o i j
 let mut g:=gallopOf (← get)
 for _ in [0:a.size+b.size] do
  let mut p:=0
  let mut q:=0
  for _ in [0:a.size+b.size] do
   let some w ← lt' (← elem' b (j - 1)) (← elem' a (i - 1)) | return hDn a b o i j
   if w then
    i:=i - 1
    o:=o.push (← elem' a i)
    p:=p+1
    q:=0
    if i == 0 then return hDn a b o i j
    if p≥g then break
   else
    j:=j - 1
    o:=o.push (← elem' b j)
    q:=q+1
    p:=0
    if j == 1 then return hFb a b o i j
    if q≥g then break
  rule "list.sort.gallop"
  g:=g+1
  for _ in [0:a.size+b.size] do
   if g > 1 then g:=g - 1
   smg g
   let some t ← gal false (← elem' b (j - 1)) a 0 i (i - 1) | return hDn a b o i j
   let k:=i - t
   p:=k
   if k > 0 then
    o:=o++(a.extract t i).reverse
    i:=t
    if i == 0 then return hDn a b o i j
   j:=j - 1
   o:=o.push (← elem' b j)
   if j == 1 then return hFb a b o i j
   let some t ← gal true (← elem' a (i - 1)) b 0 j (j - 1) | return hDn a b o i j
   let k:=j - t
   q:=k
   if k > 0 then
    o:=o++(b.extract t j).reverse
    j:=t
    if j == 1 then return hFb a b o i j
    if j == 0 then return hDn a b o i j
   i:=i - 1
   o:=o.push (← elem' a i)
   if i == 0 then return hDn a b o i j
   if p < 7 && q < 7 then break
  g:=g+1
  smg g
 unsupported "internal:list.sort.merge-bound"):=rfl
variable {κ:KeyKind} {kd:SortKind}
structure Mh (κ:KeyKind) (A B R:List Keyed) (i j:Nat):Prop where
 pm:R.Perm (A.drop i++B.drop j)
 so:Srt κ R
 la:Lel κ (A.take i) R
 lb:Lel κ (B.take j) R
 hi:i≤A.length
 hj:j≤B.length
theorem Mh.pushA {A B R:List Keyed}{i j:Nat}(M:Mh κ A B R (i+1) j)(sA:Srt κ A){x:Keyed}(h:A[i]? = some x)(hx:Lel κ (B.take j) [x]):Mh κ A B (x::R) i j:=by
 have et:=a8 h
 have st:=sA.take (i+1)
 rw [et] at st
 have st':=a_.mp st
 refine ⟨?_,GN.mpr ⟨fun y hy=>M.la x (by rw [et];simp) y hy,M.so⟩,fun y hy z hz=>?_,fun y hy z hz=>?_,by have:=M.hi;omega,M.hj⟩
 ·rw [bP h,List.cons_append]
  exact M.pm.cons x
 ·rcases Et.mp hz with rfl | hz
  ·exact st'.2.2 y hy _ (by simp)
  ·exact M.la y (by rw [et];exact ER _ hy) z hz
 ·rcases Et.mp hz with rfl | hz
  ·exact hx y hy _ (by simp)
  ·exact M.lb y hy z hz
theorem Mh.pushB {A B R:List Keyed}{i j:Nat}(M:Mh κ A B R i (j+1))(sB:Srt κ B){x:Keyed}(h:B[j]? = some x)(hx:Lel κ (A.take i) [x]):Mh κ A B (x::R) i j:=by
 have et:=a8 h
 have st:=sB.take (j+1)
 rw [et] at st
 have st':=a_.mp st
 refine ⟨?_,GN.mpr ⟨fun y hy=>M.lb x (by rw [et];simp) y hy,M.so⟩,fun y hy z hz=>?_,fun y hy z hz=>?_,M.hi,by have:=M.hj;omega⟩
 ·rw [bP h]
  exact (M.pm.cons x).trans FT.symm
 ·rcases Et.mp hz with rfl | hz
  ·exact hx y hy _ (by simp)
  ·exact M.la y hy z hz
 ·rcases Et.mp hz with rfl | hz
  ·exact st'.2.2 y hy _ (by simp)
  ·exact M.lb y (by rw [et];exact ER _ hy) z hz
theorem Mh.pushAs {A B R:List Keyed}{t j:Nat}(sA:Srt κ A):∀ k,Mh κ A B R (t+k) j→Lel κ (B.take j) ((A.drop t).take k)→Mh κ A B ((A.drop t).take k++R) t j
 | 0,M,_=>by simpa using M
 | k+1,M,hl=>by
  have Kq:t+k < A.length:=by have:=M.hi;omega
  have e:(A.drop t)[k]? = some A[t+k]:=by rw [E8,fu Kq]
  have et:(A.drop t).take (k+1)=(A.drop t).take k++[A[t+k]]:=a8 e
  rw [et] at hl ⊢
  have M1:Mh κ A B (A[t+k]::R) (t+k) j:=Mh.pushA M sA (fu Kq) fun y hy z hz=>hl y hy z (Ex _ hz)
  have:=Mh.pushAs sA k M1 fun y hy z hz=>hl y hy z (ER _ hz)
  rw [Ek]
  exact this
theorem Mh.pushBs {A B R:List Keyed}{t i:Nat}(sB:Srt κ B):∀ k,Mh κ A B R i (t+k)→Lel κ (A.take i) ((B.drop t).take k)→Mh κ A B ((B.drop t).take k++R) i t
 | 0,M,_=>by simpa using M
 | k+1,M,hl=>by
  have Kq:t+k < B.length:=by have:=M.hj;omega
  have e:(B.drop t)[k]? = some B[t+k]:=by rw [E8,fu Kq]
  have et:(B.drop t).take (k+1)=(B.drop t).take k++[B[t+k]]:=a8 e
  rw [et] at hl ⊢
  have M1:Mh κ A B (B[t+k]::R) i (t+k):=Mh.pushB M sB (fu Kq) fun y hy z hz=>hl y hy z (Ex _ hz)
  have:=Mh.pushBs sB k M1 fun y hy z hz=>hl y hy z (ER _ hz)
  rw [Ek]
  exact this
theorem Mh.perm {A B R:List Keyed}{i j:Nat}(M:Mh κ A B R i j):(A.take i++B.take j++R).Perm (A++B):=by
 have h1:(A.take i++B.take j++R).Perm (A.take i++B.take j++(A.drop i++B.drop j)):=M.pm.append_left _
 refine h1.trans ?_
 have h2:((A.take i++B.take j)++(A.drop i++B.drop j)).Perm ((A.take i++A.drop i)++(B.take j++B.drop j)):=by
  rw [Ek,Ek]
  refine FH _ ?_
  rw [← Ek,← Ek]
  exact Fy _ Fi
 rw [EI,EI] at h2
 exact h2
theorem Mh.done {A B R:List Keyed}{i j:Nat}(M:Mh κ A B R i j)(sA:Srt κ A)(sB:Srt κ B)(h:i=0 ∨ j=0):Mg κ A B (A.take i++B.take j++R):=by
 refine ⟨M.perm,a_.mpr ⟨a_.mpr ⟨sA.take i,sB.take j,fun x hx y hy=>?_⟩,M.so,fun o ho y hy=>?_⟩⟩
 ·rcases h with h | h
  ·subst h;simp at hx
  ·subst h;simp at hy
 ·rcases Ew.mp ho with ho | ho
  ·exact M.la o ho y hy
  ·exact M.lb o ho y hy
theorem Mh.first {A B R:List Keyed}{i j:Nat}(M:Mh κ A B R i j)(sA:Srt κ A)(sB:Srt κ B)(h:j=1)(hf:∀ z,B[0]? = some z→Lel κ [z] A):Mg κ A B (B.take j++A.take i++R):=by
 refine ⟨List.Perm.trans (Fy _ Fi) M.perm,a_.mpr ⟨a_.mpr ⟨sB.take j,sA.take i,fun x hx y hy=>?_⟩,M.so,fun o ho y hy=>?_⟩⟩
 ·subst h
  cases B with
  | nil=>simp at hx
  | cons z B =>
   have hx:x=z:=by simpa using hx
   subst hx
   exact hf x rfl x (by simp) y (GX hy)
 ·rcases Ew.mp ho with ho | ho
  ·exact M.lb o ho y hy
  ·exact M.la o ho y hy
theorem uk (a b o:Array Keyed)(i j:Nat):(hDn a b o i j).toList=a.toList.take i++b.toList.take j++o.toList.reverse:=by
 simp [hDn,Fw]
theorem um (a b o:Array Keyed)(i j:Nat):(hFb a b o i j).toList=b.toList.take j++a.toList.take i++o.toList.reverse:=by
 simp [hFb,Fw]
theorem qr (a:Array Keyed)(t i:Nat):((a.extract t i).reverse).toList.reverse=(a.toList.drop t).take (i - t):=by
 simp [Fw]
section
variable {prog:Program} {w:World} {A:Around} {E:Value→Shared→Prop} {s:Shared}
theorem ml {st:SortSt}{lf:Bool}{key:Keyed}{arr:Array Keyed}{n:Nat}{Q:Option Nat→SortSt→Prop}(hO:Lt1 κ prog w A s kd)(hB:TB kd st)(hk:Gd κ key)(hg:∀ x∈arr.toList,Gd κ x)(sa:Srt κ arr.toList)(hn:0 < n)(hna:n≤arr.size)
  (hq:∀ k,k≤n→(∀ x∈arr.toList.take k,bdB κ lf (kof κ key) (kof κ x)=true)→(∀ x∈(arr.toList.drop k).take (n - k),bdB κ lf (kof κ key) (kof κ x)=false)→Q (some k) st) :
  wpS (model prog w) A E s (gal lf key arr 0 n (n - 1)) Q st:=by
 have hl:arr.toList.length=arr.size:=Ef
 refine kF hO hB hk (fun t=>match arr.toList[t]? with | some p=>bdB κ lf (kof κ key) (kof κ p) | none=>false) (by omega) (fun t ht=>?_) (fun t u htu hu hb=>?_) (fun k hk' h1 h2=>hq k (by omega) (fun x hx=>?_) fun x hx=>?_)
 ·have Kq:t < arr.toList.length:=by omega
  have e:=fu Kq
  refine ⟨arr.toList[t],by rw [Jr];simpa using e,hg _ (Fc Kq),?_⟩
  rw [e]
 ·have h1:t < arr.toList.length:=by omega
  have h2:u < arr.toList.length:=by omega
  have e1:=fu h1
  have e2:=fu h2
  rw [e2] at hb
  rw [e1]
  exact mi (sa.at (by omega) e1 e2) hb
 ·obtain ⟨t,e⟩:=Fx hx
  have ht:t < k:=by
   have:=(Ed.mp e).1
   rw [Es] at this
   omega
  rw [Hf,if_pos ht] at e
  have:=h1 t ht
  rw [e] at this
  exact this
 ·obtain ⟨t,e⟩:=Fx hx
  have ht:t < n - k:=by
   have:=(Ed.mp e).1
   rw [Es] at this
   omega
  rw [Hf,if_pos ht,E8] at e
  have:=h2 (k+t) (by omega) (by omega)
  rw [e] at this
  exact this
theorem iR {l:List Keyed}(sl:Srt κ l){i:Nat}{x y:Keyed}(e:l[i]? = some y)(h:lek κ y x):Lel κ (l.take (i+1)) [x]:=fun z hz t ht=>by
 rw [Ec] at ht
 subst ht
 rw [a8 e] at hz
 rcases Ew.mp hz with hz | hz
 ·have st:=sl.take (i+1)
  rw [a8 e] at st
  exact d9 ((a_.mp st).2.2 z hz y (by simp)) h
 ·rw [Ec] at hz
  subst hz
  exact h
structure og (κ:KeyKind) (a b:Array Keyed):Prop where
 ga:∀ x∈a.toList,Gd κ x
 gb:∀ x∈b.toList,Gd κ x
 sa:Srt κ a.toList
 sb:Srt κ b.toList
 hf:∀ z,b.toList[0]? = some z→Lel κ [z] a.toList
theorem og.atA {a b:Array Keyed}(T:og κ a b){i:Nat}(hi:i < a.size):∃ x,a.toList[i]? = some x∧Gd κ x:=⟨a.toList[i]'(by rw [Ef]; exact hi),fu (by rw [Ef]; exact hi),T.ga _ (Fc _)⟩
theorem og.atB {a b:Array Keyed}(T:og κ a b){i:Nat}(hi:i < b.size):∃ x,b.toList[i]? = some x∧Gd κ x:=⟨b.toList[i]'(by rw [Ef]; exact hi),fu (by rw [Ef]; exact hi),T.gb _ (Fc _)⟩
theorem og.dn {a b:Array Keyed}(T:og κ a b){o:Array Keyed}{i j:Nat}(M:Mh κ a.toList b.toList o.toList.reverse i j)(h:i=0 ∨ j=0):Mg κ a.toList b.toList (hDn a b o i j).toList:=by
 rw [uk]
 exact M.done T.sa T.sb h
theorem og.fb {a b:Array Keyed}(T:og κ a b){o:Array Keyed}{i j:Nat}(M:Mh κ a.toList b.toList o.toList.reverse i j)(h:j=1):Mg κ a.toList b.toList (hFb a b o i j).toList:=by
 rw [um]
 exact M.first T.sa T.sb h T.hf
theorem fk (o:Array Keyed)(x:Keyed):(o.push x).toList.reverse=x::o.toList.reverse:=by simp
theorem qt (o:Array Keyed)(a:Array Keyed)(t i:Nat):(o++(a.extract t i).reverse).toList.reverse=(a.toList.drop t).take (i - t)++o.toList.reverse:=by
 rw [Ic,List.reverse_append,qr]
abbrev HSt:=Option (Array Keyed) × Nat × Nat × Array Keyed × Nat × Nat × Nat
def hq3 (a b:Array Keyed)(i g p q j:Nat)(o:Array Keyed):StateT SortSt Sem (ForInStep HSt):=do
 let e ← elem' a (i - 1)
 if (i - 1 == 0)=true then pure (.done (some (hDn a b (o.push e) (i - 1) j),i - 1,j,o.push e,g,p,q))
 else if (decide (p < 7) && decide (q < 7))=true then pure (.done (none,i - 1,j,o.push e,g,p,q)) else pure (.yield (none,i - 1,j,o.push e,g,p,q))
def hq2 (a b:Array Keyed)(j g p q i:Nat)(o:Array Keyed):StateT SortSt Sem (ForInStep HSt):=do
 let e ← elem' b (j - 1)
 if (j - 1 == 1)=true then pure (.done (some (hFb a b (o.push e) i (j - 1)),i,j - 1,o.push e,g,p,q))
 else do
  let f ← elem' a (i - 1)
  let y ← gal true f b 0 (j - 1) (j - 1 - 1)
  match y with
  | some t=>if j - 1 - t > 0 then (if (t == 1)=true then pure (.done (some (hFb a b (o.push e++(b.extract t (j - 1)).reverse) i t),i,t,o.push e++(b.extract t (j - 1)).reverse,g,p,j - 1 - t)) else if (t == 0)=true then pure (.done (some (hDn a b (o.push e++(b.extract t (j - 1)).reverse) i t),i,t,o.push e++(b.extract t (j - 1)).reverse,g,p,j - 1 - t)) else hq3 a b i g p (j - 1 - t) t (o.push e++(b.extract t (j - 1)).reverse)) else hq3 a b i g p (j - 1 - t) (j - 1) (o.push e)
  | _=>pure (.done (some (hDn a b (o.push e) i (j - 1)),i,j - 1,o.push e,g,p,q))
def hq1 (a b:Array Keyed)(i j:Nat)(o:Array Keyed)(p q g:Nat):StateT SortSt Sem (ForInStep HSt):=do
 smg g
 let e ← elem' b (j - 1)
 let y ← gal false e a 0 i (i - 1)
 match y with
 | some t=>if i - t > 0 then (if (t == 0)=true then pure (.done (some (hDn a b (o++(a.extract t i).reverse) t j),t,j,o++(a.extract t i).reverse,g,i - t,q)) else hq2 a b j g (i - t) q t (o++(a.extract t i).reverse)) else hq2 a b j g (i - t) q i o
 | _=>pure (.done (some (hDn a b o i j),i,j,o,g,p,q))
def Hst (κ:KeyKind)(a b:Array Keyed)(x:Nat)(st:SortSt)(r:ForInStep HSt)(st':SortSt):Prop:=match r with
 | .done c=>((∃ r z,c=(some r,z)∧Mg κ a.toList b.toList r.toList) ∨ ∃ i j o g p q,c=(none,i,j,o,g,p,q)∧Mh κ a.toList b.toList o.toList.reverse i j∧0 < i∧1 < j∧x+2+i+j≤a.size+b.size)∧Ok kd st st'
 | .yield c=>∃ i j o g p q,c=(none,i,j,o,g,p,q)∧Mh κ a.toList b.toList o.toList.reverse i j∧0 < i∧1 < j∧x+2+i+j≤a.size+b.size∧Ok kd st st'
theorem qu {st st':SortSt}{a b o:Array Keyed}{i j g p q x:Nat}{xa:Keyed}(T:og κ a b)(M:Mh κ a.toList b.toList o.toList.reverse i j)(hi:0 < i)(hj:1 < j)(hx:x+2+i+j≤a.size+b.size)(ok:Ok kd st st')(KO:a.toList[i - 1]? = some xa)(hle:Lel κ (b.toList.take j) [xa]) :
  wpS (model prog w) A E s (hq3 a b i g p q j o) (Hst (kd:=kd) κ a b x st) st':=by
 unfold hq3
 refine En (aN KO ?_)
 have M':Mh κ a.toList b.toList (o.push xa).toList.reverse (i - 1) j:=by
  rw [fk]
  exact Mh.pushA (by rw [show i - 1+1=i by omega];exact M) T.sa KO hle
 by_cases h0:i - 1=0
 ·refine av (by simpa using h0) ?_
  exact Eu ⟨.inl ⟨_,_,rfl,T.dn M' (.inl h0)⟩,ok⟩
 ·refine aw (by simpa using h0) ?_
  by_cases hpq:(decide (p < 7) && decide (q < 7))=true
  ·refine av hpq ?_
   exact Eu ⟨.inr ⟨_,_,_,_,_,_,rfl,M',by omega,hj,by omega⟩,ok⟩
  ·refine aw hpq ?_
   exact Eu ⟨_,_,_,_,_,_,rfl,M',by omega,hj,by omega,ok⟩
theorem qv {st st':SortSt}{a b o:Array Keyed}{i j g p q x:Nat}{xb:Keyed}(hO:Lt1 κ prog w A s kd)(T:og κ a b)(M:Mh κ a.toList b.toList o.toList.reverse i j)(hi:0 < i)(hj:1 < j)(hx:x+2+i+j≤a.size+b.size)(ok:Ok kd st st')(KN:b.toList[j - 1]? = some xb)(hle:Lel κ (a.toList.take i) [xb]) :
  wpS (model prog w) A E s (hq2 a b j g p q i o) (Hst (kd:=kd) κ a b x st) st':=by
 have la:a.toList.length=a.size:=Ef
 have lb:b.toList.length=b.size:=Ef
 have hia:=M.hi
 have hjb:=M.hj
 unfold hq2
 refine En (aN KN ?_)
 have M':Mh κ a.toList b.toList (o.push xb).toList.reverse i (j - 1):=by
  rw [fk]
  exact Mh.pushB (by rw [show j - 1+1=j by omega];exact M) T.sb KN hle
 by_cases h1:j - 1=1
 ·refine av (by simpa using h1) ?_
  exact Eu ⟨.inl ⟨_,_,rfl,T.fb M' h1⟩,ok⟩
 refine aw (by simpa using h1) ?_
 obtain ⟨xa,KO,gxa⟩:=T.atA (i:=i - 1) (by omega)
 refine En (aN KO (En (ml hO ok.tb gxa T.gb T.sb (by omega) (by omega) fun t ht t1 t2=>?_)))
 dsimp only
 have up:Lel κ (b.toList.take t) [xa]:=fun z hz y hy=>by
  rw [Ec] at hy
  subst hy
  exact kG (t1 z hz)
 have MB:Mh κ a.toList b.toList ((b.toList.drop t).take (j - 1 - t)++(o.push xb).toList.reverse) i t:=Mh.pushBs T.sb (j - 1 - t) (by rw [show t+(j - 1 - t)=j - 1 by omega];exact M') fun y hy z hz=>by
  have:=iR T.sa KO (iO (t2 z hz))
  rw [show i - 1+1=i by omega] at this
  exact this y hy z (by simp)
 by_cases hk0:j - 1 - t > 0
 ·refine av hk0 ?_
  have MB':Mh κ a.toList b.toList (o.push xb++(b.extract t (j - 1)).reverse).toList.reverse i t:=by rw [qt];exact MB
  by_cases ht1:t=1
  ·refine av (by simpa using ht1) ?_
   exact Eu ⟨.inl ⟨_,_,rfl,T.fb MB' ht1⟩,ok⟩
  ·refine aw (by simpa using ht1) ?_
   by_cases ht0:t=0
   ·refine av (by simpa using ht0) ?_
    exact Eu ⟨.inl ⟨_,_,rfl,T.dn MB' (.inr ht0)⟩,ok⟩
   ·refine aw (by simpa using ht0) ?_
    exact qu T MB' hi (by omega) (by omega) ok KO up
 ·refine aw hk0 ?_
  have:t=j - 1:=by omega
  subst this
  exact qu T M' hi (by omega) (by omega) ok KO up
theorem qw {st st':SortSt}{a b o:Array Keyed}{i j g p q x:Nat}(hO:Lt1 κ prog w A s kd)(T:og κ a b)(M:Mh κ a.toList b.toList o.toList.reverse i j)(hi:0 < i)(hj:1 < j)(hx:x+2+i+j≤a.size+b.size)(ok:Ok kd st st') :
  wpS (model prog w) A E s (hq1 a b i j o p q g) (Hst (kd:=kd) κ a b x st) st':=by
 have la:a.toList.length=a.size:=Ef
 have lb:b.toList.length=b.size:=Ef
 have hia:=M.hi
 have hjb:=M.hj
 unfold hq1
 refine En (iN ok fun st3 ok3=>?_)
 obtain ⟨xb,KN,gxb⟩:=T.atB (i:=j - 1) (by omega)
 refine En (aN KN (En (ml hO ok3.tb gxb T.ga T.sa hi (by omega) fun t ht t1 t2=>?_)))
 dsimp only
 have up:Lel κ (a.toList.take t) [xb]:=fun z hz y hy=>by
  rw [Ec] at hy
  subst hy
  exact fj (t1 z hz)
 have MA:Mh κ a.toList b.toList ((a.toList.drop t).take (i - t)++o.toList.reverse) t j:=Mh.pushAs T.sa (i - t) (by rw [show t+(i - t)=i by omega];exact M) fun y hy z hz=>by
  have:=iR T.sb KN (fT (t2 z hz))
  rw [show j - 1+1=j by omega] at this
  exact this y hy z (by simp)
 by_cases hk0:i - t > 0
 ·refine av hk0 ?_
  have MA':Mh κ a.toList b.toList (o++(a.extract t i).reverse).toList.reverse t j:=by rw [qt];exact MA
  by_cases ht0:t=0
  ·refine av (by simpa using ht0) ?_
   exact Eu ⟨.inl ⟨_,_,rfl,T.dn MA' (.inl ht0)⟩,ok3⟩
  ·refine aw (by simpa using ht0) ?_
   exact qv hO T MA' (by omega) hj (by omega) ok3 KN up
 ·refine aw hk0 ?_
  have:t=i:=by omega
  subst this
  exact qv hO T M hi hj hx ok3 KN up
abbrev H6:=Option (Array Keyed) × Nat × Nat × Array Keyed × Nat × Nat
abbrev H5:=Option (Array Keyed) × Nat × Nat × Array Keyed × Nat
def hB1 (a b:Array Keyed)(g:Nat):H6→TS (ForInStep H6):=fun (_,i,j,o,p,q)=>do
 let y ← elem' b (j - 1)
 let x ← elem' a (i - 1)
 let w ← lt' y x
 match w with
 | some w =>
  if w=true then do
   let e ← elem' a (i - 1)
   if (i - 1 == 0)=true then pure (.done (some (hDn a b (o.push e) (i - 1) j),i - 1,j,o.push e,p+1,0))
   else if p+1≥g then pure (.done (none,i - 1,j,o.push e,p+1,0)) else pure (.yield (none,i - 1,j,o.push e,p+1,0))
  else do
   let e ← elem' b (j - 1)
   if (j - 1 == 1)=true then pure (.done (some (hFb a b (o.push e) i (j - 1)),i,j - 1,o.push e,0,q+1))
   else if q+1≥g then pure (.done (none,i,j - 1,o.push e,0,q+1)) else pure (.yield (none,i,j - 1,o.push e,0,q+1))
 | _=>pure (.done (some (hDn a b o i j),i,j,o,p,q))
def hB3 (a b:Array Keyed):HSt→TS (ForInStep HSt):=fun (_,i,j,o,g,p,q)=>if g > 1 then hq1 a b i j o p q (g - 1) else hq1 a b i j o p q g
def hB2 (a b:Array Keyed)(g:Nat):H6→TS (ForInStep H5)
 | (some r,i,j,o,_)=>pure (.done (some r,i,j,o,g))
 | (none,i,j,o,p,q)=>do
  rule "list.sort.gallop"
  match ← forIn [0:a.size+b.size] ((none,i,j,o,g+1,p,q):HSt) fun _ d=>hB3 a b d with
  | (some r,i,j,o,g,_)=>pure (.done (some r,i,j,o,g))
  | (none,i,j,o,g,_)=>do
   smg (g+1)
   pure (.yield (none,i,j,o,g+1))
def hB0 (a b:Array Keyed):H5→TS (ForInStep H5):=fun (_,i,j,o,g)=>do
 let d ← forIn [0:a.size+b.size] ((none,i,j,o,0,0):H6) fun _ d=>hB1 a b g d
 hB2 a b g d
theorem xq (a b:Array Keyed):mhi a b=(do
 rule "list.sort.merge-hi"
 let e ← elem' a (a.size - 1)
 if (a.size - 1 == 0)=true then pure (hDn a b #[e] (a.size - 1) b.size)
 else if (b.size == 1)=true then pure (hFb a b #[e] (a.size - 1) b.size)
 else do
  let st ← get
  let c ← forIn [0:a.size+b.size] ((none,a.size - 1,b.size,#[e],gallopOf st):H5) fun _ c=>hB0 a b c
  mBe c):=by
 rw [zZ]
 refine Ey (bind _) (funext fun u=>Ey (bind _) (funext fun e=>Ey (ite _ _) (Ey (ite _ _) (Ey (bind _) (funext fun st=>?_)))))
 refine congr (Ey bind (Ey (forIn _ _) (funext fun x=>funext fun c=>?_))) (funext fun c=>?_)
 ·refine congr (Ey bind (Ey (forIn _ _) (funext fun y=>funext fun d=>rfl))) (funext fun d=>?_)
  rcases d with ⟨_ | r,d⟩
  ·refine Ey (bind _) (funext fun u=>?_)
   refine congr (Ey bind (Ey (forIn _ _) (funext fun y=>funext fun d=>rfl))) (funext fun d=>?_)
   rcases d with ⟨_ | r,d⟩ <;> rfl
  ·rfl
 ·rcases c with ⟨_ | r,c⟩ <;> rfl
theorem xr {st:SortSt}{a b:Array Keyed}{Q:Array Keyed→SortSt→Prop}(hO:Lt1 κ prog w A s kd)(hB:TB kd st)(T:og κ a b)(h0:0 < a.size)(h1:0 < b.size)
  (hl:∀ z,a.toList[a.size - 1]? = some z→Lel κ b.toList [z])
  (hq:∀ r st',Ok kd st st'→Mg κ a.toList b.toList r.toList→Q r st'):wpS (model prog w) A E s (mhi a b) Q st:=by
 have la:a.toList.length=a.size:=Ef
 have lb:b.toList.length=b.size:=Ef
 rw [xq]
 refine En (Ju (Gh ⟨rfl,?_⟩))
 obtain ⟨z0,ez0,gz0⟩:=T.atA (i:=a.size - 1) (by omega)
 refine En (aN ez0 ?_)
 have M0:Mh κ a.toList b.toList (#[z0]:Array Keyed).toList.reverse (a.size - 1) b.size:=by
  have:Mh κ a.toList b.toList [z0] (a.size - 1) b.size:=Mh.pushA (R:=[]) (by
   rw [show a.size - 1+1=a.size by omega]
   refine ⟨?_,.nil,(fun x hx y hy=>by cases hy),(fun x hx y hy=>by cases hy),by omega,by omega⟩
   rw [Hi (by omega),Hi (by omega)]
   exact G0 _) T.sa ez0 (by rw [E9 (by omega)];exact hl _ ez0)
  exact this
 by_cases ha1:a.size - 1=0
 ·refine av (by simpa using ha1) ?_
  exact Eu (hq _ _ (.refl hB) (T.dn M0 (.inl ha1)))
 refine aw (by simpa using ha1) ?_
 by_cases hb1:b.size=1
 ·refine av (by simpa using hb1) ?_
  exact Eu (hq _ _ (.refl hB) (T.fb M0 hb1))
 refine aw (by simpa using hb1) ?_
 refine En (Ib ?_)
 refine En (FW (Fm (I:=fun x c st'=>∃ i j o g,c=(none,i,j,o,g)∧Mh κ a.toList b.toList o.toList.reverse i j∧0 < i∧1 < j∧x+1+i+j≤a.size+b.size∧Ok kd st st')
  (Q:=fun c st'=>∃ r z,c=(some r,z)∧Mg κ a.toList b.toList r.toList∧Ok kd st st') ?step ?fin ⟨_,_,_,_,rfl,M0,by omega,by omega,by omega,.refl hB⟩) ?post)
 case post =>
  rintro c st' ⟨r,z,rfl,m,ok⟩
  unfold mBe
  exact Eu (hq _ _ ok m)
 case fin =>
  rintro c st' ⟨i,j,o,g,rfl,M,hi,hj,hx,ok⟩
  omega
 case step =>
  rintro x c st1 _ hx ⟨i,j,o,g,rfl,M,hi,hj,Kw,ok1⟩
  unfold hB0
  dsimp only
  refine En (FW (Fm (I:=fun y c st'=>st'=st1∧∃ i j o p q,c=(none,i,j,o,p,q)∧Mh κ a.toList b.toList o.toList.reverse i j∧0 < i∧1 < j∧x+1+y+i+j≤a.size+b.size)
   (Q:=fun c st'=>st'=st1∧((∃ r z,c=(some r,z)∧Mg κ a.toList b.toList r.toList) ∨ ∃ i j o p q,c=(none,i,j,o,p,q)∧Mh κ a.toList b.toList o.toList.reverse i j∧0 < i∧1 < j∧x+2+i+j≤a.size+b.size)) ?step1 ?fin1 ⟨rfl,i,j,o,0,0,rfl,M,hi,hj,by omega⟩) ?post1)
  case fin1 =>
   rintro c st' ⟨rfl,i,j,o,p,q,rfl,M,hi,hj,hy⟩
   exact ⟨rfl,.inr ⟨i,j,o,p,q,rfl,M,hi,hj,by omega⟩⟩
  case step1 =>
   rintro y c st' _ hy ⟨rfl,i,j,o,p,q,rfl,M,hi,hj,Kw⟩
   unfold hB1
   dsimp only
   have hia:=M.hi
   have hjb:=M.hj
   obtain ⟨xb,KN,gxb⟩:=T.atB (i:=j - 1) (by omega)
   obtain ⟨xa,KO,gxa⟩:=T.atA (i:=i - 1) (by omega)
   refine En (aN KN (En (aN KO (En (jK hO ok1.tb gxb gxa ?_)))))
   cases eb:κ.blt (kof κ xb) (kof κ xa) with
   | true =>
    simp only [Gb]
    refine En (aN KO ?_)
    have M':Mh κ a.toList b.toList (o.push xa).toList.reverse (i - 1) j:=by
     rw [fk]
     refine Mh.pushA (by rw [show i - 1+1=i by omega];exact M) T.sa KO ?_
     have:=iR T.sb KN (uh eb)
     rwa [show j - 1+1=j by omega] at this
    by_cases hi0:i - 1=0
    ·refine av (by simpa using hi0) ?_
     exact Eu ⟨rfl,.inl ⟨_,_,rfl,T.dn M' (.inl hi0)⟩⟩
    ·refine aw (by simpa using hi0) ?_
     by_cases hpg:p+1≥g
     ·refine av hpg ?_
      exact Eu ⟨rfl,.inr ⟨_,_,_,_,_,rfl,M',by omega,hj,by omega⟩⟩
     ·refine aw hpg ?_
      exact Eu ⟨rfl,_,_,_,_,_,rfl,M',by omega,hj,by omega⟩
   | false =>
    simp only [EB,FF]
    refine En (aN KN ?_)
    have M':Mh κ a.toList b.toList (o.push xb).toList.reverse i (j - 1):=by
     rw [fk]
     refine Mh.pushB (by rw [show j - 1+1=j by omega];exact M) T.sb KN ?_
     have:=iR T.sa KO (not_lt eb)
     rwa [show i - 1+1=i by omega] at this
    by_cases hj1:j - 1=1
    ·refine av (by simpa using hj1) ?_
     exact Eu ⟨rfl,.inl ⟨_,_,rfl,T.fb M' hj1⟩⟩
    ·refine aw (by simpa using hj1) ?_
     by_cases hqg:q+1≥g
     ·refine av hqg ?_
      exact Eu ⟨rfl,.inr ⟨_,_,_,_,_,rfl,M',hi,by omega,by omega⟩⟩
     ·refine aw hqg ?_
      exact Eu ⟨rfl,_,_,_,_,_,rfl,M',hi,by omega,by omega⟩
  case post1 =>
   rintro c st' ⟨rfl,⟨r,z,rfl,m⟩ | ⟨i,j,o,p,q,rfl,M,hi,hj,Kw⟩⟩
   ·exact Eu ⟨r,_,rfl,m,ok1⟩
   unfold hB2
   dsimp only
   refine En (Ju (Gh ⟨rfl,?_⟩))
   refine En (FW (Fm (I:=fun y c st'=>∃ i j o g p q,c=(none,i,j,o,g,p,q)∧Mh κ a.toList b.toList o.toList.reverse i j∧0 < i∧1 < j∧x+2+i+j≤a.size+b.size∧Ok kd st st')
    (Q:=fun c st'=>((∃ r z,c=(some r,z)∧Mg κ a.toList b.toList r.toList) ∨ ∃ i j o g p q,c=(none,i,j,o,g,p,q)∧Mh κ a.toList b.toList o.toList.reverse i j∧0 < i∧1 < j∧x+2+i+j≤a.size+b.size)∧Ok kd st st') ?step2 ?fin2 ⟨i,j,o,_,p,q,rfl,M,hi,hj,Kw,ok1⟩) ?post2)
   case fin2 =>
    rintro c st' ⟨i,j,o,g,p,q,rfl,M,hi,hj,Kw,ok⟩
    exact ⟨.inr ⟨i,j,o,g,p,q,rfl,M,hi,hj,Kw⟩,ok⟩
   case post2 =>
    rintro c st' ⟨⟨r,z,rfl,m⟩ | ⟨i,j,o,g,p,q,rfl,M,hi,hj,Kw⟩,ok⟩
    ·exact Eu ⟨r,_,rfl,m,ok⟩
    ·dsimp only
     exact En (iN ok fun Ko ok'=>Eu ⟨i,j,o,_,rfl,M,hi,hj,by omega,ok'⟩)
   case step2 =>
    rintro y c KR _ hy ⟨i,j,o,g,p,q,rfl,M,hi,hj,Kw,ok2⟩
    change wpS _ _ _ _ (if g > 1 then hq1 a b i j o p q (g - 1) else hq1 a b i j o p q g) _ _
    refine FW (Q:=Hst (kd:=kd) κ a b x st) ?_ fun r st' h=>?_
    rotate_left
    ·cases r with
     | done c=>exact h
     | yield c=>exact h
    by_cases hg:g > 1
    ·refine av hg ?_
     exact qw hO T M hi hj Kw ok2
    ·refine aw hg ?_
     exact qw hO T M hi hj Kw ok2
end
end Tv
namespace Tv
open PySem PyProof.Rows
variable {κ:KeyKind} {kd:SortKind}
def SrI (κ:KeyKind)(xs:Array Keyed)(lo hi:Nat):Prop:=∀ i j,lo≤i→i≤j→j < hi→κ.kle (KK κ xs i) (KK κ xs j)
def NiI (κ:KeyKind)(xs:Array Keyed)(lo hi:Nat):Prop:=∀ i j,lo≤i→i≤j→j < hi→κ.kle (KK κ xs j) (KK κ xs i)
structure Rp (lo hi:Nat) (xs ys:Array Keyed):Prop where
 pm:ys.Perm xs
 out:∀ k,(k < lo ∨ hi≤k)→ys[k]? = xs[k]?
theorem Rp.refl (lo hi:Nat)(xs:Array Keyed):Rp lo hi xs xs:=⟨Js _,fun _ _=>rfl⟩
theorem Rp.trans {lo hi:Nat}{xs ys zs:Array Keyed}(h:Rp lo hi xs ys)(g:Rp lo hi ys zs):Rp lo hi xs zs:=⟨g.pm.trans h.pm,fun k hk=>(g.out k hk).trans (h.out k hk)⟩
theorem Rp.size {lo hi:Nat}{xs ys:Array Keyed}(h:Rp lo hi xs ys):ys.size=xs.size:=h.pm.size_eq
theorem Rp.mirror {lo hi i j:Nat}{xs:Array Keyed}(h1:lo≤i)(h2:j≤hi)(hj:j≤xs.size):Rp lo hi xs (mirror xs i j ((j - i) / 2)):=by
 refine ⟨mirror_perm _ _ _ _,fun k hk=>?_⟩
 rw [getElem?_mirror_all hj,if_neg (by omega)]
theorem Rp.bubble {lo hi src d:Nat}{xs:Array Keyed}(h1:lo+d≤src)(h2:src < hi)(hs:src < xs.size):Rp lo hi xs (bubble xs src d):=by
 refine ⟨bubble_perm _ _ _,fun k hk=>?_⟩
 rw [getElem?_bubble hs d (by omega),if_neg (by omega),if_neg (by omega)]
structure Rs (kd:SortKind) (κ:KeyKind) (lo hi:Nat) (st st':SortSt):Prop where
 tb:TB kd st'
 pd:pendingOf st'=pendingOf st
 gd:∀ x∈(arrOf st').toList,Gd κ x
 rp:Rp lo hi (arrOf st) (arrOf st')
theorem Rs.refl {lo hi:Nat}{st:SortSt}(h:TB kd st)(g:∀ x∈(arrOf st).toList,Gd κ x):Rs kd κ lo hi st st:=⟨h,rfl,g,.refl _ _ _⟩
theorem Rs.arr {lo hi:Nat}{st st':SortSt}(h:Rs kd κ lo hi st st'){ys:Array Keyed}(r:Rp lo hi (arrOf st') ys):Rs kd κ lo hi st (setArr st' ys) :=
 ⟨⟨h.tb.kind,h.tb.failed⟩,h.pd,fun x hx=>h.gd x ((Gf.mp r.pm).mem_iff.mp hx),h.rp.trans r⟩
theorem z9 {xs:Array Keyed}(g:∀ x∈xs.toList,Gd κ x){i:Nat}(hi:i < xs.size):∃ x p,xs[i]? = some (x,p)∧κ.keyOf x=some (KK κ xs i):=by
 have e:xs[i]? = some xs[i]:=JJ xs i hi
 refine ⟨xs[i].1,xs[i].2,e,?_⟩
 have:=(g xs[i] (by simp)).eq
 rw [this]
 unfold KK kof
 rw [e]
section
variable {prog:Program} {w:World} {A:Around} {E:Value→Shared→Prop} {s:Shared}
theorem eN {st:SortSt}{i j:Nat}{Q:Option Bool→SortSt→Prop}(hO:Lt1 κ prog w A s kd)(hB:TB kd st)(g:∀ x∈(arrOf st).toList,Gd κ x)(hi:i < (arrOf st).size)(hj:j < (arrOf st).size)
  (h:Q (some (κ.blt (KK κ (arrOf st) i) (KK κ (arrOf st) j))) st):wpS (model prog w) A E s (ltAt' i j) Q st:=by
 obtain ⟨x,p,e1,k1⟩:=z9 g hi
 obtain ⟨y,q,e2,k2⟩:=z9 g hj
 have hx:Gd κ (x,p):=⟨_,k1⟩
 have hy:Gd κ (y,q):=⟨_,k2⟩
 rw [ltAt'_eq]
 refine En (Ib ?_)
 show wpS _ _ _ _ (do let x ← elem' (arrOf st) i;let y ← elem' (arrOf st) j;lt' x y) Q st
 rw [elem'_eq,elem'_eq,e1,e2]
 refine En (Eu (En (Eu (jK hO hB hx hy ?_))))
 have a1:kof κ (x,p)=_:=El (hx.eq.symm.trans k1)
 have a2:kof κ (y,q)=_:=El (hy.eq.symm.trans k2)
 rw [a1,a2]
 exact h
def Cf (lo a nr:Nat):StateT SortSt Sem (Option Nat):=do
 let mut n:=a
 for _ in [a:nr] do
  let some sm ← ltAt' (lo+n) (lo+n - 1) | return none
  if sm then break
  n:=n+1
 return some n
def xt (lo a nr:Nat):StateT SortSt Sem (Option Nat):=do
 reverseSlice' lo (lo+a)
 Cf lo a nr
def Cg (lo a nr:Nat):StateT SortSt Sem (Option Nat):=do
 rule "list.sort.descending-run"
 let mut n:=a+1
 let mut e:=0
 for _ in [a+1:nr] do
  let some sm ← ltAt' (lo+n) (lo+n - 1) | return none
  if sm then
   if e > 0 then reverseSlice' (lo+n - (e+1)) (lo+n)
   e:=0
  else
   let some lg ← ltAt' (lo+n - 1) (lo+n) | return none
   if lg then break
   e:=e+1
  n:=n+1
 if e > 0 then reverseSlice' (lo+n - (e+1)) (lo+n)
 xt lo n nr
theorem qx {xs:Array Keyed}{lo x:Nat}(a1:SrI κ xs lo (lo+x))(h1:1≤x)(e:κ.blt (KK κ xs (lo+x)) (KK κ xs (lo+x - 1))=false):SrI κ xs lo (lo+(x+1)):=fun i j hi Kw hj=>by
 by_cases q:j < lo+x
 ·exact a1 i j hi Kw q
 ·have:j=lo+x:=by omega
  subst this
  by_cases q2:i=lo+x
  ·subst q2;exact FD _
  ·exact GH (a1 i (lo+x - 1) hi (by omega) (by omega)) e
theorem uo {st:SortSt}{lo a nr:Nat}{Q:Option Nat→SortSt→Prop}(hO:Lt1 κ prog w A s kd)(hB:TB kd st)(g:∀ x∈(arrOf st).toList,Gd κ x)(h1:1≤a)(h2:a≤nr)(h3:lo+nr≤(arrOf st).size)(hs:SrI κ (arrOf st) lo (lo+a))
  (h:∀ n,a≤n→n≤nr→SrI κ (arrOf st) lo (lo+n)→Q (some n) st):wpS (model prog w) A E s (Cf lo a nr) Q st:=by
 unfold Cf
 refine En (FW (Fm (I:=fun x c st'=>st'=st∧c=(none,x)∧SrI κ (arrOf st) lo (lo+x))
  (Q:=fun c st'=>st'=st∧∃ n,c=(none,n)∧a≤n∧n≤nr∧SrI κ (arrOf st) lo (lo+n)∧(n=nr ∨ κ.klt (KK κ (arrOf st) (lo+n)) (KK κ (arrOf st) (lo+n - 1)))) ?step ?fin ⟨rfl,rfl,hs⟩) ?post)
 case fin =>
  rintro c st' ⟨rfl,rfl,a1⟩
  have e:max a nr=nr:=by omega
  rw [e] at a1 ⊢
  exact ⟨rfl,nr,rfl,by omega,Ei _,a1,.inl rfl⟩
 case step =>
  rintro x c st' hx1 hx2 ⟨rfl,rfl,a1⟩
  dsimp only
  refine En (eN hO hB g (by omega) (by omega) ?_)
  cases e:κ.blt (KK κ (arrOf st') (lo+x)) (KK κ (arrOf st') (lo+x - 1)) with
  | true =>
   simp only [Gb]
   exact Eu ⟨rfl,x,rfl,hx1,by omega,a1,.inr e⟩
  | false =>
   simp only [EB,FF]
   exact Eu ⟨rfl,rfl,qx a1 (by omega) e⟩
 case post =>
  rintro c st' ⟨rfl,n,rfl,a1,a2,a3,a4⟩
  exact Eu (h n a1 a2 a3)
theorem jL {st st':SortSt}{lo a nr:Nat}{Q:Option Nat→SortSt→Prop}(hO:Lt1 κ prog w A s kd)(R:Rs kd κ lo (lo+nr) st st')(h1:1≤a)(h2:a≤nr)(h3:lo+nr≤(arrOf st).size)(hs:NiI κ (arrOf st') lo (lo+a))
  (h:∀ n Ko,1≤n→n≤nr→Rs kd κ lo (lo+nr) st Ko→SrI κ (arrOf Ko) lo (lo+n)→Q (some n) Ko):wpS (model prog w) A E s (xt lo a nr) Q st':=by
 have hz:=R.rp.size
 unfold xt
 refine En (wpS_reverse ?_)
 have R':Rs kd κ lo (lo+nr) st (setArr st' (mirror (arrOf st') lo (lo+a) ((lo+a - lo) / 2))):=R.arr (Rp.mirror (Ei _) (by omega) (by omega))
 refine uo hO R'.tb R'.gd h1 h2 (by rw [R'.rp.size];exact h3) (fun i j hi Kw hj=>?_) fun n a1 a2 a3=>h n _ (by omega) a2 R' a3
 show κ.kle (KK κ (mirror (arrOf st') lo (lo+a) ((lo+a - lo) / 2)) i) (KK κ (mirror (arrOf st') lo (lo+a) ((lo+a - lo) / 2)) j)
 rw [KK_mirror (by omega),KK_mirror (by omega),if_pos (by omega),if_pos (by omega)]
 exact hs _ _ (by omega) (by omega) (by omega)
theorem mn {st st':SortSt}{lo a nr:Nat}{Q:Option Nat→SortSt→Prop}(hO:Lt1 κ prog w A s kd)(R:Rs kd κ lo (lo+nr) st st')(h2:a+1≤nr)(h3:lo+nr≤(arrOf st).size)(hs:NiI κ (arrOf st') lo (lo+(a+1)))
  (h:∀ n Ko,1≤n→n≤nr→Rs kd κ lo (lo+nr) st Ko→SrI κ (arrOf Ko) lo (lo+n)→Q (some n) Ko):wpS (model prog w) A E s (Cg lo a nr) Q st':=by
 unfold Cg
 refine En (Ju (Gh ⟨rfl,?_⟩))
 dsimp only
 refine En (FW (Fm (I:=fun x c Ko=>∃ e,c=(none,x,e)∧Rs kd κ lo (lo+nr) st Ko∧NiI κ (arrOf Ko) lo (lo+x)∧e+1≤x∧∀ i,lo+x - (e+1)≤i→i < lo+x→KK κ (arrOf Ko) i=KK κ (arrOf Ko) (lo+x - 1))
  (Q:=fun c Ko=>∃ x e,c=(none,x,e)∧a+1≤x∧x≤nr∧Rs kd κ lo (lo+nr) st Ko∧NiI κ (arrOf Ko) lo (lo+x)∧e+1≤x∧∀ i,lo+x - (e+1)≤i→i < lo+x→KK κ (arrOf Ko) i=KK κ (arrOf Ko) (lo+x - 1)) ?step ?fin ⟨0,rfl,R,hs,by omega,fun i h1 h2=>by congr 1;omega⟩) ?post)
 case fin =>
  rintro c Ko ⟨e,rfl,R,hs,he,hk⟩
  have ex:max (a+1) nr=nr:=by omega
  rw [ex] at hs he hk ⊢
  exact ⟨nr,e,rfl,h2,Ei _,R,hs,he,hk⟩
 case post =>
  rintro c Ko ⟨x,e,rfl,hx1,hx2,R,hs,he,hk⟩
  have hz:=R.rp.size
  dsimp only
  by_cases h0:e > 0
  ·refine av h0 ?_
   refine En (wpS_reverse ?_)
   refine jL hO (R.arr (Rp.mirror (by omega) (by omega) (by omega))) (by omega) hx2 h3 (fun i j hi Kw hj=>?_) h
   show κ.kle (KK κ (mirror (arrOf Ko) _ _ _) j) (KK κ (mirror (arrOf Ko) _ _ _) i)
   rw [Hg (by omega) hk,Hg (by omega) hk]
   exact hs i j hi Kw hj
  ·refine aw h0 ?_
   exact jL hO R (by omega) hx2 h3 hs h
 case step =>
  rintro x c Ko hx1 hx2 ⟨e,rfl,R,hs,he,hk⟩
  have hz:=R.rp.size
  dsimp only
  refine En (eN hO R.tb R.gd (by omega) (by omega) ?_)
  cases e1:κ.blt (KK κ (arrOf Ko) (lo+x)) (KK κ (arrOf Ko) (lo+x - 1)) with
  | true =>
   simp only [Gb]
   have nx:∀ xs:Array Keyed,(∀ k,KK κ xs k=KK κ (arrOf Ko) k)→NiI κ xs lo (lo+(x+1)):=fun xs ek i j hi Kw hj=>by
    rw [ek,ek]
    by_cases q:j < lo+x
    ·exact hs i j hi Kw q
    ·have:j=lo+x:=by omega
     subst this
     by_cases q2:i=lo+x
     ·subst q2;exact FD _
     ·exact GH (GU e1) (hs i (lo+x - 1) hi (by omega) (by omega))
   by_cases h0:e > 0
   ·refine av h0 ?_
    exact En (wpS_reverse (Eu ⟨0,rfl,R.arr (Rp.mirror (by omega) (by omega) (by omega)),nx _ (Hg (by omega) hk),by omega,fun i h1 h2=>by congr 1;omega⟩))
   ·refine aw h0 ?_
    exact Eu ⟨0,rfl,R,nx _ fun _=>rfl,by omega,fun i h1 h2=>by congr 1;omega⟩
  | false =>
   simp only [EB,FF]
   refine En (eN hO R.tb R.gd (by omega) (by omega) ?_)
   cases e2:κ.blt (KK κ (arrOf Ko) (lo+x - 1)) (KK κ (arrOf Ko) (lo+x)) with
   | true =>
    simp only [Gb]
    exact Eu ⟨x,e,rfl,hx1,by omega,R,hs,he,hk⟩
   | false =>
    simp only [EB,FF]
    have ee:KK κ (arrOf Ko) (lo+x)=KK κ (arrOf Ko) (lo+x - 1):=KeyOrd.kle_antisymm e2 e1
    refine Eu ⟨e+1,rfl,R,fun i j hi Kw hj=>?_,by omega,fun i h1 h2=>?_⟩
    ·by_cases q:j < lo+x
     ·exact hs i j hi Kw q
     ·have:j=lo+x:=by omega
      subst this
      by_cases q2:i=lo+x
      ·subst q2;exact FD _
      ·rw [ee];exact hs i (lo+x - 1) hi (by omega) (by omega)
    ·rw [show lo+(x+1) - 1=lo+x by omega]
     by_cases q:i=lo+x
     ·subst q;rfl
     ·rw [ee];exact hk i (by omega) (by omega)
theorem uq {st:SortSt}{lo nr:Nat}{Q:Option Nat→SortSt→Prop}(hO:Lt1 κ prog w A s kd)(hB:TB kd st)(g:∀ x∈(arrOf st).toList,Gd κ x)(h1:1≤nr)(h3:lo+nr≤(arrOf st).size)
  (h:∀ n st',1≤n→n≤nr→Rs kd κ lo (lo+nr) st st'→SrI κ (arrOf st') lo (lo+n)→Q (some n) st'):wpS (model prog w) A E s (countRun' lo nr) Q st:=by
 have R:Rs kd κ lo (lo+nr) st st:=.refl hB g
 rw [countRun'_eq]
 change wpS _ _ _ _ (do
  let mut n:=1
  for _ in [1:nr] do
   let some sm ← ltAt' (lo+n) (lo+n - 1) | return none
   if sm then break
   n:=n+1
  if n == nr then return some n
  if n > 1 then
   let some rs ← ltAt' lo (lo+n - 1) | return none
   if rs then return some n
   reverseSlice' lo (lo+n)
  Cg lo n nr) _ _
 refine En (FW (Fm (I:=fun x c st'=>st'=st∧c=(none,x)∧SrI κ (arrOf st) lo (lo+x))
  (Q:=fun c st'=>st'=st∧∃ n,c=(none,n)∧1≤n∧n≤nr∧SrI κ (arrOf st) lo (lo+n)∧(n=nr ∨ κ.klt (KK κ (arrOf st) (lo+n)) (KK κ (arrOf st) (lo+n - 1)))) ?step ?fin ⟨rfl,rfl,fun i j hi Kw hj=>by have:i=j:=(by omega);subst this;exact FD _⟩) ?post)
 case fin =>
  rintro c st' ⟨rfl,rfl,a1⟩
  have e:max 1 nr=nr:=by omega
  rw [e] at a1 ⊢
  exact ⟨rfl,nr,rfl,by omega,Ei _,a1,.inl rfl⟩
 case step =>
  rintro x c st' hx1 hx2 ⟨rfl,rfl,a1⟩
  dsimp only
  refine En (eN hO hB g (by omega) (by omega) ?_)
  cases e:κ.blt (KK κ (arrOf st') (lo+x)) (KK κ (arrOf st') (lo+x - 1)) with
  | true =>
   simp only [Gb]
   exact Eu ⟨rfl,x,rfl,hx1,by omega,a1,.inr e⟩
  | false =>
   simp only [EB,FF]
   exact Eu ⟨rfl,rfl,qx a1 (by omega) e⟩
 rintro c st' ⟨rfl,n,rfl,a1,a2,a3,a4⟩
 dsimp only
 by_cases hn:n=nr
 ·refine av (by simpa using hn) ?_
  exact Eu (h n st' a1 a2 R a3)
 ·refine aw (by simpa using hn) ?_
  have lt:κ.klt (KK κ (arrOf st') (lo+n)) (KK κ (arrOf st') (lo+n - 1)):=a4.resolve_left hn
  by_cases hg:n > 1
  ·refine av hg ?_
   refine En (eN hO hB g (by omega) (by omega) ?_)
   cases e:κ.blt (KK κ (arrOf st') lo) (KK κ (arrOf st') (lo+n - 1)) with
   | true =>
    simp only [Gb]
    exact Eu (h n st' a1 a2 R a3)
   | false =>
    simp only [EB,FF]
    refine En (wpS_reverse ?_)
    have same:∀ i,lo≤i→i < lo+n→KK κ (arrOf st') i=KK κ (arrOf st') (lo+n - 1):=fun i hi1 hi2=>by
     have b1:=a3 i (lo+n - 1) hi1 (by omega) (by omega)
     have b2:=a3 lo i (Ei _) hi1 hi2
     exact KeyOrd.kle_antisymm b1 (GH e b2)
    refine mn hO (R.arr (Rp.mirror (Ei _) (by omega) (by omega))) (by omega) h3 (fun i j hi Kw hj=>?_) h
    show κ.kle (KK κ (mirror (arrOf st') _ _ _) j) (KK κ (mirror (arrOf st') _ _ _) i)
    rw [Hg (by omega) same,Hg (by omega) same]
    by_cases q:j < lo+n
    ·rw [same i hi (by omega),same j (by omega) q]
     exact FD _
    ·have:j=lo+n:=by omega
     subst this
     by_cases q2:i=lo+n
     ·subst q2;exact FD _
     ·rw [same i hi (by omega)]
      exact GU lt
  ·refine aw hg ?_
   have:n=1:=by omega
   subst this
   refine mn hO R (by omega) h3 (fun i j hi Kw hj=>?_) h
   by_cases q2:i=j
   ·subst q2;exact FD _
   ·have e1:i=lo:=by omega
    have e2:j=lo+1:=by omega
    subst e1 e2
    exact GU lt
end
end Tv
namespace Tv
open PySem PyProof.Rows
variable {κ:KeyKind} {kd:SortKind}
section
variable {prog:Program} {w:World} {A:Around} {E:Value→Shared→Prop} {s:Shared}
theorem ur {st:SortSt}{lo n ok:Nat}{Q:Bool→SortSt→Prop}(hO:Lt1 κ prog w A s kd)(hB:TB kd st)(g:∀ x∈(arrOf st).toList,Gd κ x)(hn:lo+n≤(arrOf st).size)(hok:ok≤n)(hs:SrI κ (arrOf st) lo (lo+ok))
  (h:∀ st',Rs kd κ lo (lo+n) st st'→SrI κ (arrOf st') lo (lo+n)→Q true st'):wpS (model prog w) A E s (binarySort' lo n ok) Q st:=by
 rw [binarySort'_eq]
 refine En (FW (Fm (I:=fun y c st'=>c=(none,())∧Rs kd κ lo (lo+n) st st'∧SrI κ (arrOf st') lo (lo+min y n))
  (Q:=fun c st'=>c=(none,())∧Rs kd κ lo (lo+n) st st'∧SrI κ (arrOf st') lo (lo+n)) ?step ?fin ?init) ?post)
 case post =>
  rintro c st' ⟨rfl,R,K0⟩
  exact Eu (h st' R K0)
 case init =>
  refine ⟨rfl,.refl hB g,fun i j hi Kw hj=>?_⟩
  by_cases e:i=j
  ·subst e;exact FD _
  ·exact hs i j hi Kw (by omega)
 case fin =>
  rintro c st' ⟨hc,R,K0⟩
  rw [show min (max (max ok 1) n) n=n by omega] at K0
  exact ⟨hc,R,K0⟩
 case step =>
  rintro y c st' hy1 hy2 ⟨rfl,R,K0⟩
  have hz:=R.rp.size
  rw [show min y n=y by omega] at K0
  refine En (FW (Fm (I:=fun x c Ko=>Ko=st'∧∃ l r,c=(none,l,r)∧l≤r∧r≤y∧r - l≤y - x ∧
    (∀ i,lo≤i→i < lo+l→κ.kle (KK κ (arrOf st') i) (KK κ (arrOf st') (lo+y)))∧(∀ i,lo+r≤i→i < lo+y→κ.klt (KK κ (arrOf st') (lo+y)) (KK κ (arrOf st') i)))
   (Q:=fun c Ko=>Ko=st'∧∃ l r,c=(none,l,r)∧l≤y ∧
    (∀ i,lo≤i→i < lo+l→κ.kle (KK κ (arrOf st') i) (KK κ (arrOf st') (lo+y)))∧(∀ i,lo+l≤i→i < lo+y→κ.klt (KK κ (arrOf st') (lo+y)) (KK κ (arrOf st') i))) ?istep ?ifin ?iinit) ?ipost)
  case iinit=>exact ⟨rfl,0,y,rfl,by omega,by omega,by omega,fun i h1 h2=>by omega,fun i h1 h2=>by omega⟩
  case ifin =>
   rintro c Ko ⟨rfl,l,r,rfl,q1,q2,q3,q4,q5⟩
   have:l=r:=by omega
   subst this
   exact ⟨rfl,l,l,rfl,q2,q4,q5⟩
  case istep =>
   rintro x c Ko _ hx ⟨rfl,l,r,rfl,q1,q2,q3,q4,q5⟩
   dsimp only
   by_cases hge:l≥r
   ·refine av hge ?_
    have:l=r:=by omega
    subst this
    exact Eu ⟨rfl,l,l,rfl,q2,q4,q5⟩
   ·refine aw hge ?_
    refine En (eN hO R.tb R.gd (by omega) (by omega) ?_)
    cases e:κ.blt (KK κ (arrOf Ko) (lo+y)) (KK κ (arrOf Ko) (lo+(l+r) / 2)) with
    | true =>
     simp only [Gb]
     refine Eu ⟨rfl,l,(l+r) / 2,rfl,by omega,by omega,by omega,q4,fun i h1 h2=>?_⟩
     exact KeyOrd.klt_of_klt_of_kle e (K0 _ _ (by omega) h1 h2)
    | false =>
     simp only [EB,FF]
     refine Eu ⟨rfl,(l+r) / 2+1,r,rfl,by omega,by omega,by omega,fun i h1 h2=>?_,q5⟩
     exact GH (K0 i (lo+(l+r) / 2) h1 (by omega) (by omega)) (show κ.kle _ _ from e)
  case ipost =>
   rintro c Ko ⟨rfl,l,r,rfl,hl,q4,q5⟩
   show wpS _ _ _ _ (do moveDown' (lo+y) (lo+l);pure (ForInStep.yield (none,()))) _ _
   rw [moveDown'_eq]
   have hk:lo+y < (arrOf Ko).size:=by omega
   refine En (G6 (Eu ⟨rfl,R.arr (Rp.bubble (by omega) (by omega) hk),?_⟩))
   rw [show min (y+1) n=y+1 by omega]
   intro i j hi Kw hj
   show κ.kle (KK κ (bubble (arrOf Ko) (lo+y) (lo+y - (lo+l))) i) (KK κ (bubble (arrOf Ko) (lo+y) (lo+y - (lo+l))) j)
   rw [KK_bubble hk (by omega),KK_bubble hk (by omega),show lo+y - (lo+y - (lo+l))=lo+l by omega]
   repeat' split
   all_goals first
    | (exfalso;omega)
    | exact FD _
    | exact q4 _ (by omega) (by omega)
    | exact GU (q5 _ (by omega) (by omega))
    | exact K0 _ _ (by omega) (by omega) (by omega)
end
theorem qy:∀ (r:List Keyed) (z b:Nat) (arr:Array Keyed) (X Y Z:List Keyed),arr.toList=X++(Y++Z)→X.length=z+b→Y.length=r.length →
  ((r.zipIdx b).foldl (fun a (p,j)=>a.setIfInBounds (z+j) p) arr).toList=X++(r++Z)
 | [],z,b,arr,X,Y,Z,e,h1,h2=>by
  rw [Hh.mp h2] at e
  exact e
 | p::r,z,b,arr,X,Y,Z,e,h1,h2=>by
  cases Y with
  | nil=>simp at h2
  | cons y Y =>
   rw [G3,Jl]
   have:=qy r z (b+1) (arr.setIfInBounds (z+b) p) (X++[p]) Y Z (by
    rw [Ii,e,← h1,List.set_append_right _ _ (Ei _),Hx]
    simp) (by simp [h1];omega) (by simpa using h2)
   rw [this]
   simp
def mAt (i:Nat):StateT SortSt Sem Bool:=do
 let u ← get
 let (some (za,la,pw),some (zb,lb,_)):=((pendingOf u)[i]?,(pendingOf u)[i+1]?) | unsupported "internal:list.sort.pending"
 set (setPending u (((pendingOf u).setIfInBounds i (za,la+lb,pw)).eraseIdxIfInBounds (i+1)))
 let some c ← gal false (← elem' (arrOf u) zb) (arrOf u) za la 0 | return false
 let (za,la):=(za+c,la - c)
 if la == 0 then return true
 let some lb ← gal true (← elem' (arrOf u) (za+la - 1)) (arrOf u) zb lb (lb - 1) | return false
 if lb == 0 then return true
 let x:=(arrOf u).extract za zb
 let y:=(arrOf u).extract zb (zb+lb)
 let out ← if la≤lb then mlo x y else mhi x y
 modify fun v=>setArr v (out.toList.zipIdx.foldl (fun a (p,j)=>a.setIfInBounds (za+j) p) (arrOf v))
 return (failedOf (← get)).isNone
theorem z_ (i:Nat):mergeAt' i=mAt i:=rfl
end Tv
namespace Tv
open PySem PyProof.Rows
variable {κ:KeyKind} {kd:SortKind}
section
variable {prog:Program} {w:World} {A:Around} {E:Value→Shared→Prop} {s:Shared}
end
end Tv
namespace HT
open PySem PySem.Spec PyProof.Rows
section
variable {prog:Program} {w:World} {A:Around} {E:Value→Shared→Prop} {s:Shared}
end
end HT
namespace L2
open PySem PySem.Spec PyProof.Rows Wd
end L2
namespace PySem
open Sem (wp)
section
variable {prog:Program} {w:World} {A:Around} {E:Value→Shared→Prop} {s:Shared}
def ddp (val:Nat→Str):Nat→List Str
 | 0=>[]
 | i+1=>if val i∈ddp val i then ddp val i else ddp val i++[val i]
theorem qz (val:Nat→Str):∀ i,(ddp val i).length≤i
 | 0=>Ei _
 | i+1=>by
  have ih:=qz val i
  unfold ddp
  split
  ·omega
  ·rw [Eb,ES];omega
section
variable {R:Result→Shared→Prop} {I:Addr} {fp wr:List Addr} {G:Array GenState→Array GenState→Prop} {n:Nat} {P:Nat→Value→Prop} {St:Nat→Shared→Prop}
end
abbrev sob (led:Bool):Obj:={ cls:=.type "set",dict:=none,data:=.set #[] 0 (.fresh 0 0 led) }
end
def uu (xs:Array Nat):Prop:=∀ (i j a b:Nat),i < j→xs[i]? = some a→xs[j]? = some b→a < b
theorem iS {xs:Array Nat}{j:Nat}(hr:uu xs):∀ (f lo hi:Nat),hi - lo≤f→lo≤hi→hi≤xs.size→(∀ i a,i < lo→xs[i]? = some a→a < j)→(∀ i a,hi≤i→xs[i]? = some a→j≤a) →
  SetTable.below.go xs j f lo hi≤xs.size∧(∀ i a,i < SetTable.below.go xs j f lo hi→xs[i]? = some a→a < j)∧∀ i a,SetTable.below.go xs j f lo hi≤i→xs[i]? = some a→j≤a
 | 0,lo,hi,h,h1,h2,l,u=>by
  have e:lo=hi:=by omega
  unfold SetTable.below.go
  exact ⟨by omega,l,by rw [e];exact u⟩
 | f+1,lo,hi,h,h1,h2,l,u=>by
  unfold SetTable.below.go
  by_cases Kq:lo < hi
  ·rw [if_pos Kq]
   have hm:(lo+hi) / 2 < xs.size:=by omega
   have em:xs[(lo+hi) / 2]? = some xs[(lo+hi) / 2]:=JJ xs _ hm
   have eg:xs.getD ((lo+hi) / 2) j=xs[(lo+hi) / 2]:=by simp [Array.getD,hm]
   dsimp only
   rw [eg]
   split
   ·rename_i hx
    refine iS hr f _ _ (by omega) (by omega) h2 (fun i a hi' e=>?_) u
    by_cases q:i=(lo+hi) / 2
    ·subst q;rw [em] at e;cases e;exact hx
    ·exact JH (hr i _ _ _ (by omega) e em) hx
   ·rename_i hx
    refine iS hr f _ _ (by omega) (by omega) (by omega) l (fun i a hi' e=>?_)
    by_cases q:i=(lo+hi) / 2
    ·subst q;rw [em] at e;cases e;omega
    ·have:=hr _ i _ _ (show (lo+hi) / 2 < i by omega) em e
     omega
  ·rw [if_neg Kq]
   have e:lo=hi:=by omega
   exact ⟨by omega,l,by rw [e];exact u⟩
theorem uv {xs:Array Nat}(hr:uu xs)(j:Nat):SetTable.below xs j≤xs.size∧(∀ i a,i < SetTable.below xs j→xs[i]? = some a→a < j)∧∀ i a,SetTable.below xs j≤i→xs[i]? = some a→j≤a :=
 iS hr xs.size 0 xs.size (by omega) (E1 _) (Ei _) (fun i a h=>absurd h (Jo _)) fun i a h e=>by
  have:=(Ge.mp e).1
  omega
theorem uu.put {xs:Array Nat}(hr:uu xs){j:Nat}(hn:xs[SetTable.below xs j]? ≠ some j):uu (SetTable.insertAt xs (SetTable.below xs j) j):=by
 obtain ⟨h1,h2,h3⟩:=uv hr j
 have hl:(SetTable.insertAt xs (SetTable.below xs j) j).toList=xs.toList.take (SetTable.below xs j)++j::xs.toList.drop (SetTable.below xs j):=by
  unfold SetTable.insertAt
  simp [Fw,E9]
 have at_:∀ k,(SetTable.insertAt xs (SetTable.below xs j) j)[k]? = if k < SetTable.below xs j then xs[k]? else if k=SetTable.below xs j then some j else xs[k - 1]?:=fun k=>by
  rw [← E5,hl]
  have z:(xs.toList.take (SetTable.below xs j)).length=SetTable.below xs j:=by rw [Es,Ef];omega
  by_cases q1:k < SetTable.below xs j
  ·rw [if_pos q1,E3 (by omega),Hf,if_pos q1,E5]
  ·rw [if_neg q1,ED (by omega),z]
   by_cases q2:k=SetTable.below xs j
   ·rw [if_pos q2,q2,Hx]
    rfl
   ·rw [if_neg q2]
    obtain ⟨m,hm⟩:∃ m,k - SetTable.below xs j=m+1:=⟨k - SetTable.below xs j - 1,by omega⟩
    rw [hm,IS,E8,E5]
    congr 1
    omega
 intro i k a b hik ea eb
 rw [at_] at ea eb
 have ne:∀ m c,SetTable.below xs j≤m→xs[m]? = some c→j < c:=fun m c hm e=>by
  have l:=h3 m c hm e
  by_cases q:m=SetTable.below xs j
  ·subst q
   have:c≠j:=fun z=>hn (by rw [e,z])
   omega
  ·have hb:SetTable.below xs j < xs.size:=by have:=(Ge.mp e).1;omega
   have e0:xs[SetTable.below xs j]? = some xs[SetTable.below xs j]:=JJ xs _ hb
   have:=h3 _ _ (Ei _) e0
   have:=hr _ m _ _ (by omega) e0 e
   omega
 split at ea
 ·rename_i c1
  split at eb
  ·exact hr i k a b hik ea eb
  ·split at eb
   ·cases eb;exact h2 i a c1 ea
   ·have:=h2 i a c1 ea
    have:=ne (k - 1) b (by omega) eb
    omega
 ·split at ea
  ·cases ea
   rw [if_neg (by omega),if_neg (by omega)] at eb
   exact ne (k - 1) b (by omega) eb
  ·rw [if_neg (by omega),if_neg (by omega)] at eb
   exact hr (i - 1) (k - 1) a b (by omega) ea eb
theorem nJ (n:Nat):uu (Array.range n):=fun i j a b h ea eb=>by
 rw [Array.getElem?_range] at ea eb
 split at ea <;> split at eb <;> simp_all
theorem uw:uu #[]:=fun i j a b h ea=>by simp at ea
theorem gT {t:SetTable}(hd:t.dummies=#[])(g:Nat→Int)(h:Int):∀ (f:Nat) (p:SetTable.Probe) (j:Nat) (d:Option Nat),p.dummy=none→SetTable.probe.go t g h f p=some (.empty j d)→d=none∧t.slot j = .empty
 | 0,p,j,d,_,e=>by unfold SetTable.probe.go at e;cases e
 | f+1,p,j,d,hp,e=>by
  unfold SetTable.probe.go at e
  have hh:∀ x,SetTable.has t.dummies x=false:=fun x=>by rw [hd];unfold SetTable.has;simp
  have hs:∀ x,t.slot x ≠ .dummy:=fun x=>by
   unfold SetTable.slot
   dsimp only
   rw [hh]
   simp only [EB,FF]
   split
   ·exact fun z=>by cases z
   ·exact fun z=>by cases z
  cases hq:t.slot p.j with
  | empty =>
   rw [hq] at e
   cases e
   exact ⟨hp,hq⟩
  | dummy=>exact absurd hq (hs _)
  | live i =>
   rw [hq] at e
   have ad:(t.advance p).dummy=none:=by
    unfold SetTable.advance
    split
    ·exact hp
    ·exact hp
   dsimp only at e
   split at e
   ·cases e
   ·exact gT hd g h f _ j d ad e
theorem ux {t:SetTable}(hd:t.dummies=#[]){h:Int}{j:Nat}{b:Bool}(e:t.freeSlot h=some (j,b)):t.place[SetTable.below t.place j]? ≠ some j:=by
 unfold SetTable.freeSlot SetTable.probe at e
 split at e
 ·rename_i k d hq
  obtain ⟨rfl,hs⟩:=gT hd _ _ _ _ k d rfl hq
  cases e
  intro z
  unfold SetTable.slot at hs
  simp only [IZ] at z
  dsimp only at hs
  rw [z] at hs
  simp at hs
 ·cases e
abbrev ldr (w:World):Bool:=!w.params.followText "set-order"
theorem nK {t:SetTable}{es:Array (Int × Value)}{h:Int}{x:Value}:(layNew t es h x).2.1.led=t.led:=by
 unfold layNew
 split
 ·dsimp only
  unfold SetTable.orStandIn
  split
  ·rfl
  ·rfl
 ·rfl
theorem nM {t t':SetTable}{hs:Array Int}{w:Nat}{order:Array Nat}(h:t.relaid hs w=some (t',order)):t'.led=t.led:=by
 unfold SetTable.relaid SetTable.laid at h
 cases hq:SetTable.layClean (SetTable.sizeAbove w - 1) hs with
 | none=>rw [hq] at h;cases h
 | some o=>rw [hq] at h;cases h;rfl
theorem jM {t:SetTable}{es:Array (Int × Value)}{w:Nat}:(relayAll t es w).2.1.led=t.led:=by
 unfold relayAll
 split
 ·rename_i t' order he
  dsimp only
  split
  ·exact nM he
  ·rfl
 ·rfl
def Tk (t:SetTable):Prop:=t.dummies=#[]∧uu t.place
theorem dt {t:SetTable}{n:Nat}:Tk (t.standIn n):=⟨rfl,nJ n⟩
theorem qA {t:SetTable}{es:Array (Int × Value)}{h:Int}{x:Value}(k:Tk t):Tk (layNew t es h x).2.1:=by
 unfold layNew
 split
 ·rename_i j d hq
  dsimp only
  unfold SetTable.orStandIn
  split
  ·refine ⟨?_,k.2.put (ux k.1 hq)⟩
   have:SetTable.has t.dummies j=false:=by rw [k.1];unfold SetTable.has;simp
   show (if SetTable.has t.dummies j=true then _ else t.dummies)=#[]
   rw [this]
   simpa using k.1
  ·exact dt
 ·exact dt
theorem qB (n:Nat)(f:Nat→Option Nat):uu ((((List.range n).filterMap fun j=>(f j).map (j,·)).map (·.1)).toArray):=by
 have key:((((List.range n).filterMap fun j=>(f j).map (j,·)).map (·.1))).Pairwise (· < ·):=by
  rw [List.pairwise_map]
  refine List.Pairwise.filterMap _ (fun a a' Kq b hb b' hb'=>?_) List.pairwise_lt_range
  cases h1:f a with
  | none=>rw [h1] at hb;simp at hb
  | some x =>
   rw [h1] at hb
   cases h2:f a' with
   | none=>rw [h2] at hb';simp at hb'
   | some x' =>
    rw [h2] at hb'
    simp at hb hb'
    rw [← hb,← hb']
    exact Kq
 intro i j a b Kw ea eb
 rw [List.getElem?_toArray] at ea eb
 obtain ⟨h1,e1⟩:=Ed.mp ea
 obtain ⟨h2,e2⟩:=Ed.mp eb
 rw [← e1,← e2]
 exact FE.mp key i j h1 h2 Kw
theorem kH {t:SetTable}{es:Array (Int × Value)}{w:Nat}:Tk (relayAll t es w).2.1:=by
 unfold relayAll
 split
 ·rename_i t' order he
  dsimp only
  split
  ·unfold SetTable.relaid SetTable.laid at he
   cases hq:SetTable.layClean (SetTable.sizeAbove w - 1) (es.map (·.1)) with
   | none=>rw [hq] at he;cases he
   | some o=>rw [hq] at he;cases he;exact ⟨rfl,qB _ _⟩
  ·exact dt
 ·exact dt
section
variable {K:Type} [DecidableEq K] {prog:Program} {w:World} {knd:KeyKind prog w K} {A:Around} {E:Value→Shared→Prop} {s:Shared}
def nN {K:Type}[DecidableEq K]{prog:Program}{w:World}(knd:KeyKind prog w K)(h:Heap)(a:Addr)(dl:List K):Prop :=
 ∃ o es ep t,h.get? a=some o∧o.ExactSet∧o.data = .set es ep t∧ElemsOf knd es.toList∧(∀ k,k∈dl ↔ ∃ e∈es.toList,knd.is k e.2=true)∧es.size < scanBound∧t.fits es.size=true∧es.size=dl.length∧Tk t∧t.led=ldr w
theorem Ab {a:Addr}{o:Obj}{es Kz:Array (Int × Value)}{ep:Nat}{t t2:SetTable}{dl:List K}(ho:s.heap.get? a=some o)(hex:o.ExactSet)(hd:o.data = .set es ep t)(hel:ElemsOf knd Kz.toList)
  (hm:∀ k,k∈dl ↔ ∃ e∈Kz.toList,knd.is k e.2=true) (hb:Kz.size < scanBound) (hf:t2.fits Kz.size=true) (hn:Kz.size=dl.length) (hp:Tk t2) (hld:t2.led=ldr w) :
  (s.heap.update a (Obj.putSet Kz t2)).get? a=some { o with data:=.set Kz (ep+1) t2 }∧nN knd (s.heap.update a (Obj.putSet Kz t2)) a dl:=by
 have hg:(s.heap.update a (Obj.putSet Kz t2)).get? a=some { o with data:=.set Kz (ep+1) t2 }:=by
  have q:=Hv (Obj.putSet Kz t2) ho (by rw [putSet_of Kz t2 hd];rfl)
  rwa [putSet_of Kz t2 hd] at q
 exact ⟨hg,_,Kz,ep+1,t2,hg,hex,rfl,hel,hm,hb,hf,hn,hp,hld⟩
theorem Ci {a:Addr}{dl:List K}{z:K}{v:Value}{Q:Bool→Shared→Prop}(hkey:knd.is z v=true)(hsc:v.scannable=true)(hS:nN knd s.heap a dl)(hroom:dl.length+1 < scanBound)
  (h:∀ h' b,Heap.SameBut a s.heap h'→nN knd h' a (if z∈dl then dl else dl++[z])→Q b { s with heap:=h' }) :
  wpAny (model prog w) A (setAddHashed a v (knd.hash z)) Q E s:=by
 obtain ⟨o,es,ep,t,ho,hex,hd,hel,hm,hb,hf,hn,hpl,hld⟩:=hS
 unfold setAddHashed setAddHashedIn
 refine GT (D9 (wpAny_setState_of ho hd hf ?_))
 dsimp only
 rw [byScan_of (knd:=knd) hsc hb hel]
 simp only [↓reduceIte]
 unfold setAddByScan
 refine D9 (D9 (Gh (D9 (wpAny_setScan_of (knd:=knd) hkey ho hd hf hel ?_))))
 cases hr:List.findIdx? (fun e=>knd.is z e.2) es.toList with
 | some j =>
  dsimp only
  obtain ⟨hj,hpj,_⟩:=List.findIdx?_eq_some_iff_getElem.mp hr
  have hz:z∈dl:=(hm z).mpr ⟨es.toList[j],Fc hj,hpj⟩
  refine Ep (Ep ?_)
  have q:=h s.heap false (Heap.SameBut.refl a s.heap) (by rw [if_pos hz];exact ⟨o,es,ep,t,ho,hex,hd,hel,hm,hb,hf,hn,hpl,hld⟩)
  have e:s={ s with heap:=s.heap }:=by cases s;rfl
  rw [e];exact q
 | none =>
  dsimp only
  have hz:z∉dl:=fun hz=>by
   obtain ⟨e,he,hp⟩:=(hm z).mp hz
   have q:=List.findIdx?_eq_none_iff.mp hr e he
   rw [hp] at q
   cases q
  have hq:∀ h',Heap.SameBut a s.heap h'→nN knd h' a (dl++[z])→Q true { s with heap:=h' }:=fun h' sb hs=>h h' true sb (by rw [if_neg hz];exact hs)
  have K1:=layNew_perm t es (knd.hash z) v
  have hfits:=layNew_fits t es (knd.hash z) v
  have hoff:=qA (es:=es) (h:=knd.hash z) (x:=v) hpl
  have hl1:(layNew t es (knd.hash z) v).2.1.led=ldr w:=nK.trans hld
  generalize hL:layNew t es (knd.hash z) v=L at K1 hfits hoff hl1 ⊢
  obtain ⟨Kz,t1,wasDummy,gave⟩:=L
  dsimp only at K1 hfits hoff hl1 ⊢
  rw [Gx] at K1
  have hel1:ElemsOf knd Kz.toList:=(hel.push hkey hsc).perm K1
  have hm1:∀ k,k∈dl++[z] ↔ ∃ e∈Kz.toList,knd.is k e.2=true:=fun k=>by
   rw [← mem_push_iff (knd:=knd) (S:=fun k=>decide (k∈dl)) hkey (fun k=>by rw [Eh];exact hm k) K1 k]
   simp
  have hsz1:Kz.size=(dl++[z]).length:=by rw [← Ef,K1.length_eq,Eb,Ef,hn,Eb];rfl
  have hb1:Kz.size < scanBound:=by rw [hsz1,Eb];exact hroom
  have tail:∀ t2:SetTable,Tk t2→t2.led=ldr w→t2.fits Kz.size=true→wpAny (model prog w) A (do
    storeSet a Kz t2
    if (!wasDummy && t2.tooFull)=true then do
      (match (relayAll t2 Kz (SetTable.grown Kz.size)).2.2 with | true=>rule "set.scan.the-table-gave-way" | false=>pure ())
      storeSet a (relayAll t2 Kz (SetTable.grown Kz.size)).1 (relayAll t2 Kz (SetTable.grown Kz.size)).2.1
      pure (some true)
     else pure (some true)) (fun r s'=>wpAny (model prog w) A (match r with | some added=>pure added | none=>setAddHashedIn a v (knd.hash z) 99999) Q E s') E s:=fun t2 hp2 hd2 hf2=>by
   refine D9 (wpAny_storeSet_of ho hd ?_ (fits_of_scanBound hb1))
   obtain ⟨ho1,hS1⟩:=Ab ho hex hd hel1 hm1 hb1 hf2 hsz1 hp2 hd2
   have hsb1:=HY s.heap a (Obj.putSet Kz t2)
   split
   ·have hp:=relayAll_perm t2 Kz (SetTable.grown Kz.size)
    have hfr:=relayAll_fits t2 Kz (SetTable.grown Kz.size)
    have hof:=kH (t:=t2) (es:=Kz) (w:=SetTable.grown Kz.size)
    have hof2:=(jM (t:=t2) (es:=Kz) (w:=SetTable.grown Kz.size)).trans hd2
    generalize relayAll t2 Kz (SetTable.grown Kz.size)=Rl at hp hfr hof hof2 ⊢
    obtain ⟨es2,t3,gave2⟩:=Rl
    dsimp only at hp hfr hof hof2 ⊢
    have hsz:es2.size=Kz.size:=by rw [← Ef,hp.length_eq,Ef]
    have go:wpAny (model prog w) A (storeSet a es2 t3 >>= fun _=>pure (some true)) (fun r s'=>wpAny (model prog w) A (match r with | some added=>pure added | none=>setAddHashedIn a v (knd.hash z) 99999) Q E s') E { s with heap:=s.heap.update a (Obj.putSet Kz t2) }:=by
     refine D9 (wpAny_storeSet_of ho1 rfl ?_ (fits_of_scanBound (by rw [hsz];exact hb1)))
     obtain ⟨_,hS2⟩:=Ab (s:={ s with heap:=s.heap.update a (Obj.putSet Kz t2) }) ho1 hex rfl (hel1.perm hp) (fun k=>(hm1 k).trans ⟨fun zq2=>(by obtain ⟨e,he,q⟩:=zq2;exact ⟨e,hp.mem_iff.mpr he,q⟩),fun zq1=>(by obtain ⟨e,he,q⟩:=zq1;exact ⟨e,hp.mem_iff.mp he,q⟩)⟩) (by rw [hsz];exact hb1) hfr (hsz.trans hsz1) hof hof2
     exact Ep (Ep (hq _ (hsb1.trans (HY _ a _)) hS2))
    cases gave2
    ·exact D9 (Ep go)
    ·exact D9 (Gh go)
   ·exact Ep (Ep (hq _ hsb1 hS1))
  have rest:wpAny (model prog w) A (do
    let byValue ← if t1.plain=true then hashByValue 8 v else pure true
    storeSet a Kz (if byValue=true then t1 else { t1 with plain:=false })
    if (!wasDummy && (if byValue=true then t1 else { t1 with plain:=false }:SetTable).tooFull)=true then do
      (match (relayAll (if byValue=true then t1 else { t1 with plain:=false }) Kz (SetTable.grown Kz.size)).2.2 with | true=>rule "set.scan.the-table-gave-way" | false=>pure ())
      storeSet a (relayAll (if byValue=true then t1 else { t1 with plain:=false }) Kz (SetTable.grown Kz.size)).1 (relayAll (if byValue=true then t1 else { t1 with plain:=false }) Kz (SetTable.grown Kz.size)).2.1
      pure (some true)
     else pure (some true)) (fun r s'=>wpAny (model prog w) A (match r with | some added=>pure added | none=>setAddHashedIn a v (knd.hash z) 99999) Q E s') E s:=by
   by_cases hp1:t1.plain=true
   ·rw [if_pos hp1]
    refine D9 ?_
    rw [hashByValue_scannable 8 hsc]
    refine Ep ?_
    cases plainKind v
    ·exact tail { t1 with plain:=false } hoff hl1 (SetTable.fits_plain_off hfits)
    ·exact tail t1 hoff hl1 hfits
   ·rw [if_neg hp1]
    refine D9 (Ep ?_)
    exact tail t1 hoff hl1 hfits
  cases gave
  ·exact D9 (Ep rest)
  ·exact D9 (Gh rest)
theorem nN.at {h h':Heap}{a:Addr}{dl:List K}(hS:nN knd h a dl)(k:∀ o,h.get? a=some o→h'.get? a=some o):nN knd h' a dl:=by
 obtain ⟨o,es,ep,t,ho,r⟩:=hS
 exact ⟨o,es,ep,t,k o ho,r⟩
section
variable {R:Result→Shared→Prop} {I:Addr} {fp wr:List Addr} {G:Array GenState→Array GenState→Prop} {n:Nat} {P:Nat→Value→Prop} {St:Nat→Shared→Prop}
theorem Cj (dd:Nat→List K)(W:WalksS prog w A.in1 I fp wr G n P St)(S:Addr)(hSf:S∉fp)(val:Nat→K)(d1:∀ i,val i∈dd i→dd (i+1)=dd i)(d2:∀ i,val i∉dd i→dd (i+1)=dd i++[val i])(hl:∀ i,(dd i).length≤i)(hval:∀ i v,P i v→knd.is (val i) v=true∧v.scannable=true)(hb:n+1 < scanBound) :
  ∀ (k i:Nat) (s:Shared),n - i=k→i≤n→St i s→nN knd s.heap S (dd i)→(∀ s',Moved (S::wr) G s s'→nN knd s'.heap S (dd n)→R (.ok (.ret .none)) s') →
   codeAny (model prog w) A (.builtin "set.update.loop" ⟨[.ref S,.ref I],[]⟩) R s:=by
 have nw:S∉wr:=fun q=>hSf (W.sub _ q)
 have sub:∀ b∈wr,b∈S::wr:=fun b q=>Eg _ q
 intro k
 induction k with
 | zero =>
  intro i s hk hi st hS hR
  obtain rfl:i=n:=by omega
  refine F_ G1 ?_
  rw [Gq FX _]
  show wpAny _ A.in1 (pyNext (.ref I) >>= _) _ _ s
  refine D9 (W.done s _ _ st fun s' mv=>?_)
  show wpAny _ A.in1 (ret Value.none) _ _ s'
  exact Ep (hR s' (mv.mono sub) (hS.at fun o q=>mv.heap S o nw q))
 | succ k ih =>
  intro i s hk hi st hS hR
  have Kq:i < n:=by omega
  refine F_ G1 ?_
  rw [Gq FX _]
  show wpAny _ A.in1 (pyNext (.ref I) >>= _) _ _ s
  refine D9 (W.item i s _ _ Kq st fun v s' hP st' mv=>?_)
  obtain ⟨hk,hsc⟩:=hval i v hP
  have hS':nN knd s'.heap S (dd i):=hS.at fun o q=>mv.heap S o nw q
  show wpAny _ A.in1 (holding [v] (setAdd S v) >>= _) _ _ s'
  refine D9 (GT ?_)
  unfold setAdd
  refine GT (D9 (knd.pyHash (k:=val i) hk ?_))
  have hl:=hl i
  refine Ci (s:={ s' with toks:=s'.toks+1 }) hk hsc hS' (by omega) fun h' b sb hS2=>?_
  refine Ep ⟨plainId_quiet FX _,ih (i+1) _ (by omega) Kq (W.frame _ s' _ _ st' (IM _) fun c hc o q=>?_) (by split at hS2;(rw [d1 i ‹_›];exact hS2);(rw [d2 i ‹_›];exact hS2)) fun s'' mv2 hS3=>?_⟩
  ·rw [sb.2 c (fun e:c=S=>hSf (e ▸ hc))];exact q
  ·refine hR s'' (Moved.trans W.gtrans ((mv.mono sub).then_heap (IM _) fun c o hc q=>?_) mv2) hS3
   rw [sb.2 c (fun e:c=S=>hc (e ▸ Er))];exact q
end
theorem iT (a:Value){Q₁:Value→Shared→Prop}(q:Q₁ (.ref s.heap.objs.size) { s with heap:=s.heap.push (sob (ldr w)) }) :
  codeAny (model prog w) A (.call (.builtin "set.__new__") ⟨[.type "set",a],[]⟩) (wants Q₁ E) s:=by
 refine codeAny_of_tree ?_
 show wpAny _ A.in1 (do checkBuiltinCall "set.__new__" ⟨[.type "set",a],[]⟩;again (.builtin "set.__new__" ⟨[.type "set",a],[]⟩)) _ _ s
 refine D9 (HX (F.newCall_set_1 a) (Ep ⟨plainId_quiet F.plain_set_new _,F_ F.entry_set_new ?_⟩))
 rw [Gq F.plain_set_new _]
 unfold Builtin.«set.__new__» Builtin.Frozenset.newClass
 have hsub:=sub_set_self
 obtain ⟨hp,gn,dr,tk,os⟩:=s
 dsimp only
 wp_walk
 refine wpAny_askSetting (Ep ?_)
 dsimp only
 simp only [newObj]
 exact D9 (wpAny_alloc (Ep (Ep q)))
abbrev Ac (prog:Program)(w:World)(h:Heap)(a:Addr)(dl:List Str):Prop:=nN (strKind prog w) h a dl
end
section
variable {prog:Program} {w:World} {A:Around} {E:Value→Shared→Prop} {s:Shared}
end
end PySem
namespace Tv
open PySem PyProof.Rows
variable {κ:KeyKind} {kd:SortKind}
theorem Lel.sym_take {l:List Keyed}(h:Srt κ l)(i:Nat):Lel κ (l.take i) (l.drop i):=by
 have:Srt κ (l.take i++l.drop i):=by rw [EI];exact h
 exact (a_.mp this).2.2
theorem Lel.memL {l l' m:List Keyed}(h:Lel κ l m)(hs:∀ x∈l',x∈l):Lel κ l' m:=fun x hx y hy=>h x (hs x hx) y hy
theorem Lel.memR {l m m':List Keyed}(h:Lel κ l m)(hs:∀ x∈m',x∈m):Lel κ l m':=fun x hx y hy=>h x hx y (hs y hy)
theorem Lel.mid {l m:List Keyed}{x:Keyed}(h:Lel κ l [x])(g:Lel κ [x] m):Lel κ l m:=fun a ha b hb=>d9 (h a ha x (Ec.mpr rfl)) (g x (Ec.mpr rfl) b hb)
theorem iU {l:List Keyed}{x:Keyed}(h:Srt κ l)(e:l[0]? = some x):Lel κ [x] l:=fun a ha y hy=>by
 rw [Ec] at ha
 subst ha
 obtain ⟨i,hi⟩:=Fx hy
 exact h.at (E1 _) e hi
theorem qC {l:List Keyed}{x:Keyed}(h:Srt κ l)(e:l[l.length - 1]? = some x):Lel κ l [x]:=fun a ha y hy=>by
 rw [Ec] at hy
 subst hy
 obtain ⟨i,hi⟩:=Fx ha
 have:=(Ed.mp hi).1
 exact h.at (by omega) hi e
theorem xu {l m n:List Keyed}:Lel κ (l++m) n ↔ Lel κ l n∧Lel κ m n :=
 ⟨fun h=>⟨h.memL fun x hx=>ER _ hx,h.memL fun x hx=>Ex _ hx⟩,fun h x hx=>(Ew.mp hx).elim (h.1 x) (h.2 x)⟩
theorem mq {l m n:List Keyed}:Lel κ l (m++n) ↔ Lel κ l m∧Lel κ l n :=
 ⟨fun h=>⟨h.memR fun x hx=>ER _ hx,h.memR fun x hx=>Ex _ hx⟩,fun h x hx y hy=>(Ew.mp hy).elim (h.1 x hx y) (h.2 x hx y)⟩
theorem Ad {A B r:List Keyed}{c m:Nat}{b0 al:Keyed}(sA:Srt κ A)(sB:Srt κ B)(e0:B[0]? = some b0)(el:A[A.length - 1]? = some al)
  (h1:Lel κ (A.take c) [b0]) (h2:Lel κ [al] (B.drop m)) (M:Mg κ (A.drop c) (B.take m) r):Mg κ A B (A.take c++(r++B.drop m)):=by
 have mm:∀ x,x∈r ↔ x∈A.drop c++B.take m:=fun x=>M.1.mem_iff
 refine ⟨?_,a_.mpr ⟨sA.take c,a_.mpr ⟨M.2,sB.drop m,?_⟩,mq.mpr ⟨?_,?_⟩⟩⟩
 ·have:(A.take c++(r++B.drop m)).Perm (A.take c++((A.drop c++B.take m)++B.drop m)):=FH _ (M.1.append_right _)
  refine this.trans (List.Perm.of_eq ?_)
  rw [Ek,← Ek,EI,EI]
 ·refine Lel.memL (l:=A.drop c++B.take m) (xu.mpr ⟨?_,Lel.sym_take sB m⟩) fun x hx=>(mm x).mp hx
  exact Lel.mid ((qC sA el).memL fun x hx=>GW hx) h2
 ·refine Lel.memR (m:=A.drop c++B.take m) (mq.mpr ⟨Lel.sym_take sA c,?_⟩) fun x hx=>(mm x).mp hx
  exact Lel.mid h1 ((iU sB e0).memR fun x hx=>GX hx)
 ·exact Lel.mid h1 ((iU sB e0).memR fun x hx=>GW hx)
section
variable {prog:Program} {w:World} {A:Around} {E:Value→Shared→Prop} {s:Shared}
theorem xv {st u:SortSt}{Q:PUnit→SortSt→Prop}(h:Q ⟨⟩ u):wpS (model prog w) A E s (set u:StateT SortSt Sem PUnit) Q st:=by
 unfold wpS
 rw [StateT.run_set]
 exact Ep ⟨rfl,h⟩
theorem mw {st:SortSt}{lf:Bool}{key:Keyed}{arr:Array Keyed}{P M S:List Keyed}{z n h:Nat}{Q:Option Nat→SortSt→Prop}(hO:Lt1 κ prog w A s kd)(hB:TB kd st)(hk:Gd κ key)(hg:∀ x∈arr.toList,Gd κ x)(ea:arr.toList=P++(M++S))(lp:P.length=z)(ln:M.length=n)(sa:Srt κ M)(hh:h < n)
  (hq:∀ k,k≤n→(∀ x∈M.take k,bdB κ lf (kof κ key) (kof κ x)=true)→(∀ x∈M.drop k,bdB κ lf (kof κ key) (kof κ x)=false)→Q (some k) st) :
  wpS (model prog w) A E s (gal lf key arr z n h) Q st:=by
 have ga:∀ i,i < n→arr[z+i]? = M[i]?:=fun i hi=>by
  rw [← E5,ea,ED (by omega),E3 (by omega)]
  congr 1
  omega
 have gm:∀ x∈M,Gd κ x:=fun x hx=>hg x (by rw [ea];exact Ex _ (ER _ hx))
 refine kF hO hB hk (fun t=>match M[t]? with | some p=>bdB κ lf (kof κ key) (kof κ p) | none=>false) hh (fun t ht=>?_) (fun t u htu hu hb=>?_) (fun k hk' h1 h2=>hq k hk' (fun x hx=>?_) fun x hx=>?_)
 ·have Kq:t < M.length:=by omega
  have e:=fu Kq
  exact ⟨M[t],by rw [ga t ht,e],gm _ (Fc _),by rw [e]⟩
 ·have e1:=fu (l:=M) (i:=t) (by omega)
  have e2:=fu (l:=M) (i:=u) (by omega)
  rw [e1]
  rw [e2] at hb
  have le:=sa.at htu e1 e2
  dsimp only at hb ⊢
  cases lf with
  | true=>exact KeyOrd.klt_of_kle_of_klt le hb
  | false =>
   have le2:=d9 le (fj hb)
   show (!κ.blt _ _)=true
   rw [show κ.blt (kof κ key) (kof κ M[t])=false from le2]
   rfl
 ·obtain ⟨i,hi⟩:=Fx hx
  have l1:=(Ed.mp hi).1
  rw [Es] at l1
  rw [E6 (by omega)] at hi
  have:=h1 i (by omega)
  rw [hi] at this
  exact this
 ·obtain ⟨i,hi⟩:=Fx hx
  rw [E8] at hi
  have l1:=(Ed.mp hi).1
  have:=h2 (k+i) (by omega) (by omega)
  rw [hi] at this
  exact this
theorem qD {arr:Array Keyed}{P M S:List Keyed}{i j:Nat}(e:arr.toList=P++(M++S))(h1:P.length=i)(h2:j=i+M.length):(arr.extract i j).toList=M:=by
 rw [Fw,e,List.extract_eq_drop_take,← h1,List.drop_left,h2,← h1,GC,List.take_left]
theorem xw {st:SortSt}{i z na nb pw pw2:Nat}{P Aa B S:List Keyed}{Q:Bool→SortSt→Prop}(hO:Lt1 κ prog w A s kd)(hB:TB kd st)(g:∀ x∈(arrOf st).toList,Gd κ x)(e1:(pendingOf st)[i]? = some (z,na,pw))(e2:(pendingOf st)[i+1]? = some (z+na,nb,pw2))
  (ea:(arrOf st).toList=P++(Aa++(B++S))) (lp:P.length=z) (la:Aa.length=na) (lb:B.length=nb) (h0:0 < na) (h1:0 < nb) (sA:Srt κ Aa) (sB:Srt κ B)
  (h:∀ st' R,TB kd st'→pendingOf st'=((pendingOf st).setIfInBounds i (z,na+nb,pw)).eraseIdxIfInBounds (i+1)→(arrOf st').toList=P++(R++S)→Mg κ Aa B R→Q true st'):wpS (model prog w) A E s (mergeAt' i) Q st:=by
 have eb:(arrOf st).toList=(P++Aa)++(B++S):=by rw [ea,Ek]
 rw [z_]
 unfold mAt
 refine En (Ib ?_)
 rw [e1,e2]
 dsimp only
 refine En (xv ?_)
 have hB':TB kd (setPending st (((pendingOf st).setIfInBounds i (z,na+nb,pw)).eraseIdxIfInBounds (i+1))):=⟨hB.kind,hB.failed⟩
 generalize hst':setPending st (((pendingOf st).setIfInBounds i (z,na+nb,pw)).eraseIdxIfInBounds (i+1))=st' at hB' ⊢
 have hp':pendingOf st'=((pendingOf st).setIfInBounds i (z,na+nb,pw)).eraseIdxIfInBounds (i+1):=by rw [← hst']
 have har:arrOf st'=arrOf st:=by rw [← hst']
 obtain ⟨b0,eb0⟩:∃ b0,B[0]? = some b0:=⟨_,fu (by omega)⟩
 obtain ⟨al,eal⟩:∃ al,Aa[Aa.length - 1]? = some al:=⟨_,fu (by omega)⟩
 have gA:∀ x∈Aa,Gd κ x:=fun x hx=>g x (by rw [ea];simp [hx])
 have gB:∀ x∈B,Gd κ x:=fun x hx=>g x (by rw [ea];simp [hx])
 have x0:(arrOf st).toList[z+na]? = some b0:=by
  rw [eb,ED (by simp;omega),E3 (by simp;omega)]
  rw [show z+na - (P++Aa).length=0 by simp;omega]
  exact eb0
 have xl:(arrOf st).toList[z+na - 1]? = some al:=by
  rw [ea,ED (by omega),E3 (by omega)]
  rw [show z+na - 1 - P.length=Aa.length - 1 by omega]
  exact eal
 refine En (aN x0 ?_)
 refine En (mw hO hB' (gB b0 (EY eb0)) g ea lp la sA h0 fun c hc t1 t2=>?_)
 dsimp only
 have k1:Lel κ (Aa.take c) [b0]:=fun x hx y hy=>by
  rw [Ec] at hy
  subst hy
  exact fj (t1 x hx)
 have k2:Lel κ [b0] (Aa.drop c):=fun x hx y hy=>by
  rw [Ec] at hx
  subst hx
  exact fT (t2 y hy)
 by_cases hc0:na - c=0
 ·refine av (by simpa using hc0) ?_
  have:Aa.take c=Aa:=E9 (by omega)
  rw [this] at k1
  exact Eu (h st' (Aa++B) hB' hp' (by rw [har,ea,Ek]) ⟨G0 _,a_.mpr ⟨sA,sB,k1.mid (iU sB eb0)⟩⟩)
 ·refine aw (by simpa using hc0) ?_
  rw [show z+c+(na - c) - 1=z+na - 1 by omega]
  refine En (aN xl ?_)
  refine En (mw hO hB' (gA al (EY eal)) g eb (by simp;omega) lb sB (by omega) fun m hm u1 u2=>?_)
  dsimp only
  have k3:Lel κ (B.take m) [al]:=fun x hx y hy=>by
   rw [Ec] at hy
   subst hy
   exact kG (u1 x hx)
  have k4:Lel κ [al] (B.drop m):=fun x hx y hy=>by
   rw [Ec] at hx
   subst hx
   exact iO (u2 y hy)
  by_cases hm0:m=0
  ·refine av (by simpa using hm0) ?_
   subst hm0
   exact Eu (h st' (Aa++B) hB' hp' (by rw [har,ea,Ek]) ⟨G0 _,a_.mpr ⟨sA,sB,(qC sA eal).mid k4⟩⟩)
  ·refine aw (by simpa using hm0) ?_
   have ec:(arrOf st).toList=(P++Aa.take c)++(Aa.drop c++(B++S)):=by
    rw [ea]
    conv=>lhs;rw [← EI c Aa]
    simp only [Ek]
   have ed:(arrOf st).toList=(P++Aa)++(B.take m++(B.drop m++S)):=by
    rw [eb]
    conv=>lhs;rw [← EI m B]
    simp only [Ek]
   have ex:((arrOf st).extract (z+c) (z+na)).toList=Aa.drop c:=qD ec (by simp;omega) (by simp;omega)
   have ey:((arrOf st).extract (z+na) (z+na+m)).toList=B.take m:=qD ed (by simp;omega) (by simp;omega)
   have sx:((arrOf st).extract (z+c) (z+na)).size=na - c:=by rw [← Ef,ex];simp;omega
   have sy:((arrOf st).extract (z+na) (z+na+m)).size=m:=by rw [← Ef,ey];simp;omega
   generalize (arrOf st).extract (z+c) (z+na)=x at ex sx ⊢
   generalize (arrOf st).extract (z+na) (z+na+m)=y at ey sy ⊢
   have ga:∀ t∈x.toList,Gd κ t:=fun t ht=>gA t (by rw [ex] at ht;exact GW ht)
   have gb:∀ t∈y.toList,Gd κ t:=fun t ht=>gB t (by rw [ey] at ht;exact GX ht)
   have sx':Srt κ x.toList:=by rw [ex];exact sA.drop c
   have sy':Srt κ y.toList:=by rw [ey];exact sB.take m
   have y0:y.toList[0]? = some b0:=by rw [ey,E6 (by omega)];exact eb0
   have xn:x.toList[x.size - 1]? = some al:=by
    rw [ex,E8,sx,show c+(na - c - 1)=Aa.length - 1 by omega]
    exact eal
   have fin:∀ (r:Array Keyed) (KR:SortSt),Ok kd st' KR→Mg κ x.toList y.toList r.toList→wpS (model prog w) A E s (do
     modify fun v=>setArr v (r.toList.zipIdx.foldl (fun a (p,j)=>a.setIfInBounds (z+c+j) p) (arrOf v))
     return (failedOf (← get)).isNone:StateT SortSt Sem Bool) Q KR:=fun r KR ok M=>by
    rw [ex,ey] at M
    have lr:r.toList.length=(Aa.drop c++B.take m).length:=M.1.length_eq
    refine En (G6 ?_)
    refine En (Ib ?_)
    refine Eu ?_
    have hf:failedOf (setArr KR (r.toList.zipIdx.foldl (fun a (p,j)=>a.setIfInBounds (z+c+j) p) (arrOf KR)))=none:=ok.tb.failed
    rw [hf]
    refine h _ (Aa.take c++(r.toList++B.drop m)) ⟨ok.tb.kind,ok.tb.failed⟩ (ok.pd.trans hp') ?_ (Ad sA sB eb0 eal k1 k4 M)
    show (r.toList.zipIdx.foldl (fun a (p,j)=>a.setIfInBounds (z+c+j) p) (arrOf KR)).toList=_
    rw [qy r.toList (z+c) 0 (arrOf KR) (P++Aa.take c) (Aa.drop c++B.take m) (B.drop m++S) (by
     rw [ok.ar,har,ea]
     conv=>lhs;rw [← EI c Aa,← EI m B]
     simp only [Ek]) (by simp;omega) lr.symm]
    simp only [Ek]
   by_cases hle:na - c≤m
   ·refine av hle ?_
    refine En (xp hO hB' ga gb sx' sy' (by omega) (by omega) (fun p q hp hq=>?_) (fun t ht=>?_) fun r KR ok M=>fin r KR ok M)
    ·rw [y0] at hq
     cases hq
     rw [ex] at hp
     exact k2 _ (Ec.mpr rfl) _ (EY hp)
    ·rw [xn] at ht
     cases ht
     rw [ey]
     exact k3
   ·refine aw hle ?_
    refine En (xr hO hB' ⟨ga,gb,sx',sy',fun t ht=>?_⟩ (by omega) (by omega) (fun t ht=>?_) fun r KR ok M=>fin r KR ok M)
    ·rw [y0] at ht
     cases ht
     rw [ex]
     exact k2
    ·rw [xn] at ht
     cases ht
     rw [ey]
     exact k3
end
end Tv
namespace Tv
open PySem PyProof.Rows
variable {κ:KeyKind} {kd:SortKind}
def PdL (κ:KeyKind):Nat→List (Nat × Nat × Nat)→List (List Keyed)→Prop
 | _,[],[]=>True
 | z,p::ps,r::rs=>p.1=z∧p.2.1=r.length∧0 < r.length∧Srt κ r∧PdL κ (z+r.length) ps rs
 | _,_,_=>False
theorem PdL.app:∀ {p q:List (Nat × Nat × Nat)} {z:Nat} {rs:List (List Keyed)},PdL κ z (p++q) rs→∃ r1 r2,rs=r1++r2∧r1.length=p.length∧PdL κ z p r1∧PdL κ (z+r1.flatten.length) q r2
 | [],q,z,rs,h=>⟨[],rs,rfl,rfl,trivial,h⟩
 | _::_,q,z,[],h=>h.elim
 | _::p,q,z,r::rs,h=>by
  obtain ⟨a1,a2,a3,a4,a5⟩:=h
  obtain ⟨r1,r2,e,l,b1,b2⟩:=PdL.app a5
  refine ⟨r::r1,r2,by rw [e];rfl,by simp [l],⟨a1,a2,a3,a4,b1⟩,?_⟩
  rw [E7,Eb,← JF]
  exact b2
theorem PdL.join:∀ {p q:List (Nat × Nat × Nat)} {z:Nat} {r1 r2:List (List Keyed)},PdL κ z p r1→PdL κ (z+r1.flatten.length) q r2→PdL κ z (p++q) (r1++r2)
 | [],q,z,[],r2,_,h=>h
 | [],q,z,_::_,r2,h,_=>h.elim
 | _::_,q,z,[],r2,h,_=>h.elim
 | _::p,q,z,r::r1,r2,h,g=>by
  obtain ⟨a1,a2,a3,a4,a5⟩:=h
  rw [E7,Eb,← JF] at g
  exact ⟨a1,a2,a3,a4,PdL.join a5 g⟩
theorem PdL.len:∀ {p:List (Nat × Nat × Nat)} {z:Nat} {rs:List (List Keyed)},PdL κ z p rs→p.length≤rs.flatten.length
 | [],z,[],_=>E1 _
 | [],z,_::_,h=>h.elim
 | _::_,z,[],h=>h.elim
 | _::p,z,r::rs,h=>by
  obtain ⟨a1,a2,a3,a4,a5⟩:=h
  have:=PdL.len a5
  rw [E7,Eb,EF]
  omega
theorem PdL.same:∀ {p q:List (Nat × Nat × Nat)} {z:Nat} {rs:List (List Keyed)},PdL κ z p rs→q.map (fun t=>(t.1,t.2.1))=p.map (fun t=>(t.1,t.2.1))→PdL κ z q rs
 | [],[],z,rs,h,_=>h
 | [],_::_,z,rs,_,e=>by simp at e
 | _::_,[],z,rs,_,e=>by simp at e
 | _::_,_::_,z,[],h,_=>h.elim
 | x::p,y::q,z,r::rs,h,e=>by
  obtain ⟨a1,a2,a3,a4,a5⟩:=h
  simp only [EO,Jn,Prod.mk.injEq] at e
  exact ⟨e.1.1.trans a1,e.1.2.trans a2,a3,a4,PdL.same a5 e.2⟩
theorem qE {f:Nat × Nat × Nat→Nat × Nat × Nat}(hf:∀ t,(f t).1=t.1∧(f t).2.1=t.2.1):∀ (l:List (Nat × Nat × Nat)) (i:Nat),(l.modify i f).map (fun t=>(t.1,t.2.1))=l.map (fun t=>(t.1,t.2.1))
 | [],i=>by cases i <;> rfl
 | x::l,0=>by
  show ((f x).1,(f x).2.1)::_=_
  rw [(hf x).1,(hf x).2]
  rfl
 | x::l,i+1=>by
  show (x.1,x.2.1)::(l.modify i f).map _=_
  rw [qE hf l i]
  rfl
theorem qF {xs:Array Keyed}{i:Nat}{x:Keyed}(h:xs.toList[i]? = some x):KK κ xs i=kof κ x:=by
 rw [E5] at h
 unfold KK kof
 rw [h]
structure Iv (kd:SortKind) (κ:KeyKind) (a0:Array Keyed) (st:SortSt) (lo:Nat):Prop where
 tb:TB kd st
 pm:(arrOf st).Perm a0
 ex:∃ rs T,(arrOf st).toList=rs.flatten++T∧rs.flatten.length=lo∧PdL κ 0 (pendingOf st).toList rs
theorem Iv.gd {a0:Array Keyed}{st:SortSt}{lo:Nat}(I:Iv kd κ a0 st lo)(h0:KeysOf κ a0):∀ x∈(arrOf st).toList,Gd κ x:=fun x hx=>h0 x ((Gf.mp I.pm).mem_iff.mp hx)
theorem Iv.part {a0:Array Keyed}{st st':SortSt}{lo hi:Nat}(I:Iv kd κ a0 st lo)(R:Rs kd κ lo hi st st'):Iv kd κ a0 st' lo:=by
 obtain ⟨rs,T,e,l,p⟩:=I.ex
 refine ⟨R.tb,R.rp.pm.trans I.pm,rs,(arrOf st').toList.drop lo,?_,l,by rw [R.pd];exact p⟩
 have:(arrOf st').toList.take lo=rs.flatten:=by
  have e2:(arrOf st).toList.take lo=rs.flatten:=by rw [e,← l,List.take_left]
  rw [← e2]
  apply List.ext_getElem?
  intro k
  by_cases hk:k < lo
  ·rw [E6 hk,E6 hk,E5,E5,R.rp.out k (.inl hk)]
  ·rw [Fu (by rw [Es];omega),Fu (by rw [Es];omega)]
 rw [← this,EI]
theorem Iv.mod {a0:Array Keyed}{st:SortSt}{lo i:Nat}(I:Iv kd κ a0 st lo){f:Nat × Nat × Nat→Nat × Nat × Nat}(hf:∀ t,(f t).1=t.1∧(f t).2.1=t.2.1):Iv kd κ a0 (setPending st ((pendingOf st).modify i f)) lo:=by
 obtain ⟨rs,T,e,l,p⟩:=I.ex
 refine ⟨⟨I.tb.kind,I.tb.failed⟩,I.pm,rs,T,e,l,?_⟩
 show PdL κ 0 ((pendingOf st).modify i f).toList rs
 rw [Array.toList_modify]
 exact p.same (qE hf _ _)
theorem Iv.push {a0:Array Keyed}{st:SortSt}{lo n w:Nat}(I:Iv kd κ a0 st lo)(hn:0 < n)(hz:lo+n≤(arrOf st).size)(hs:SrI κ (arrOf st) lo (lo+n)):Iv kd κ a0 (setPending st ((pendingOf st).push (lo,n,w))) (lo+n):=by
 obtain ⟨rs,T,e,l,p⟩:=I.ex
 have lT:lo+T.length=(arrOf st).size:=by rw [← Ef,e,Eb,l]
 have ln:(T.take n).length=n:=by rw [Es];omega
 have at_:∀ i x,T[i]? = some x→KK κ (arrOf st) (lo+i)=kof κ x:=fun i x hx=>qF (by rw [e,ED (by omega),← l,GC];exact hx)
 refine ⟨⟨I.tb.kind,I.tb.failed⟩,I.pm,rs++[T.take n],T.drop n,?_,?_,?_⟩
 ·show (arrOf st).toList=_
  rw [e,GD,Hj,Ek,EI]
 ·rw [GD,Hj,Eb,l,ln]
 ·show PdL κ 0 ((pendingOf st).push (lo,n,w)).toList _
  rw [Gx]
  refine PdL.join p ⟨by rw [l];omega,ln.symm,by omega,?_,trivial⟩
  refine FE.mpr fun i j hi hj Kw=>?_
  rw [Es] at hi hj
  rw [List.getElem_take,List.getElem_take]
  have:=hs (lo+i) (lo+j) (by omega) (by omega) (by omega)
  rw [at_ i _ (fu (by omega)),at_ j _ (fu (by omega))] at this
  exact this
theorem Ae {l:List (Nat × Nat × Nat)}{i:Nat}(h:i+1 < l.length):∃ p x y q,l=p++x::y::q∧p.length=i:=by
 refine ⟨l.take i,l[i],l[i+1],l.drop (i+2),?_,by rw [Es];omega⟩
 conv=>lhs;rw [← EI i l]
 rw [E4 (by omega),E4 h]
section
variable {prog:Program} {w:World} {A:Around} {E:Value→Shared→Prop} {s:Shared}
theorem fU {a0:Array Keyed}{st:SortSt}{lo i:Nat}{Q:Bool→SortSt→Prop}(hO:Lt1 κ prog w A s kd)(h0:KeysOf κ a0)(I:Iv kd κ a0 st lo)(hi:i+1 < (pendingOf st).size)
  (h:∀ st',Iv kd κ a0 st' lo→(pendingOf st').size+1=(pendingOf st).size→(∀ k,lo≤k→(arrOf st')[k]? = (arrOf st)[k]?)→Q true st'):wpS (model prog w) A E s (mergeAt' i) Q st:=by
 obtain ⟨rs,T,e,l,p⟩:=I.ex
 obtain ⟨p1,x,y,p2,ep,lp⟩:=Ae (l:=(pendingOf st).toList) (i:=i) (by rw [Ef];exact hi)
 rw [ep] at p
 obtain ⟨r1,r2,er,_,P1,P2⟩:=p.app
 match r2,P2,er with
 | A1::B1::r2,P2,er =>
  obtain ⟨x1,x2,x3,x4,y1,y2,y3,y4,P3⟩:=P2
  obtain ⟨xa,xb,xc⟩:=x
  obtain ⟨ya,yb,yc⟩:=y
  dsimp only at x1 x2 y1 y2
  subst er
  have ea:(arrOf st).toList=r1.flatten++(A1++(B1++(r2.flatten++T))):=by
   rw [e]
   simp only [GD,E7,Ek]
  have e1:(pendingOf st)[i]? = some (r1.flatten.length,A1.length,xc):=by
   rw [← E5,ep,ED (by omega),lp,Hx,x1,x2,Jr]
   rfl
  have e2:(pendingOf st)[i+1]? = some (r1.flatten.length+A1.length,B1.length,yc):=by
   rw [← E5,ep,ED (by omega),lp,GC,y1,y2,Jr]
   rfl
  refine xw hO I.tb (I.gd h0) e1 e2 ea rfl rfl rfl x3 y3 x4 y4 fun st' R t1 t2 t3 M=>?_
  have lR:R.length=A1.length+B1.length:=by rw [M.1.length_eq,Eb]
  have ep':(pendingOf st').toList=p1++(r1.flatten.length,A1.length+B1.length,xc)::p2:=by
   rw [t2,Array.toList_eraseIdxIfInBounds,Ii,ep,List.set_append_right _ _ (by omega),List.eraseIdx_append_of_length_le (by omega),lp,Hx,GC]
   rfl
  have eT:(arrOf st').toList=(r1++R::r2).flatten++T:=by
   rw [t3]
   simp only [GD,E7,Ek]
  have lT:(r1++R::r2).flatten.length=lo:=by
   rw [← l]
   simp only [GD,E7,Eb,lR]
   omega
  refine h st' ⟨t1,?_,r1++R::r2,T,eT,lT,?_⟩ ?_ fun k hk=>?_
  ·refine Array.Perm.trans (Gf.mpr ?_) I.pm
   rw [t3,ea,← Ek A1]
   exact FH _ (M.1.append_right _)
  ·rw [ep']
   refine PdL.join P1 ⟨by omega,lR.symm,by omega,M.2,?_⟩
   rw [lR,← JF]
   exact P3
  ·rw [← Ef,← Ef,ep',ep]
   simp only [Eb,EF]
   omega
  ·rw [← E5,← E5,eT,e,ED (by omega),ED (by omega),lT,l]
theorem Iv.done {a0:Array Keyed}{st:SortSt}(I:Iv kd κ a0 st a0.size)(h:(pendingOf st).size≤1):SortedToK κ (arrOf st) a0.size:=by
 obtain ⟨rs,T,e,l,p⟩:=I.ex
 have hz:(arrOf st).toList.length=a0.size:=by rw [Ef];exact I.pm.size_eq
 have hT:T=[]:=Hh.mp (by rw [e,Eb,l] at hz;omega)
 subst hT
 rw [FC] at e
 rw [← Ef] at h
 have sr:Srt κ (arrOf st).toList:=by
  rw [e]
  match (pendingOf st).toList,rs,p,h with
  | [],[],_,_=>exact List.Pairwise.nil
  | [_],[r],p,_=>rw [Hj];exact p.2.2.2.1
  | _::_::_,_,_,h=>simp at h
 intro i j Kw hj
 have e1:=fu (l:=(arrOf st).toList) (i:=i) (by omega)
 have e2:=fu (l:=(arrOf st).toList) (i:=j) (by omega)
 rw [qF e1,qF e2]
 exact sr.at Kw e1 e2
structure SB (kd:SortKind) (a0:Array Keyed) (st:SortSt):Prop where
 perm:(arrOf st).Perm a0
 kind:kindOf st=kd
 failed:failedOf st=none
 pend:pendingOf st=#[]
theorem uy {a0:Array Keyed}{st:SortSt}{Q:Unit→SortSt→Prop}(hO:Lt1 κ prog w A s kd)(h0:KeysOf κ a0)(hB:SB kd a0 st)
  (h:∀ st',(arrOf st').Perm a0→failedOf st'=none→SortedToK κ (arrOf st') a0.size→Q () st'):wpS (model prog w) A E s sortRuns' Q st:=by
 rw [sortRuns'_eq]
 refine En (Ib ?_)
 dsimp only
 simp only [hB.perm.size_eq]
 refine En (FW (Fm
  (I:=fun x c st'=>∃ lo,c=(none,lo)∧x≤lo∧lo≤a0.size∧Iv kd κ a0 st' lo)
  (Q:=fun c st'=>c=(none,a0.size)∧Iv kd κ a0 st' a0.size) ?step ?fin ⟨0,rfl,Ei _,E1 _,⟨hB.kind,hB.failed⟩,hB.perm,[],(arrOf st).toList,rfl,rfl,by rw [hB.pend];exact trivial⟩) ?post)
 case fin =>
  rintro c st' ⟨lo,rfl,h1,h2,I⟩
  have:lo=a0.size:=by omega
  subst this
  exact ⟨rfl,I⟩
 case step =>
  rintro x c st' hx1 hx2 ⟨lo,rfl,h1,h2,I⟩
  have hz:(arrOf st').size=a0.size:=I.pm.size_eq
  dsimp only
  by_cases hge:lo≥a0.size
  ·refine av hge ?_
   have:lo=a0.size:=by omega
   subst this
   exact Eu ⟨rfl,I⟩
  ·refine aw hge ?_
   refine En (uq hO I.tb (I.gd h0) (by omega) (by omega) fun n KR n1 n2 R s2=>?_)
   have I2:=I.part R
   have hz2:(arrOf KR).size=a0.size:=I2.pm.size_eq
   dsimp only
   by_cases hm:n < minRun' a0.size a0.size 0
   ·refine av hm ?_
    refine En (Ju (Gh ⟨rfl,?_⟩))
    refine En (ur hO I2.tb (I2.gd h0) (by omega) (by omega) s2 fun st3 R3 s3=>?_)
    simp only [HQ,EB,FF]
    have M1:1≤(min (a0.size - lo) (minRun' a0.size a0.size 0)):=by omega
    have M2:lo+(min (a0.size - lo) (minRun' a0.size a0.size 0))≤a0.size:=by omega
    have IX:=I2.part R3
    have S3:=s3
    refine En (Ib ?_)
    cases (pendingOf st3).back? with
    | none=>exact En (G6 (Eu ⟨lo+(min (a0.size - lo) (minRun' a0.size a0.size 0)),rfl,by omega,M2,IX.push M1 (by rw [IX.pm.size_eq];exact M2) S3⟩))
    | some t =>
     obtain ⟨a,b,c⟩:=t
     dsimp only
     refine En (FW (Fm (I:=fun _ c KI=>c=(none,())∧Iv kd κ a0 KI lo∧∀ k,lo≤k→(arrOf KI)[k]? = (arrOf st3)[k]?)
      (Q:=fun c KI=>c=(none,())∧Iv kd κ a0 KI lo∧∀ k,lo≤k→(arrOf KI)[k]? = (arrOf st3)[k]?) ?step1 (fun _ _ h=>h) ⟨rfl,IX,fun _ _=>rfl⟩) ?post1)
     case step1 =>
      rintro y c KI _ _ ⟨rfl,Iw,kw⟩
      refine En (Ib ?_)
      by_cases hz:(pendingOf KI).size > 1
      ·rw [if_pos hz]
       cases e:(pendingOf KI)[(pendingOf KI).size - 2]? with
       | none=>exact Eu ⟨rfl,Iw,kw⟩
       | some t =>
        obtain ⟨a',b',c'⟩:=t
        dsimp only
        by_cases hp:c'≤power' a0.size (2*a+b) (2*a+b+b+(min (a0.size - lo) (minRun' a0.size a0.size 0))) a0.size
        ·refine av hp ?_
         exact Eu ⟨rfl,Iw,kw⟩
        ·refine aw hp ?_
         refine En (fU hO h0 Iw (by omega) fun stq Iq _ k2=>?_)
         simp only [HQ,EB,FF]
         exact Eu ⟨rfl,Iq,fun k hk=>(k2 k hk).trans (kw k hk)⟩
      ·rw [if_neg hz]
       exact Eu ⟨rfl,Iw,kw⟩
     case post1 =>
      rintro c KI ⟨rfl,Iw,kw⟩
      dsimp only
      refine En (G6 ?_)
      have J2:=Iw.mod (i:=(pendingOf KI).size - 1) (f:=fun t=>(t.1,t.2.1,power' a0.size (2*a+b) (2*a+b+b+(min (a0.size - lo) (minRun' a0.size a0.size 0))) a0.size)) fun t=>⟨rfl,rfl⟩
      refine En (G6 (Eu ⟨lo+(min (a0.size - lo) (minRun' a0.size a0.size 0)),rfl,by omega,M2,J2.push M1 (by rw [J2.pm.size_eq];exact M2) fun i j hi Kw hj=>?_⟩))
      show κ.kle (KK κ (arrOf KI) i) (KK κ (arrOf KI) j)
      rw [KK_congr (kw i (by omega)),KK_congr (kw j (by omega))]
      exact S3 i j hi Kw hj
   ·refine aw hm ?_
    have M1:1≤n:=by omega
    have M2:lo+n≤a0.size:=by omega
    have IX:=I2
    have S3:=s2
    refine En (Ib ?_)
    cases (pendingOf KR).back? with
    | none=>exact En (G6 (Eu ⟨lo+n,rfl,by omega,M2,IX.push M1 (by rw [IX.pm.size_eq];exact M2) S3⟩))
    | some t =>
     obtain ⟨a,b,c⟩:=t
     dsimp only
     refine En (FW (Fm (I:=fun _ c KJ=>c=(none,())∧Iv kd κ a0 KJ lo∧∀ k,lo≤k→(arrOf KJ)[k]? = (arrOf KR)[k]?)
      (Q:=fun c KJ=>c=(none,())∧Iv kd κ a0 KJ lo∧∀ k,lo≤k→(arrOf KJ)[k]? = (arrOf KR)[k]?) ?step2 (fun _ _ h=>h) ⟨rfl,IX,fun _ _=>rfl⟩) ?post2)
     case step2 =>
      rintro y c KJ _ _ ⟨rfl,Iw,kw⟩
      refine En (Ib ?_)
      by_cases hz:(pendingOf KJ).size > 1
      ·rw [if_pos hz]
       cases e:(pendingOf KJ)[(pendingOf KJ).size - 2]? with
       | none=>exact Eu ⟨rfl,Iw,kw⟩
       | some t =>
        obtain ⟨a',b',c'⟩:=t
        dsimp only
        by_cases hp:c'≤power' a0.size (2*a+b) (2*a+b+b+n) a0.size
        ·refine av hp ?_
         exact Eu ⟨rfl,Iw,kw⟩
        ·refine aw hp ?_
         refine En (fU hO h0 Iw (by omega) fun stq Iq _ k2=>?_)
         simp only [HQ,EB,FF]
         exact Eu ⟨rfl,Iq,fun k hk=>(k2 k hk).trans (kw k hk)⟩
      ·rw [if_neg hz]
       exact Eu ⟨rfl,Iw,kw⟩
     case post2 =>
      rintro c KJ ⟨rfl,Iw,kw⟩
      dsimp only
      refine En (G6 ?_)
      have J2:=Iw.mod (i:=(pendingOf KJ).size - 1) (f:=fun t=>(t.1,t.2.1,power' a0.size (2*a+b) (2*a+b+b+n) a0.size)) fun t=>⟨rfl,rfl⟩
      refine En (G6 (Eu ⟨lo+n,rfl,by omega,M2,J2.push M1 (by rw [J2.pm.size_eq];exact M2) fun i j hi Kw hj=>?_⟩))
      show κ.kle (KK κ (arrOf KJ) i) (KK κ (arrOf KJ) j)
      rw [KK_congr (kw i (by omega)),KK_congr (kw j (by omega))]
      exact S3 i j hi Kw hj
 case post =>
  rintro c st' ⟨rfl,I⟩
  dsimp only
  refine En (FW (Fm (I:=fun x c Ko=>c=(none,())∧Iv kd κ a0 Ko a0.size∧((pendingOf Ko).size+x≤a0.size ∨ (pendingOf Ko).size≤1))
   (Q:=fun c Ko=>c=(none,())∧Iv kd κ a0 Ko a0.size∧(pendingOf Ko).size≤1) ?_ ?_ ⟨rfl,I,?_⟩) ?_)
  ·rintro x c Ko _ hx ⟨rfl,I',hp⟩
   refine En (Ib ?_)
   by_cases h1:(pendingOf Ko).size≤1
   ·refine av h1 ?_
    exact Eu ⟨rfl,I',h1⟩
   ·refine aw h1 ?_
    refine En (fU hO h0 I' (have pick:∀ (b:Bool) (n:Nat),1 < n→(if b=true then n - 2 - 1 else n - 2)+1 < n:=(fun b n hn=>by cases b <;> simp <;> omega);pick _ _ (by omega)) fun KR I2 z2 _=>?_)
    simp only [HQ,EB,FF]
    exact Eu ⟨rfl,I2,.inl (by omega)⟩
  ·rintro c Ko ⟨rfl,I',hp⟩
   exact ⟨rfl,I',by omega⟩
  ·obtain ⟨rs,T,e,l,p⟩:=I.ex
   have:=p.len
   rw [Ef,l] at this
   exact .inl (by omega)
  ·rintro c Ko ⟨rfl,I',hp⟩
   exact Eu (h Ko I'.pm I'.tb.failed (I'.done hp))
end
end Tv
namespace Tv
open PySem PyProof.Rows
variable {κ:KeyKind} {kd:SortKind}
section
variable {prog:Program} {w:World} {A:Around} {E:Value→Shared→Prop} {s:Shared}
theorem uz {a:Addr}{its:List Value}{m:Nat}{P:Fin→Shared→Prop}(at_:s.heap.get? a=some (seqObj "list" its.toArray m))(g:KeysOf κ (pairsOf its))
  (hO:Lt1 κ prog w A { s with heap:=((s.heap.update a (Obj.mapSeq fun _=>#[])).push (seqObj "tuple" its.toArray 0)).push (seqObj "list" #[] 0) } kd) (one:∀ x y r,its=x::y::r→∀ (Q:SortKind→Shared→Prop),Q kd { s with heap:=((s.heap.update a (Obj.mapSeq fun _=>#[])).push (seqObj "tuple" its.toArray 0)).push (seqObj "list" #[] 0) }→wpAny (model prog w) A (keyKind' (x::y::r).toArray) Q E { s with heap:=((s.heap.update a (Obj.mapSeq fun _=>#[])).push (seqObj "tuple" its.toArray 0)).push (seqObj "list" #[] 0) }) (lim:its.length≤sizeLine)
  (q:∀ st:SortSt,(arrOf st).Perm (pairsOf its)→SortedToK κ (arrOf st) (pairsOf its).size→P (.done (.ret .none)) { s with heap:=sortedHeap s.heap a its ((arrOf st).map (·.2)) }) :
  wpAny (model prog w) A (Builtin.«list.sort» ⟨[.ref a],[]⟩) P E s:=by
 have la:=Eo at_
 have lz:its.toArray.size=its.length:=by simp
 rw [list_sort_plain]
 refine D9 (Hz at_ rfl (D9 (IT at_ rfl ?_ (by rw [lz];exact lim))))
 obtain ⟨n1,at1⟩:∃ n1,(s.heap.update a (Obj.mapSeq fun _=>#[])).get? a=some (seqObj "list" #[] n1):=⟨_,get?_update_seq at_ fun _=>#[]⟩
 refine D9 (seqEpoch_at at1 rfl (D9 (wpAny_newTuple (D9 (Ha (GT ?_))))))
 have at2:(((s.heap.update a (Obj.mapSeq fun _=>#[])).push (seqObj "tuple" its.toArray 0)).push (seqObj "list" #[] 0)).get? a=some (seqObj "list" #[] n1) :=
  D_ _ (D_ _ at1)
 show wpAny (model prog w) A _ P E { s with heap:=((s.heap.update a (Obj.mapSeq fun _=>#[])).push (seqObj "tuple" its.toArray 0)).push (seqObj "list" #[] 0) }
 dsimp only
 by_cases two:its.toArray.size < 2
 ·rw [if_pos two,if_pos two]
  refine D9 (Ep ?_)
  rw [StateT.run_pure]
  refine D9 (Ep ?_)
  dsimp only
  have zz:((its.toArray.zip its.toArray).map (·.2)).size≤sizeLine+1:=by
   rw [Array.size_map]
   show (pairsOf its).size≤_
   rw [pairsOf_size]
   omega
  refine D9 (seqEpoch_at at2 rfl (D9 (IT at2 rfl ?_ (hsz2:=zz))))
  simp only [bne_self_eq_false,EB,FF]
  refine Ep (q (SortSt.mk' general' (its.toArray.zip its.toArray) #[] 7 none) (Js _) fun i j Kw hj=>?_)
  rw [pairsOf_size] at hj
  have:i=j:=by omega
  subst this
  exact FD _
 ·rw [if_neg two,if_neg two]
  obtain ⟨x,y,r,rfl⟩:∃ x y r,its=x::y::r:=by
   match its,lz,two with
   | [],_,t=>exact absurd (by simp) t
   | [_],_,t=>exact absurd (by simp) t
   | x::y::r,_,_=>exact ⟨x,y,r,rfl⟩
  refine D9 (one _ _ _ rfl _ (D9 (FZ (uy (κ:=κ) hO (a0:=pairsOf (x::y::r)) (st:=SortSt.mk' kd ((x::y::r).toArray.zip (x::y::r).toArray) #[] 7 none)
   (Q:=fun _ st=>(arrOf st).Perm (pairsOf (x::y::r))∧failedOf st=none∧SortedToK κ (arrOf st) (pairsOf (x::y::r)).size) g ⟨Js _,rfl,rfl,rfl⟩ fun st c1 c2 c3=>⟨c1,c2,c3⟩) ?_ fun _ _ e=>e)))
  rintro ⟨⟨⟩,st⟩ s2 ⟨rfl,c1,c2,c3⟩
  dsimp only
  have zz:((arrOf st).map (·.2)).size≤sizeLine+1:=by
   rw [Array.size_map,c1.size_eq,pairsOf_size]
   omega
  refine D9 (seqEpoch_at at2 rfl (D9 (IT at2 rfl ?_ (hsz2:=zz))))
  rw [c2]
  simp only [bne_self_eq_false,EB,FF]
  exact Ep (q st c1 c3)
end
end Tv
namespace Ts
open PySem PyProof.Rows
section
variable {κ:KeyKind} {prog:Program} {w:World} {A:Around} {E:Value→Shared→Prop} {s:Shared}
end
end Ts
namespace Wd
section
variable {α:Type}
def Adj:List α→α→α→Prop
 | a::b::t,x,y=>(x=a∧y=b) ∨ Adj (b::t) x y
 | _,_,_=>False
theorem dP {a b:α}{t:List α}{x y:α}:Adj (a::b::t) x y ↔ (x=a∧y=b) ∨ Adj (b::t) x y:=Iff.rfl
theorem iV {a x y:α}:Adj [a] x y ↔ False:=Iff.rfl
theorem bQ:∀ (l:List α) (c:α) (m:List α) (x y:α),Adj (l++c::m) x y ↔ Adj (l++[c]) x y ∨ Adj (c::m) x y
 | [],c,m,x,y=>by simp [iV]
 | [a],c,m,x,y=>by
  show Adj (a::c::m) x y ↔ Adj [a,c] x y ∨ _
  rw [dP,dP,iV]
  simp
 | a::b::l,c,m,x,y=>by
  have ih:=bQ (b::l) c m x y
  show Adj (a::b::(l++c::m)) x y ↔ Adj (a::b::(l++[c])) x y ∨ _
  rw [dP,dP]
  have ih:Adj (b::(l++c::m)) x y ↔ Adj (b::(l++[c])) x y ∨ Adj (c::m) x y:=ih
  rw [ih,or_assoc]
theorem a6:∀ {l:List α} {x y:α},Adj l x y→x∈l∧y∈l
 | [],_,_,h=>h.elim
 | [a],_,_,h=>h.elim
 | a::b::t,x,y,h=>by
  rcases h with ⟨rfl,rfl⟩ | h
  ·simp
  ·have:=a6 h
   exact ⟨Eg _ this.1,Eg _ this.2⟩
theorem fV:∀ {l:List α} {x y:α},Adj l x y→∃ s t,l=s++x::y::t
 | [],_,_,h=>h.elim
 | [a],_,_,h=>h.elim
 | a::b::t,x,y,h=>by
  rcases h with ⟨rfl,rfl⟩ | h
  ·exact ⟨[],t,rfl⟩
  ·obtain ⟨s,t',e⟩:=fV h
   exact ⟨a::s,t',by rw [e];rfl⟩
theorem jN {s t:List α}{x y:α}:Adj (s++x::y::t) x y:=by
 rw [bQ]
 exact .inr (.inl ⟨rfl,rfl⟩)
theorem qG {β:Type}(f:α→β):∀ {l:List α} {x y:β},Adj (l.map f) x y→∃ a b,Adj l a b∧x=f a∧y=f b
 | [],_,_,h=>h.elim
 | [a],_,_,h=>h.elim
 | a::b::t,x,y,h=>by
  rcases h with ⟨rfl,rfl⟩ | h
  ·exact ⟨a,b,.inl ⟨rfl,rfl⟩,rfl,rfl⟩
  ·obtain ⟨a',b',h',e1,e2⟩:=qG f (l:=b::t) h
   exact ⟨a',b',.inr h',e1,e2⟩
theorem xx {l:List α}{a b:α}(h:Adj l a b):Adj l.reverse b a:=by
 obtain ⟨s,t,rfl⟩:=fV h
 have:(s++a::b::t).reverse=t.reverse++b::a::s.reverse:=by simp
 rw [this]
 exact jN
def Nx:List α→α→α→Prop
 | [],_,_=>False
 | h::t,x,y=>Adj (h::t++[h]) x y
theorem bE:∀ (A B:List α) (x y:α),Nx (A++B) x y ↔ Nx (B++A) x y
 | [],B,x,y=>by simp
 | a::A,[],x,y=>by simp
 | a::A,b::B,x,y=>by
  show Adj (a::(A++b::B)++[a]) x y ↔ Adj (b::(B++a::A)++[b]) x y
  have e1:a::(A++b::B)++[a]=(a::A)++b::(B++[a]):=by simp
  have e2:b::(B++a::A)++[b]=(b::B)++a::(A++[b]):=by simp
  rw [e1,e2,bQ (a::A) b,bQ (b::B) a,or_comm]
  rfl
theorem gU {w:List α}{x y:α}(h:Nx w x y):x∈w∧y∈w:=by
 cases w with
 | nil=>exact h.elim
 | cons a t =>
  have:=a6 h
  simp at this ⊢
  exact ⟨by rcases this.1 with h | h | h <;> simp [h],by rcases this.2 with h | h | h <;> simp [h]⟩
theorem Af {β:Type}(f:α→β){w:List α}{x y:β}(h:Nx (w.map f) x y):∃ a b,Nx w a b∧x=f a∧y=f b:=by
 cases w with
 | nil=>exact h.elim
 | cons a t =>
  have h:Adj ((a::t++[a]).map f) x y:=by
   have h:Adj (f a::t.map f++[f a]) x y:=h
   simpa using h
  exact qG f h
theorem b_ {w:List α}{x:α}(h:x∈w):∃ A B,w=A++x::B:=by
 obtain ⟨A,B,e⟩:=Iy h
 exact ⟨A,B,e⟩
theorem eO {x y:α}{t:List α}(nd:(x::t).Nodup):Nx (x::t) x y ↔ (t++[x]).head? = some y:=by
 cases t with
 | nil =>
  show Adj [x,x] x y ↔ _
  rw [dP,iV]
  simp [eq_comm]
 | cons b r =>
  show Adj (x::b::(r++[x])) x y ↔ _
  rw [dP]
  constructor
  ·rintro (⟨_,e⟩ | h)
   ·simp [e]
   ·exfalso
    have hx:x∉b::r:=(EG.mp nd).1
    obtain ⟨s,t,e⟩:=fV h
    have e:(b::r)++[x]=s++x::y::t:=e
    have h2:(s++x::y::t)=(s++[x])++(y::t):=by simp
    rcases List.append_eq_append_iff.mp e with ⟨a',e1,e2⟩ | ⟨c',e1,e2⟩
    ·have:=Ey List.length e2
     simp only [Eb,EF,Fl] at this
     omega
    ·cases c' with
     | nil=>simp at e2
     | cons c c' =>
      have:c=x:=by
       have:=(Gm e2).1
       exact this.symm
      subst this
      exact hx (by rw [e1];simp)
  ·intro h
   simp at h
   exact .inl ⟨rfl,h.symm⟩
theorem Ck {w:List α}{x:α}(h:x∈w):∃ y,Nx w x y:=by
 obtain ⟨A,B,rfl⟩:=b_ h
 cases e:B++A with
 | nil=>exact ⟨x,(bE _ _ _ _).mpr (by show Adj (x::(B++A)++[x]) x x;rw [e];exact .inl ⟨rfl,rfl⟩)⟩
 | cons c r=>exact ⟨c,(bE _ _ _ _).mpr (by show Adj (x::(B++A)++[x]) x c;rw [e];exact .inl ⟨rfl,rfl⟩)⟩
theorem gX {A B:List α}(nd:(A++B).Nodup):(B++A).Nodup:=(Fi.nodup_iff).mp nd
theorem Ag {w:List α}{x y z:α}(nd:w.Nodup)(h1:Nx w x y)(h2:Nx w x z):y=z:=by
 obtain ⟨A,B,rfl⟩:=b_ (gU h1).1
 have h1:=(bE _ _ _ _).mp h1
 have h2:=(bE _ _ _ _).mp h2
 have nd:(x::(B++A)).Nodup:=gX nd
 have h1:=(eO nd).mp h1
 have h2:=(eO nd).mp h2
 exact El (h1.symm.trans h2)
theorem Ah {w:List α}{x y:α}(h:Nx w x y):Nx w.reverse y x:=by
 cases w with
 | nil=>exact h.elim
 | cons a t =>
  have h:=xx (show Adj (a::t++[a]) x y from h)
  have e:(a::t++[a]).reverse=a::t.reverse++[a]:=by simp
  rw [e] at h
  have e2:(a::t).reverse=t.reverse++[a]:=by simp
  rw [e2,bE]
  exact h
theorem Ai {w:List α}{x y:α}(h:Nx w.reverse y x):Nx w x y:=by
 have:=Ah h
 rwa [FV] at this
structure Cy (R:α→α→Prop) (w:List α):Prop where
 ne:w≠[]
 nd:w.Nodup
 st:∀ x y,Nx w x y→R x y
theorem Cy.rot {R:α→α→Prop}{A B:List α}(h:Cy R (A++B)):Cy R (B++A) :=
 ⟨fun e=>h.ne (by have:=GM.mp e;rw [this.1,this.2];rfl),gX h.nd,fun x y n=>h.st x y ((bE _ _ _ _).mpr n)⟩
structure Dc (R:α→α→Prop) (u:List α) (Ws:List (List α)):Prop where
 cy:∀ w∈Ws,Cy R w
 pm:Ws.flatten.Perm u
end
def Rh (u:List L):L→L→Prop:=fun x y=>Nx u (inv x) y
theorem qH {u:List L}{k:Nat}{x y:L}(h1:u[k]? = some x)(h2:u[(k+1) % u.length]? = some y):Nx u x y:=by
 obtain ⟨hk,e1⟩:=Ed.mp h1
 have e:u=u.take k++x::u.drop (k+1):=by
  rw [← e1,List.getElem_cons_drop,EI]
 by_cases hl:k+1 < u.length
 ·rw [Fj hl] at h2
  obtain ⟨hk2,e2⟩:=Ed.mp h2
  have e3:u.drop (k+1)=y::u.drop (k+2):=by rw [E4 hk2,e2]
  rw [e,e3,bE]
  exact .inl ⟨rfl,rfl⟩
 ·have hl:k+1=u.length:=by omega
  rw [hl,Hy] at h2
  have e3:u.drop (k+1)=[]:=Ga (by omega)
  rw [e,e3,bE]
  show Adj (x::(u.take k)++[x]) x y
  cases k with
  | zero =>
   rw [h1] at h2
   obtain rfl:=El h2
   exact .inl ⟨rfl,rfl⟩
  | succ k =>
   cases u with
   | nil=>simp at hk
   | cons a t =>
    have:a=y:=by simpa using h2
    subst this
    exact .inl ⟨rfl,rfl⟩
theorem xy {u:List L}(S:Srf u)(g:Nat):Rh u (cb u g) (cb u (bp u g)):=by
 have h:=bW S g
 refine qH (k:=bp u g) ?_ (bI S _)
 rw [fu h]
 exact Ey some (FQ h)
theorem Aj {u:List L}(nd:u.Nodup){i j:Nat}{x:L}(h1:u[i]? = some x)(h2:u[j]? = some x):i=j:=by
 obtain ⟨hi,e1⟩:=Ed.mp h1
 obtain ⟨hj,e2⟩:=Ed.mp h2
 have p:=FE.mp nd
 rcases IJ i j with h | h | h
 ·exact absurd (e1.trans e2.symm) (p i j hi hj h)
 ·exact h
 ·exact absurd (e2.trans e1.symm) (p j i hj hi h)
theorem mz {u:List L}(S:Srf u){g h:Nat}(hg:g < u.length)(hh:h < u.length)(e:cb u g=cb u h):g=h:=by
 have:=Aj S.nd (bI S g) (e ▸ bI S h)
 have e2:∀ g:Nat,g < u.length→(g+1) % u.length=if g+1=u.length then 0 else g+1:=fun g hg=>by
  split
  ·rename_i h
   rw [h,Hy]
  ·exact Fj (by omega)
 rw [e2 g hg,e2 h hh] at this
 split at this <;> split at this <;> omega
theorem jO {u:List L}(S:Srf u){g h:Nat}(hg:g < u.length)(hh:h < u.length)(e:bp u g=bp u h):g=h:=by
 refine mz S hg hh ?_
 have a:=FQ (bW S g)
 have b:=FQ (bW S h)
 have:inv (cb u g)=inv (cb u h):=by
  rw [← a,← b]
  congr 1
 rw [← aq (cb u g),this,aq]
def Row (u:List L)(C:List Nat)(g:Nat):Prop:=∀ a b,Adj (C++[g]) a b→b=bp u a
theorem Row.on {u:List L}{C:List Nat}{g:Nat}(h:Row u C g):Row u (C++[g]) (bp u g):=by
 intro a b q
 rw [Ek] at q
 rcases (bQ C g [bp u g] a b).mp q with q | q
 ·exact h a b q
 ·rcases q with ⟨rfl,rfl⟩ | q
  ·rfl
  ·exact q.elim
theorem Row.round {u:List L}(S:Srf u){C:List Nat}{g:Nat}(h:Row u C g)(nd:C.Nodup)(lt:∀ c∈C,c < u.length)(hg:g∈C):∃ r,C=g::r:=by
 obtain ⟨A,B,rfl⟩:=b_ hg
 rcases Gn A with rfl | ⟨A',p,e0⟩
 ·exact ⟨B,rfl⟩
 ·exfalso
  rw [Gp] at e0
  subst e0
  have e1:g=bp u p:=h p g (by
   have:A'++[p]++g::B++[g]=A'++p::g::(B++[g]):=by simp
   rw [this];exact jN)
  obtain ⟨M,z,e⟩:∃ M z,g::B=M++[z]:=by
   rcases Gn (g::B) with h | ⟨M,z,h⟩
   ·cases h
   ·exact ⟨M,z,by rw [h,Gp]⟩
  have e2:g=bp u z:=h z g (by
   have:A'++[p]++g::B++[g]=(A'++[p]++M)++z::g::[]:=by rw [e];simp
   rw [this];exact jN)
  have hz:z∈g::B:=by rw [e];simp
  have hpz:p=z:=jO S (lt p (by simp)) (lt z (by
   rw [Ew];exact .inr hz)) (e1.symm.trans e2)
  subst hpz
  have:=Fh.mp nd
  exact this.2.2 p (by simp) p hz rfl
def J (u v:List L):Prop:=∀ x y,u.getLast? = some x→v.head? = some y→y≠inv x
theorem c5:∀ (u v:List L),Rd (u++v) ↔ Rd u∧Rd v∧J u v
 | [],v=>by
  constructor
  ·intro h
   exact ⟨trivial,h,fun x y hx=>by simp at hx⟩
  ·intro h
   exact h.2.1
 | [x],[]=>by
  constructor
  ·intro h
   exact ⟨trivial,trivial,fun x y _ hy=>by simp at hy⟩
  ·intro _
   exact trivial
 | [x],y::v=>by
  constructor
  ·intro h
   refine ⟨trivial,h.2,fun a b ha hb=>?_⟩
   have ha:x=a:=by simpa using ha
   have hb:y=b:=by simpa using hb
   subst ha hb
   exact h.1
  ·intro h
   exact ⟨h.2.2 x y rfl rfl,h.2.1⟩
 | x::y::u,v=>by
  have ih:=c5 (y::u) v
  constructor
  ·intro h
   have h2:=ih.mp h.2
   refine ⟨⟨h.1,h2.1⟩,h2.2.1,fun a b ha hb=>h2.2.2 a b ?_ hb⟩
   rw [IU] at ha
   exact ha
  ·intro h
   refine ⟨h.1.1,ih.mpr ⟨h.1.2,h.2.1,fun a b ha hb=>h.2.2 a b ?_ hb⟩⟩
   rw [IU]
   exact ha
theorem Ak {x y:L}(h:y=inv x):x=inv y:=by rw [h,aq]
theorem mB:∀ {w:List L},Rd w→Rd w.reverse
 | [],_=>trivial
 | x::w,h=>by
  rw [IG,c5]
  refine ⟨mB h.tail,trivial,fun a b ha hb=>?_⟩
  have hb:x=b:=by simpa using hb
  subst hb
  cases w with
  | nil=>simp at ha
  | cons y w =>
   have ha:y=a:=by simpa using ha
   subst ha
   intro e
   exact h.1 (Ak e)
theorem qI {w:List L}(h:Rd w):red w=w:=by
 unfold red
 have:=px (mB h)
 rw [FV] at this
 rw [this,FV]
theorem Al (w:List L):Rd (red w):=mB (lQ w pz)
theorem Cm {w:List L}(h:Rd w):Rd (bk w):=by
 have q:∀ w:List L,Rd w→Rd (w.map inv):=by
  intro w
  induction w with
  | nil=>intro _;trivial
  | cons x w ih =>
   intro h
   cases w with
   | nil=>trivial
   | cons y w=>exact ⟨fun e=>h.1 (by have e2:=Ey inv e;rw [aq,aq] at e2;rw [e2]),ih h.2⟩
 exact mB (q w h)
structure Rnd (c:List L):Prop where
 ne:c≠[]
 rd:Rd c
 jn:J c c
theorem uA {r:List L}(h:r≠[])(n:Nat):(rep (n+1) r).head? = r.head?:=by
 show (rep n r++r).head? = _
 rw [iA]
 cases r with
 | nil=>exact absurd rfl h
 | cons x r=>rfl
theorem uB {r:List L}(h:r≠[])(n:Nat):(rep (n+1) r).getLast? = r.getLast?:=by
 show (rep n r++r).getLast? = _
 rw [List.getLast?_append]
 cases hr:r.getLast? with
 | none=>exact absurd (List.getLast?_eq_none_iff.mp hr) h
 | some x=>rfl
theorem mD {r:List L}{n:Nat}(h:Rnd (rep (n+1) r)):Rnd r:=by
 have KG:r≠[]:=by
  intro e
  subst e
  have:rep (n+1) ([]:List L)=[]:=by
   apply Fg
   rw [gJ]
   rfl
  exact h.ne this
 have hr:Rd (rep n r++r):=h.rd
 rw [c5] at hr
 refine ⟨KG,hr.2.1,fun x y hx hy=>?_⟩
 exact h.jn x y (by rw [uB KG];exact hx) (by rw [uA KG];exact hy)
theorem Am {q:List L}(R:Rnd q):Rnd (bk q):=by
 refine ⟨fun e=>R.ne (by have:=Ey bk e;rw [BY] at this;exact this),Cm R.rd,fun x y hx hy=>?_⟩
 have hx:∃ a,q.head? = some a∧x=inv a:=by
  unfold bk at hx
  rw [List.getLast?_reverse,List.head?_map] at hx
  cases hq:q.head? with
  | none=>rw [hq] at hx;simp at hx
  | some a=>rw [hq] at hx;exact ⟨a,rfl,(El hx).symm⟩
 have hy:∃ a,q.getLast? = some a∧y=inv a:=by
  unfold bk at hy
  rw [List.head?_reverse,List.getLast?_map] at hy
  cases hq:q.getLast? with
  | none=>rw [hq] at hy;simp at hy
  | some a=>rw [hq] at hy;exact ⟨a,rfl,(El hy).symm⟩
 obtain ⟨a,ha,rfl⟩:=hx
 obtain ⟨b,hb,rfl⟩:=hy
 intro e
 have:=Ey inv e
 rw [aq,aq] at this
 exact R.jn b a hb ha (by rw [this,aq])
end Wd
namespace L2
open PySem PySem.Spec PyProof.Rows Wd
def rnd (w:List L)(t:Nat):Nat:=((w.map cp)[t % w.length]?).getD 0
theorem rnd_at {w:List L}{t:Nat}{x:L}(h:(w++w)[t]? = some x):rnd w t=cp x:=by
 unfold rnd
 have hl:=(Ed.mp h).1
 rw [Eb] at hl
 by_cases c:t < w.length
 ·rw [Fj c,Ff]
  rw [E3 c] at h
  rw [h]
  rfl
 ·have e:t % w.length=t - w.length:=by
   rw [Nat.mod_eq_sub_mod (by omega),Fj (by omega)]
  rw [e,Ff]
  rw [ED (by omega)] at h
  rw [h]
  rfl
end L2
namespace Wd
end Wd
namespace L2
open PySem PySem.Spec PyProof.Rows Wd
end L2
namespace Wd
def Pre (u:List L)(S:List Nat):Prop:=∀ g∈S,∃ g'∈S,bp u g'=g
theorem An {u:List L}(U:Srf u){S0:List Nat}(pre:Pre u S0){g0:Nat}(h0:g0∉S0):∀ (k:Nat) (C:List Nat) (g:Nat),k+(S0++C).length=u.length+1→Sn u (S0++C)→g < u.length→Row u C g→((C=[]∧g=g0) ∨ ∃ r,C=g0::r) →
  ∃ C',wk u g (S0++C) (C.map (cb u))=(S0++C',C'.map (cb u))∧Sn u (S0++C')∧(∃ r,C'=g0::r)∧Row u C' g0:=by
 intro k
 induction k with
 | zero =>
  intro C g hk hs _ _ _
  have:=hs.le
  omega
 | succ k ih =>
  intro C g hk hs hg hr hh
  by_cases hm:g∈S0++C
  ·rw [qa hm]
   have nd:=Fh.mp hs.nd
   have hC:∃ r,C=g0::r:=by
    rcases hh with ⟨rfl,rfl⟩ | h
    ·exact absurd (by simpa using hm) h0
    ·exact h
   have hgC:g∈C:=by
    rcases Ew.mp hm with h | h
    ·exfalso
     obtain ⟨g',h1,h2⟩:=pre g h
     obtain ⟨M,z,e⟩:∃ M z,C=M++[z]:=by
      obtain ⟨r,rfl⟩:=hC
      rcases Gn (g0::r) with h | ⟨M,z,h⟩
      ·cases h
      ·exact ⟨M,z,by rw [h,Gp]⟩
     have e2:g=bp u z:=hr z g (by
      have:C++[g]=M++z::g::[]:=by rw [e];simp
      rw [this];exact jN)
     have hz:z∈C:=by rw [e];simp
     have:=jO U (hs.lt g' (Ew.mpr (.inl h1))) (hs.lt z (Ew.mpr (.inr hz))) (h2.trans e2)
     exact nd.2.2 g' h1 z hz this
    ·exact h
   obtain ⟨r,e⟩:=Row.round U hr nd.2.1 (fun c hc=>hs.lt c (Ew.mpr (.inr hc))) hgC
   obtain ⟨r',e'⟩:=hC
   have:g=g0:=by rw [e] at e';exact (Gm e').1
   subst this
   exact ⟨C,rfl,hs,⟨r,e⟩,hr⟩
  ·have K0:=hs.snoc hg hm
   rw [l_ hs hg hm]
   have e1:S0++C++[g]=S0++(C++[g]):=Ek ..
   have e2:C.map (cb u)++[cb u g]=(C++[g]).map (cb u):=by simp
   rw [e1] at K0 ⊢
   rw [e2]
   refine ih (C++[g]) (bp u g) ?_ K0 (bW U g) hr.on (.inr ?_)
   ·rw [← e1,Eb,ES]
    omega
   ·rcases hh with ⟨rfl,rfl⟩ | ⟨r,rfl⟩
    ·exact ⟨[],rfl⟩
    ·exact ⟨r++[g],rfl⟩
def Gc (u:List L)(C:List Nat):Prop:=∃ g r,C=g::r∧Row u C g
theorem Gc.st {u:List L}{C:List Nat}(h:Gc u C){a b:Nat}(n:Nx C a b):b=bp u a:=by
 obtain ⟨g,r,rfl,h⟩:=h
 exact h a b n
theorem Gc.pre {u:List L}{C:List Nat}(h:Gc u C){g:Nat}(hg:g∈C):∃ g'∈C,bp u g'=g:=by
 obtain ⟨y,hy⟩:=Ck (w:=C.reverse) (x:=g) (by simpa using hg)
 have hy:=Ai hy
 exact ⟨y,(gU hy).1,(h.st hy).symm⟩
structure HI (u:List L) (i:Nat) (Cs:List (List Nat)):Prop where
 s:(cq u i).1=Cs.flatten
 w:(cq u i).2=Cs.map (List.map (cb u))
 sn:Sn u Cs.flatten
 gc:∀ C∈Cs,Gc u C
 al:∀ g,g < i→g∈Cs.flatten
theorem vB {u:List L}(U:Srf u):∀ i,i≤u.length→∃ Cs,HI u i Cs
 | 0,_=>⟨[],rfl,rfl,Sn.nil u,fun _ h=>absurd h (by simp),fun g h=>absurd h (by omega)⟩
 | i+1,hi=>by
  obtain ⟨Cs,h⟩:=vB U i (by omega)
  by_cases hm:i∈(cq u i).1
  ·refine ⟨Cs,by rw [fO hm];exact h.s,by rw [fO hm];exact h.w,h.sn,h.gc,fun g hg=>?_⟩
   by_cases e:g=i
   ·subst e
    rw [← h.s]
    exact hm
   ·exact h.al g (by omega)
  ·rw [h.s] at hm
   have pre:Pre u Cs.flatten:=fun g hg=>by
    obtain ⟨C,hC,hg⟩:=FU.mp hg
    obtain ⟨g',h1,h2⟩:=(h.gc C hC).pre hg
    exact ⟨g',FU.mpr ⟨C,hC,h1⟩,h2⟩
   have hle:=h.sn.le
   obtain ⟨C,e,hs,⟨r,hr⟩,hrow⟩:=An U pre hm (u.length+1 - Cs.flatten.length) [] i (by rw [FC];omega) (by rw [FC];exact h.sn) (by omega) (fun a b q=>q.elim) (.inl ⟨rfl,rfl⟩)
   rw [FC] at e
   have e:wk u i Cs.flatten []=(Cs.flatten++C,C.map (cb u)):=e
   have ho:cq u (i+1)=((wk u i (cq u i).1 []).1,(cq u i).2++[(wk u i (cq u i).1 []).2]):=eM (by rw [h.s];exact hm)
   rw [h.s,e,h.w] at ho
   have ef:(Cs++[C]).flatten=Cs.flatten++C:=by simp
   refine ⟨Cs++[C],by rw [ho,ef],by rw [ho];simp,by rw [ef];exact hs,fun D hD=>?_,fun g hg=>?_⟩
   ·rcases Ew.mp hD with hD | hD
    ·exact h.gc D hD
    ·rw [Ec] at hD
     subst hD
     exact ⟨i,r,hr,hrow⟩
   ·rw [ef,Ew]
    by_cases e:g=i
    ·subst e
     exact .inr (by rw [hr];simp)
    ·exact .inl (h.al g (by omega))
theorem Cn {α:Type}[DecidableEq α]{a b:List α}(na:a.Nodup)(nb:b.Nodup)(h:∀ x,x∈a ↔ x∈b):a.Perm b:=by
 rw [List.perm_iff_count]
 intro x
 by_cases hx:x∈a
 ·rw [na.count,nb.count,if_pos hx,if_pos ((h x).mp hx)]
 ·rw [List.count_eq_zero.mpr hx,List.count_eq_zero.mpr (fun q=>hx ((h x).mpr q))]
theorem qJ {α β:Type}(f:α→β):∀ {l:List α},l.Nodup→(∀ x∈l,∀ y∈l,f x=f y→x=y)→(l.map f).Nodup
 | [],_,_=>FJ
 | a::t,nd,h=>by
  rw [EO,EG]
  obtain ⟨h1,h2⟩:=EG.mp nd
  refine ⟨fun q=>?_,qJ f h2 fun x hx y hy=>h x (Eg _ hx) y (Eg _ hy)⟩
  obtain ⟨b,hb,e⟩:=EU.mp q
  have:=h b (Eg _ hb) a Er e
  exact h1 (this ▸ hb)
theorem d_ {u:List L}(U:Srf u):Dc (Rh u) u (hol u):=by
 obtain ⟨Cs,h⟩:=vB U u.length (Ei _)
 have hw:hol u=Cs.map (List.map (cb u)):=h.w
 rw [hw]
 have inj:∀ x∈Cs.flatten,∀ y∈Cs.flatten,cb u x=cb u y→x=y:=fun x hx y hy e=>mz U (h.sn.lt x hx) (h.sn.lt y hy) e
 refine ⟨fun w hw=>?_,?_⟩
 ·obtain ⟨C,hC,rfl⟩:=EU.mp hw
  have g:=h.gc C hC
  have sub:∀ x∈C,x∈Cs.flatten:=fun x hx=>FU.mpr ⟨C,hC,hx⟩
  refine ⟨?_,qJ _ (List.Sublist.nodup (Ie hC) h.sn.nd) fun x hx y hy=>inj x (sub x hx) y (sub y hy),fun x y n=>?_⟩
  ·obtain ⟨g0,r,rfl,_⟩:=g
   simp
  ·obtain ⟨a,b,n',rfl,rfl⟩:=Af _ n
   obtain rfl:=g.st n'
   exact xy U a
 ·rw [← List.map_flatten]
  refine Cn (qJ _ h.sn.nd inj) U.nd fun x=>?_
  constructor
  ·intro hx
   obtain ⟨g,_,rfl⟩:=EU.mp hx
   exact cI U g
  ·intro hx
   obtain ⟨k,hk,e⟩:=List.mem_iff_getElem.mp hx
   have hp:=U.pos
   refine EU.mpr ⟨(k+u.length - 1) % u.length,h.al _ (IH _ hp),?_⟩
   have e2:((k+u.length - 1) % u.length+1) % u.length=k:=by
    rw [Nat.mod_add_mod]
    have:k+u.length - 1+1=k+u.length:=by omega
    rw [this,Nat.add_mod_right]
    exact Fj hk
   have:=bI U ((k+u.length - 1) % u.length)
   rw [e2,fu hk,e] at this
   exact (El this).symm
section
variable {α:Type}
theorem vC {A B:List α}{x a b:α}(nd:(A++x::B).Nodup):Nx (A++B) a b ↔ a≠x∧b≠x∧(Nx (A++x::B) a b ∨ (Nx (A++x::B) a x∧Nx (A++x::B) x b)):=by
 rw [bE A B,bE A (x::B),bE A (x::B),bE A (x::B)]
 have nd:(x::(B++A)).Nodup:=gX nd
 show Nx (B++A) a b ↔ a≠x∧b≠x∧(Nx (x::(B++A)) a b ∨ (Nx (x::(B++A)) a x∧Nx (x::(B++A)) x b))
 generalize B++A=v at nd ⊢
 obtain ⟨hx,ndv⟩:=EG.mp nd
 rw [eO nd]
 cases v with
 | nil =>
  show False ↔ _
  constructor
  ·exact False.elim
  ·rintro ⟨h1,h2,h | h⟩
   ·have:=(gU h).1
    simp at this
    exact h1 this
   ·simp at h
    exact h2 h.2.symm
 | cons c t =>
  have hc:c≠x:=fun e=>hx (by rw [e];simp)
  have e1:∀ p q,Nx (x::c::t) p q ↔ (p=x∧q=c) ∨ Adj (c::t++[x]) p q:=fun p q=>Iff.rfl
  obtain ⟨M,z,e⟩:∃ M z,c::t=M++[z]:=by
   rcases Gn (c::t) with h | ⟨M,z,h⟩
   ·cases h
   ·exact ⟨M,z,by rw [h,Gp]⟩
  have e2:∀ p q r,Adj (c::t++[r]) p q ↔ Adj (c::t) p q ∨ (p=z∧q=r):=fun p q r=>by
   have:c::t++[r]=M++z::[r]:=by rw [e];simp
   rw [this,bQ,← e,dP,iV]
   simp
  have nin:∀ {p q},Adj (c::t) p q→p≠x∧q≠x:=fun h=>⟨fun e=>hx (e ▸ (a6 h).1),fun e=>hx (e ▸ (a6 h).2)⟩
  have hz:z≠x:=fun e'=>hx (by rw [← e',e];simp)
  show Adj (c::t++[c]) a b ↔ _
  rw [e1,e1,e2,e2,e2]
  have hh:((c::t++[x]).head? = some b) ↔ b=c:=by simp [eq_comm]
  rw [hh]
  constructor
  ·rintro (h | ⟨rfl,rfl⟩)
   ·exact ⟨(nin h).1,(nin h).2,.inl (.inr (.inl h))⟩
   ·exact ⟨hz,hc,.inr ⟨.inr (.inr ⟨rfl,rfl⟩),rfl⟩⟩
  ·rintro ⟨h1,h2,(⟨h,_⟩ | h | ⟨_,h⟩) | ⟨⟨h,_⟩ | h | ⟨h,_⟩,h'⟩⟩
   ·exact absurd h h1
   ·exact .inl h
   ·exact absurd h h2
   ·exact absurd h h1
   ·exact absurd rfl (nin h).2
   ·exact .inr ⟨h,h'⟩
theorem fW:∀ {Ws Vs:List (List α)},Ws.Perm Vs→Ws.flatten.Perm Vs.flatten
 | _,_,.nil=>.refl _
 | _,_,.cons x h=>by simpa using (fW h).append_left x
 | _,_,.swap x y l=>by
  simp only [E7,← Ek]
  exact Fy _ Fi
 | _,_,.trans h g=>(fW h).trans (fW g)
theorem Dc.pms {R:α→α→Prop}{u:List α}{Ws Vs:List (List α)}(h:Dc R u Ws)(p:Vs.Perm Ws):Dc R u Vs:=⟨fun w hw=>h.cy w (p.mem_iff.mp hw),(fW p).trans h.pm⟩
theorem xA {u:List α}(nd:u.Nodup){p:α}(h:Nx u p p):∀ q∈u,q=p:=by
 obtain ⟨A,B,rfl⟩:=b_ (gU h).1
 have h:=(bE _ _ _ _).mp h
 have nd:(p::(B++A)).Nodup:=gX nd
 have h:=(eO nd).mp h
 cases e:B++A with
 | nil =>
  obtain ⟨rfl,rfl⟩:=GM.mp e
  intro q hq
  simpa using hq
 | cons c t =>
  rw [e] at h nd
  simp at h
  exact absurd (by rw [h];simp) (EG.mp nd).1
def Pt (R:α→α→Prop)(a:α)(P:List α)(b:α):Prop:=∀ c d,Adj (a::P++[b]) c d→R c d
theorem Pt.nil {R:α→α→Prop}{a b:α}(h:Pt R a [] b):R a b:=h a b (.inl ⟨rfl,rfl⟩)
theorem Pt.ends {R:α→α→Prop}{a b:α}{P:List α}(h:Pt R a P b)(hP:P≠[]):∃ p P' M z,P=p::P'∧P=M++[z]∧R a p∧R z b∧∀ c d,Adj P c d→R c d:=by
 obtain ⟨p,P',e⟩:∃ p P',P=p::P':=by
  cases P with
  | nil=>exact absurd rfl hP
  | cons p P'=>exact ⟨p,P',rfl⟩
 obtain ⟨M,z,e2⟩:∃ M z,P=M++[z]:=by
  rcases Gn P with h | ⟨M,z,h⟩
  ·exact absurd h hP
  ·exact ⟨M,z,by rw [h,Gp]⟩
 have e3:a::P++[b]=(a::M)++z::[b]:=by rw [e2];simp
 refine ⟨p,P',M,z,e,e2,h a p ?_,h z b ?_,fun c d q=>h c d ?_⟩
 ·rw [e]
  exact .inl ⟨rfl,rfl⟩
 ·rw [e3]
  exact jN
 ·rw [e3,bQ]
  refine .inl ?_
  have:a::M++[z]=a::P:=by rw [e2];rfl
  rw [this,e]
  rw [e] at q
  exact .inr q
theorem qK {R:α→α→Prop}{V V' M:List α}{v z:α}(e1:V=v::V')(e2:V=M++[z])(nd:V.Nodup)(h1:∀ c d,Adj V c d→R c d)(h2:R z v):Cy R V:=by
 refine ⟨by rw [e1];simp,nd,fun x y n=>?_⟩
 have n:Adj (V++[v]) x y:=by rw [e1] at n ⊢;exact n
 have:V++[v]=M++z::[v]:=by rw [e2];simp
 rw [this,bQ,← e2] at n
 rcases n with n | n
 ·exact h1 x y n
 ·rcases n with ⟨rfl,rfl⟩ | n
  ·exact h2
  ·exact n.elim
theorem xB {P Q M Q':List α}{z q:α}(e1:P=M++[z])(e2:Q=q::Q')(c d:α):Adj (P++Q) c d ↔ Adj P c d ∨ (c=z∧d=q) ∨ Adj Q c d:=by
 have:P++Q=M++z::Q:=by rw [e1];simp
 rw [this,bQ,← e1,e2]
 rfl
end
structure Out (u:List L) (x y:L) (v:List L):Prop where
 ex:∃ A B C D,u=A++x::B∧A++B=C++y::D∧v=C++D
theorem Out.pm {u v:List L}{x y:L}(o:Out u x y v):u.Perm (x::y::v):=by
 obtain ⟨A,B,C,D,rfl,e,rfl⟩:=o.ex
 refine FT.trans (List.Perm.cons _ ?_)
 rw [e]
 exact FT
theorem Out.nx {u v:List L}{x y:L}(o:Out u x y v)(nd:u.Nodup)(p q:L)(hp:p≠x)(hp':p≠y)(hq:q≠x)(hq':q≠y)
  (h:Nx u p q ∨ (Nx u p x∧Nx u x q) ∨ (Nx u p y∧Nx u y q) ∨ (Nx u p x∧Nx u x y∧Nx u y q) ∨ (Nx u p y∧Nx u y x∧Nx u x q)):Nx v p q:=by
 have hxy:y≠x:=by
  have:=o.pm.nodup_iff.mp nd
  intro e
  rw [e] at this
  simp at this
 obtain ⟨A,B,C,D,rfl,e,rfl⟩:=o.ex
 have nd2:(C++y::D).Nodup:=by
  rw [← e]
  exact (EG.mp (FT.nodup_iff.mp nd)).2
 have s1:∀ a b,a≠x→b≠x→(Nx (A++x::B) a b ∨ (Nx (A++x::B) a x∧Nx (A++x::B) x b))→Nx (C++y::D) a b:=fun a b h1 h2 h=>by
  rw [← e]
  exact (vC nd).mpr ⟨h1,h2,h⟩
 refine (vC nd2).mpr ⟨hp',hq',?_⟩
 rcases h with h | ⟨h1,h2⟩ | ⟨h1,h2⟩ | ⟨h1,h2,h3⟩ | ⟨h1,h2,h3⟩
 ·exact .inl (s1 p q hp hq (.inl h))
 ·exact .inl (s1 p q hp hq (.inr ⟨h1,h2⟩))
 ·exact .inr ⟨s1 p y hp hxy (.inl h1),s1 y q hxy hq (.inl h2)⟩
 ·exact .inr ⟨s1 p y hp hxy (.inr ⟨h1,h2⟩),s1 y q hxy hq (.inl h3)⟩
 ·exact .inr ⟨s1 p y hp hxy (.inl h1),s1 y q hxy hq (.inr ⟨h2,h3⟩)⟩
theorem Ao {u:List L}(nd:u.Nodup){x y:L}(hx:x∈u)(hy:y∈u)(hn:y≠x):∃ v,Out u x y v:=by
 obtain ⟨A,B,rfl⟩:=b_ hx
 have:y∈A++B:=by
  simp only [Ew,Et] at hy ⊢
  rcases hy with h | h | h
  ·exact .inl h
  ·exact absurd h hn
  ·exact .inr h
 obtain ⟨C,D,e⟩:=b_ this
 exact ⟨C++D,⟨A,B,C,D,rfl,e,rfl⟩⟩
theorem xC {a x:L}(h:a≠x):inv a≠inv x:=fun e=>h (by rw [← aq a,e,aq])
theorem uC {a x:L}(h:a≠inv x):inv a≠x:=fun e=>h (by rw [← e,aq])
theorem Out.rh {u v:List L}{x:L}(o:Out u x (inv x) v)(nd:u.Nodup){a b:L}(ha:a≠x)(ha':a≠inv x)(hb:b≠x)(hb':b≠inv x)
  (h:Rh u a b ∨ (Rh u a x∧Rh u (inv x) b) ∨ (Rh u a (inv x)∧Rh u x b) ∨ (Rh u a x∧Rh u (inv x) (inv x)∧Rh u x b) ∨ (Rh u a (inv x)∧Rh u x x∧Rh u (inv x) b)):Rh v a b:=by
 refine o.nx nd (inv a) b (uC ha') (xC ha) hb hb' ?_
 unfold Rh at h
 simp only [aq] at h
 exact h
theorem Ap {u:List L}(U:Srf u){x:L}(h1:Rh u x x)(h2:Rh u (inv x) (inv x)):u.length≤2:=by
 unfold Rh at h1 h2
 rw [aq] at h2
 have hx:=(gU h2).1
 obtain ⟨A,B,rfl⟩:=b_ hx
 have h1:=(bE _ _ _ _).mp h1
 have h2:=(bE _ _ _ _).mp h2
 have nd:(x::(B++A)).Nodup:=gX U.nd
 have h2:=(eO nd).mp h2
 cases e:B++A with
 | nil =>
  obtain ⟨rfl,rfl⟩:=GM.mp e
  simp
 | cons c t =>
  rw [e] at h2
  simp at h2
  have h1:Nx (x::(B++A)) (inv x) x:=h1
  rw [e,h2] at h1 nd
  have h1:=(bE [x] (inv x::t) _ _).mp h1
  have nd':(inv x::(t++[x])).Nodup:=gX (A:=[x]) nd
  have h1:=(eO nd').mp h1
  cases t with
  | nil =>
   have:=Ey List.length e
   simp only [Eb,EF,Fl] at this ⊢
   omega
  | cons d t =>
   simp at h1
   subst h1
   simp at nd
theorem vD {R:L→L→Prop}{u:List L}{Ws:List (List L)}(h:Dc R u Ws){x y:L}(hx:x∈u)(hy:y∈u)(hn:y≠x) :
  (∃ (P Q:List L) (T:List (List L)),Ws.length=T.length+1∧Pt R x P y∧Pt R y Q x∧(x::y::(P++Q++T.flatten)).Perm u∧∀ w∈T,Cy R w) ∨
  (∃ (P Q:List L) (T:List (List L)),Ws.length=T.length+2∧Pt R x P x∧Pt R y Q y∧(x::y::(P++Q++T.flatten)).Perm u∧∀ w∈T,Cy R w):=by
 obtain ⟨w,hw,hxw⟩:=FU.mp (h.pm.mem_iff.mpr hx)
 obtain ⟨v,hv,hyv⟩:=FU.mp (h.pm.mem_iff.mpr hy)
 obtain ⟨S,S',e⟩:=Iy hw
 have pw:(w::(S++S')).Perm Ws:=by rw [e];exact FT.symm
 have g:=h.pms pw
 have cw:=h.cy w hw
 obtain ⟨A,B,eA⟩:=b_ hxw
 have cw':Cy R (x::(B++A)):=by rw [eA] at cw;exact cw.rot
 have pAB:(A++x::B).Perm (x::(B++A)):=Fi
 have pu:(x::(B++A)++(S++S').flatten).Perm u:=by
  have:=g.pm
  rw [E7,eA] at this
  exact (Fy _ pAB.symm).trans this
 by_cases hyw:y∈w
 ·left
  have hy2:y∈B++A:=by
   have:=(eA ▸ hyw:y∈A++x::B)
   simp only [Ew,Et] at this ⊢
   rcases this with h | h | h
   ·exact .inr h
   ·exact absurd h hn
   ·exact .inl h
  obtain ⟨P,Q,eP⟩:=b_ hy2
  rw [eP] at cw' pu
  have cs:∀ c d,Adj (x::(P++y::Q)++[x]) c d→R c d:=cw'.st
  have e2:x::(P++y::Q)++[x]=(x::P)++y::(Q++[x]):=by simp
  rw [e2] at cs
  refine ⟨P,Q,S++S',?_,fun c d q=>cs c d ((bQ _ _ _ _ _).mpr (.inl q)),fun c d q=>cs c d ((bQ _ _ _ _ _).mpr (.inr q)),?_,fun z hz=>g.cy z (Eg _ hz)⟩
  ·have:=pw.length_eq
   simpa using this.symm
  ·refine List.Perm.trans ?_ pu
   refine List.Perm.cons x ?_
   have:(P++y::Q).Perm (y::(P++Q)):=FT
   exact (Fy _ this.symm)
 ·right
  have hvm:v∈S++S':=by
   have:=pw.mem_iff.mpr hv
   rcases Et.mp this with h | h
   ·exact absurd (h ▸ hyv) hyw
   ·exact h
  obtain ⟨T,T',eT⟩:=Iy hvm
  have pv:(v::(T++T')).Perm (S++S'):=by rw [eT];exact FT.symm
  have cv:=h.cy v hv
  obtain ⟨C,D,eC⟩:=b_ hyv
  have cv':Cy R (y::(D++C)):=by rw [eC] at cv;exact cv.rot
  have pCD:(C++y::D).Perm (y::(D++C)):=Fi
  refine ⟨B++A,D++C,T++T',?_,cw'.st,cv'.st,?_,fun z hz=>g.cy z (Eg _ (pv.mem_iff.mp (Eg _ hz)))⟩
  ·have h1:=pw.length_eq
   have h2:=pv.length_eq
   simp only [EF] at h1 h2
   omega
  ·refine List.Perm.trans ?_ pu
   refine List.Perm.cons x ?_
   have h3:(y::(D++C)++(T++T').flatten).Perm (S++S').flatten:=by
    have:=fW pv
    rw [E7,eC] at this
    exact (Fy _ pCD.symm).trans this
   have h4:(B++A++(y::(D++C)++(T++T').flatten)).Perm (B++A++(S++S').flatten):=FH _ h3
   refine List.Perm.trans ?_ h4
   have:B++A++(y::(D++C)++(T++T').flatten)=(B++A)++y::((D++C)++(T++T').flatten):=by simp
   rw [this]
   have q:=FT (a:=y) (l₁:=B++A) (l₂:=(D++C)++(T++T').flatten)
   refine List.Perm.trans ?_ q.symm
   simp
theorem iX {u:List L}(U:Srf u){x:L}(hx:x∈u):¬ Nx u x x:=fun h=>cO x (xA U.nd h (inv x) (U.iv x hx))
theorem uD {u v:List L}(U:Srf u)(h4:2 < u.length){x:L}(hx:x∈u)(o:Out u x (inv x) v){Ws:List (List L)}(h:Dc (Rh u) u Ws):∃ Vs,Dc (Rh v) v Vs∧(Vs.length=Ws.length+1 ∨ Vs.length+1=Ws.length):=by
 have hX:=U.iv x hx
 have key:∀ (P Q:List L) (T:List (List L)),(x::inv x::(P++Q++T.flatten)).Perm u→(∀ w∈T,Cy (Rh u) w) →
   (P++Q++T.flatten).Perm v∧(P++Q++T.flatten).Nodup∧(∀ y∈P++Q++T.flatten,y≠x∧y≠inv x)∧∀ w∈T,Cy (Rh v) w:=by
  intro P Q T pu ct
  have p2:(x::inv x::(P++Q++T.flatten)).Perm (x::inv x::v):=pu.trans o.pm
  have p3:=List.Perm.cons_inv (List.Perm.cons_inv p2)
  have nd:=pu.nodup_iff.mpr U.nd
  obtain ⟨n1,n2⟩:=EG.mp nd
  obtain ⟨n3,n4⟩:=EG.mp n2
  have ne:∀ y∈P++Q++T.flatten,y≠x∧y≠inv x:=fun y hy=>⟨fun e=>n1 (Eg _ (e ▸ hy)),fun e=>n3 (e ▸ hy)⟩
  refine ⟨p3,n4,ne,fun w hw=>⟨(ct w hw).ne,(ct w hw).nd,fun a b q=>?_⟩⟩
  have sub:∀ y∈w,y∈P++Q++T.flatten:=fun y hy=>Ew.mpr (.inr (FU.mpr ⟨w,hw,hy⟩))
  have m:=gU q
  exact o.rh U.nd (ne a (sub a m.1)).1 (ne a (sub a m.1)).2 (ne b (sub b m.2)).1 (ne b (sub b m.2)).2 (.inl ((ct w hw).st a b q))
 have bad1:¬ Rh u x (inv x):=fun q=>iX U hX q
 have bad2:¬ Rh u (inv x) x:=fun q=>by
  unfold Rh at q
  rw [aq] at q
  exact iX U hx q
 rcases vD h hx hX (cO x) with ⟨P,Q,T,hl,hP,hQ,pu,ct⟩ | ⟨P,Q,T,hl,hP,hQ,pu,ct⟩
 ·obtain ⟨pv,nd,ne,ct'⟩:=key P Q T pu ct
  have P0:P≠[]:=fun e=>by subst e;exact bad1 hP.nil
  have Q0:Q≠[]:=fun e=>by subst e;exact bad2 hQ.nil
  obtain ⟨p,P',M,z,e1,e2,r1,r2,r3⟩:=hP.ends P0
  obtain ⟨q,Q',N,y,f1,f2,s1,s2,s3⟩:=hQ.ends Q0
  have mP:∀ a∈P,a≠x∧a≠inv x:=fun a ha=>ne a (by simp [ha])
  have mQ:∀ a∈Q,a≠x∧a≠inv x:=fun a ha=>ne a (by simp [ha])
  have hz:z∈P:=by rw [e2];simp
  have hp:p∈P:=by rw [e1];simp
  have hy:y∈Q:=by rw [f2];simp
  have hq:q∈Q:=by rw [f1];simp
  have nPQ:=(Fh.mp nd).1
  have cP:Cy (Rh v) P:=qK e1 e2 (Fh.mp nPQ).1 (fun c d k=>o.rh U.nd (mP c (a6 k).1).1 (mP c (a6 k).1).2 (mP d (a6 k).2).1 (mP d (a6 k).2).2 (.inl (r3 c d k)))
   (o.rh U.nd (mP z hz).1 (mP z hz).2 (mP p hp).1 (mP p hp).2 (.inr (.inr (.inl ⟨r2,r1⟩))))
  have cQ:Cy (Rh v) Q:=qK f1 f2 (Fh.mp nPQ).2.1 (fun c d k=>o.rh U.nd (mQ c (a6 k).1).1 (mQ c (a6 k).1).2 (mQ d (a6 k).2).1 (mQ d (a6 k).2).2 (.inl (s3 c d k)))
   (o.rh U.nd (mQ y hy).1 (mQ y hy).2 (mQ q hq).1 (mQ q hq).2 (.inr (.inl ⟨s2,s1⟩)))
  refine ⟨P::Q::T,⟨fun w hw=>?_,by simpa using pv⟩,.inl (by rw [hl];simp)⟩
  rcases Et.mp hw with rfl | hw
  ·exact cP
  ·rcases Et.mp hw with rfl | hw
   ·exact cQ
   ·exact ct' w hw
 ·obtain ⟨pv,nd,ne,ct'⟩:=key P Q T pu ct
  have mP:∀ a∈P,a≠x∧a≠inv x:=fun a ha=>ne a (by simp [ha])
  have mQ:∀ a∈Q,a≠x∧a≠inv x:=fun a ha=>ne a (by simp [ha])
  have nPQ:=(Fh.mp nd).1
  have iP:∀ c d,Adj P c d→Rh u c d→Rh v c d:=fun c d k r=>o.rh U.nd (mP c (a6 k).1).1 (mP c (a6 k).1).2 (mP d (a6 k).2).1 (mP d (a6 k).2).2 (.inl r)
  have iQ:∀ c d,Adj Q c d→Rh u c d→Rh v c d:=fun c d k r=>o.rh U.nd (mQ c (a6 k).1).1 (mQ c (a6 k).1).2 (mQ d (a6 k).2).1 (mQ d (a6 k).2).2 (.inl r)
  have cy:Cy (Rh v) (P++Q):=by
   by_cases P0:P=[]
   ·subst P0
    have Q0:Q≠[]:=fun e=>by
     subst e
     have:=Ap U hP.nil hQ.nil
     omega
    obtain ⟨q,Q',N,y,f1,f2,s1,s2,s3⟩:=hQ.ends Q0
    have hy:y∈Q:=by rw [f2];simp
    have hq:q∈Q:=by rw [f1];simp
    exact qK f1 f2 (Fh.mp nPQ).2.1 (fun c d k=>iQ c d k (s3 c d k)) (o.rh U.nd (mQ y hy).1 (mQ y hy).2 (mQ q hq).1 (mQ q hq).2 (.inr (.inr (.inr (.inr ⟨s2,hP.nil,s1⟩)))))
   ·obtain ⟨p,P',M,z,e1,e2,r1,r2,r3⟩:=hP.ends P0
    have hz:z∈P:=by rw [e2];simp
    have hp:p∈P:=by rw [e1];simp
    by_cases Q0:Q=[]
    ·subst Q0
     rw [FC]
     exact qK e1 e2 (Fh.mp nPQ).1 (fun c d k=>iP c d k (r3 c d k)) (o.rh U.nd (mP z hz).1 (mP z hz).2 (mP p hp).1 (mP p hp).2 (.inr (.inr (.inr (.inl ⟨r2,hQ.nil,r1⟩)))))
    ·obtain ⟨q,Q',N,y,f1,f2,s1,s2,s3⟩:=hQ.ends Q0
     have hy:y∈Q:=by rw [f2];simp
     have hq:q∈Q:=by rw [f1];simp
     refine qK (v:=p) (V':=P'++Q) (M:=P++N) (z:=y) (by rw [e1];rfl) (by rw [f2];simp) nPQ (fun c d k=>?_) (o.rh U.nd (mQ y hy).1 (mQ y hy).2 (mP p hp).1 (mP p hp).2 (.inr (.inr (.inl ⟨s2,r1⟩))))
     rcases (xB e2 f1 c d).mp k with k | ⟨rfl,rfl⟩ | k
     ·exact iP c d k (r3 c d k)
     ·exact o.rh U.nd (mP _ hz).1 (mP _ hz).2 (mQ _ hq).1 (mQ _ hq).2 (.inr (.inl ⟨r2,s1⟩))
     ·exact iQ c d k (s3 c d k)
  refine ⟨(P++Q)::T,⟨fun w hw=>?_,by simpa using pv⟩,.inr (by rw [hl];simp)⟩
  rcases Et.mp hw with rfl | hw
  ·exact cy
  ·exact ct' w hw
theorem par:∀ (n:Nat) (u:List L),u.length≤n→Srf u→∀ Ws,Dc (Rh u) u Ws→∃ k,u.length+2=2*Ws.length+4*k:=by
 intro n
 induction n with
 | zero =>
  intro u hl U
  have:=U.pos
  omega
 | succ n ih =>
  intro u hl U Ws h
  obtain ⟨x,hx⟩:=List.exists_mem_of_ne_nil u U.ne
  have hX:=U.iv x hx
  by_cases h2:u.length≤2
  ·have fin:∀ (P Q:List L) (T:List (List L)),(x::inv x::(P++Q++T.flatten)).Perm u→P=[]∧Q=[]∧T.flatten=[]:=fun P Q T p=>by
    have:=p.length_eq
    simp only [EF,Eb] at this
    exact ⟨Fg (by omega),Fg (by omega),Fg (by omega)⟩
   rcases vD h hx hX (cO x) with ⟨P,Q,T,hl,hP,hQ,pu,ct⟩ | ⟨P,Q,T,hl,hP,hQ,pu,ct⟩
   ·obtain ⟨rfl,_,_⟩:=fin P Q T pu
    exact absurd hP.nil (iX U hX)
   ·obtain ⟨rfl,rfl,e⟩:=fin P Q T pu
    have:T=[]:=by
     cases T with
     | nil=>rfl
     | cons w T =>
      rw [E7] at e
      exact absurd (GM.mp e).1 (ct w (by simp)).ne
    subst this
    have:=pu.length_eq
    simp at this hl
    exact ⟨0,by omega⟩
  ·obtain ⟨v,o⟩:=Ao U.nd hx hX (cO x)
   obtain ⟨Vs,g,c⟩:=uD U (by omega) hx o h
   have pl:=o.pm.length_eq
   simp only [EF] at pl
   have nd:=o.pm.nodup_iff.mp U.nd
   obtain ⟨n1,n2⟩:=EG.mp nd
   obtain ⟨n3,n4⟩:=EG.mp n2
   have V:Srf v:=by
    refine ⟨fun e=>by subst e;simp at pl;omega,n4,fun y hy=>?_,by have:=U.le;omega⟩
    have hu:y∈u:=o.pm.mem_iff.mpr (by simp [hy])
    have:=o.pm.mem_iff.mp (U.iv y hu)
    rcases Et.mp this with e | this
    ·exact absurd hy (by rw [show y=inv x by rw [← e,aq]];exact n3)
    ·rcases Et.mp this with e | this
     ·have:y=x:=by rw [← aq y,e,aq]
      exact absurd hy (by rw [this];exact fun q=>n1 (Eg _ q))
     ·exact this
   obtain ⟨k,hk⟩:=ih v (by omega) V Vs g
   rcases c with c | c
   ·exact ⟨k+1,by omega⟩
   ·exact ⟨k,by omega⟩
theorem xD {u:List L}(U:Srf u):∃ k,u.length+2=2*(hol u).length+4*k:=par u.length u (Ei _) U _ (d_ U)
end Wd
namespace PySem
end PySem
namespace L2
open PySem PySem.Spec PyProof.Rows Wd
section
variable {X:Cx}
end
end L2
namespace Wd
def img (ws:List (List L))(x:L):List L:=if x.val < 6 then ws.getD x.val [] else bk (ws.getD (x.val - 6) [])
def sub (ws:List (List L))(u:List L):List L:=u.flatMap (img ws)
theorem qL (x:L):(inv x).val=if x.val < 6 then x.val+6 else x.val - 6:=by unfold inv; split <;> rfl
def InM (n:Nat)(u:List L):Prop:=∀ x∈u,x.val % 6 < n
theorem InM.bk {n:Nat}{u:List L}(h:InM n u):InM n (bk u):=by
 intro x hx
 unfold Wd.bk at hx
 rw [List.mem_reverse,EU] at hx
 obtain ⟨y,hy,rfl⟩:=hx
 have h1:=h y hy
 have:=y.isLt
 rw [qL]
 split <;> omega
theorem qM:∀ (u st:List L) (x:L),x∈act u st→x∈u ∨ x∈st
 | [],st,x,h=>.inr h
 | y::u,st,x,h=>by
  rw [iz] at h
  rcases qM u _ x h with h | h
  ·exact .inl (Eg _ h)
  ·cases st with
   | nil =>
    have h:x∈[y]:=h
    rw [Ec] at h
    exact .inl (h ▸ Er)
   | cons z r =>
    have h:x∈(if z=inv y then r else y::z::r):=h
    split at h
    ·exact .inr (Eg _ h)
    ·rcases Et.mp h with h | h
     ·exact .inl (h ▸ Er)
     ·exact .inr h
theorem xE {u:List L}{x:L}(h:x∈red u):x∈u:=by
 unfold red at h
 rw [List.mem_reverse] at h
 rcases qM u [] x h with h | h
 ·exact h
 ·cases h
end Wd
namespace PySem
section
variable {prog:Program} {w:World} {A:Around} {E:Value→Shared→Prop}
end
end PySem
namespace L2
open PySem PySem.Spec PyProof.Rows Wd
section
variable {X:Cx} {pos:Pos}
inductive Dk (x:V)(y:V)(H:Hp)(Q:VK):Prop
 | mk:∀ da db,(Dt H x da)→(Dt H y db)→(da.canLay0=true)→(db.canLay0=true)→(da.depth≤10)→(Q (.bl (!PyData.eqv da db)) H)→Dk x y H Q
theorem qN (hu:X.A.units+64 < cLine):OpR X (compareOp .NotEq) Dk:=by
 intro Kl s σ H x y v u Q I rx ry h
 obtain ⟨da,db,ha,hb,la,lb,dp,q⟩:=h
 obtain ⟨as,ra⟩:=ha.reads I.hok rx
 obtain ⟨bs,rb⟩:=hb.reads I.hok ry
 exact II (SeqAt.rcNeAt_reads ra rb la lb (by omega)) ⟨.bl _,H,I,rfl,q⟩
end
theorem xF (u:List L):(PyData.str (toS u)).canLay0=true:=by
 unfold PyData.canLay0 PyData.strOk
 rw [← Array.all_toList,aZ,Fv]
 intro c hc
 obtain ⟨x,_,rfl⟩:=EU.mp hc
 have:=tK x
 exact Ee (by omega)
theorem jP:∀ ws:List (List L),PyData.canLayAll0 (ws.map fun u=>.str (toS u))=true
 | []=>rfl
 | u::ws=>by
  rw [EO,PyData.canLayAll0,xF,jP ws]
  rfl
section
variable {X:Cx}
end
theorem Aq:∀ i:_root_.Fin 6,("abcdef":Str).cps[i.val]? = some (cp ⟨i.val,by omega⟩):=by decide +kernel
theorem sm_at {i c:Nat}(h:("abcdef":Str).cps[i]? = some c):∃ x:L,x.val=i∧i < 6∧c=cp x:=by
 have hl:i < 6:=by
  obtain ⟨h1,_⟩:=Ge.mp h
  have:("abcdef":Str).cps.size=6:=by decide +kernel
  omega
 have:=Aq ⟨i,hl⟩
 rw [this] at h
 exact ⟨⟨i,by omega⟩,rfl,hl,(El h).symm⟩
theorem qO:∀ ws:List (List L),Txt.join ("":Str) (ws.map toS)=toS ws.flatten:=by
 intro ws
 have e0:("":Str)=Str.empty:=by decide +kernel
 unfold Txt.join
 rw [StrLaws.glued_eq_join,e0]
 induction ws with
 | nil=>rfl
 | cons x r ih =>
  cases r with
  | nil =>
   show toS x=_
   simp
  | cons y r =>
   show toS x++Str.empty++Str.join Str.empty ((y::r).map toS)=_
   rw [ih,Str.append_empty,dk]
   rfl
end L2
namespace Kx
open PySem PySem.Spec PyProof.Rows L2 Wd
inductive kI (vs:List V)(H:Hp)(Q:VK)(Kv:XK):Prop
 | mk:∀ (d:Addr) (m n:Int),(vs=[.ref d,.int m,.int n])→(Fd H d)→(1≤m)→(m≤6)→(0≤n)→(n≤60)→(∀ (u:List L) (H':Hp),u.length≤n.toNat→InM m.toNat u→Fd H' d→bC d H H'→Q (tx u) H')→kI vs H Q Kv
theorem Co {m:Int}(h1:1≤m)(h2:m≤6):InM m.toNat (sg m):=by
 have:m=1 ∨ m=2 ∨ m=3 ∨ m=4 ∨ m=5 ∨ m=6:=by omega
 rcases this with rfl | rfl | rfl | rfl | rfl | rfl <;> (unfold InM;decide)
theorem InM.snoc {n:Nat}{u:List L}{x:L}(h:InM n u)(hx:x.val % 6 < n):InM n (u++[x]):=fun y hy=>by
 rcases Ew.mp hy with hy | hy
 ·exact h y hy
 ·rw [Ec] at hy;exact hy ▸ hx
theorem InM.nil {n:Nat}:InM n []:=fun y hy=>by cases hy
end Kx
namespace Wd
end Wd
namespace L2
open PySem PySem.Spec PyProof.Rows Wd
section
variable {X:Cx}
end
end L2
namespace Kx
open PySem PySem.Spec PyProof.Rows L2 Wd
end Kx
namespace L2
open PySem PySem.Spec PyProof.Rows Wd
section
variable {X:Cx}
end
end L2
namespace L2
open PySem PySem.Spec PyProof.Rows
section
variable {prog:Program} {w:World} {A:Around} {E:Value→Shared→Prop} {s:Shared}
end
section
variable {X:Cx}
end
end L2
namespace L2
open PySem PySem.Spec PyProof.Rows Wd
section
variable {X:Cx}
end
end L2
namespace Kx
open PySem PySem.Spec PyProof.Rows L2 Wd
end Kx
namespace L2
open PySem PySem.Spec PyProof.Rows Wd
section
variable {X:Cx}
end
end L2
namespace Wd
def nm (N:List L)(x:L):L:=if x.val < 6 then N.getD x.val 0 else inv (N.getD (x.val - 6) 0)
end Wd
namespace L2
open PySem PySem.Spec PyProof.Rows Wd
theorem dQ {α β:Type}(f:α→β){zs ys:List β}(p:ys.Perm zs):∀ W:List α,ys=W.map f→∃ V:List α,V.Perm W∧zs=V.map f:=by
 induction p with
 | nil =>
  intro W e
  exact ⟨W,.refl _,e⟩
 | cons x _ ih =>
  intro W e
  cases W with
  | nil=>cases e
  | cons w W =>
   obtain ⟨e1,e2⟩:=Gm e
   obtain ⟨V,h1,h2⟩:=ih W e2
   exact ⟨w::V,h1.cons w,by rw [h2,e1];rfl⟩
 | swap x y l =>
  intro W e
  match W,e with
  | a::b::W,e =>
   obtain ⟨e1,e2⟩:=Gm e
   obtain ⟨e2,e3⟩:=Gm e2
   exact ⟨b::a::W,List.Perm.swap a b W,by rw [e1,e2,e3];rfl⟩
 | trans _ _ ih1 ih2 =>
  intro W e
  obtain ⟨V,h1,h2⟩:=ih1 W e
  obtain ⟨V2,h3,h4⟩:=ih2 V h2
  exact ⟨V2,h3.trans h1,h4⟩
section
variable {X:Cx}
end
end L2
namespace Kx
open PySem PySem.Spec PyProof.Rows L2 Wd
end Kx
namespace L2
open PySem PySem.Spec PyProof.Rows
theorem fX (val:Nat→Str):∀ i,(ddp val i).Nodup
 | 0=>by unfold ddp;exact FJ
 | i+1=>by
  unfold ddp
  split
  ·exact fX val i
  ·rename_i h
   exact Fh.mpr ⟨fX val i,EG.mpr ⟨EN,FJ⟩,fun a ha b hb e=>h (by rw [Ec] at hb;subst hb;subst e;exact ha)⟩
theorem qP (val:Nat→Str)(z:Str):∀ i,z∈ddp val i ↔ ∃ j,j < i∧val j=z
 | 0=>by unfold ddp;simp
 | i+1=>by
  have ih:=qP val z i
  unfold ddp
  split
  ·rename_i h
   rw [ih]
   constructor
   ·rintro ⟨j,hj,e⟩;exact ⟨j,by omega,e⟩
   ·rintro ⟨j,hj,e⟩
    by_cases q:j=i
    ·subst q
     rw [← e]
     rw [e] at h ⊢
     exact ih.mp h
    ·exact ⟨j,by omega,e⟩
  ·rw [Ew,ih,Ec]
   constructor
   ·rintro (⟨j,hj,e⟩ | e)
    ·exact ⟨j,by omega,e⟩
    ·exact ⟨i,by omega,e.symm⟩
   ·rintro ⟨j,hj,e⟩
    by_cases q:j=i
    ·subst q;exact .inr e.symm
    ·exact .inl ⟨j,by omega,e⟩
theorem c6:∀ {dl zs:List Str},dl.Nodup→(∀ k∈dl,k∈zs)→zs.length≤dl.length→zs.Perm dl
 | [],zs,_,_,h=>by rw [Hh.mp (Nat.le_zero.mp h)]
 | d::dl,zs,nd,m,h=>by
  have hd:=m d Er
  have p:=List.perm_cons_erase hd
  refine p.trans (List.Perm.cons _ ?_)
  obtain ⟨n1,n2⟩:=EG.mp nd
  refine c6 n2 (fun k hk=>?_) ?_
  ·have:=m k (Eg _ hk)
   exact (List.mem_erase_of_ne (fun e=>n1 (by rw [← e];exact hk))).mpr this
  ·rw [G5 hd]
   simp at h
   omega
section
variable {prog:Program} {w:World} {A:Around} {E:Value→Shared→Prop} {s:Shared}
end
section
variable {X:Cx}
def StO (P:Program)(w:World)(a:Addr)(dl:List Str):HO:=.ext fun h=>Ac P w h a dl
theorem Ac.lay {P:Program}{w:World}{H:Hp}{h:Heap}{a:Addr}{dl:List Str}(x:Ac P w h a dl):br P w H h a (StO P w a dl):=by
 refine ⟨x,?_,fun h1 h2 y k=>y.at k⟩
 obtain ⟨o,_,_,_,e,_⟩:=x
 exact ⟨o,e⟩
end
section
variable {prog:Program} {w:World} {A:Around} {E:Value→Shared→Prop} {s:Shared}
end
section
variable {X:Cx}
end
end L2
namespace Ts
open PySem PyProof.Rows
def iOf:Value→Int
 | .int x _=>x
 | _=>0
theorem mE:∀ (vs:List Value),(∀ v,v∈vs→∃ x t,v = .int x t)→IntsAre vs (vs.map iOf)
 | [],_=>.nil
 | v::vs,h=>by
  obtain ⟨x,t,rfl⟩:=h v (Er ..)
  exact .cons x t (mE vs fun u hu=>h u (Eg _ hu))
end Ts
namespace L2
open PySem PySem.Spec PyProof.Rows Wd Ts
section
variable {prog:Program} {w:World} {A:Around} {E:Value→Shared→Prop} {s:Shared}
theorem kJ {l:Addr}{vs:List Value}{Q:List Value→Shared→Prop}(hl:s.heap.IsTuple l vs.toArray)
  (h:Q vs { s with heap:=(s.heap.push (seqObj "list" #[] 0)).update s.heap.objs.size (Obj.mapSeq (· ++ vs.toArray)) }) (hsz:vs.length≤sizeLine:=by size_fits) :
  wpAny (model prog w) A (collect (.ref l)) Q E s:=by
 obtain ⟨o,ho,hc,n,hd⟩:=id hl
 unfold collect
 refine D9 (Jw (F_ entry_proto_collect' ?_))
 show wpAny _ _ (do again (.builtin "list.__iadd__" ⟨[← newList [],.ref l],[]⟩)) _ _ s
 refine D9 (Ha (Ep ⟨Code.quiet_builtin _ (by decide +kernel),F_ entry_list_iadd' ?_⟩))
 show wpAny _ _ (Builtin.List.listExtendWith (.ref s.heap.objs.size) (.ref l) (.ref s.heap.objs.size)) _ _ { s with heap:=s.heap.push (seqObj "list" #[] 0) }
 unfold Builtin.List.listExtendWith
 have ho':(s.heap.push (seqObj "list" #[] 0)).get? l=some o:=D_ _ ho
 refine D9 (wpAny_typeOf (T:="tuple") ⟨o,ho',hc⟩ ?_)
 have ht:(Value.type "tuple" == Value.type "tuple")=true:=by rfl
 rw [if_pos (by rw [ht];simp)]
 refine D9 (Hz ho' hd ?_)
 refine D9 (Hz (xs:=#[]) (n:=0) (Em _ rfl) rfl ?_)
 rw [if_neg (by simp)]
 refine D9 (IT (xs:=#[]) (n:=0) (Em _ rfl) rfl ?_ (E1 _) (by show (#[]++vs.toArray).size≤sizeLine+1;simp only [Array.size_append,EC,Fl];omega))
 refine Ep ?_
 show wpAny (model prog w) A (do
   let o ← load s.heap.objs.size
   match o.data with
   | .seq xs _=>pure xs.toList
   | _=>unsupported "internal:collect") Q E { s with heap:=(s.heap.push (seqObj "list" #[] 0)).update s.heap.objs.size (Obj.mapSeq (· ++ vs.toArray)) }
 refine D9 (wpAny_load (get?_update_seq (Em _ rfl) _) ?_)
 show wpAny _ _ (pure ((#[]:Array Value)++vs.toArray).toList) Q E _
 rw [show ((#[]:Array Value)++vs.toArray).toList=vs by simp]
 exact Ep h
end
section
variable {X:Cx}
end
end L2
namespace Tv
open PySem PyProof.Rows
def Pq (h:Heap)(v:Value)(i j:Int):Prop:=∃ (a:Addr) (o:Obj) (t u:Tok) (n:Nat),v = .ref a∧h.get? a=some o∧o.cls = .type "tuple"∧o.data = .seq #[.int i t,.int j u] n
inductive Kn where
 | i
 | s
 | p
def Kn.R:Kn→Heap→Value→List Int→Prop
 | .i,_,v,a=>∃ i t,v = .int i t∧a=[i]
 | .s,_,v,a=>∃ (x:Str) (t:Tok),v = .str x t∧a=x.cps.toList.map Int.ofNat
 | .p,h,v,a=>∃ i j,Pq h v i j∧a=[i,j]
theorem qQ {x y:List Nat}(h:x.map Int.ofNat=y.map Int.ofNat):x=y:=(List.map_inj_right (fun _ _ e=>IV e)).mp h
theorem Kn.one {k:Kn}{h:Heap}{v:Value}{a b:List Int}(x:k.R h v a)(y:k.R h v b):a=b:=by
 cases k with
 | i =>
  obtain ⟨i,t,rfl,rfl⟩:=x
  obtain ⟨j,u,e,rfl⟩:=y
  cases e
  rfl
 | s =>
  obtain ⟨i,t,rfl,rfl⟩:=x
  obtain ⟨j,u,e,rfl⟩:=y
  cases e
  rfl
 | p =>
  obtain ⟨i,j,⟨c,o,t,u,n,rfl,e,_,d⟩,rfl⟩:=x
  obtain ⟨k,l,⟨c',o',t',u',n',e0,e',_,d'⟩,rfl⟩:=y
  cases e0
  rw [e] at e'
  cases e'
  rw [d] at d'
  injection d' with d1 _
  have d1:=Ey Array.toList d1
  simp only [Jn,Value.int.injEq,JL] at d1
  rw [d1.1.1,d1.2.1]
structure nO (prog:Program) (w:World) (A:Around) (k:Kn):Prop where
 eq:∀ {s:Shared} {E:Value→Shared→Prop} {v u:Value} {a b:List Int} {Q:Bool→Shared→Prop},k.R s.heap v a→k.R s.heap u b→Q (decide (a=b)) s→wpAny (model prog w) A (eqBool v u) Q E s
 lt:∀ {s:Shared} {E:Value→Shared→Prop} {c:Bool} {v u:Value} {a b:List Int} {Q:Bool→Shared→Prop},(c=true→k ≠ .p)→k.R s.heap v a→k.R s.heap u b→a≠b→Q (decide (a < b)) s→wpAny (model prog w) A (oneLt' c v u) Q E s
section
variable {prog:Program} {w:World} {A:Around} {E:Value→Shared→Prop} {s:Shared}
theorem DW:nO prog w A .i:=by
 refine ⟨fun {s E v u a b Q} x y q=>?_,fun {s E c v u a b Q} _ x y ne q=>?_⟩
 ·obtain ⟨i,t,rfl,rfl⟩:=x
  obtain ⟨j,t',rfl,rfl⟩:=y
  refine wpAny_eqBool_int ?_
  have:decide ([i]=[j])=(i == j):=by rw [EA];simp
  rwa [this] at q
 ·obtain ⟨i,t,rfl,rfl⟩:=x
  obtain ⟨j,t',rfl,rfl⟩:=y
  have:decide ([i] < [j])=decide (i < j):=by
   rw [EA,Eh,Eh,FO]
   exact ⟨fun h=>h.elim id fun h=>absurd h.2 (Jx _),.inl⟩
  rw [this] at q
  cases c with
  | true=>exact oneLt_int q
  | false =>
   rw [oneLt'_eq]
   simp only [EB,FF]
   show wpAny _ _ (compareOp .Lt (.int i t) (.int j t') >>= _) Q E s
   exact D9 (wpAny_lt_int (Fk q))
theorem vE:∀ (x y:List Nat),x.map Int.ofNat < y.map Int.ofNat ↔ x < y
 | [],[]=>by simp
 | [],_::_=>by simp
 | _::_,[]=>by simp
 | a::x,b::y=>by
  rw [EO,EO,FO,FO,vE x y]
  constructor
  ·rintro (h | ⟨h,g⟩)
   ·exact .inl (JK.mp h)
   ·exact .inr ⟨IV h,g⟩
  ·rintro (h | ⟨h,g⟩)
   ·exact .inl (JK.mpr h)
   ·exact .inr ⟨Ey _ h,g⟩
theorem DX:nO prog w A .s:=by
 refine ⟨fun {s E v u a b Q} x y q=>?_,fun {s E c v u a b Q} _ x y ne q=>?_⟩
 ·obtain ⟨x,t,rfl,rfl⟩:=x
  obtain ⟨y,t',rfl,rfl⟩:=y
  refine wpAny_eqBool_str ?_
  have:decide (x.cps.toList.map Int.ofNat=y.cps.toList.map Int.ofNat)=decide (x=y):=by
   rw [EA,Eh,Eh]
   refine ⟨fun h=>?_,fun h=>by rw [h]⟩
   have:=Array.toList_inj.mp (qQ h)
   cases x;cases y;simp_all
  rwa [this] at q
 ·obtain ⟨x,t,rfl,rfl⟩:=x
  obtain ⟨y,t',rfl,rfl⟩:=y
  have:decide (x.cps.toList.map Int.ofNat < y.cps.toList.map Int.ofNat)=decide (x.cps.toList < y.cps.toList):=by
   rw [EA,Eh,Eh,vE]
  rw [this] at q
  cases c with
  | true=>exact oneLt_str q
  | false =>
   rw [oneLt'_eq]
   simp only [EB,FF]
   show wpAny _ _ (compareOp .Lt (.str x t) (.str y t') >>= _) Q E s
   exact D9 (PyProof.Rows.lt_str (Fk q))
end
inductive FlR (h:Heap):List Kn→List Value→List (List Int)→Prop
 | nil:FlR h [] [] []
 | cons {k:Kn} {ks:List Kn} {v:Value} {vs:List Value} {a:List Int} {as:List (List Int)} (x:k.R h v a) (r:FlR h ks vs as):FlR h (k::ks) (v::vs) (a::as)
theorem FlR.one {h:Heap}{ks:List Kn}{vs:List Value}{as:List (List Int)}(x:FlR h ks vs as):∀ {bs:List (List Int)},FlR h ks vs bs→as=bs:=by
 induction x with
 | nil=>intro bs y;cases y;rfl
 | cons x r ih=>intro bs y;cases y with | cons y q=>rw [Kn.one x y,ih q]
theorem FlR.len {h:Heap}{ks:List Kn}{vs us:List Value}{as bs:List (List Int)}(x:FlR h ks vs as):FlR h ks us bs→vs.length=us.length:=by
 induction x generalizing us bs with
 | nil=>intro y;cases y;rfl
 | cons x r ih=>intro y;cases y with | cons y q=>rw [EF,EF,ih q]
theorem FlR.stay {h h':Heap}(k:∀ b o,h.get? b=some o→o.cls = .type "tuple"→h'.get? b=some o){ks:List Kn}{vs:List Value}{as:List (List Int)}(x:FlR h ks vs as):FlR h' ks vs as:=by
 induction x with
 | nil=>exact .nil
 | @cons kn ks v vs a as x r ih =>
  refine .cons ?_ ih
  cases kn with
  | i=>exact x
  | s=>exact x
  | p =>
   obtain ⟨i,j,⟨c,o,t,u,n,e0,e,hc,d⟩,ea⟩:=x
   exact ⟨i,j,⟨c,o,t,u,n,e0,k _ _ e hc,hc,d⟩,ea⟩
abbrev dH:=List (List Int)
def Kd (f:Kn)(sh:List Int→List Kn)(h:Heap)(v:Value)(k:dH):Prop:=∃ (a:Addr) (o:Obj) (vs:List Value) (n:Nat),v = .ref a∧h.get? a=some o∧o.cls = .type "tuple"∧o.data = .seq vs.toArray n∧FlR h (f::sh (k.headD [])) vs k
theorem Kd.one {f:Kn}{sh:List Int→List Kn}{h:Heap}{v:Value}{k l:dH}(x:Kd f sh h v k)(y:Kd f sh h v l):k=l:=by
 obtain ⟨a,o,vs,n,rfl,e,_,d,g⟩:=x
 obtain ⟨a',o',vs',n',e0,e',_,d',g'⟩:=y
 cases e0
 rw [e] at e'
 cases e'
 rw [d] at d'
 injection d' with d1 _
 have d1:=Ey Array.toList d1
 simp only at d1
 subst d1
 cases g with
 | cons x r =>
  cases g' with
  | cons y q =>
   have e1:=Kn.one x y
   subst e1
   exact Ey _ (FlR.one r q)
open Classical in
def yO (f:Kn)(sh:List Int→List Kn)(h:Heap)(v:Value):Option dH:=if hx:∃ p:dH,Kd f sh h v p then some (Classical.choose hx) else none
theorem Kd.of {f:Kn}{sh:List Int→List Kn}{h:Heap}{v:Value}{k:dH}(x:Kd f sh h v k):yO f sh h v=some k:=by
 unfold yO
 rw [dif_pos ⟨k,x⟩]
 exact Ey some ((Classical.choose_spec (⟨k,x⟩:∃ p:dH,Kd f sh h v p)).one x)
theorem Kd.is {f:Kn}{sh:List Int→List Kn}{h:Heap}{v:Value}{k:dH}(e:yO f sh h v=some k):Kd f sh h v k:=by
 unfold yO at e
 split at e
 ·rename_i hx
  cases e
  exact Classical.choose_spec hx
 ·cases e
theorem Kd.stay {f:Kn}{sh:List Int→List Kn}{h h':Heap}{v:Value}{k:dH}(kp:∀ b o,h.get? b=some o→o.cls = .type "tuple"→h'.get? b=some o)(x:Kd f sh h v k):Kd f sh h' v k:=by
 obtain ⟨a,o,vs,n,e0,e,c,d,g⟩:=x
 exact ⟨a,o,vs,n,e0,kp _ _ e c,c,d,g.stay kp⟩
@[reducible] noncomputable def kdK (f:Kn) (sh:List Int→List Kn) (h:Heap):KeyKind where
 α:=dH
 blt a b:=decide (a < b)
 irrefl a:=by simpa using Jx a
 trans a b c h1 h2:=by simp only [Gy] at *;exact List.lt_trans h1 h2
 negTrans a b c h:=by
  simp only [Gy] at *
  by_cases hab:a < b
  ·exact .inl hab
  ·exact .inr (List.lt_of_le_of_lt (Jy.mp hab) h)
 total a b h1 h2:=by simp only [IW] at *;exact List.le_antisymm (Jy.mp h2) (Jy.mp h1)
 keyOf v:=yO f sh h v
 dflt:=[]
def nP (b:Bool)(L:List ((Value × Value) × Nat))(z:Bool):Sem Bool:=do
 for ((p,q),i) in L do
  if !(← eqBool p q) then return ← oneLt' (b && i == 0) p q
 return z
theorem qR (b:Bool)(x y:Value):keyLt' (tuples' b) x y=(do
  let xs ← Builtin.List.listItems x;let ys ← Builtin.List.listItems y
  nP b (xs.toList.zip ys.toList).zipIdx (decide (xs.size < ys.size))):=rfl
theorem qS (b z:Bool)(p q:Value)(i:Nat)(L:List ((Value × Value) × Nat)):nP b (((p,q),i)::L) z=(eqBool p q >>= fun r=>if r then nP b L z else oneLt' (b && i == 0) p q):=by
 unfold nP
 rw [G_]
 simp only [bind_assoc]
 congr 1
 funext r
 cases r <;> simp
theorem qT {a b:List Int}{as bs:dH}:decide (a::as < b::bs)=if a=b then decide (as < bs) else decide (a < b):=by
 rw [EA,Eh,FO]
 by_cases e:a=b
 ·rw [if_pos e,Eh]
  subst e
  exact ⟨fun h=>h.elim (fun h=>absurd h (Jx _)) fun h=>h.2,fun h=>.inr ⟨rfl,h⟩⟩
 ·rw [if_neg e,Eh]
  exact ⟨fun h=>h.elim id fun h=>absurd h.1 e,.inl⟩
section
variable {prog:Program} {w:World} {A:Around} {E:Value→Shared→Prop} {s:Shared}
theorem Cp {b:Bool}{ks:List Kn}{vs:List Value}{as:dH}(ok:∀ k∈ks,nO prog w A k)(x:FlR s.heap ks vs as):∀ {us:List Value} {bs:dH} {m:Nat} {Q:Bool→Shared→Prop},(m=0→b=true→∀ k r,ks=k::r→k ≠ .p)→FlR s.heap ks us bs→Q (decide (as < bs)) s→wpAny (model prog w) A (nP b ((vs.zip us).zipIdx m) false) Q E s:=by
 induction x with
 | nil =>
  intro us bs m Q _ y q
  cases y
  exact Ep (by simpa using q)
 | @cons k ks v vs a as x r ih =>
  intro us bs m Q hp y q
  cases y with
  | @cons _ _ u us c bs y r2 =>
  rw [FP,G3,qS]
  have K:=ok k Er
  rw [qT] at q
  refine D9 (K.eq x y ?_)
  by_cases e:a=c
  ·rw [Ee e,if_pos rfl]
   rw [if_pos e] at q
   exact ih (fun k hk=>ok k (Eg _ hk)) (fun z=>by omega) r2 q
  ·rw [Ea e,if_neg (by decide)]
   rw [if_neg e] at q
   refine K.lt (fun z=>?_) x y e q
   have z:(b && (m == 0))=true:=z
   rw [FG] at z
   exact hp (by simpa using z.2) z.1 _ _ rfl
theorem Cq {f:Kn}{sh:List Int→List Kn}{b:Bool}{x y:Value}{k l:dH}{Q:Bool→Shared→Prop}(hf:f ≠ .p)(okf:nO prog w A f)(ok:∀ a,∀ k∈sh a,nO prog w A k)(hx:Kd f sh s.heap x k)(hy:Kd f sh s.heap y l)(h:Q (decide (k < l)) s) :
  wpAny (model prog w) A (keyLt' (tuples' b) x y) Q E s:=by
 obtain ⟨a,o,vs,n,rfl,e,_,d,g⟩:=hx
 obtain ⟨a',o',us,n',rfl,e',_,d',g'⟩:=hy
 rw [qR]
 refine D9 (Hz e d (D9 (Hz e' d' ?_)))
 cases g with
 | @cons _ _ v vs a as x r =>
 cases g' with
 | @cons _ _ u us c bs y r2 =>
 show wpAny _ _ (nP b ((v::vs).zip (u::us)).zipIdx _) Q E s
 rw [FP,G3,qS]
 rw [qT] at h
 refine D9 (okf.eq x y ?_)
 by_cases e2:a=c
 ·subst e2
  rw [Ee rfl,if_pos rfl]
  rw [if_pos rfl] at h
  have hz:decide ((v::vs).toArray.size < (u::us).toArray.size)=false:=by
   have:=r.len r2
   simp [this]
  rw [hz]
  exact Cp (ok _) r (fun z=>by omega) r2 h
 ·rw [Ea e2,if_neg (by decide)]
  rw [if_neg e2] at h
  exact okf.lt (fun _=>hf) x y e2 h
theorem qU {α β:Type}{g:α→Sem β}{f:α→β}:∀ {vs:List α} {Q:List β→Shared→Prop},(∀ v∈vs,∀ Q:β→Shared→Prop,Q (f v) s→wpAny (model prog w) A (g v) Q E s)→Q (vs.map f) s→wpAny (model prog w) A (vs.mapM g) Q E s
 | [],Q,_,h=>by rw [List.mapM_nil];exact Ep h
 | v::vs,Q,hg,h=>by
  rw [IB]
  refine D9 (hg v Er _ (D9 (qU (fun u hu=>hg u (Eg _ hu)) (Ep ?_))))
  exact h
def nQ (h:Heap):Value→Option Value:=fun v=>match v with
 | .ref a=>match h.get? a with
  | some o=>match o.data with
   | .seq xs _=>xs[0]?
   | _=>none
  | none=>none
 | _=>none
theorem xG {f:Kn}{sh:List Int→List Kn}{vs:List Value}(hf:f ≠ .p)(hv:∀ v∈vs,∃ k,Kd f sh s.heap v k)(ne:vs≠[]){Q:SortKind→Shared→Prop}(h:Q (tuples' true) s):wpAny (model prog w) A (keyKind' vs.toArray) Q E s:=by
 rw [keyKind'_eq,List.mapM_toArray]
 show wpAny _ _ ((List.toArray <$> vs.mapM firstOfTuple') >>= _) Q E s
 have hq:∀ v∈vs,∃ a o xs n x c,v = .ref a∧s.heap.get? a=some o∧o.cls = .type "tuple"∧o.data = .seq (x::xs:List Value).toArray n∧nQ s.heap v=some x∧f.R s.heap x c:=fun v hv'=>by
  obtain ⟨k,a,o,us,n,rfl,e,hc,d,g⟩:=hv v hv'
  cases g with
  | @cons _ _ x xs c as q r =>
   refine ⟨a,o,xs,n,x,c,rfl,e,hc,d,?_,q⟩
   unfold nQ
   dsimp only
   rw [e]
   dsimp only
   rw [d]
   rfl
 refine D9 (wpAny_map (qU (f:=nQ s.heap) (fun v hv' Q' q=>?_) ?_))
 ·obtain ⟨a,o,xs,n,x,c,rfl,e,hc,d,ef,_⟩:=hq v hv'
  show wpAny _ _ (typeOf (.ref a) >>= fun ty=>if (ty != Value.type "tuple")=true then pure none else (do let xs ← Builtin.List.listItems (.ref a);pure xs[0]?)) Q' E s
  refine D9 (wpAny_typeOf (T:="tuple") ⟨o,e,hc⟩ ?_)
  have ht:(Value.type "tuple" != Value.type "tuple")=false:=by rfl
  rw [ht]
  simp only [EB,FF]
  refine D9 (Hz e d (Ep ?_))
  rw [ef] at q
  exact q
 ·have h1:((vs.map (nQ s.heap)).toArray.all (·.isSome))=true:=by
   simp only [List.all_toArray,Ir,Fv]
   intro v hv'
   obtain ⟨_,_,_,_,x,_,_,_,_,_,ef,_⟩:=hq v hv'
   show (nQ s.heap v).isSome=true
   rw [ef]
   rfl
  rw [if_pos h1]
  refine D9 (Gh ?_)
  obtain ⟨T,hTn,hT⟩:∃ T:Value,(T != Value.type "tuple")=true∧((vs.map (nQ s.heap)).filterMap id).mapM typeOf=pure (((vs.map (nQ s.heap)).filterMap id).map fun _=>T):=by
   clear h1 ne hv h
   cases f with
   | p=>exact absurd rfl hf
   | i =>
    refine ⟨.type "int",rfl,mapM_typeOf_ints (ns:=((vs.map (nQ s.heap)).filterMap id).map Ts.iOf) ?_⟩
    refine Ts.mE _ fun x hx=>?_
    obtain ⟨y,hy,e⟩:=Il.mp hx
    obtain ⟨v,hv',rfl⟩:=EU.mp hy
    obtain ⟨_,_,_,_,x',_,_,_,_,_,ef,i,t,rfl,_⟩:=hq v hv'
    rw [ef] at e
    cases e
    exact ⟨i,t,rfl⟩
   | s =>
    refine ⟨.type "str",rfl,?_⟩
    obtain ⟨ns,hI⟩:∃ ns,StrsAre ((vs.map (nQ s.heap)).filterMap id) ns:=by
     induction vs with
     | nil=>exact ⟨[],.nil⟩
     | cons v r ih =>
      obtain ⟨_,_,_,_,x',_,_,_,_,_,ef,i,t,rfl,_⟩:=hq v Er
      obtain ⟨ns,q⟩:=ih fun u hu=>hq u (Eg _ hu)
      refine ⟨i::ns,?_⟩
      rw [EO,ef]
      exact .cons i t q
    exact mapM_typeOf_strs hI
  have e2:(vs.map (nQ s.heap)).toArray.filterMap id=((vs.map (nQ s.heap)).filterMap id).toArray:=by simp
  rw [e2,oneTypeOnly'_eq,List.mapM_toArray,hT]
  simp only [map_pure,pure_bind]
  have ne2:(vs.map (nQ s.heap)).filterMap id≠[]:=by
   cases vs with
   | nil=>exact absurd rfl ne
   | cons v r =>
    obtain ⟨_,_,_,_,x',_,_,_,_,_,ef,_⟩:=hq v Er
    rw [EO,ef]
    simp
  generalize (vs.map (nQ s.heap)).filterMap id=fs at ne2
  cases fs with
  | nil=>exact absurd rfl ne2
  | cons x r =>
   have h0:(List.map (fun _=>T) (x::r)).toArray[0]? = some T:=by simp
   have hall:((List.map (fun _=>T) (x::r)).toArray.all fun y=>y == T)=true:=by
    simp only [List.all_toArray,Ir,Fv]
    intro _ _
    exact beq_self_eq_true T
   rw [h0]
   simp only [hall,Gb,pure_bind]
   refine Ep ?_
   rw [show Option.any (fun x=>x != Value.type "tuple") (some T)=true from hTn]
   exact h
end
end Tv
namespace Tv
open PySem PyProof.Rows
def qle (k l:dH):Prop:=¬ l < k
theorem fY {α:Type}:∀ (l:List α),l.zip l=l.map fun x=>(x,x)
 | []=>rfl
 | x::r=>by rw [FP,fY r];rfl
section
variable {prog:Program} {w:World} {A:Around} {E:Value→Shared→Prop} {s:Shared}
end
end Tv
namespace L2
open PySem PySem.Spec PyProof.Rows Wd Tv
section
variable {X:Cx}
theorem eQ:∀ {as:List Addr} {us:List Value},ba (as.map V.ref) us→us=as.map Value.ref
 | [],_,.nil=>rfl
 | a::as,_,.cons r t=>by cases r;rw [eQ t];rfl
theorem gY:∀ (as:List Addr),ba (as.map V.ref) (as.map Value.ref)
 | []=>.nil
 | a::as=>.cons rfl (gY as)
inductive FlQ (H:Hp):List Kn→List V→dH→Prop
 | nil:FlQ H [] [] []
 | i {ks:List Kn} {xs:List V} {as:dH} (i:Int) (r:FlQ H ks xs as):FlQ H (.i::ks) (.int i::xs) ([i]::as)
 | s {ks:List Kn} {xs:List V} {as:dH} (x:Str) (r:FlQ H ks xs as):FlQ H (.s::ks) (.str x::xs) (x.cps.toList.map Int.ofNat::as)
 | p {ks:List Kn} {xs:List V} {as:dH} {b:Addr} {i j:Int} (p:H b=some (.tup [.int i,.int j])) (r:FlQ H ks xs as):FlQ H (.p::ks) (.ref b::xs) ([i,j]::as)
def KdQ (f:Kn)(sh:List Int→List Kn)(H:Hp)(a:Addr)(k:dH):Prop:=∃ xs,H a=some (.tup xs)∧FlQ H (f::sh (k.headD [])) xs k
theorem Ar {Kl:List (Addr × Obj)}{σ:St}{H:Hp}{s:Shared}(I:Inv X Kl σ H s){ks:List Kn}{xs:List V}{as:dH}(f:FlQ H ks xs as):∀ {us:List Value},ba xs us→FlR s.heap ks us as:=by
 induction f with
 | nil=>intro us r;cases r;exact .nil
 | i i f ih =>
  intro us r
  cases r with
  | cons r1 r2 =>
   obtain ⟨t,rfl⟩:=r1
   exact .cons ⟨i,t,rfl,rfl⟩ (ih r2)
 | s x f ih =>
  intro us r
  cases r with
  | cons r1 r2 =>
   obtain ⟨t,rfl⟩:=r1
   exact .cons ⟨x,t,rfl,rfl⟩ (ih r2)
 | @p ks xs as b i j p f ih =>
  intro us r
  cases r with
  | cons r1 r2 =>
   cases r1
   obtain ⟨its,r,pl,_⟩:=I.tuple (SqT.of p)
   obtain ⟨u1,u2,rfl,⟨t,rfl⟩,⟨u,rfl⟩⟩:=m_ r
   obtain ⟨o,e,c,n,d⟩:=pl
   exact .cons ⟨i,j,⟨b,o,t,u,n,rfl,e,c,d⟩,rfl⟩ (ih r2)
theorem As {Kl:List (Addr × Obj)}{σ:St}{H:Hp}{s:Shared}(I:Inv X Kl σ H s){f:Kn}{sh:List Int→List Kn}{a:Addr}{k:dH}(h:KdQ f sh H a k):Kd f sh s.heap (.ref a) k:=by
 obtain ⟨xs,h1,h2⟩:=h
 obtain ⟨its,r,pl,_⟩:=I.tuple (SqT.of h1)
 obtain ⟨o,e,c,n,d⟩:=pl
 exact ⟨a,o,its,n,rfl,e,c,d,Ar I h2 r⟩
end
end L2
namespace Tv
open PySem PyProof.Rows
section
variable {prog:Program} {w:World} {A:Around} {E:Value→Shared→Prop} {s:Shared}
theorem uE {f:Kn}{sh:List Int→List Kn}{zs0:List (Addr × dH)}{h:Heap}(hp:∀ z∈zs0,Kd f sh h (.ref z.1) z.2){xs:Array Keyed}(pm:xs.Perm (pairsOf (zs0.map fun z=>Value.ref z.1)))(hs:SortedToK (kdK f sh h) xs (pairsOf (zs0.map fun z=>Value.ref z.1)).size) :
  ∃ zs:List (Addr × dH),zs.Perm zs0∧(xs.map (·.2)).toList=zs.map (fun z=>Value.ref z.1)∧(zs.map (·.2)).Pairwise qle:=by
 have hl:xs.toList.Perm (zs0.map fun z=>(Value.ref z.1,Value.ref z.1)):=by
  have:=Gf.mp pm
  rw [pairsOf_toList,fY,Fp] at this
  exact this
 obtain ⟨zs,h1,h2⟩:=L2.dQ (fun z:Addr × dH=>((Value.ref z.1,Value.ref z.1):Keyed)) hl.symm zs0 rfl
 refine ⟨zs,h1,?_,?_⟩
 ·rw [Array.toList_map,h2,Fp]
  rfl
 ·have hz:zs.length=xs.size:=by rw [← Ef,h2,Ej]
  rw [FE]
  intro i j hi hj Kw
  rw [Ej] at hi hj
  have q:=hs i j (Hq Kw) (by rw [← pm.size_eq];omega)
  have key:∀ k (hk:k < zs.length),KK (kdK f sh h) xs k=zs[k].2:=fun k hk=>by
   unfold KK
   have e:xs[k]? = some (Value.ref zs[k].1,Value.ref zs[k].1):=by
    rw [← E5,h2,Ff,fu hk]
    rfl
   rw [e]
   show ((yO f sh h (.ref zs[k].1)).getD [])=_
   rw [(hp _ (h1.mem_iff.mp (Fc hk))).of]
   rfl
  rw [key i hi,key j hj] at q
  rw [Ja,Ja]
  exact of_decide_eq_false q
theorem vF {f:Kn}{sh:List Int→List Kn}(hf:f ≠ .p)(okf:nO prog w A f)(ok:∀ a,∀ k∈sh a,nO prog w A k){a:Addr}{zs0:List (Addr × dH)}{m:Nat}{P:Fin→Shared→Prop}(at_:s.heap.get? a=some (seqObj "list" (zs0.map fun z=>Value.ref z.1).toArray m))(hp:∀ z∈zs0,Kd f sh s.heap (.ref z.1) z.2)(lim:zs0.length≤sizeLine)
  (q:∀ (out:Array Value) (zs:List (Addr × dH)),zs.Perm zs0→out.toList=zs.map (fun z=>Value.ref z.1)→(zs.map (·.2)).Pairwise qle→P (.done (.ret .none)) { s with heap:=sortedHeap s.heap a (zs0.map fun z=>Value.ref z.1) out }) :
  wpAny (model prog w) A (Builtin.«list.sort» ⟨[.ref a],[]⟩) P E s:=by
 have la:=Eo at_
 -- the pairs stay while the list is empty
 have stay:∀ z∈zs0,Kd f sh (((s.heap.update a (Obj.mapSeq fun _=>#[])).push (seqObj "tuple" (zs0.map fun z=>Value.ref z.1).toArray 0)).push (seqObj "list" #[] 0)) (.ref z.1) z.2:=fun z hz=>by
  refine Kd.stay (fun b o g c=>?_) (hp z hz)
  have hba:b≠a:=fun x=>by
   subst x
   rw [at_] at g
   rw [← El g] at c
   simp [seqObj] at c
  exact D_ _ (D_ _ ((Fq _ _ (Ne.symm hba)).trans g))
 refine uz (κ:=kdK f sh (((s.heap.update a (Obj.mapSeq fun _=>#[])).push (seqObj "tuple" (zs0.map fun z=>Value.ref z.1).toArray 0)).push (seqObj "list" #[] 0))) (kd:=tuples' true) at_ ?_ ?_ ?_ (by rw [Ej];exact lim) ?_
 ·intro p hp'
  rw [pairsOf_toList,fY,Fp] at hp'
  obtain ⟨z,hz,rfl⟩:=EU.mp hp'
  exact ⟨_,(stay z hz).of⟩
 ·intro E' x y ka kb Q' hx hy hq
  exact Cq hf okf ok (Kd.is hx) (Kd.is hy) hq
 ·intro x y r e Q' hq
  refine xG (f:=f) (sh:=sh) hf (fun v hv=>?_) (by simp) hq
  rw [← e] at hv
  obtain ⟨z,hz,rfl⟩:=EU.mp hv
  exact ⟨_,stay z hz⟩
 ·intro st c1 c2
  obtain ⟨zs,h1,h2,h3⟩:=uE stay c1 c2
  exact q _ zs h1 h2 h3
theorem qV {f:Kn}{sh:List Int→List Kn}(hf:f ≠ .p)(okf:∀ A':Around,A'.units≤A.units+8→nO prog w A' f)(ok:∀ A':Around,A'.units≤A.units+8→∀ a,∀ k∈sh a,nO prog w A' k){l:Addr}{zs0:List (Addr × dH)}{Q:Value→Shared→Prop}(hl:s.heap.IsList l (zs0.map fun z=>Value.ref z.1).toArray ∨ s.heap.IsTuple l (zs0.map fun z=>Value.ref z.1).toArray)(hp:∀ z∈zs0,Kd f sh s.heap (.ref z.1) z.2)(lim:zs0.length≤sizeLine)
  (q:∀ (out:Array Value) (zs:List (Addr × dH)),zs.Perm zs0→out.toList=zs.map (fun z=>Value.ref z.1)→(zs.map (·.2)).Pairwise qle→Q (.ref (s.heap.objs.size+1)) { s with heap:=sortedAll s.heap (zs0.map fun z=>Value.ref z.1) out }) :
  wpAny (model prog w) A (call (.builtin "sorted") [.ref l]) Q E s:=by
 have lim':(zs0.map fun z=>Value.ref z.1).length≤sizeLine:=by rw [Ej];exact lim
 refine IC kind_sorted plain_sorted entry_sorted (args_sorted1 _) ?_
 unfold Builtin.«sorted»
 rcases hl with hl | hl
 ·refine D9 (m:=checkCount "sorted" 1 1 _) (Ep (D9 (collect_list hl (D9 (Ha ?_)) (hsz:=lim'))))
  have z1:((s.heap.push (seqObj "list" #[] 0)).update s.heap.objs.size (Obj.mapSeq (· ++ (zs0.map fun z=>Value.ref z.1).toArray))).objs.size=s.heap.objs.size+1:=(Heap.size_update ..).trans (size_push' ..)
  have g:(((s.heap.push (seqObj "list" #[] 0)).update s.heap.objs.size (Obj.mapSeq (· ++ (zs0.map fun z=>Value.ref z.1).toArray))).push (seqObj "list" (zs0.map fun z=>Value.ref z.1).toArray 0)).get? (s.heap.objs.size+1)=some (seqObj "list" (zs0.map fun z=>Value.ref z.1).toArray 0):=z1 ▸ Em _ rfl
  have old:∀ b o,s.heap.get? b=some o→(((s.heap.push (seqObj "list" #[] 0)).update s.heap.objs.size (Obj.mapSeq (· ++ (zs0.map fun z=>Value.ref z.1).toArray))).push (seqObj "list" (zs0.map fun z=>Value.ref z.1).toArray 0)).get? b=some o:=fun b o e =>
   D_ _ ((Fq _ _ (Hr (Eo e))).trans (D_ _ e))
  show wpAny _ _ _ _ _ { s with heap:=((s.heap.push (seqObj "list" #[] 0)).update s.heap.objs.size (Obj.mapSeq (· ++ (zs0.map fun z=>Value.ref z.1).toArray))).push (seqObj "list" (zs0.map fun z=>Value.ref z.1).toArray 0) }
  rw [z1]
  refine D9 (GT (FR slot_list_sort ⟨_,g,rfl⟩ entry_list_sort (vF (f:=f) (sh:=sh) hf (okf _ (by show A.units+1+1≤_;omega)) (ok _ (by show A.units+1+1≤_;omega)) (zs0:=zs0) g (fun z hz=>(hp z hz).stay fun b o e _=>old b o e) lim fun out zs h1 h2 h3=>⟨_,rfl,?_⟩) (args_list_sort _)))
  exact Ep ⟨_,rfl,q _ zs h1 h2 h3⟩
 ·refine D9 (m:=checkCount "sorted" 1 1 _) (Ep (D9 (L2.kJ hl (D9 (Ha ?_)) (hsz:=lim'))))
  have z1:((s.heap.push (seqObj "list" #[] 0)).update s.heap.objs.size (Obj.mapSeq (· ++ (zs0.map fun z=>Value.ref z.1).toArray))).objs.size=s.heap.objs.size+1:=(Heap.size_update ..).trans (size_push' ..)
  have g:(((s.heap.push (seqObj "list" #[] 0)).update s.heap.objs.size (Obj.mapSeq (· ++ (zs0.map fun z=>Value.ref z.1).toArray))).push (seqObj "list" (zs0.map fun z=>Value.ref z.1).toArray 0)).get? (s.heap.objs.size+1)=some (seqObj "list" (zs0.map fun z=>Value.ref z.1).toArray 0):=z1 ▸ Em _ rfl
  have old:∀ b o,s.heap.get? b=some o→(((s.heap.push (seqObj "list" #[] 0)).update s.heap.objs.size (Obj.mapSeq (· ++ (zs0.map fun z=>Value.ref z.1).toArray))).push (seqObj "list" (zs0.map fun z=>Value.ref z.1).toArray 0)).get? b=some o:=fun b o e =>
   D_ _ ((Fq _ _ (Hr (Eo e))).trans (D_ _ e))
  show wpAny _ _ _ _ _ { s with heap:=((s.heap.push (seqObj "list" #[] 0)).update s.heap.objs.size (Obj.mapSeq (· ++ (zs0.map fun z=>Value.ref z.1).toArray))).push (seqObj "list" (zs0.map fun z=>Value.ref z.1).toArray 0) }
  rw [z1]
  refine D9 (GT (FR slot_list_sort ⟨_,g,rfl⟩ entry_list_sort (vF (f:=f) (sh:=sh) hf (okf _ (by show A.units+1+1≤_;omega)) (ok _ (by show A.units+1+1≤_;omega)) (zs0:=zs0) g (fun z hz=>(hp z hz).stay fun b o e _=>old b o e) lim fun out zs h1 h2 h3=>⟨_,rfl,?_⟩) (args_list_sort _)))
  exact Ep ⟨_,rfl,q _ zs h1 h2 h3⟩
end
end Tv
namespace L2
open PySem PySem.Spec PyProof.Rows Wd Tv
section
variable {X:Cx}
inductive bR (f:Kn)(sh:List Int→List Kn)(K:PySem.W.Frag)(xs:List V)(H:Hp)(Q:VK):Prop
 | mk:∀ (l:Addr) (zs0:List (Addr × dH)),(xs=[.ref l])→(SqL K H l ((zs0.map (·.1)).map V.ref) ∨ SqT K H l ((zs0.map (·.1)).map V.ref))→(∀ z∈zs0,KdQ f sh H z.1 z.2) →
   (∀ (p:Addr) (zs:List (Addr × dH)),H p=none→zs.Perm zs0→(zs.map (·.2)).Pairwise qle→Q (.ref p) (upd H p (.lst ((zs.map (·.1)).map V.ref))))→bR f sh K xs H Q
theorem iY {f:Kn}{sh:List Int→List Kn}{K:PySem.W.Frag}(hf:f ≠ .p)(okf:∀ A:Around,A.units≤X.A.units+8→nO X.prog X.w A f)(ok:∀ A:Around,A.units≤X.A.units+8→∀ a,∀ k∈sh a,nO X.prog X.w A k)(hK:X.K=K):bZ X (.builtin "sorted") (bR f sh K):=by
 subst hK
 intro Kl s σ H xs us Q I r h
 obtain ⟨l,zs0,rfl,hq,hp,q⟩:=h
 obtain ⟨u,rfl,ru⟩:=cj r
 cases ru
 have em:∀ zs:List (Addr × dH),(zs.map (·.1)).map Value.ref=zs.map fun z=>Value.ref z.1:=fun zs=>by rw [Fp];rfl
 obtain ⟨pl,hz⟩:(s.heap.IsList l (zs0.map fun z=>Value.ref z.1).toArray ∨ s.heap.IsTuple l (zs0.map fun z=>Value.ref z.1).toArray)∧((zs0.map (·.1)).map V.ref).length≤sizeLine:=by
  rcases hq with hq | hq
  ·obtain ⟨its,rv,pl,hz⟩:=I.list hq
   rw [eQ rv,em] at pl
   exact ⟨.inl pl.isList,hz⟩
  ·obtain ⟨its,rv,pl,hz⟩:=I.tuple hq
   rw [eQ rv,em] at pl
   exact ⟨.inr pl,hz⟩
 rw [Ej,Ej] at hz
 refine qV hf okf ok pl (fun z hz'=>As I (hp z hz')) hz fun out zs h1 h2 h3=>?_
 obtain ⟨e,he⟩:=sortedAll_at s.heap (zs0.map fun z=>Value.ref z.1) out
 have I2:Inv X Kl σ (upd H (s.heap.objs.size+1) (.lst ((zs.map (·.1)).map V.ref))) { s with heap:=sortedAll s.heap (zs0.map fun z=>Value.ref z.1) out,toks:=s.toks } :=
  I.laid (fun b o e=>sortedAll_old e) (IM _) ⟨by rw [Ej,Ej,h1.length_eq];exact hz,out.toList,e,by rw [h2,← em];exact gY _,by simpa [seqObj] using he⟩
 exact ⟨.ref (s.heap.objs.size+1),_,I2,rfl,q _ zs (I.hok.fresh (IM _)) h1 h3⟩
end
end L2
namespace Tv
open PySem PyProof.Rows
theorem DY {prog:Program}{w:World}{A:Around}(hu:A.units+8 < cLine):nO prog w A .p:=by
 refine ⟨fun {s E v u a b Q} x y q=>?_,fun {s E c v u a b Q} hc x y ne q=>?_⟩
 ·obtain ⟨i,j,⟨a,o,t,t',n,rfl,e,hc,d⟩,rfl⟩:=x
  obtain ⟨k,l,⟨a2,o2,t2,t2',n2,rfl,e2,hc2,d2⟩,rfl⟩:=y
  have rd:∀ {a:Addr} {o:Obj} {t t':Tok} {n:Nat} {i j:Int},s.heap.get? a=some o→o.cls = .type "tuple"→o.data = .seq #[.int i t,.int j t'] n→Reads s.heap (.ref a) (.tuple [.int i,.int j]) []:=fun g1 g2 g3=>.tuple g1 g2 g3 (.cons (as:=[]) (bs:=[]) (.int _ _) (.cons (as:=[]) (bs:=[]) (.int _ _) .nil))
  refine SeqAt.eqAt_reads _ _ A s _ _ _ _ (rd e hc d) (rd e2 hc2 d2) rfl rfl (by show A.units+min 1 1 < cLine;omega) prog w E _ ?_
  have eq:PyData.eqv (.tuple [.int i,.int j]) (.tuple [.int k,.int l])=((i == k) && ((j == l) && true)):=rfl
  rw [eq]
  have:decide ([i,j]=[k,l])=((i == k) && ((j == l) && true)):=by
   rw [EA]
   simp
  rwa [this] at q
 ·obtain ⟨i,j,⟨a,o,t,t',n,rfl,e,hc1,d⟩,rfl⟩:=x
  obtain ⟨k,l,⟨a2,o2,t2,t2',n2,rfl,e2,hc2,d2⟩,rfl⟩:=y
  have hb:c=false:=by
   cases c with
   | true=>exact absurd rfl (hc rfl)
   | false=>rfl
  rw [hb,oneLt'_eq]
  simp only [EB,FF]
  refine D9 (HT.gG ⟨o,e,hc1,n,d⟩ ⟨o2,e2,hc2,n2,d2⟩ (.cons _ _ (.cons _ _ .nil)) (.cons _ _ (.cons _ _ .nil)) (by omega) (Fk ?_))
  have:HT.bH [i,j] [k,l]=decide ([i,j] < [k,l]):=by
   rw [EA,Eh,FO,FO,HT.bK,HT.bK]
   by_cases c1:i=k
   ·have c2:¬ j=l:=fun z=>ne (by rw [c1,z])
    rw [if_pos c1,if_neg c2,Eh]
    exact ⟨fun h=>.inr ⟨c1,.inl h⟩,fun h=>h.elim (fun h=>by omega) fun h=>h.2.elim id fun h=>absurd h.1 c2⟩
   ·rw [if_neg c1,Eh]
    exact ⟨.inl,fun h=>h.elim id fun h=>absurd h.1 c1⟩
  rw [this]
  exact q
theorem vG {prog:Program}{w:World}{A:Around}(hu:A.units+8 < cLine):∀ k,nO prog w A k
 | .i=>DW
 | .s=>DX
 | .p=>DY hu
end Tv
namespace L2
open PySem PySem.Spec PyProof.Rows Wd Tv
theorem gq {X:Cx}{f:Kn}{sh:List Int→List Kn}{K:PySem.W.Frag}(hf:f ≠ .p)(hu:X.A.units+64 < cLine)(hK:X.K=K):bZ X (.builtin "sorted") (bR f sh K):=iY hf (fun A h=>vG (by omega) f) (fun A h _ k _=>vG (by omega) k) hK
end L2
namespace L2
open PySem PySem.Spec PyProof.Rows
section
variable {X:Cx}
open Classical in
end
end L2
namespace HT
open PySem PyProof.Rows
theorem uF (A:Around)(s:Shared)(a:Int)(t:Tok)(c:Int)(u:Tok)(prog:Program)(w:World)(E:Value→Shared→Prop)(Q:Value→Shared→Prop)(h:Q (.bool (decide (c < a))) s) :
  wpAny (model prog w) A (richCompare .Gt (.int a t) (.int c u)) Q E s :=
 (PyProof.Rows.gt_int (by exact h):wpAny (model prog w) A (compareOp .Gt (.int a t) (.int c u)) Q E s)
section
open PySem.SeqAt
open PySem.AutoSeq1 (wpAny_loadPart')
open PySem.MeetsSeq PySem.MeetsSeq2 PySem.MeetsSeq3
theorem iZ (l b:Addr)(items Kr:Array Value)(n n2:Nat)(dd dd2:Option Addr)(sl sl2:Array (Option Value))(ns ms:List Int)(hi:IntsAre items.toList ns)(hj:IntsAre Kr.toList ms) :
  Meets (Builtin.«tuple.__gt__» ⟨[.ref l,.ref b],[]⟩)
   (fun _ R s=>s.heap.get? l=some { cls:=.type "tuple",dict:=dd,data:=.seq items n,slots:=sl }∧s.heap.get? b=some { cls:=.type "tuple",dict:=dd2,data:=.seq Kr n2,slots:=sl2 } ∧
    R (.ok (.ret (.bool (bH ms ns)))) s) :=
 .of_wp fun prog w A R s h=>by
  obtain ⟨hp,g,d,tk,os⟩:=s;obtain ⟨hl,hb,h⟩:=h
  have f2:=IE
  have z1:items.size=ns.length:=by rw [← hi.length];simp
  have z2:Kr.size=ms.length:=by rw [← hj.length];simp
  wp_walk using wpAny_loadPart' hl,wpAny_loadPart' hb,wpAny_forIn_list _ (fun rest b s'=>b.1=none∧s'=⟨hp,g,d,tk,os⟩∧∃ (vs ws:List Value) (ns' ms':List Int),rest=vs.zip ws ∧
   IntsAre vs ns'∧IntsAre ws ms'∧ns'.length+Kr.size=ms'.length+items.size∧R (.ok (.ret (.bool (bH ms' ns')))) ⟨hp,g,d,tk,os⟩) _
  case turn =>
   rintro ⟨y,x⟩ rest b s' ⟨hb',rfl,vs,ws,ns',ms',hz,hvi,hwi,hlen,hR⟩
   cases hvi with
   | nil=>rw [List.zip_nil_left] at hz;cases hz
   | cons a t hvi' =>
    cases hwi with
    | nil=>rw [List.zip_nil_right] at hz;cases hz
    | cons c u hwi' =>
     rw [FP] at hz
     injection hz with hyx hrest
     injection hyx with hy hx
     subst hy hx
     rw [bK] at hR
     simp only [EF] at hlen
     obtain ⟨e,he,hiff⟩:=lG A.in1 ⟨hp,g,d,tk,os⟩ a t c u
     refine D9 (he prog w _ _ ?_)
     cases e with
     | true =>
      rw [if_pos (hiff.mp rfl).symm] at hR
      wp_walk
      exact ⟨rfl,rfl,_,_,_,_,hrest,hvi',hwi',by omega,hR⟩
     | false =>
      rw [if_neg (fun q=>absurd (hiff.mpr q.symm) EH)] at hR
      have hri:=uF A.in1 ⟨hp,g,d,tk,os⟩ a t c u prog w
      wp_walk using hri
      exact ⟨_,rfl,by simpa using hR⟩
  case fin =>
   rintro ⟨b1,b2⟩ s' ⟨hb',rfl,vs,ws,ns',ms',hz,hvi,hwi,hlen,hR⟩
   simp only at hb'
   subst hb'
   have hv:bH ms' ns'=decide (Kr.size < items.size):=by
    cases hvi with
    | nil =>
     cases hwi with
     | nil =>
      simp only [Fl] at hlen
      rw [cz]
      exact (Ea (by omega)).symm
     | cons c u hw =>
      simp only [Fl,EF] at hlen
      rw [dz]
      exact (Ea (by omega)).symm
    | cons a t hv =>
     cases hwi with
     | nil =>
      simp only [Fl,EF] at hlen
      rw [dy]
      exact (Ee (by omega)).symm
     | cons c u hw =>
      rw [FP] at hz
      cases hz
   rw [hv] at hR
   wp_walk
   exact ⟨_,rfl,by simpa [Builtin.Tuple.tupleCompareSizes] using hR⟩
  case h =>
   exact ⟨rfl,rfl,items.toList,Kr.toList,ns,ms,rfl,hi,hj,by omega,h⟩
end
section
variable {prog:Program} {w:World} {A:Around} {E:Value→Shared→Prop} {s:Shared}
theorem nR {l b:Addr}{items Kr:Array Value}{ns ms:List Int}{Q:Value→Shared→Prop}(hl:IsTup s.heap l items)(hb:IsTup s.heap b Kr)(hi:IntsAre items.toList ns)(hj:IntsAre Kr.toList ms)
  (hu:A.units < cLine) (h:Q (.bool (bH ms ns)) s):wpAny (model prog w) A (richCompare .Gt (.ref l) (.ref b)) Q E s:=by
 obtain ⟨⟨cls,dd,data,sl⟩,ho,hc,n,hd⟩:=id hl
 obtain ⟨⟨cls2,dd2,data2,sl2⟩,ho2,hc2,n2,hd2⟩:=id hb
 simp only at hc hd hc2 hd2
 subst hc hd hc2 hd2
 exact richCompare_meets_room (op:=.Gt) ⟨_,ho,rfl⟩ ⟨_,ho2,rfl⟩ PySem.F.slot_tuple_gt PySem.F.entry_tuple_gt (PySem.F.args_tuple_gt_2 _ _) (iZ l b items Kr n n2 dd dd2 sl sl2 ns ms hi hj)
  ⟨ho,ho2,show Value.bool (bH ms ns)≠Value.notImplemented∧Q (.bool (bH ms ns)) s from ⟨(fun x=>nomatch x),h⟩⟩ hu
end
end HT
namespace L2
open PySem PySem.Spec PyProof.Rows
section
variable {X:Cx}
end
end L2
namespace PySem
open Sem (wp)
section
variable {K:Type} [DecidableEq K] {prog:Program} {w:World} {knd:KeyKind prog w K} {A:Around} {E:Value→Shared→Prop} {s:Shared}
set_option maxHeartbeats 3200000 in
theorem nS (dd:Nat→List K){z:Str}{zt:Tok}{val:Nat→K}{Q:Value→Shared→Prop}(hh:A.handled=none)(hl:z.cps.all (· < 128)=true)(d0:dd 0=[])(d1:∀ i,val i∈dd i→dd (i+1)=dd i)(d2:∀ i,val i∉dd i→dd (i+1)=dd i++[val i])(dl:∀ i,(dd i).length≤i)(hval:∀ (i:Nat) (v:Value),(∃ c u,z.cps[i]? = some c∧v = .str ⟨#[c]⟩ u)→knd.is (val i) v=true∧v.scannable=true)(hb:z.cps.size+1 < scanBound)
  (h:∀ (h':Heap) (tk:Nat),nN knd h' s.heap.objs.size (dd z.cps.size)→(∀ b o,b < s.heap.objs.size→s.heap.get? b=some o→h'.get? b=some o)→Q (.ref s.heap.objs.size) { s with heap:=h',toks:=tk }) :
  wpAny (model prog w) A (call (.type "set") [.str z zt]) Q E s:=by
 obtain ⟨c,tl,hmro⟩:=F.called_set.mro
 have hmade:=F.called_set.made
 have hsub:=F.called_set.sub
 refine wpAny_call (codeAny_of_tree ?_)
 show wpAny _ _ (callAny (.type "set") _) _ _ _
 refine Ep ⟨Code.quiet_builtin _ (by decide +kernel),F_ F.entry_type_call ?_⟩
 rw [Around.under_plain (weight_type_call_type "set" [.str z zt] []) rfl]
 have x1:=F.called_set.notType
 have x2:=F.called_set.canCreate
 have x3:=F.typeCall_set_1 (.str z zt)
 repeat (any_goals (first | assumption | wp_step))
 refine Im (iT (.str z zt) (E:=E) (Q₁:=fun ob s1=>ob = .ref s.heap.objs.size∧s1={ s with heap:=s.heap.push (sob (ldr w)) }) ⟨rfl,rfl⟩) fun r s1 hr=>?_
 cases r with
 | error e=>exact hr
 | ok fl =>
  cases fl with
  | ret ob =>
   obtain ⟨rfl,rfl⟩:=hr
   have gS:(s.heap.push (sob (ldr w))).get? s.heap.objs.size=some (sob (ldr w)):=Em _ rfl
   have hT:Shared.TypeIs { s with heap:=s.heap.push (sob (ldr w)) } (.ref s.heap.objs.size) "set":=⟨_,gS,rfl⟩
   have x4:=F.called_set.init.lookup
   have x5:=F.called_set.init.bind (.ref s.heap.objs.size)
   repeat (any_goals (first | assumption | wp_step))
   refine Im (codeAny_call_builtin (R:=wants (fun r s2=>r = .none∧∃ h' tk,s2={ s with heap:=h',toks:=tk }∧nN knd h' s.heap.objs.size (dd z.cps.size)∧(∀ b o,b < s.heap.objs.size→s.heap.get? b=some o→h'.get? b=some o)) E) F.called_set.init.plain F.entry_set_init (check_set_init_1 hT ?_)) fun r2 s2 hr2=>?_
   ·have y1:=F.sub_str_set
    have y2:=F.sub_str_frozenset
    have y3:(Value.type "str" == Value.type "dict")=false:=by decide
    unfold Builtin.«set.__init__» noKeywords Builtin.Frozenset.updateFrom
    generalize hPI:pyIter=PI
    wp_walk
    subst hPI
    refine Hb hl (D9 (Jw ?_))
    have z1:(s.heap.push (sob (ldr w))).objs.size=s.heap.objs.size+1:=FI ..
    have nf:s.heap.objs.size∉[(s.heap.push (sob (ldr w))).objs.size]:=by
     rw [z1];simp only [Ec]
     exact EW (Gg _)
    refine Cj dd ((Walks.strAscii (by simp [hh]) _ z zt).toS) s.heap.objs.size nf val d1 d2 dl hval hb (z.cps.size - 0) 0 _ (by omega) (E1 _) ⟨_,Em _ rfl,rfl,rfl⟩ ?s0 ?rr
    case s0=>exact ⟨_,#[],0,_,D_ _ gS,⟨rfl,rfl,rfl⟩,rfl,fun e he=>by simp at he,fun k=>by rw [d0];simp,by decide,by rfl,by rw [d0];rfl,⟨rfl,uw⟩,rfl⟩
    case rr =>
     intro s' mv hS'
     obtain ⟨h',g',d',tk',os'⟩:=s'
     obtain rfl:g'=s.gens:=mv.gens
     obtain rfl:d'=s.drawn:=mv.drawn
     obtain rfl:os'=s.os:=mv.os
     show wpAny _ _ _ _ _ _
     refine Ep ?_
     show wpAny _ _ (ret Value.none) _ _ _
     refine Ep ⟨rfl,h',tk',rfl,hS',fun b o Kq e=>mv.heap b o ?_ (D_ _ (D_ _ e))⟩
     simp only [Et,Ec,EN,FM,not_or]
     exact ⟨EW Kq,by rw [z1];exact EW (Gw Kq)⟩
   ·cases r2 with
    | error e=>exact hr2
    | ok fl2 =>
     cases fl2 with
     | ret r =>
      obtain ⟨rfl,h',tk,rfl,hS',hk'⟩:=hr2
      repeat (any_goals (first | assumption | wp_step))
      exact h _ _ hS' hk'
     | _=>exact hr2.elim
  | _=>exact hr.elim
end
end PySem
namespace L2
open PySem PySem.Spec PyProof.Rows Wd
section
variable {X:Cx}
inductive ei (P:PySem.Program)(w:PySem.World)(xs:List V)(H:Hp)(Q:VK):Prop
 | mk:∀ (a:Addr) (dl:List Str),(xs=[.ref a])→(H a=some (StO P w a dl))→(Q (.int (dl.length:Int)) H)→ei P w xs H Q
theorem kK:bZ X (.builtin "len") (ei X.prog X.w):=by
 intro Kl s σ H xs us Q I r h
 obtain ⟨a,dl,rfl,ha,q⟩:=h
 obtain ⟨u,rfl,ru⟩:=cj r
 cases ru
 have hS:Ac X.prog X.w s.heap a dl:=(I.hok a _ ha).1
 obtain ⟨o,es,ep,t,ho,hex,hd,hel,hm,hb,hf,hn,hpl,hld⟩:=hS
 have hb:es.size < 4096:=hb
 refine call_len_set ho hex hd hf (by omega) ?_
 rw [hn]
 exact ⟨.int (dl.length:Int),H,(I.tok _).tok _,⟨_,rfl⟩,q⟩
inductive eD (K:PySem.W.Frag)(xs:List V)(H:Hp)(Q:VK):Prop
 | mk:∀ p i j,(xs=[.ref p])→(SqL K H p [.int i,.int j])→(Q (.int (if j < i then j else i)) H)→eD K xs H Q
theorem kL (hc:X.calm=true):bZ X (.builtin "min") (eD X.K):=by
 intro Kl s σ H xs us Q I r h
 obtain ⟨p,i,j,rfl,hq,q⟩:=h
 obtain ⟨u,rfl,ru⟩:=cj r
 cases ru
 obtain ⟨its,rv,pl,_⟩:=I.list hq
 have ht:=pl.isList
 obtain ⟨t,u,rfl⟩:=dq rv
 have Kq:p < s.heap.objs.size:=by obtain ⟨_,e,_⟩:=ht;exact Eo e
 refine call_min_walk (Hl ht ?_)
 refine ⟨_,_,_,_,_,_,fun a b=>decide (nAt i j a < nAt i j b),rfl,Walks.list (A:=X.A.in1) (I.ok.hd hc) _ p (EW Kq) _,⟨⟨_,Em _ rfl,rfl,rfl⟩,ht.push _⟩,fun b hb=>?_,?_,?_,fun v h' tk hP hk=>?_⟩
 ·show b < (s.heap.push _).objs.size
  rw [FI]
  rcases Et.mp hb with e | hb
  ·rw [e];exact Gg _
  ·rw [Ec.mp hb];exact Gw Kq
 ·exact HL 1
 ·refine CmpOf.ints_lt (nAt i j) fun a v hv=>?_
  match a,hv with
  | 0,hv=>exact ⟨t,(El hv).symm⟩
  | 1,hv=>exact ⟨u,(El hv).symm⟩
  | (a+2),hv=>simp at hv
 ·have old:∀ b o,s.heap.get? b=some o→h'.get? b=some o:=fun b o e=>hk b o (fun z=>by rw [Ec.mp z] at e;exact absurd (Eo e) (Fs _)) (D_ _ e)
  have hP:[Value.int i t,Value.int j u].toArray[if decide (j < i)=true then 1 else 0]? = some v:=hP
  by_cases h:j < i
  ·rw [if_pos (Ee h)] at hP
   rw [if_pos h] at q
   exact ⟨.int j,H,I.kept old,⟨u,(El hP).symm⟩,q⟩
  ·rw [Ea h] at hP
   rw [if_neg h] at q
   exact ⟨.int i,H,I.kept old,⟨t,(El hP).symm⟩,q⟩
inductive eF (K:PySem.W.Frag)(xs:List V)(H:Hp)(Q:VK):Prop
 | mk:∀ p i j,(xs=[.ref p])→(SqL K H p [.int i,.int j])→(Q (.int (if j > i then j else i)) H)→eF K xs H Q
theorem kM (hc:X.calm=true):bZ X (.builtin "max") (eF X.K):=by
 intro Kl s σ H xs us Q I r h
 obtain ⟨p,i,j,rfl,hq,q⟩:=h
 obtain ⟨u,rfl,ru⟩:=cj r
 cases ru
 obtain ⟨its,rv,pl,_⟩:=I.list hq
 have ht:=pl.isList
 obtain ⟨t,u,rfl⟩:=dq rv
 have Kq:p < s.heap.objs.size:=by obtain ⟨_,e,_⟩:=ht;exact Eo e
 refine call_max_walk (Hl ht ?_)
 refine ⟨_,_,_,_,_,_,fun a b=>decide (nAt i j a > nAt i j b),rfl,Walks.list (A:=X.A.in1) (I.ok.hd hc) _ p (EW Kq) _,⟨⟨_,Em _ rfl,rfl,rfl⟩,ht.push _⟩,fun b hb=>?_,?_,?_,fun v h' tk hP hk=>?_⟩
 ·show b < (s.heap.push _).objs.size
  rw [FI]
  rcases Et.mp hb with e | hb
  ·rw [e];exact Gg _
  ·rw [Ec.mp hb];exact Gw Kq
 ·exact HL 1
 ·refine CmpOf.ints_gt (nAt i j) fun a v hv=>?_
  match a,hv with
  | 0,hv=>exact ⟨t,(El hv).symm⟩
  | 1,hv=>exact ⟨u,(El hv).symm⟩
  | (a+2),hv=>simp at hv
 ·have old:∀ b o,s.heap.get? b=some o→h'.get? b=some o:=fun b o e=>hk b o (fun z=>by rw [Ec.mp z] at e;exact absurd (Eo e) (Fs _)) (D_ _ e)
  have hP:[Value.int i t,Value.int j u].toArray[if decide (j > i)=true then 1 else 0]? = some v:=hP
  by_cases h:j > i
  ·rw [if_pos (Ee h)] at hP
   rw [if_pos h] at q
   exact ⟨.int j,H,I.kept old,⟨u,(El hP).symm⟩,q⟩
  ·rw [Ea h] at hP
   rw [if_neg h] at q
   exact ⟨.int i,H,I.kept old,⟨t,(El hP).symm⟩,q⟩
inductive Dl (K:PySem.W.Frag)(x:V)(y:V)(H:Hp)(Q:VK):Prop
 | mk:∀ a b ns ms,(x = .ref a)→(y = .ref b)→(SqT K H a (ns.map V.int))→(SqT K H b (ms.map V.int))→(Q (.bl (HT.bH ms ns)) H)→Dl K x y H Q
theorem Au {K:PySem.W.Frag}(hK:X.K=K)(hu:X.A.units+64 < cLine):OpR X (compareOp .Gt) (Dl K):=by
 subst hK
 intro Kl s σ H x y v u Q I rx ry h
 obtain ⟨a,b,ns,ms,rfl,rfl,ha,hb,q⟩:=h
 cases rx
 cases ry
 obtain ⟨its,r1,p1,_⟩:=I.tuple ha
 obtain ⟨KP,r2,p2,_⟩:=I.tuple hb
 have i1:IntsAre its.toArray.toList ns:=di r1
 have i2:IntsAre KP.toArray.toList ms:=di r2
 exact HT.nR p1 p2 i1 i2 (by omega) ⟨.bl (HT.bH ms ns),H,I,rfl,q⟩
inductive c7 (P:PySem.Program)(w:PySem.World)(xs:List V)(H:Hp)(Q:VK):Prop
 | mk:∀ (u:List L),(xs=[tx u])→(u.length≤4000)→(∀ (p:Addr) (dl:List Str),H p=none→dl.Nodup→(∀ z,z∈dl ↔ ∃ x∈u,z=toS [x])→Q (.ref p) (upd H p (StO P w p dl)))→c7 P w xs H Q
theorem i3 (hc:X.calm=true):bZ X (.type "set") (c7 X.prog X.w):=by
 intro Kl s σ H xs us Q I r h
 obtain ⟨v,rfl,hz,q⟩:=h
 obtain ⟨u,rfl,ru⟩:=cj r
 obtain ⟨zt,rfl⟩:=ru
 have hsz:(toS v).cps.size=v.length:=bo v
 have hval:∀ (i:Nat) (x:Value),(∃ c u,(toS v).cps[i]? = some c∧x = .str ⟨#[c]⟩ u)→∃ t,x = .str (toS [v.getD i 0]) t:=fun i x ⟨c,u,hc,e⟩=>by
  obtain ⟨y,hy,ey⟩:=cZ hc
  refine ⟨u,?_⟩
  rw [e,ey,EE,hy]
  rfl
 refine nS (knd:=strKind X.prog X.w) (val:=fun i=>toS [v.getD i 0]) (ddp fun i=>toS [v.getD i 0]) (I.ok.hd hc) (Kx.asc v) (by unfold ddp;rfl) (fun i m=>by rw [ddp,if_pos m]) (fun i m=>by rw [ddp,if_neg m]) (qz _) (fun i x e=>by obtain ⟨t,rfl⟩:=hval i x e;exact ⟨strKind_is _ _ _ _,rfl⟩) (by rw [hsz];show _ < 4096;omega) fun h' tk hS k=>?_
 refine ⟨.ref s.heap.objs.size,_,I.laid (fun b o e=>k b o (Eo e) e) (Ei _) (Ac.lay hS),rfl,q _ _ (I.hok.fresh (Ei _)) (fX _ _) fun z=>?_⟩
 rw [qP,hsz]
 constructor
 ·rintro ⟨j,hj,rfl⟩
  refine ⟨v[j],Fc hj,?_⟩
  show toS [v.getD j 0]=_
  rw [EE,fu hj]
  rfl
 ·rintro ⟨x,hx,rfl⟩
  obtain ⟨j,hj,rfl⟩:=List.getElem_of_mem hx
  refine ⟨j,hj,?_⟩
  show toS [v.getD j 0]=_
  rw [EE,fu hj]
  rfl
end
end L2
namespace L2
open PySem PySem.Spec PyProof.Rows
theorem xH {X:Cx}{K:PySem.W.Frag}(hK:X.K=K)(hu:X.A.units < cLine):OpR X (compareOp .Lt) (BN K):=by subst hK; exact zm hu
end L2
namespace Kx
open PySem PySem.Spec PyProof.Rows L2 Wd Tv
theorem Cr:bootBuiltins "set" = some (.type "set"):=by kernel_rfl
theorem bS {n:Nat}(h:n≤16777216):n≤sizeLine:=by rw [aP]; exact h
theorem yP {t u:TS}{D:j4}{σ:L2.St}{H:Hp}(h:t D σ H):cu t u D σ true H:=zx h
theorem mF {t u:TS}{D:j4}{σ:L2.St}{H:Hp}(h:u D σ H):cu t u D σ false H:=yN h
theorem DZ {u:TT}{σ:L2.St}{Q:Bool→Hp→Prop}{H:Hp}(h:Q true H):gs u σ Q true H:=zx h
theorem yQ {u:TT}{σ:L2.St}{Q:Bool→Hp→Prop}{H:Hp}(h:u σ H Q):gs u σ Q false H:=yN h
theorem Ct {ta tb:TE}{σ:L2.St}{Q:VK}{H:Hp}(h:ta σ H Q):ox ta tb σ Q true H:=zx h
theorem Cu {ta tb:TE}{σ:L2.St}{Q:VK}{H:Hp}(h:tb σ H Q):ox ta tb σ Q false H:=yN h
theorem nkF {Q:Bool→Hp→Prop}{H:Hp}(h:Q true H):j7 Q false H:=h
theorem nkT {Q:Bool→Hp→Prop}{H:Hp}(h:Q false H):j7 Q true H:=h
theorem lt0 {n c:Nat}(h:n+64 < c):n < c:=by omega
def atZ (w:List L)(j:Int):L:=w.getD (j % (w.length:Int)).toNat 0
def sgZ (w:List L)(p wy k:Int):L:=if wy=1 then atZ w (p+wy*k) else inv (atZ w (p+wy*k))
theorem f7 {w:List L}(j:Int):atZ w (j+(w.length:Int))=atZ w j:=by
 unfold atZ
 rw [Int.add_emod_right]
theorem vH {w:List L}{wy:Int}(hw:wy=1 ∨ wy = -1)(p k:Int):sgZ w p wy (k+(w.length:Int))=sgZ w p wy k:=by
 unfold sgZ
 rcases hw with rfl | rfl
 ·rw [if_pos rfl,if_pos rfl,← f7 (p+1*k)]
  congr 1
  omega
 ·rw [if_neg (by decide),if_neg (by decide),← f7 (p + -1*(k+(w.length:Int)))]
  congr 2
  omega
theorem mG {f g:Int→L}{a b:Int}(ha:0 < a)(hb:0 < b)(pf:∀ k,f (k+a)=f k)(pg:∀ k,g (k+b)=g k)(h:∀ k,0≤k→k < a+b→f k=g k):f (-1)=g (-1):=by
 have e1:=pf (-1)
 have e2:=h (-1+a) (by omega) (by omega)
 have e3:=pg (-1+a)
 have e4:=h (-1+a+b) (by omega) (by omega)
 have e5:=pf (-1+b)
 have e6:=h (-1+b) (by omega) (by omega)
 have e7:=pg (-1)
 rw [← e1,e2,← e3,← e4,show -1+a+b = -1+b+a by omega,e5,e6,e7]
def frN (f g:Int→L):Nat→Nat→Nat
 | k,0=>k
 | k,b+1=>if f k=g k then frN f g (k+1) b else k
theorem c8 (f g:Int→L):∀ (b k:Nat),k≤frN f g k b∧frN f g k b≤k+b∧(∀ j:Nat,k≤j→j < frN f g k b→f j=g j)∧(frN f g k b < k+b→f (frN f g k b)≠g (frN f g k b))
 | 0,k=>⟨Ei _,Ei _,fun j h1 h2=>absurd h2 (by show ¬ j < k;omega),fun h=>absurd h (by show ¬ k < k+0;omega)⟩
 | b+1,k=>by
  unfold frN
  by_cases e:f k=g k
  ·rw [if_pos e]
   obtain ⟨h1,h2,h3,h4⟩:=c8 f g b (k+1)
   refine ⟨by omega,by omega,fun j hj hl=>?_,fun h=>h4 (by omega)⟩
   by_cases hk:j=k
   ·rw [hk];exact e
   ·exact h3 j (by omega) hl
  ·rw [if_neg e]
   exact ⟨Ei _,by omega,fun j h1 h2=>by omega,fun _=>e⟩
def ptB (u:List L)(f g:Int→L)(n:Nat):Bool:=decide (0 < n) && (decide (f (-1)≠g (-1)) && (decide (f n≠g n) && (decide (rfI u (inv (f ((n:Int) - 1))) (f n) < rfI u (inv (f ((n:Int) - 1))) (g n)) == decide (rfI u (f 0) (inv (f (-1))) < rfI u (f 0) (inv (g (-1)))))))
theorem eI {u:List L}{f g:Int→L}{n:Nat}(h:f (-1)=g (-1)):ptB u f g n=false:=by
 unfold ptB
 rw [Ea (p:=f (-1)≠g (-1)) (fun z=>z h),EV,GK]
theorem vI {w v:List L}(hw:w≠[])(hv:v≠[]){p q wy:Int}(hy:wy=1 ∨ wy = -1)(h:sgZ w p 1 (-1)≠sgZ v q wy (-1)):frN (sgZ w p 1) (sgZ v q wy) 0 (w.length+v.length) < w.length+v.length∧sgZ w p 1 (frN (sgZ w p 1) (sgZ v q wy) 0 (w.length+v.length))≠sgZ v q wy (frN (sgZ w p 1) (sgZ v q wy) 0 (w.length+v.length)):=by
 have l1:=ET.mpr hw
 have l2:=ET.mpr hv
 obtain ⟨_,h2,h3,h4⟩:=c8 (sgZ w p 1) (sgZ v q wy) (w.length+v.length) 0
 generalize frN (sgZ w p 1) (sgZ v q wy) 0 (w.length+v.length)=n at h2 h3 h4 ⊢
 by_cases c:n < w.length+v.length
 ·exact ⟨c,h4 (by omega)⟩
 ·refine absurd (mG (f:=sgZ w p 1) (g:=sgZ v q wy) (a:=(w.length:Int)) (b:=(v.length:Int)) (by omega) (by omega) (vH (.inl rfl) p) (vH hy q) fun k hk hl=>?_) h
  obtain ⟨m,rfl⟩:=Fn hk
  exact h3 m (E1 _) (by omega)
theorem xI {w:List L}(h:Rd w){a:Nat}(ha:a+1 < w.length):w[a+1]≠inv w[a]:=by
 have e:w=w.take (a+1)++w.drop (a+1):=(EI _ _).symm
 rw [e] at h
 obtain ⟨_,_,j⟩:=(c5 _ _).mp h
 refine j _ _ ?_ ?_
 ·rw [G2,Es,show min (a+1) w.length - 1=a by omega,E6 (by omega),fu (by omega)]
 ·rw [Hk,E8,fu (by omega)]
theorem rnd_at {w:List L}(R:Rnd w)(j:Int):atZ w (j+1)≠inv (atZ w j):=by
 have l1:=ET.mpr R.ne
 have e0:=EM j (show (w.length:Int)≠0 by omega)
 have e1:=Ez j (show (0:Int) < (w.length:Int) by omega)
 obtain ⟨a,ha⟩:=Fn e0
 have hal:a < w.length:=by omega
 have ea:atZ w j=w[a]:=by
  unfold atZ
  rw [ha,EE,E2,fu hal]
  rfl
 rw [ea]
 by_cases c:a+1 < w.length
 ·have e2:(j+1) % (w.length:Int)=((a+1:Nat):Int):=by
   rw [FY,ha,show (1:Int) % (w.length:Int)=1 from Fo (by omega) (by omega)]
   exact Fo (by omega) (by omega)
  have e3:atZ w (j+1)=w[a+1]:=by
   unfold atZ
   rw [e2,EE,E2,fu c]
   rfl
  rw [e3]
  exact xI R.rd c
 ·have e2:(j+1) % (w.length:Int)=0:=by
   have:j+1=(w.length:Int)*(j / (w.length:Int))+(w.length:Int):=by
    have:=Int.mul_ediv_add_emod j (w.length:Int)
    omega
   rw [this,Int.add_emod_right,Int.mul_emod_right]
  have e3:atZ w (j+1)=w[0]:=by
   unfold atZ
   rw [e2,EE,show (0:Int).toNat=0 from rfl,fu l1]
   rfl
  rw [e3]
  have hl:w.getLast? = some w[a]:=by
   rw [G2,show w.length - 1=a by omega,fu hal]
  have hh:w.head? = some w[0]:=by rw [Hk,fu l1]
  exact R.jn _ _ hl hh
theorem qW {w:List L}(R:Rnd w){p q:Int}{n:Nat}(hn:0 < n)(h:∀ j:Nat,j < n→sgZ w p 1 j=sgZ w q (-1) j)(hq:(q - n+1) % (w.length:Int)=p % (w.length:Int)):False:=by
 have at_mod:∀ {i j:Int},i % (w.length:Int)=j % (w.length:Int)→atZ w i=atZ w j:=fun e=>by unfold atZ;rw [e]
 have key:∀ j:Nat,j < n→atZ w (p+j)=inv (atZ w (p+(n:Int) - 1 - j)):=fun j hj=>by
  have:=h j hj
  unfold sgZ at this
  rw [if_pos rfl,if_neg (by decide)] at this
  rw [show p+(j:Int)=p+1*(j:Int) by omega,this]
  congr 1
  refine at_mod ?_
  have e:q + -1*(j:Int)=(q - n+1)+((n:Int) - 1 - j):=by omega
  rw [e,FY,hq,← FY]
  congr 1
  omega
 by_cases c:n % 2=1
 ·obtain ⟨r,hr⟩:∃ r,n=2*r+1:=⟨n / 2,by omega⟩
  have:=key r (by omega)
  rw [show p+(n:Int) - 1 - (r:Int)=p+r by omega] at this
  exact cO _ this.symm
 ·obtain ⟨r,hr⟩:∃ r,n=2*(r+1):=⟨n / 2 - 1,by omega⟩
  have:=key (r+1) (by omega)
  rw [show p+(n:Int) - 1 - ((r+1:Nat):Int)=p+r by omega,show p+((r+1:Nat):Int)=(p+r)+1 by omega] at this
  exact rnd_at R _ this
abbrev P2:=Int × Int
inductive Lk where
 | b (s t:P2)
 | a (s t:P2) (n:Nat)
 | g (s t:P2) (n:Nat)
def cB:List Int:=("beside":Str).cps.toList.map Int.ofNat
def cA:List Int:=("along":Str).cps.toList.map Int.ofNat
def cG:List Int:=("against":Str).cps.toList.map Int.ofNat
theorem D0:cB≠cA:=by decide +kernel
theorem D1:cB≠cG:=by decide +kernel
def pZ (s:P2):List Int:=[s.1,s.2]
def Lk.key:Lk→dH
 | .b s t=>[cB,pZ s,pZ t]
 | .a s t n=>[cA,pZ s,pZ t,[(n:Int)]]
 | .g s t n=>[cG,pZ s,pZ t,[(n:Int)]]
def shL:List Int→List Kn:=fun x=>if x=cB then [.p,.p] else [.p,.p,.i]
abbrev Sp2 (H:Hp)(a:Addr)(s:P2):Prop:=H a=some (.tup [.int s.1,.int s.2])
def xJ (H:Hp)(r:Addr):Lk→Prop
 | .b s t=>∃ a c,H r=some (.tup [.str "beside",.ref a,.ref c])∧Sp2 H a s∧Sp2 H c t
 | .a s t n=>∃ a c,H r=some (.tup [.str "along",.ref a,.ref c,.int (n:Nat)])∧Sp2 H a s∧Sp2 H c t
 | .g s t n=>∃ a c,H r=some (.tup [.str "against",.ref a,.ref c,.int (n:Nat)])∧Sp2 H a s∧Sp2 H c t
theorem xJ.to {H H':Hp}{r:Addr}{k:Lk}(h:xJ H r k)(s:∀ b ys,H b=some (.tup ys)→H' b=some (.tup ys)):xJ H' r k:=by
 cases k with
 | b _ _=>obtain ⟨a,c,h1,h2,h3⟩:=h;exact ⟨a,c,s _ _ h1,s _ _ h2,s _ _ h3⟩
 | a _ _ _=>obtain ⟨a,c,h1,h2,h3⟩:=h;exact ⟨a,c,s _ _ h1,s _ _ h2,s _ _ h3⟩
 | g _ _ _=>obtain ⟨a,c,h1,h2,h3⟩:=h;exact ⟨a,c,s _ _ h1,s _ _ h2,s _ _ h3⟩
theorem xJ.kd {H:Hp}{r:Addr}{k:Lk}(h:xJ H r k):KdQ .s shL H r k.key:=by
 cases k with
 | b s t =>
  obtain ⟨a,c,h1,h2,h3⟩:=h
  refine ⟨_,h1,?_⟩
  show FlQ H (.s::shL cB) _ [cB,pZ s,pZ t]
  unfold shL
  rw [if_pos rfl]
  exact .s _ (.p h2 (.p h3 .nil))
 | a s t n =>
  obtain ⟨a,c,h1,h2,h3⟩:=h
  refine ⟨_,h1,?_⟩
  show FlQ H (.s::shL cA) _ [cA,pZ s,pZ t,[(n:Int)]]
  unfold shL
  rw [if_neg D0.symm]
  exact .s _ (.p h2 (.p h3 (.i _ .nil)))
 | g s t n =>
  obtain ⟨a,c,h1,h2,h3⟩:=h
  refine ⟨_,h1,?_⟩
  show FlQ H (.s::shL cG) _ [cG,pZ s,pZ t,[(n:Int)]]
  unfold shL
  rw [if_neg D1.symm]
  exact .s _ (.p h2 (.p h3 (.i _ .nil)))
def LkA (H:Hp)(zs:List (Addr × Lk)):Prop:=∀ z∈zs,xJ H z.1 z.2
theorem LkA.to {H H':Hp}{zs:List (Addr × Lk)}(h:LkA H zs)(s:∀ b ys,H b=some (.tup ys)→H' b=some (.tup ys)):LkA H' zs:=fun z hz=>(h z hz).to s
theorem LkA.same {H H':Hp}{zs:List (Addr × Lk)}(h:LkA H zs)(s:aE H H'):LkA H' zs:=h.to fun _ _ e=>s _ _ e
theorem LkA.app {H:Hp}{zs ys:List (Addr × Lk)}(h:LkA H zs)(g:LkA H ys):LkA H (zs++ys):=fun z hz=>(Ew.mp hz).elim (h z) (g z)
def ltP (s t:P2):Bool:=HT.bH [s.1,s.2] [t.1,t.2]
theorem i4 {s t:P2}:ltP s t=true ↔ s.1 < t.1 ∨ (s.1=t.1∧s.2 < t.2):=by
 unfold ltP
 rw [HT.bK,HT.bK,HT.cz]
 by_cases e1:s.1=t.1
 ·rw [if_pos e1]
  by_cases e2:s.2=t.2
  ·rw [if_pos e2]
   simp only [EB,false_iff,not_or,not_and]
   omega
  ·rw [if_neg e2,Eh]
   omega
 ·rw [if_neg e1,Eh]
  omega
def cK (u:List L)(a b c d:L):Bool:=decide ([a,b,c,d].Nodup) && (decide (rfI u a c < rfI u a b) != decide (rfI u a d < rfI u a b))
def wyZ (W:List (List L))(i:Int):List L:=W.getD i.toNat []
def fZ (W:List (List L))(s:P2)(wy:Int):Int→L:=sgZ (wyZ W s.1) s.2 wy
def nZ (W:List (List L))(s t:P2)(wy:Int):Nat:=frN (fZ W s 1) (fZ W t wy) 0 ((wyZ W s.1).length+(wyZ W t.1).length)
def Av (u:List L)(W:List (List L))(s t:P2):List Lk:=if ltP s t && cK u (inv (fZ W s 1 0)) (fZ W s 1 1) (inv (fZ W t 1 0)) (fZ W t 1 1) then [.b s t] else []
def Aw (u:List L)(W:List (List L))(s t:P2):List Lk:=if ltP s t && ptB u (fZ W s 1) (fZ W t 1) (nZ W s t 1) then [.a s t (nZ W s t 1)] else []
def nT (W:List (List L))(s t:P2)(n:Nat):P2:=(t.1,(t.2 - (n:Int)+1) % ((wyZ W t.1).length:Int))
def oh (u:List L)(W:List (List L))(s t:P2):List Lk:=if ltP s (nT W s t (nZ W s t (-1))) && ptB u (fZ W s 1) (fZ W t (-1)) (nZ W s t (-1)) then [.g s t (nZ W s t (-1))] else []
structure WyR (n:Nat) (W:List (List L)):Prop where
 le:W.length≤4
 lo:1≤W.length
 ws:∀ w∈W,Rnd w∧w.length≤30∧InM n w
structure WyA (n:Nat) (W:List (List L)) (H:Hp) (a:Addr):Prop where
 at_:H a=some (.tup (W.map tx))
 ok:WyR n W
theorem WyA.same {n:Nat}{W:List (List L)}{H H':Hp}{a:Addr}(h:WyA n W H a)(s:aE H H'):WyA n W H' a:=⟨s _ _ h.at_,h.ok⟩
def okP (W:List (List L))(s:P2):Prop:=0≤s.1∧s.1 < (W.length:Int)∧0≤s.2∧s.2 < ((wyZ W s.1).length:Int)
theorem WyR.get {n:Nat}{W:List (List L)}(h:WyR n W){i:Int}(h0:0≤i)(h1:i < (W.length:Int)):wyZ W i∈W∧atI (W.map tx) i=some (tx (wyZ W i))∧Rnd (wyZ W i)∧(wyZ W i).length≤30∧0 < (wyZ W i).length∧InM n (wyZ W i):=by
 obtain ⟨m,rfl⟩:=Fn h0
 have hm:m < W.length:=by omega
 have e:wyZ W (m:Int)=W[m]:=by
  unfold wyZ
  rw [E2,EE,fu hm]
  rfl
 rw [e]
 have hmem:=Fc hm
 obtain ⟨a,b,c⟩:=h.ws _ hmem
 exact ⟨hmem,oM (j:=m) (by rw [Ff,fu hm];rfl),a,b,ET.mpr a.ne,c⟩
theorem cL {w:List L}(h:0 < w.length)(j:Int):atZ w j∈w:=by
 have e0:=EM j (show (w.length:Int)≠0 by omega)
 have e1:=Ez j (show (0:Int) < (w.length:Int) by omega)
 unfold atZ
 rw [EE,fu (show (j % (w.length:Int)).toNat < w.length by omega)]
 exact Fc _
theorem kO {n:Nat}{w:List L}(h:0 < w.length)(hi:InM n w)(p wy k:Int):(sgZ w p wy k).val % 6 < n:=by
 unfold sgZ
 have:=hi _ (cL h (p+wy*k))
 split
 ·exact this
 ·rw [qL]
  have:=(atZ w (p+wy*k)).isLt
  split <;> omega
theorem uG {n:Nat}{u:List L}{W:List (List L)}(hW:WyR n W){s t:P2}(hs:okP W s)(ht:okP W t)(hb:fZ W s 1 (-1)≠fZ W t (-1) (-1)):(if ltP (nT W s t (nZ W s t (-1))) s then [] else if ptB u (fZ W s 1) (fZ W t (-1)) (nZ W s t (-1)) then [Lk.g s t (nZ W s t (-1))] else [])=oh u W s t:=by
 unfold oh
 by_cases c1:ltP (nT W s t (nZ W s t (-1))) s=true
 ·rw [if_pos c1]
  have:ltP s (nT W s t (nZ W s t (-1)))=false:=by
   rw [IK]
   intro z
   rw [i4] at c1 z
   omega
  rw [this,EV,if_neg (by decide)]
 ·rw [if_neg c1]
  by_cases c2:ltP s (nT W s t (nZ W s t (-1)))=true
  ·rw [c2,EZ]
  ·have e:s=nT W s t (nZ W s t (-1)):=by
    have c1:¬ (ltP (nT W s t (nZ W s t (-1))) s=true):=c1
    rw [i4] at c1 c2
    exact G4 (by omega) (by omega)
   have:ptB u (fZ W s 1) (fZ W t (-1)) (nZ W s t (-1))=false:=by
    rw [IK]
    intro z
    unfold ptB at z
    rw [FG,Eh] at z
    obtain ⟨hn,_⟩:=z
    have e1:s.1=t.1:=by
     have:=Ey Prod.fst e
     exact this
    have e2:s.2=(t.2 - (nZ W s t (-1):Nat)+1) % ((wyZ W t.1).length:Int):=Ey Prod.snd e
    obtain ⟨_,_,R,_,lp,_⟩:=hW.get hs.1 hs.2.1
    refine qW (w:=wyZ W s.1) (p:=s.2) (q:=t.2) R hn (fun j hj=>?_) ?_
    ·have:=(c8 (fZ W s 1) (fZ W t (-1)) ((wyZ W s.1).length+(wyZ W t.1).length) 0).2.2.1 j (E1 _) hj
     unfold fZ at this
     rw [← e1] at this
     exact this
    ·rw [← e1] at e2
     rw [e2,Int.emod_emod_of_dvd _ (Int.dvd_refl _)]
   rw [this,GK]
def lkZ (u:List L)(W:List (List L))(s t:P2):List Lk:=Av u W s t++(Aw u W s t++oh u W s t)
def sJ (u:List L)(W:List (List L))(i j:Int)(p:Nat)(m:Nat):List Lk:=(List.range m).flatMap fun q:Nat=>lkZ u W (i,(p:Int)) (j,(q:Int))
def jQ (u:List L)(W:List (List L))(i j:Int)(m:Nat):List Lk:=(List.range m).flatMap fun p:Nat=>sJ u W i j p (wyZ W j).length
theorem mH (u:List L)(W:List (List L))(i j:Int)(p m:Nat):sJ u W i j p (m+1)=sJ u W i j p m++lkZ u W (i,(p:Int)) (j,(m:Int)):=by
 unfold sJ
 rw [Jp,Ia]
 simp
theorem mI (u:List L)(W:List (List L))(i j:Int)(m:Nat):jQ u W i j (m+1)=jQ u W i j m++sJ u W i j m (wyZ W j).length:=by
 unfold jQ
 rw [Jp,Ia]
 simp
theorem Ax (u:List L)(W:List (List L))(s t:P2):(lkZ u W s t).length≤3:=by
 unfold lkZ Av Aw oh
 rw [Eb,Eb]
 have h:∀ (b:Bool) (x:Lk),(if b=true then [x] else []).length≤1:=fun b x=>by cases b <;> simp
 have h1:=h (ltP s t && cK u (inv (fZ W s 1 0)) (fZ W s 1 1) (inv (fZ W t 1 0)) (fZ W t 1 1)) (.b s t)
 have h2:=h (ltP s t && ptB u (fZ W s 1) (fZ W t 1) (nZ W s t 1)) (.a s t (nZ W s t 1))
 have h3:=h (ltP s (nT W s t (nZ W s t (-1))) && ptB u (fZ W s 1) (fZ W t (-1)) (nZ W s t (-1))) (.g s t (nZ W s t (-1)))
 omega
theorem kP (u:List L)(W:List (List L))(i j:Int)(p:Nat):∀ m,(sJ u W i j p m).length≤3*m
 | 0=>Ei _
 | m+1=>by
  have:=kP u W i j p m
  have:=Ax u W (i,(p:Int)) (j,(m:Int))
  rw [mH,Eb]
  omega
theorem qX (u:List L)(W:List (List L))(i j:Int){b:Nat}(hb:(wyZ W j).length≤b):∀ m,(jQ u W i j m).length≤3*b*m
 | 0=>Ei _
 | m+1=>by
  have:=qX u W i j hb m
  have:=kP u W i j m (wyZ W j).length
  rw [mI,Eb,Nat.mul_add,Nat.mul_one]
  omega
abbrev Wk3 (H:Hp)(x:Addr)(s:P2)(wy:Int):Prop:=H x=some (.tup [.int s.1,.int s.2,.int wy])
inductive Bw (vs:List V)(H:Hp)(Q:VK)(Kv:XK):Prop
 | mk:∀ (u:List L) (k:Nat) (a b:L),(vs=[tx u,tx [a],tx [b]])→SK u k→a∈u→b∈u→Q (.int (rfI u a b)) H→Bw vs H Q Kv
inductive xK (vs:List V)(H:Hp)(Q:VK)(Kv:XK):Prop
 | mk:∀ (u:List L) (k:Nat) (s a b:L),(vs=[tx u,tx [s],tx [a],tx [b]])→SK u k→s∈u→a∈u→b∈u→(∀ H',aE H H'→Q (.bl (decide (rfI u s a < rfI u s b))) H')→xK vs H Q Kv
inductive jR (vs:List V)(H:Hp)(Q:VK)(Kv:XK):Prop
 | mk:∀ (a x:Addr) (n:Nat) (W:List (List L)) (s:P2) (wy k:Int),(vs=[.ref a,.ref x,.int k])→WyA n W H a→Wk3 H x s wy→0≤s.1→s.1 < (W.length:Int)→(wy=1 ∨ wy = -1)→(∀ H',aE H H'→Q (tx [fZ W s wy k]) H')→jR vs H Q Kv
inductive mJ (vs:List V)(H:Hp)(Q:VK)(Kv:XK):Prop
 | mk:∀ (a x y:Addr) (n:Nat) (W:List (List L)) (s t:P2) (wy:Int),(vs=[.ref a,.ref x,.ref y])→WyA n W H a→Wk3 H x s 1→Wk3 H y t wy→okP W s→okP W t→(wy=1 ∨ wy = -1)→(∀ H',aE H H'→Q (.int ((if fZ W s 1 (-1)=fZ W t wy (-1) then 0 else nZ W s t wy:Nat):Int)) H')→mJ vs H Q Kv
def jS (u:List L)(f g:Int→L)(n:Nat):Bool:=decide (0 < n) && (decide (rfI u (inv (f ((n:Int) - 1))) (f n) < rfI u (inv (f ((n:Int) - 1))) (g n)) == decide (rfI u (f 0) (inv (f (-1))) < rfI u (f 0) (inv (g (-1)))))
inductive mK (vs:List V)(H:Hp)(Q:VK)(Kv:XK):Prop
 | mk:∀ (u:List L) (a x y:Addr) (n m:Nat) (W:List (List L)) (s t:P2) (wy:Int),(vs=[tx u,.ref a,.ref x,.ref y,.int (m:Nat)])→SK u n→WyA n W H a→Wk3 H x s 1→Wk3 H y t wy→okP W s→okP W t→(wy=1 ∨ wy = -1)→(∀ H',aE H H'→Q (.bl (jS u (fZ W s 1) (fZ W t wy) m)) H')→mK vs H Q Kv
inductive Cv (vs:List V)(H:Hp)(Q:VK)(Kv:XK):Prop
 | mk:∀ (a x:Addr) (n:Nat) (W:List (List L)) (s:P2),(vs=[.ref a,.ref x])→WyA n W H a→Sp2 H x s→okP W s→(∀ H',aE H H'→Q (tx [inv (fZ W s 1 0),fZ W s 1 1]) H')→Cv vs H Q Kv
inductive uH (r:List L→List (List L)→P2→P2→List Lk)(vs:List V)(H:Hp)(Q:VK)(Kv:XK):Prop
 | mk:∀ (u:List L) (a x y:Addr) (n:Nat) (W:List (List L)) (s t:P2),(vs=[tx u,.ref a,.ref x,.ref y])→SK u n→WyA n W H a→Sp2 H x s→Sp2 H y t→okP W s→okP W t →
  (∀ (l:Addr) (zs:List (Addr × Lk)) (H':Hp),H l=none→aE H H'→H' l=some (.lst ((zs.map (·.1)).map V.ref))→LkA H' zs→zs.map (·.2)=r u W s t→Q (.ref l) H')→uH r vs H Q Kv
def Ay (u:List L)(W:List (List L))(s t:P2):List Lk:=if cK u (inv (fZ W s 1 0)) (fZ W s 1 1) (inv (fZ W t 1 0)) (fZ W t 1 1) then [.b s t] else []
def xM (u:List L)(W:List (List L))(s t:P2):List Lk:=if ptB u (fZ W s 1) (fZ W t 1) (nZ W s t 1) then [.a s t (nZ W s t 1)] else []
def yR (u:List L)(W:List (List L))(s t:P2):List Lk:=oh u W s t++(if ltP s t then xM u W s t++Ay u W s t else [])
theorem qY (u:List L)(W:List (List L))(s t:P2):(yR u W s t).Perm (lkZ u W s t):=by
 unfold yR lkZ Aw Av xM Ay
 cases ltP s t with
 | true =>
  rw [if_pos rfl,EZ,EZ]
  refine Fi.trans ?_
  rw [← Ek]
  exact (Fi).append_right _
 | false =>
  rw [if_neg (by decide),EV,EV,if_neg (by decide),if_neg (by decide)]
  simp
inductive i5 (vs:List V)(H:Hp)(Q:VK)(Kv:XK):Prop
 | mk:∀ (u:List L) (a:Addr) (n:Nat) (W:List (List L)) (i j:Int),(vs=[tx u,.ref a,.int i,.int j])→SK u n→WyA n W H a→0≤i→i < (W.length:Int)→0≤j→j < (W.length:Int) →
  (∀ (l:Addr) (zs:List (Addr × Lk)) (H':Hp),H l=none→aE H H'→H' l=some (.lst ((zs.map (·.1)).map V.ref))→LkA H' zs→(zs.map (·.2)).Perm (jQ u W i j (wyZ W i).length)→((zs.map (·.2)).map Lk.key).Pairwise qle→Q (.ref l) H')→i5 vs H Q Kv
theorem gr {n:Nat}{u:List L}(U:SK u n){W:List (List L)}(hW:WyR n W){s:P2}(os:okP W s)(wy k:Int):fZ W s wy k∈u∧inv (fZ W s wy k)∈u:=by
 obtain ⟨_,_,_,_,lp,hi⟩:=hW.get os.1 os.2.1
 have:=kO lp hi s.2 wy k
 exact ⟨(U.mem _).mpr this,(U.mem _).mpr (by rw [qf];exact this)⟩
theorem xN {u:List L}{f g:Int→L}{n:Nat}(h:f (-1)≠g (-1))(h':f n≠g n):jS u f g n=ptB u f g n:=by
 unfold jS ptB
 rw [Ee h,Ee h',EZ,EZ]
theorem vJ {u:List L}{f g:Int→L}:jS u f g 0=false:=rfl
theorem mL {n:Nat}{u:List L}{W:List (List L)}(hW:WyR n W){s t:P2}(os:okP W s)(ot:okP W t){wy:Int}(hwy:wy=1 ∨ wy = -1):jS u (fZ W s 1) (fZ W t wy) (if fZ W s 1 (-1)=fZ W t wy (-1) then 0 else nZ W s t wy)=ptB u (fZ W s 1) (fZ W t wy) (nZ W s t wy):=by
 by_cases e:fZ W s 1 (-1)=fZ W t wy (-1)
 ·rw [if_pos e,vJ,eI e]
 ·rw [if_neg e]
  obtain ⟨_,_,Rw,_⟩:=hW.get os.1 os.2.1
  obtain ⟨_,_,Rv,_⟩:=hW.get ot.1 ot.2.1
  exact xN e (vI Rw.ne Rv.ne hwy e).2
theorem Cw (a b:Bool):(a == b)=decide (V.bl a=V.bl b):=by cases a <;> cases b <;> rfl
theorem jT {H H4:Hp}{Q:VK}{r:List Lk}{l:Addr}(q:aE H H4)(hl:H4 l=none)(k:∀ (l:Addr) (zs:List (Addr × Lk)) (H':Hp),H l=none→aE H H'→H' l=some (.lst ((zs.map (·.1)).map V.ref))→LkA H' zs→zs.map (·.2)=r→Q (.ref l) H')(e:r=[]):Q (.ref l) (upd H4 l (.lst [])) :=
 k l [] _ (q.free hl) (q.trans (aE.new hl)) ah (fun _ h=>absurd h (by simp)) e.symm
theorem kQ {H H4:Hp}{Q:VK}{r:List Lk}{m:Lk}{l c:Addr}{ys:List V}(q:aE H H4)(hc:H4 c=none)(hl:(upd H4 c (.tup ys)) l=none)(hm:xJ (upd H4 c (.tup ys)) c m)(k:∀ (l:Addr) (zs:List (Addr × Lk)) (H':Hp),H l=none→aE H H'→H' l=some (.lst ((zs.map (·.1)).map V.ref))→LkA H' zs→zs.map (·.2)=r→Q (.ref l) H')(e:r=[m]):Q (.ref l) (upd (upd H4 c (.tup ys)) l (.lst [.ref c])):=by
 have q1:=q.trans (aE.new (o:=.tup ys) hc)
 refine k l [(c,m)] _ (q1.free hl) (q1.trans (aE.new hl)) ah (fun z h=>?_) e.symm
 rw [Ec.mp h]
 exact hm.to fun _ _ e=>aE.new hl _ _ e
theorem f9 {H H2:Hp}{l:Addr}{o:HO}(s:aE H H2)(h:H l=none):aE H (upd H2 l o):=fun b u e=>by rw [aH (ax e h)]; exact s b u e
theorem i6 {H:Hp}{l:Addr}{xs:List V}{o:HO}(h:H l=some (.lst xs)):∀ b ys,H b=some (.tup ys)→(upd H l o) b=some (.tup ys):=fun b ys e=>by
 have:b≠l:=fun z=>by rw [z,h] at e;cases e
 rw [aH this]
 exact e
theorem i7 (xs ys:List (Addr × Lk)):((xs.map (·.1)).map V.ref)++((ys.map (·.1)).map V.ref)=((xs++ys).map (·.1)).map V.ref:=by rw [E_,E_]
theorem D2 {w:List L}{j:Int}(h:0 < (w.length:Int)):atI (toS w).cps.toList (j % (w.length:Int))=some (cp (atZ w j)):=by
 have e0:=EM j (show (w.length:Int)≠0 by omega)
 have e1:=Ez j h
 refine bN (k:=(j % (w.length:Int)).toNat) (by omega) ?_
 unfold atZ
 rw [EE,fu (show (j % (w.length:Int)).toNat < w.length by omega)]
 rfl
theorem uI {f g:Int→L}{N i:Nat}(h:∀ j:Nat,j < i→f j=g j)(hi:i≤N)(he:i=N ∨ f i≠g i):frN f g 0 N=i:=by
 obtain ⟨_,h2,h3,h4⟩:=c8 f g N 0
 generalize frN f g 0 N=n at h2 h3 h4 ⊢
 by_cases c:n < i
 ·exact absurd (h n c) (h4 (by omega))
 ·by_cases c2:i < n
  ·rcases he with rfl | he
   ·omega
   ·exact absurd (h3 i (E1 _) c2) he
  ·omega
theorem sg1 {w:List L}(p:Int)(k:Int):sgZ w p 1 k=atZ w (p+k):=by
 unfold sgZ
 rw [if_pos rfl,Int.one_mul]
theorem D3 {a b c d:L}{dl:List Str}(nd:dl.Nodup)(hm:∀ z,z∈dl ↔ ∃ x∈[a,b,c,d],z=toS [x]):decide ((dl.length:Int) < 4)=!decide ([a,b,c,d].Nodup):=by
 by_cases h:[a,b,c,d].Nodup
 ·rw [Ee h]
  refine Ea ?_
  have nd2:([a,b,c,d].map fun x=>toS [x]).Nodup:=List.Pairwise.map _ (fun x y n e=>n (Gm (kl e)).1) h
  have p:([a,b,c,d].map fun x=>toS [x]).Perm dl:=(Ij nd2 nd).mpr fun z=>by
   rw [hm,EU]
   exact ⟨fun ⟨x,h1,h2⟩=>⟨x,h1,h2.symm⟩,fun ⟨x,h1,h2⟩=>⟨x,h1,h2.symm⟩⟩
  have:=p.length_eq
  rw [Ej] at this
  have:dl.length=4:=this.symm
  omega
 ·rw [Ea h]
  refine Ee ?_
  have key:∀ x y z:L,(∀ v∈[a,b,c,d],v∈[x,y,z])→(dl.length:Int) < 4:=fun x y z hs=>by
   apply ID
   intro n
   have:=(c6 (zs:=[toS [x],toS [y],toS [z]]) nd (fun k hk=>by
    obtain ⟨v,hv,rfl⟩:=(hm k).mp hk
    have:=hs v hv
    simp only [Et,EN,FM] at this ⊢
    rcases this with rfl | rfl | rfl
    ·exact .inl rfl
    ·exact .inr (.inl rfl)
    ·exact .inr (.inr rfl)) (by show 3≤_;omega)).length_eq
   have:3=dl.length:=this
   omega
  simp only [EG,Et,EN,FM,Hn,FJ,JL,not_or] at h
  by_cases e1:a=b
  ·exact key b c d (by intro v hv;simp only [Et,EN,FM] at hv ⊢;rw [e1] at hv;rcases hv with h | h | h | h <;> simp [h])
  by_cases e2:a=c
  ·exact key b c d (by intro v hv;simp only [Et,EN,FM] at hv ⊢;rw [e2] at hv;rcases hv with h | h | h | h <;> simp [h])
  by_cases e3:a=d
  ·exact key b c d (by intro v hv;simp only [Et,EN,FM] at hv ⊢;rw [e3] at hv;rcases hv with h | h | h | h <;> simp [h])
  by_cases e4:b=c
  ·exact key a c d (by intro v hv;simp only [Et,EN,FM] at hv ⊢;rw [e4] at hv;rcases hv with h | h | h | h <;> simp [h])
  by_cases e5:b=d
  ·exact key a c d (by intro v hv;simp only [Et,EN,FM] at hv ⊢;rw [e5] at hv;rcases hv with h | h | h | h <;> simp [h])
  by_cases e6:c=d
  ·exact key a b d (by intro v hv;simp only [Et,EN,FM] at hv ⊢;rw [e6] at hv;rcases hv with h | h | h | h <;> simp [h])
  exact absurd ⟨⟨e1,e2,e3⟩,⟨e4,e5⟩,e6⟩ h
def Cyc (w:List L):Prop:=Wd.Rd w∧J w w
theorem Cyc.rnd {w:List L}(h:Cyc w)(n:w≠[]):Rnd w:=⟨n,h.1,h.2⟩
theorem xO:Cyc []:=⟨trivial,fun x y h=>by simp at h⟩
theorem kR (x:L):Rnd [x]:=⟨by simp,trivial,fun a b ha hb=>by
 have ha:x=a:=by simpa using ha
 have hb:x=b:=by simpa using hb
 subst ha hb
 exact fun e=>cO _ e.symm⟩
theorem Az {x y:L}{mid:List L}(h:Wd.Rd (x::(mid++[y]))):Wd.Rd mid:=((c5 _ _).mp h.tail).1
theorem xP {x y:L}{mid:List L}(h:Wd.Rd (x::(mid++[y])))(g:x≠inv y):Cyc (x::(mid++[y])):=⟨h,fun a b ha hb=>by
 have e:x::(mid++[y])=(x::mid)++[y]:=rfl
 rw [e,List.getLast?_append,List.getLast?_singleton] at ha
 have ha:y=a:=by simpa using ha
 have hb:x=b:=by simpa using hb
 rw [← ha,← hb]
 exact g⟩
theorem xQ {w:List L}(h:¬ 1 < w.length):Cyc w:=by
 match w,h with
 | [],_=>exact xO
 | [x],_=>exact ⟨(kR x).rd,(kR x).jn⟩
 | x::y::r,h=>simp at h
theorem xR {v:List L}{n:Nat}(h:Cyc (rep n v))(hn:rep n v≠[]):Cyc v:=by
 cases n with
 | zero=>exact absurd rfl hn
 | succ n=>exact ⟨(mD (h.rnd hn)).rd,(mD (h.rnd hn)).jn⟩
def GR (n b:Nat)(w:List L):Prop:=Rnd w∧w.length≤b∧InM n w
theorem GR.le {n b c:Nat}{w:List L}(h:GR n b w)(g:b≤c):GR n c w:=⟨h.1,Ft h.2.1 g,h.2.2⟩
theorem AA {w:List L}:(∀ a (h:a+1 < w.length),w[a+1]≠inv w[a])→Wd.Rd w:=by
 induction w with
 | nil=>intro _;trivial
 | cons x r ih =>
  intro h
  cases r with
  | nil=>trivial
  | cons y r =>
   refine ⟨h 0 (by simp),ih fun a ha=>?_⟩
   exact h (a+1) (by simp at ha ⊢;omega)
theorem f_ {w:List L}{a:Nat}(h:a < w.length):atZ w (a:Int)=w[a]:=by
 unfold atZ
 rw [Fo (by omega) (by omega),E2,EE,fu h]
 rfl
theorem AB {w:List L}(KG:w≠[])(h:∀ k:Nat,k < w.length→atZ w (k:Int)≠inv (atZ w ((k:Int) - 1))):Rnd w:=by
 have l1:=ET.mpr KG
 refine ⟨KG,AA fun a ha=>?_,fun x y hx hy=>?_⟩
 ·have:=h (a+1) ha
  rw [f_ ha,show ((a+1:Nat):Int) - 1=(a:Int) by omega,f_ (by omega)] at this
  exact this
 ·have:=h 0 l1
  have e:atZ w (((0:Nat):Int) - 1)=w[w.length - 1]:=by
   rw [← f7,show ((0:Nat):Int) - 1+(w.length:Int)=((w.length - 1:Nat):Int) by omega]
   exact f_ (by omega)
  rw [e,f_ l1] at this
  rw [G2,fu (show w.length - 1 < w.length by omega)] at hx
  rw [Hk,fu l1] at hy
  rw [← El hx,← El hy]
  exact this
theorem c9 {x y:L}(n:x≠y):inv x≠inv y:=fun e=>n (by have:=Ey inv e; rwa [aq,aq] at this)
structure Wlk (u:List L) (f:Int→L):Prop where
 m:∀ k,f k∈u
 i:∀ k,inv (f k)∈u
 st:∀ k,f (k+1)≠inv (f k)
theorem Wlk.st' {u:List L}{f:Int→L}(h:Wlk u f)(k:Int):f k≠inv (f (k - 1)):=by
 have:=h.st (k - 1)
 rwa [show k - 1+1=k by omega] at this
theorem Wlk.s0 {u:List L}{f:Int→L}(h:Wlk u f):f 0≠inv (f (-1)):=by
 have:=h.st (-1)
 rwa [show (-1:Int)+1=0 from rfl] at this
theorem cS {n:Nat}{u:List L}(U:SK u n){w:List L}(R:Rnd w)(hi:InM n w){wy:Int}(hw:wy=1 ∨ wy = -1)(p:Int):Wlk u (sgZ w p wy):=by
 have lp:=ET.mpr R.ne
 refine ⟨fun k=>(U.mem _).mpr (kO lp hi p wy k),fun k=>(U.mem _).mpr (by rw [qf];exact kO lp hi p wy k),fun k=>?_⟩
 unfold sgZ
 rcases hw with rfl | rfl
 ·rw [if_pos rfl,if_pos rfl,show p+1*(k+1)=(p+1*k)+1 by omega]
  exact rnd_at R _
 ·rw [if_neg (by decide),if_neg (by decide),aq]
  have:=rnd_at R (p + -1*(k+1))
  rw [show p + -1*(k+1)+1=p + -1*k by omega] at this
  exact this.symm
theorem gf {f g:Int→L}{N:Nat}:∀ j:Nat,j < frN f g 0 N→f j=g j:=fun j hj=>(c8 f g N 0).2.2.1 j (E1 _) hj
theorem mM {α β:Type}{f g:α→List β}:∀ {l:List α},(∀ x∈l,f x=g x)→l.flatMap f=l.flatMap g
 | [],_=>rfl
 | x::l,h=>by rw [GV,GV,h x Er,mM fun y hy=>h y (Eg _ hy)]
def prs (m n:Nat):List P2:=(List.range m).flatMap fun p:Nat=>(List.range n).map fun q:Nat=>((p:Int),(q:Int))
theorem aQ {m n:Nat}{s:P2}:s∈prs m n ↔ 0≤s.1∧s.1 < (m:Int)∧0≤s.2∧s.2 < (n:Int):=by
 unfold prs
 rw [List.mem_flatMap]
 constructor
 ·rintro ⟨p,hp,h⟩
  obtain ⟨q,hq,rfl⟩:=EU.mp h
  rw [GJ] at hp hq
  show 0≤(p:Int)∧(p:Int) < (m:Int)∧0≤(q:Int)∧(q:Int) < (n:Int)
  omega
 ·rintro ⟨h1,h2,h3,h4⟩
  refine ⟨s.1.toNat,GJ.mpr (by omega),EU.mpr ⟨s.2.toNat,GJ.mpr (by omega),G4 ?_ ?_⟩⟩
  ·show ((s.1.toNat:Nat):Int)=s.1
   omega
  ·show ((s.2.toNat:Nat):Int)=s.2
   omega
theorem qZ {β:Type}{g:Nat→List β}(h1:∀ p,(g p).Nodup)(h2:∀ p q x,x∈g p→x∈g q→p=q):∀ {l:List Nat},l.Nodup→(l.flatMap g).Nodup
 | [],_=>FJ
 | p::l,h=>by
  rw [EG] at h
  rw [GV,Fh]
  refine ⟨h1 p,qZ h1 h2 h.2,fun x hx y hy e=>?_⟩
  subst e
  obtain ⟨q,hq,hy⟩:=List.mem_flatMap.mp hy
  exact h.1 (h2 p q x hx hy ▸ hq)
theorem bF (m n:Nat):(prs m n).Nodup:=by
 refine qZ (fun p=>?_) (fun p q x h1 h2=>?_) List.nodup_range
 ·refine List.Pairwise.map _ (fun a b h e=>h ?_) List.nodup_range
  exact IV (Ey Prod.snd e)
 ·obtain ⟨a,_,rfl⟩:=EU.mp h1
  obtain ⟨b,_,e⟩:=EU.mp h2
  exact (IV (Ey Prod.fst e)).symm
theorem xS {l:List P2}:∀ {k:List P2},k.Nodup→(∀ x∈k,x∈l)→k.length≤l.length:=by
 intro k
 induction k generalizing l with
 | nil=>intro _ _;exact E1 _
 | cons x k ih =>
  intro nd h
  rw [EG] at nd
  have hx:=h x Er
  have:=ih (l:=l.erase x) nd.2 fun y hy=>(List.mem_erase_of_ne (fun e=>nd.1 (by rw [← e];exact hy))).mpr (h y (Eg _ hy))
  rw [G5 hx] at this
  have:=List.length_pos_of_mem hx
  show k.length+1≤_
  omega
theorem gZ {k l:List P2}{g h:P2→Bool}(nd:k.Nodup)(a b:P2→P2)(H:∀ x∈k,g x=true→a x∈l∧h (a x)=true∧b (a x)=x):k.countP g≤l.countP h:=by
 rw [HR,HR,← Ej (f:=a)]
 have q:∀ x∈k.filter g,x∈k∧g x=true:=fun x hx=>FN.mp hx
 refine xS ?_ fun y hy=>?_
 ·have nf:(k.filter g).Nodup:=HN _ nd
  revert nf q
  generalize k.filter g=z
  induction z with
  | nil=>intro _ _;exact FJ
  | cons x z ih =>
   intro q nf
   rw [EG] at nf
   rw [EO,EG]
   refine ⟨fun hm=>?_,ih (fun y hy=>q y (Eg _ hy)) nf.2⟩
   obtain ⟨y,hy,e⟩:=EU.mp hm
   obtain ⟨h1,h2⟩:=q x Er
   obtain ⟨h3,h4⟩:=q y (Eg _ hy)
   have e1:=(H x h1 h2).2.2
   have e2:=(H y h3 h4).2.2
   rw [← e,e2] at e1
   exact nf.1 (e1 ▸ hy)
 ·obtain ⟨x,hx,rfl⟩:=EU.mp hy
  obtain ⟨h1,h2⟩:=q x hx
  exact FN.mpr ⟨(H x h1 h2).1,(H x h1 h2).2.1⟩
theorem kT {g h1 h2:P2→Bool}:∀ {l:List P2},(∀ x∈l,g x=(h1 x || h2 x)∧¬ (h1 x=true∧h2 x=true))→l.countP g=l.countP h1+l.countP h2
 | [],_=>rfl
 | x::l,H=>by
  have ih:=kT (l:=l) fun y hy=>H y (Eg _ hy)
  obtain ⟨e,n⟩:=H x Er
  rw [Gi,Gi,Gi,ih,e]
  cases c1:h1 x <;> cases c2:h2 x
  ·rfl
  ·simp
   omega
  ·simp
   omega
  ·exact absurd ⟨c1,c2⟩ n
def hF (u w v:List L)(s:P2):Bool:=cK u (inv (sgZ w s.1 1 0)) (sgZ w s.1 1 1) (inv (sgZ v s.2 1 0)) (sgZ v s.2 1 1)
def nW (w v:List L)(wy:Int)(s:P2):Nat:=frN (sgZ w s.1 1) (sgZ v s.2 wy) 0 (w.length+v.length)
def hP (u w v:List L)(wy:Int)(s:P2):Bool:=ptB u (sgZ w s.1 1) (sgZ v s.2 wy) (nW w v wy s)
def NN (u w v:List L):Nat:=(prs w.length v.length).countP (hF u w v)+((prs w.length v.length).countP (hP u w v 1)+(prs w.length v.length).countP (hP u w v (-1)))
theorem q9 (w:List L){p q:Int}(h:p % (w.length:Int)=q % (w.length:Int))(wy:Int):sgZ w p wy=sgZ w q wy:=by
 funext k
 have e:atZ w (p+wy*k)=atZ w (q+wy*k):=by
  unfold atZ
  rw [FY,h,← FY]
 unfold sgZ
 rw [e]
theorem uJ {u w v:List L}{s t:P2}(h1:s.1 % (w.length:Int)=t.1 % (w.length:Int))(h2:s.2 % (v.length:Int)=t.2 % (v.length:Int))(wy:Int):hF u w v s=hF u w v t∧hP u w v wy s=hP u w v wy t∧nW w v wy s=nW w v wy t:=by
 unfold hF hP nW
 rw [q9 w h1 1,q9 v h2 1,q9 v h2 wy]
 exact ⟨rfl,rfl,rfl⟩
theorem AC {u:List L}{e x y:L}(he:e∈u)(hx:x∈u)(hy:y∈u)(h:rfI u e x=rfI u e y):x=y:=by
 refine aL hx hy ?_
 have a1:=aF he
 have a2:=aF hx
 have a3:=aF hy
 rw [aG he hx,aG he hy] at h
 generalize u.idxOf e=a at *
 generalize u.idxOf x=b at *
 generalize u.idxOf y=c at *
 generalize u.length=n at *
 grind
theorem mN {u:List L}{e x y:L}(he:e∈u)(hx:x∈u)(hy:y∈u)(n:x≠y):decide (rfI u e y < rfI u e x)=!decide (rfI u e x < rfI u e y):=by
 have:rfI u e x≠rfI u e y:=fun z=>n (AC he hx hy z)
 rw [← decide_not,Gj]
 omega
theorem Dm (a b:Bool):((!a) == !b)=(a == b):=by cases a <;> cases b <;> rfl
theorem vK {u:List L}{f g:Int→L}(F:Wlk u f)(G:Wlk u g){n:Nat}(h:∀ j:Nat,j < n→f j=g j):ptB u g f n=ptB u f g n:=by
 unfold ptB
 by_cases hn:0 < n
 ·have e0:f 0=g 0:=h 0 hn
  have e1:f ((n:Int) - 1)=g ((n:Int) - 1):=by
   have:=h (n - 1) (by omega)
   rwa [show ((n - 1:Nat):Int)=(n:Int) - 1 by omega] at this
  have q:∀ x y:L,decide (y≠x)=decide (x≠y):=fun x y=>by
   rw [Gj]
   exact ⟨fun z e=>z e.symm,fun z e=>z e.symm⟩
  rw [q (f (-1)) (g (-1)),q (f n) (g n)]
  by_cases c1:f (-1)=g (-1)
  ·rw [Ea (p:=f (-1)≠g (-1)) (fun z=>z c1),EV,EV]
  by_cases c2:f n=g n
  ·rw [Ea (p:=f n≠g n) (fun z=>z c2),EV,EV]
  rw [← e0,← e1,mN (F.i _) (F.m _) (G.m _) c2,mN (F.m _) (F.i _) (G.i _) (c9 c1),Dm]
 ·rw [Ea hn,EV,EV]
theorem q_ (f g:Int→L):∀ b k,frN g f k b=frN f g k b
 | 0,_=>rfl
 | b+1,k=>by
  unfold frN
  by_cases e:f k=g k
  ·rw [if_pos e,if_pos e.symm]
   exact q_ f g b _
  ·rw [if_neg e,if_neg (fun z=>e z.symm)]
theorem uK {u:List L}(nd:u.Nodup){a b c d:L}(ha:a∈u)(hb:b∈u)(hc:c∈u)(hd:d∈u):cK u c d a b=cK u a b c d∧cK u b a c d=cK u a b c d:=by
 have i:∀ {x y:L},x∈u→y∈u→(x=y ↔ u.idxOf x=u.idxOf y):=fun hx hy=>⟨fun e=>by rw [e],fun e=>aL hx hy e⟩
 have a1:=aF ha
 have a2:=aF hb
 have a3:=aF hc
 have a4:=aF hd
 unfold cK
 simp only [EG,Et,EN,FM,not_or,Hn,FJ,JL]
 simp only [i ha hb,i ha hc,i ha hd,i hb hc,i hb hd,i hc hd,i hc ha,i hd ha,i hc hb,i hd hb,i hb ha]
 rw [aG ha hc,aG ha hb,aG ha hd,aG hc ha,aG hc hd,aG hc hb,aG hb hc,aG hb ha,aG hb hd]
 generalize u.idxOf a=x1 at *
 generalize u.idxOf b=x2 at *
 generalize u.idxOf c=x3 at *
 generalize u.idxOf d=x4 at *
 generalize u.length=n at *
 constructor <;> grind
structure Wo (n:Nat) (w:List L):Prop where
 r:Rnd w
 i:InM n w
theorem Wo.lp {n:Nat}{w:List L}(h:Wo n w):0 < w.length:=ET.mpr h.r.ne
theorem jU {n:Nat}{u w v:List L}(U:SK u n)(A:Wo n w)(B:Wo n v)(p q:Int):hP u v w 1 (q,p)=hP u w v 1 (p,q):=by
 unfold hP nW
 show ptB u (sgZ v q 1) (sgZ w p 1) (frN (sgZ v q 1) (sgZ w p 1) 0 (v.length+w.length))=ptB u (sgZ w p 1) (sgZ v q 1) (frN (sgZ w p 1) (sgZ v q 1) 0 (w.length+v.length))
 rw [Ht v.length,q_]
 exact vK (cS U A.r A.i (.inl rfl) p) (cS U B.r B.i (.inl rfl) q) gf
theorem kU {n:Nat}{u w v:List L}(U:SK u n)(A:Wo n w)(B:Wo n v){p q:Int}(h:hP u w v (-1) (p,q)=true):hP u v w (-1) (q - (nW w v (-1) (p,q):Nat)+1,p+(nW w v (-1) (p,q):Nat) - 1)=true∧nW v w (-1) (q - (nW w v (-1) (p,q):Nat)+1,p+(nW w v (-1) (p,q):Nat) - 1)=nW w v (-1) (p,q):=by
 have F:=cS U A.r A.i (.inl rfl) p
 have G:=cS U B.r B.i (.inr rfl) q
 have hle:nW w v (-1) (p,q)≤w.length+v.length:=by
  have:=(c8 (sgZ w p 1) (sgZ v q (-1)) (w.length+v.length) 0).2.1
  unfold nW
  show frN (sgZ w p 1) (sgZ v q (-1)) 0 (w.length+v.length)≤_
  omega
 have al:∀ j:Nat,j < nW w v (-1) (p,q)→sgZ w p 1 j=sgZ v q (-1) j:=fun j hj=>gf (N:=w.length+v.length) j hj
 have h:ptB u (sgZ w p 1) (sgZ v q (-1)) (nW w v (-1) (p,q))=true:=h
 generalize hm:nW w v (-1) (p,q)=m at *
 have ef:∀ k:Int,sgZ v (q - (m:Nat)+1) 1 k=inv (sgZ v q (-1) ((m:Int) - 1 - k)):=fun k=>by
  unfold sgZ
  rw [if_pos rfl,if_neg (by decide),aq]
  congr 1
  omega
 have eg:∀ k:Int,sgZ w (p+(m:Nat) - 1) (-1) k=inv (sgZ w p 1 ((m:Int) - 1 - k)):=fun k=>by
  unfold sgZ
  rw [if_pos rfl,if_neg (by decide)]
  congr 2
  omega
 unfold ptB at h
 simp only [FG,Eh] at h
 obtain ⟨h0,h1,h2,h3⟩:=h
 have e0:sgZ w p 1 0=sgZ v q (-1) 0:=al 0 h0
 have e1:sgZ w p 1 ((m:Int) - 1)=sgZ v q (-1) ((m:Int) - 1):=by
  have:=al (m - 1) (by omega)
  rwa [show ((m - 1:Nat):Int)=(m:Int) - 1 by omega] at this
 have en:nW v w (-1) (q - (m:Nat)+1,p+(m:Nat) - 1)=m:=by
  refine uI (fun j hj=>?_) (by omega) (.inr ?_)
  ·show sgZ v (q - (m:Nat)+1) 1 j=sgZ w (p+(m:Nat) - 1) (-1) j
   rw [ef,eg]
   have:=al (m - 1 - j) (by omega)
   rw [show ((m - 1 - j:Nat):Int)=(m:Int) - 1 - j by omega] at this
   rw [this]
  ·show sgZ v (q - (m:Nat)+1) 1 m≠sgZ w (p+(m:Nat) - 1) (-1) m
   rw [ef,eg,show (m:Int) - 1 - m = -1 by omega]
   exact (c9 h1).symm
 refine ⟨?_,en⟩
 unfold hP
 rw [en]
 show ptB u (sgZ v (q - (m:Nat)+1) 1) (sgZ w (p+(m:Nat) - 1) (-1)) m=true
 unfold ptB
 rw [ef,ef,ef,ef,eg,eg,show (m:Int) - 1 - -1=m by omega,show (m:Int) - 1 - m = -1 by omega,show (m:Int) - 1 - ((m:Int) - 1)=0 by omega,show (m:Int) - 1 - 0=(m:Int) - 1 by omega,aq,aq,aq]
 rw [Ee h0,Ee (p:=inv (sgZ v q (-1) m)≠inv (sgZ w p 1 m)) (c9 h2).symm,Ee (p:=inv (sgZ v q (-1) (-1))≠inv (sgZ w p 1 (-1))) (c9 h1).symm,EZ,EZ,EZ]
 rw [← e0,← e1,mN (F.m 0) (F.i (-1)) (G.i (-1)) (c9 h1),mN (F.i _) (F.m m) (G.m m) h2,Dm]
 rw [GL] at h3 ⊢
 exact h3.symm
def oth (w v:List L)(s:P2):P2:=((s.2 - (nW w v (-1) s:Nat)+1) % (v.length:Int),(s.1+(nW w v (-1) s:Nat) - 1) % (w.length:Int))
theorem eJ (a n:Int):a % n % n=a % n:=Int.emod_emod_of_dvd _ (Int.dvd_refl _)
theorem vL {w v:List L}(hw:0 < w.length)(hv:0 < v.length)(s:P2):oth w v s∈prs v.length w.length:=by
 refine aQ.mpr ⟨EM _ (by omega),Ez _ (by omega),EM _ (by omega),Ez _ (by omega)⟩
theorem dR {n:Nat}{u w v:List L}(U:SK u n)(A:Wo n w)(B:Wo n v){s:P2}(hs:s∈prs w.length v.length)(h:hP u w v (-1) s=true):hP u v w (-1) (oth w v s)=true∧nW v w (-1) (oth w v s)=nW w v (-1) s∧oth v w (oth w v s)=s:=by
 obtain ⟨p,q⟩:=s
 obtain ⟨h1,h2⟩:=kU U A B h
 have hm:=uJ (u:=u) (w:=v) (v:=w) (s:=oth w v (p,q)) (t:=(q - (nW w v (-1) (p,q):Nat)+1,p+(nW w v (-1) (p,q):Nat) - 1)) (eJ _ _) (eJ _ _) (-1)
 have en:nW v w (-1) (oth w v (p,q))=nW w v (-1) (p,q):=by rw [hm.2.2,h2]
 refine ⟨by rw [hm.2.1];exact h1,en,?_⟩
 obtain ⟨a1,a2,a3,a4⟩:=aQ.mp hs
 show ((((oth w v (p,q)).2 - (nW v w (-1) (oth w v (p,q)):Nat)+1) % (w.length:Int)),(((oth w v (p,q)).1+(nW v w (-1) (oth w v (p,q)):Nat) - 1) % (v.length:Int)))=(p,q)
 rw [en]
 unfold oth
 refine G4 ?_ ?_
 ·show (((p+(nW w v (-1) (p,q):Nat) - 1) % (w.length:Int)) - (nW w v (-1) (p,q):Nat)+1) % (w.length:Int)=p
  rw [show ((p+(nW w v (-1) (p,q):Nat) - 1) % (w.length:Int)) - (nW w v (-1) (p,q):Nat)+1=((p+(nW w v (-1) (p,q):Nat) - 1) % (w.length:Int))+(1 - (nW w v (-1) (p,q):Nat)) by omega,Ho,show p+(nW w v (-1) (p,q):Nat) - 1+(1 - (nW w v (-1) (p,q):Nat))=p by omega]
  exact Fo a1 a2
 ·show (((q - (nW w v (-1) (p,q):Nat)+1) % (v.length:Int))+(nW w v (-1) (p,q):Nat) - 1) % (v.length:Int)=q
  rw [show ((q - (nW w v (-1) (p,q):Nat)+1) % (v.length:Int))+(nW w v (-1) (p,q):Nat) - 1=((q - (nW w v (-1) (p,q):Nat)+1) % (v.length:Int))+((nW w v (-1) (p,q):Nat) - 1) by omega,Ho,show q - (nW w v (-1) (p,q):Nat)+1+((nW w v (-1) (p,q):Nat) - 1)=q by omega]
  exact Fo a3 a4
def sw (s:P2):P2:=(s.2,s.1)
theorem uL {m n:Nat}{s:P2}(h:s∈prs m n):sw s∈prs n m:=by
 obtain ⟨a1,a2,a3,a4⟩:=aQ.mp h
 exact aQ.mpr ⟨a3,a4,a1,a2⟩
theorem vM {n:Nat}{u w v:List L}(U:SK u n)(A:Wo n w)(B:Wo n v)(s:P2):hF u v w (sw s)=hF u w v s:=by
 have F:=cS U A.r A.i (.inl rfl) s.1
 have G:=cS U B.r B.i (.inl rfl) s.2
 exact (uK U.srf.nd (F.i _) (F.m _) (G.i _) (G.m _)).1
theorem AD {n:Nat}{u w v:List L}(U:SK u n)(A:Wo n w)(B:Wo n v):(prs w.length v.length).countP (hF u w v)≤(prs v.length w.length).countP (hF u v w) :=
 gZ (bF _ _) sw sw fun s hs h=>⟨uL hs,by rw [vM U A B];exact h,rfl⟩
theorem uM {n:Nat}{u w v:List L}(U:SK u n)(A:Wo n w)(B:Wo n v):(prs w.length v.length).countP (hP u w v 1)≤(prs v.length w.length).countP (hP u v w 1) :=
 gZ (bF _ _) sw sw fun s hs h=>⟨uL hs,by show hP u v w 1 (s.2,s.1)=true;rw [jU U A B];exact h,rfl⟩
theorem nU {n:Nat}{u w v:List L}(U:SK u n)(A:Wo n w)(B:Wo n v):(prs w.length v.length).countP (hP u w v (-1))≤(prs v.length w.length).countP (hP u v w (-1)) :=
 gZ (bF _ _) (oth w v) (oth v w) fun s hs h=>⟨vL A.lp B.lp s,(dR U A B hs h).1,(dR U A B hs h).2.2⟩
theorem AE {n:Nat}{u w v:List L}(U:SK u n)(A:Wo n w)(B:Wo n v):NN u w v=NN u v w:=by
 have a1:=AD U A B
 have a2:=AD U B A
 have b1:=uM U A B
 have b2:=uM U B A
 have c1:=nU U A B
 have c2:=nU U B A
 unfold NN
 omega
theorem kW {k l:List P2}{g h:P2→Bool}(nk:k.Nodup)(nl:l.Nodup)(a b:P2→P2)(H:∀ x∈k,a x∈l∧b (a x)=x∧h (a x)=g x)(H':∀ y∈l,b y∈k∧a (b y)=y):k.countP g=l.countP h:=by
 refine Nat.le_antisymm (gZ nk a b fun x hx e=>⟨(H x hx).1,by rw [(H x hx).2.2];exact e,(H x hx).2.1⟩) (gZ nl b a fun y hy e=>?_)
 obtain ⟨h1,h2⟩:=H' y hy
 refine ⟨h1,?_,h2⟩
 have:=(H _ h1).2.2
 rw [h2] at this
 rw [← this]
 exact e
theorem bD {m:Nat}{p c:Int}(h0:0≤p)(h1:p < (m:Int)):((p+c) % (m:Int) + -c) % (m:Int)=p:=by
 rw [Ho,show p+c + -c=p by omega]
 exact Fo h0 h1
theorem rf {w:List L}(hw:0 < w.length)(j:Int):atZ (bk w) j=inv (atZ w (-1 - j)):=by
 have e0:=EM j (show (w.length:Int)≠0 by omega)
 have e1:=Ez j (show (0:Int) < (w.length:Int) by omega)
 have e2:(-1 - j) % (w.length:Int)=(w.length:Int) - 1 - j % (w.length:Int):=by
  have:-1 - j=((w.length:Int) - 1 - j % (w.length:Int))+(w.length:Int)*(-1 - j / (w.length:Int)):=by
   have:=Int.mul_ediv_add_emod j (w.length:Int)
   rw [Int.mul_sub]
   omega
  rw [this,Ih]
  exact Fo (by omega) (by omega)
 unfold atZ
 rw [e2,bj]
 have hy:w[w.length - 1 - (j % (w.length:Int)).toNat]? = some (w.getD ((w.length:Int) - 1 - j % (w.length:Int)).toNat 0):=by
  rw [show w.length - 1 - (j % (w.length:Int)).toNat=((w.length:Int) - 1 - j % (w.length:Int)).toNat by omega]
  exact cJ (by omega)
 rw [EE,vn w (by omega) hy]
 rfl
theorem Cz {w:List L}(hw:0 < w.length)(p:Int):sgZ (bk w) p 1=sgZ w (-1 - p) (-1):=by
 funext k
 unfold sgZ
 rw [if_pos rfl,if_neg (by decide),rf hw]
 congr 2
 omega
theorem Wo.bk {n:Nat}{w:List L}(h:Wo n w):Wo n (bk w):=⟨Am h.r,InM.bk h.i⟩
theorem fm {m:Nat}{p c:Int}(h0:0≤p)(h1:p < (m:Int)):(c - (c - p) % (m:Int)) % (m:Int)=p:=by
 rw [Int.sub_emod_emod,show c - (c - p)=p by omega]
 exact Fo h0 h1
theorem bkA {n:Nat}{u w v:List L}(U:SK u n)(A:Wo n w)(B:Wo n v):(prs w.length v.length).countP (hP u (bk w) v 1)=(prs w.length v.length).countP (hP u w v (-1)):=by
 have e1:(prs w.length v.length).countP (hP u (bk w) v 1)=(prs v.length w.length).countP (hP u v w (-1)):=by
  refine kW (bF _ _) (bF _ _) (fun s=>(s.2,(-1 - s.1) % (w.length:Int))) (fun s=>((-1 - s.2) % (w.length:Int),s.1)) (fun s hs=>?_) (fun s hs=>?_)
  ·obtain ⟨a1,a2,a3,a4⟩:=aQ.mp hs
   refine ⟨aQ.mpr ⟨a3,a4,EM _ (by omega),Ez _ (by omega)⟩,G4 (fm a1 a2) rfl,?_⟩
   rw [(uJ (u:=u) (w:=v) (v:=w) (s:=(s.2,(-1 - s.1) % (w.length:Int))) (t:=(s.2,-1 - s.1)) rfl (eJ _ _) (-1)).2.1]
   unfold hP nW
   show ptB u (sgZ v s.2 1) (sgZ w (-1 - s.1) (-1)) (frN (sgZ v s.2 1) (sgZ w (-1 - s.1) (-1)) 0 (v.length+w.length))=ptB u (sgZ (bk w) s.1 1) (sgZ v s.2 1) (frN (sgZ (bk w) s.1 1) (sgZ v s.2 1) 0 ((bk w).length+v.length))
   rw [Cz A.lp,bj,Ht v.length,q_]
   exact vK (cS U A.r A.i (.inr rfl) _) (cS U B.r B.i (.inl rfl) _) gf
  ·obtain ⟨a1,a2,a3,a4⟩:=aQ.mp hs
   exact ⟨aQ.mpr ⟨EM _ (by omega),Ez _ (by omega),a1,a2⟩,G4 rfl (fm a3 a4)⟩
 rw [e1]
 exact Nat.le_antisymm (nU U B A) (nU U A B)
theorem rg (u:List L)(W:List (List L))(i j:Int)(m:Nat):jQ u W i j m=(prs m (wyZ W j).length).flatMap fun x=>lkZ u W (i,x.1) (j,x.2):=by
 unfold jQ prs sJ
 rw [List.flatMap_assoc]
 refine mM fun p _=>?_
 rw [List.flatMap_map]
theorem ri {F:P2→List Lk}{h1 h2 h3:P2→Bool}:∀ {l:List P2},(∀ x∈l,(F x).length=(h1 x).toNat+((h2 x).toNat+(h3 x).toNat))→(l.flatMap F).length=l.countP h1+(l.countP h2+l.countP h3)
 | [],_=>rfl
 | x::l,H=>by
  have ih:=ri (l:=l) fun y hy=>H y (Eg _ hy)
  have:=H x Er
  rw [GV,Eb,ih,this,Gi,Gi,Gi]
  cases h1 x <;> cases h2 x <;> cases h3 x <;> simp <;> omega
theorem eR (b:Bool)(x:Lk):(if b=true then [x] else []).length=b.toNat:=by cases b <;> rfl
theorem rj {u:List L}{W:List (List L)}{i j:Int}(h:i < j):(jQ u W i j (wyZ W i).length).length=NN u (wyZ W i) (wyZ W j):=by
 rw [rg]
 refine ri fun x _=>?_
 have l1:∀ q r:Int,ltP (i,q) (j,r)=true:=fun q r=>i4.mpr (.inl h)
 unfold lkZ Av Aw oh nT
 rw [l1,l1,EZ,EZ,EZ,Eb,Eb,eR,eR,eR]
 rfl
theorem AF {n:Nat}{g:P2→Bool}(h0:∀ s:P2,s.1=s.2→g s=false)(hs:∀ s,g (sw s)=g s):2*(prs n n).countP (fun s=>decide (s.1 < s.2) && g s)=(prs n n).countP g:=by
 have e1:(prs n n).countP g=(prs n n).countP (fun s=>decide (s.1 < s.2) && g s)+(prs n n).countP (fun s=>decide (s.2 < s.1) && g s):=kT fun s _=>by
  rcases Int.lt_trichotomy s.1 s.2 with h | h | h
  ·rw [Ee h,Ea (show ¬ s.2 < s.1 by omega)]
   simp
  ·rw [h0 s h]
   simp
  ·rw [Ee h,Ea (show ¬ s.1 < s.2 by omega)]
   simp
 have e2:(prs n n).countP (fun s=>decide (s.1 < s.2) && g s)=(prs n n).countP (fun s=>decide (s.2 < s.1) && g s):=kW (bF _ _) (bF _ _) sw sw (fun s h=>⟨uL h,rfl,by show (decide (s.1 < s.2) && g (sw s))=_;rw [hs]⟩) (fun s h=>⟨uL h,rfl⟩)
 omega
theorem AG {n:Nat}{u:List L}(U:SK u n){W:List (List L)}{i:Int}(A:Wo n (wyZ W i)):2*(jQ u W i i (wyZ W i).length).length=NN u (wyZ W i) (wyZ W i):=by
 have e:(jQ u W i i (wyZ W i).length).length=(prs (wyZ W i).length (wyZ W i).length).countP (fun s=>decide (s.1 < s.2) && hF u (wyZ W i) (wyZ W i) s)+((prs (wyZ W i).length (wyZ W i).length).countP (fun s=>decide (s.1 < s.2) && hP u (wyZ W i) (wyZ W i) 1 s)+(prs (wyZ W i).length (wyZ W i).length).countP (fun s=>decide (s.1 < (oth (wyZ W i) (wyZ W i) s).1) && hP u (wyZ W i) (wyZ W i) (-1) s)):=by
  rw [rg]
  refine ri fun x _=>?_
  have l1:∀ q r:Int,ltP (i,q) (i,r)=decide (q < r):=fun q r=>by
   rw [EA,i4,Eh]
   show i < i ∨ (i=i∧q < r) ↔ _
   omega
  unfold lkZ Av Aw oh nT
  rw [l1,l1,Eb,Eb,eR,eR,eR]
  rfl
 generalize wyZ W i=w at *
 have f1:=AF (n:=w.length) (g:=hF u w w) (fun s h=>by
  unfold hF cK
  rw [h]
  have:¬ [inv (sgZ w s.2 1 0),sgZ w s.2 1 1,inv (sgZ w s.2 1 0),sgZ w s.2 1 1].Nodup:=by simp
  rw [Ea this,EV]) (fun s=>vM U A A s)
 have f2:=AF (n:=w.length) (g:=hP u w w 1) (fun s h=>by
  unfold hP
  rw [h]
  exact eI rfl) (fun s=>jU U A A s.1 s.2)
 have f3:(prs w.length w.length).countP (hP u w w (-1))=(prs w.length w.length).countP (fun s=>decide (s.1 < (oth w w s).1) && hP u w w (-1) s)+(prs w.length w.length).countP (fun s=>decide ((oth w w s).1 < s.1) && hP u w w (-1) s):=kT fun s hs=>by
  rcases Int.lt_trichotomy s.1 (oth w w s).1 with h | h | h
  ·rw [Ee h,Ea (show ¬ (oth w w s).1 < s.1 by omega)]
   simp
  ·have:hP u w w (-1) s=false:=by
    rw [IK]
    intro z
    unfold hP ptB at z
    rw [FG,Eh] at z
    refine qW (w:=w) (p:=s.1) (q:=s.2) A.r z.1 (fun j hj=>gf (N:=w.length+w.length) j hj) ?_
    have a:=aQ.mp hs
    rw [Fo a.1 a.2.1,h]
    rfl
   rw [this]
   simp
  ·rw [Ee h,Ea (show ¬ s.1 < (oth w w s).1 by omega)]
   simp
 have f4:∀ (c d:Int→Int→Bool),(∀ a b,c a b=d b a)→(prs w.length w.length).countP (fun s=>c s.1 (oth w w s).1 && hP u w w (-1) s)≤(prs w.length w.length).countP (fun s=>d s.1 (oth w w s).1 && hP u w w (-1) s):=fun c d hcd=>gZ (bF _ _) (oth w w) (oth w w) fun s hs h=>by
  rw [FG] at h
  obtain ⟨q1,q2,q3⟩:=dR U A A hs h.2
  refine ⟨vL A.lp A.lp s,?_,q3⟩
  rw [q3,q1,Bool.and_true,← hcd]
  exact h.1
 have f5:=f4 (fun a b=>decide (a < b)) (fun a b=>decide (b < a)) fun _ _=>rfl
 have f6:=f4 (fun a b=>decide (b < a)) (fun a b=>decide (a < b)) fun _ _=>rfl
 rw [e]
 unfold NN
 omega
theorem xT {u:List L}(U:Srf u){y l:L}(hy:y∈u)(hl:l∈u):tau u (inv y) l = - tau u y l:=by
 unfold tau
 rw [aq]
 by_cases h:l=y ∨ l=inv y
 ·rw [if_pos h,if_pos h.symm]
  rfl
 ·rw [if_neg h,if_neg (fun z=>h z.symm)]
  have n1:y≠l:=fun e=>h (.inl e.symm)
  have n2:y≠inv l:=fun e=>h (.inr (by rw [e,aq]))
  have F:=iH U hy hl n1 n2
  have G:=iH U (U.iv y hy) hl (fun e=>n2 (by rw [← e,aq])) (c9 n1)
  have a1:=iI F
  have a2:=iI G
  unfold sd at a1 a2
  rw [aq] at a2
  omega
theorem mO {u:List L}(U:Srf u){y:L}(hy:y∈u):∀ {w:List L},(∀ l∈w,l∈u)→gp u (inv y) w = - gp u y w
 | [],_=>rfl
 | l::w,h=>by
  show tau u (inv y) l+gp u (inv y) w = -(tau u y l+gp u y w)
  rw [xT U hy (h l Er),mO U hy fun z hz=>h z (Eg _ hz)]
  omega
theorem xU {u:List L}{k:Nat}(h:SK u k){b:L}(hb:b∈u){w:List L}(hw:∀ l∈w,l∈u):bal u k w [b]=gp u b w:=by
 have h6:=h.hi
 have hj:=(h.mem b).mp hb
 rw [qh h]
 unfold wgt
 rw [fQ,aI (g:=fun y=>dfi [b] (lt6 y)*gp u (lt6 y) w) k fun y hy=>by
  rw [← z_all h hy w hw,← iJ]
  refine aI k fun x _=>?_
  split
  ·rw [Iu]
  ·grind]
 rw [dO k hj fun i hi hn=>by
  have q:=kD b ⟨i,by omega⟩ hn
  rw [iM,if_neg q.1,if_neg q.2]
  omega]
 have my:lt6 (b.val % 6)∈u:=(h.mem _).mpr (by rw [fR (by omega)];omega)
 rw [iM]
 rcases kC b with e | e
 ·have e2:¬ b=inv (lt6 (b.val % 6)):=fun z=>ma b ⟨e,z⟩
  rw [if_pos e,if_neg e2,← e]
  omega
 ·have e2:¬ b=lt6 (b.val % 6):=fun z=>ma b ⟨z,e⟩
  rw [if_neg e2,if_pos e]
  have:=mO h.srf my hw
  rw [← e] at this
  omega
def sm {α:Type}(h:α→Int):List α→Int
 | []=>0
 | x::l=>h x+sm h l
theorem bJ {α:Type}{g h:α→Int}:∀ {l:List α},(∀ x∈l,g x=h x)→sm g l=sm h l
 | [],_=>rfl
 | x::l,H=>by
  show g x+sm g l=h x+sm h l
  rw [H x Er,bJ fun y hy=>H y (Eg _ hy)]
theorem cT {α:Type}(g h:α→Int):∀ l:List α,sm (fun x=>g x+h x) l=sm g l+sm h l
 | []=>rfl
 | x::l=>by
  show g x+h x+sm (fun x=>g x+h x) l=(g x+sm g l)+(h x+sm h l)
  rw [cT g h l]
  omega
theorem gg {α:Type}(c:Int)(h:α→Int):∀ l:List α,sm (fun x=>c*h x) l=c*sm h l
 | []=>(Iu c).symm
 | x::l=>by
  show c*h x+sm (fun x=>c*h x) l=c*(h x+sm h l)
  rw [gg c h l,Int.mul_add]
theorem rl {α:Type}:∀ l:List α,sm (fun _=>(0:Int)) l=0
 | []=>rfl
 | x::l=>by show 0+sm (fun _=>(0:Int)) l=0;rw [rl l];rfl
theorem vN {α:Type}(h:α→Int):∀ k l:List α,sm h (k++l)=sm h k+sm h l
 | [],l=>(Jq _).symm
 | x::k,l=>by
  show h x+sm h (k++l)=(h x+sm h k)+sm h l
  rw [vN h k l,IQ]
theorem rm {α β:Type}(h:β→Int)(g:α→List β):∀ l:List α,sm h (l.flatMap g)=sm (fun x=>sm h (g x)) l
 | []=>rfl
 | x::l=>by
  rw [GV,vN,rm h g l]
  rfl
theorem jV {α β:Type}(h:β→Int)(f:α→β):∀ l:List α,sm h (l.map f)=sm (fun x=>h (f x)) l
 | []=>rfl
 | x::l=>by
  show h (f x)+sm h (l.map f)=h (f x)+sm (fun x=>h (f x)) l
  rw [jV h f l]
theorem rn {α β:Type}(g:α→β→Int)(k:List β):∀ l:List α,sm (fun x=>sm (fun y=>g x y) k) l=sm (fun y=>sm (fun x=>g x y) l) k
 | []=>(rl k).symm
 | x::l=>by
  show sm (fun y=>g x y) k+sm (fun x=>sm (fun y=>g x y) k) l=sm (fun y=>g x y+sm (fun x=>g x y) l) k
  rw [rn g k l,cT]
theorem xV {α:Type}(h:α→Int){k l:List α}(p:k.Perm l):sm h k=sm h l:=by
 induction p with
 | nil=>rfl
 | cons x _ ih=>show h x+_=h x+_;rw [ih]
 | swap x y l=>show h y+(h x+sm h l)=h x+(h y+sm h l);omega
 | trans _ _ a b=>exact a.trans b
theorem gi {α:Type}(h:α→Int)(A:α→Bool):∀ l:List α,sm (fun x=>if A x=true then h x else 0) l=sm h (l.filter A)
 | []=>rfl
 | x::l=>by
  show (if A x=true then h x else 0)+sm (fun x=>if A x=true then h x else 0) l=_
  rw [gi h A l]
  by_cases c:A x=true
  ·rw [if_pos c,List.filter_cons_of_pos c]
   rfl
  ·rw [if_neg c,List.filter_cons_of_neg c]
   omega
theorem ro {k l:List P2}(nk:k.Nodup)(nl:l.Nodup){A B:P2→Bool}(a b:P2→P2)(H:∀ x∈k,A x=true→a x∈l∧B (a x)=true∧b (a x)=x)(H':∀ y∈l,B y=true→b y∈k∧A (b y)=true∧a (b y)=y)(h:P2→Int):sm (fun y=>if B y=true then h y else 0) l=sm (fun x=>if A x=true then h (a x) else 0) k:=by
 rw [gi,gi,← jV h a]
 refine xV h ((Ij (HN _ nl) ?_).mpr fun y=>?_)
 ·have q:∀ x∈k.filter A,x∈k∧A x=true:=fun x hx=>FN.mp hx
  have nf:(k.filter A).Nodup:=HN _ nk
  revert nf q
  generalize k.filter A=z
  induction z with
  | nil=>intro _ _;exact FJ
  | cons x z ih =>
   intro q nf
   rw [EG] at nf
   rw [EO,EG]
   refine ⟨fun hm=>?_,ih (fun y hy=>q y (Eg _ hy)) nf.2⟩
   obtain ⟨y,hy,e⟩:=EU.mp hm
   obtain ⟨h1,h2⟩:=q x Er
   obtain ⟨h3,h4⟩:=q y (Eg _ hy)
   have e1:=(H x h1 h2).2.2
   have e2:=(H y h3 h4).2.2
   rw [← e,e2] at e1
   exact nf.1 (e1 ▸ hy)
 ·rw [EU]
  constructor
  ·intro hy
   obtain ⟨h1,h2⟩:=FN.mp hy
   obtain ⟨h3,h4,h5⟩:=H' y h1 h2
   exact ⟨b y,FN.mpr ⟨h3,h4⟩,h5⟩
  ·rintro ⟨x,hx,rfl⟩
   obtain ⟨h1,h2⟩:=FN.mp hx
   obtain ⟨h3,h4,_⟩:=H x h1 h2
   exact FN.mpr ⟨h3,h4⟩
def Rr (x:Int)(n:Nat):Prop:=x.natAbs≤2*n∧(x - 2*n) % 4=0
theorem Rr.add {x y:Int}{m n:Nat}(h:Rr x m)(g:Rr y n):Rr (x+y) (m+n):=by
 unfold Rr at *
 omega
theorem Rr.neg {x:Int}{m:Nat}(h:Rr x m):Rr (-x) m:=by
 unfold Rr at *
 omega
theorem CA {h:P2→Int}{b:P2→Bool}:∀ {l:List P2},(∀ x∈l,Rr (h x) (b x).toNat)→Rr (sm h l) (l.countP b)
 | [],_=>⟨E1 _,rfl⟩
 | x::l,H=>by
  have:=(H x Er).add (CA (l:=l) fun y hy=>H y (Eg _ hy))
  rw [Gi]
  show Rr (h x+sm h l) _
  rw [show l.countP b+(if b x=true then 1 else 0)=(b x).toNat+l.countP b by cases b x <;> simp <;> omega]
  exact this
theorem i8 {m n:Nat}{h:P2→Int}(hp:∀ s t:P2,s.1 % (m:Int)=t.1 % (m:Int)→s.2 % (n:Int)=t.2 % (n:Int)→h s=h t)(c e:Int):sm (fun s=>h (s.1+c,s.2+e)) (prs m n)=sm h (prs m n):=by
 have q:=ro (k:=prs m n) (l:=prs m n) (bF _ _) (bF _ _) (A:=fun _=>true) (B:=fun _=>true) (fun s=>((s.1+c) % (m:Int),(s.2+e) % (n:Int))) (fun s=>((s.1 + -c) % (m:Int),(s.2 + -e) % (n:Int)))
  (fun s hs _=>by
   obtain ⟨a1,a2,a3,a4⟩:=aQ.mp hs
   exact ⟨aQ.mpr ⟨EM _ (by omega),Ez _ (by omega),EM _ (by omega),Ez _ (by omega)⟩,rfl,G4 (bD a1 a2) (bD a3 a4)⟩)
  (fun s hs _=>by
   obtain ⟨a1,a2,a3,a4⟩:=aQ.mp hs
   refine ⟨aQ.mpr ⟨EM _ (by omega),Ez _ (by omega),EM _ (by omega),Ez _ (by omega)⟩,rfl,G4 ?_ ?_⟩
   ·have:=bD (c:=-c) a1 a2
    rw [IY] at this
    exact this
   ·have:=bD (c:=-e) a3 a4
    rw [IY] at this
    exact this) h
 have q1:sm h (prs m n)=sm (fun s:P2=>h ((s.1+c) % (m:Int),(s.2+e) % (n:Int))) (prs m n):=q
 rw [q1]
 exact bJ fun s _=>(hp _ _ (eJ _ _) (eJ _ _)).symm
theorem rq {m n:Nat}{h:P2→Bool}(hp:∀ s t:P2,s.1 % (m:Int)=t.1 % (m:Int)→s.2 % (n:Int)=t.2 % (n:Int)→h s=h t)(c e:Int):(prs m n).countP (fun s=>h (s.1+c,s.2+e))=(prs m n).countP h:=by
 refine kW (bF _ _) (bF _ _) (fun s=>((s.1+c) % (m:Int),(s.2+e) % (n:Int))) (fun s=>((s.1 + -c) % (m:Int),(s.2 + -e) % (n:Int))) (fun s hs=>?_) (fun s hs=>?_)
 ·obtain ⟨a1,a2,a3,a4⟩:=aQ.mp hs
  exact ⟨aQ.mpr ⟨EM _ (by omega),Ez _ (by omega),EM _ (by omega),Ez _ (by omega)⟩,G4 (bD a1 a2) (bD a3 a4),hp _ _ (eJ _ _) (eJ _ _)⟩
 ·obtain ⟨a1,a2,a3,a4⟩:=aQ.mp hs
  refine ⟨aQ.mpr ⟨EM _ (by omega),Ez _ (by omega),EM _ (by omega),Ez _ (by omega)⟩,G4 ?_ ?_⟩
  ·have:=bD (c:=-c) a1 a2
   rw [IY] at this
   exact this
  ·have:=bD (c:=-e) a3 a4
   rw [IY] at this
   exact this
def sgn (u:List L)(x y:L):Int:=if u.idxOf x < u.idxOf y then 1 else if u.idxOf y < u.idxOf x then -1 else 0
def ch (u:List L)(a b c d:L):Int:=sgn u a c - sgn u a d - sgn u b c+sgn u b d
theorem AH (u:List L)(a b c d:L):ch u a b d c = - ch u a b c d:=by unfold ch; omega
theorem AI {u:List L}(U:Srf u){l y:L}(hl:l∈u)(hy:y∈u):ch u (inv l) l (inv y) y=2*tau u y l:=by
 unfold tau
 by_cases h:l=y ∨ l=inv y
 ·rw [if_pos h]
  rcases h with rfl | rfl
  ·unfold ch sgn
   have n1:u.idxOf l≠u.idxOf (inv l):=fun e=>cO l (aL hl (U.iv l hl) e).symm
   generalize u.idxOf l=a at *
   generalize u.idxOf (inv l)=b at *
   grind
  ·unfold ch sgn
   rw [aq]
   have n1:u.idxOf y≠u.idxOf (inv y):=fun e=>cO y (aL hy (U.iv y hy) e).symm
   generalize u.idxOf y=a at *
   generalize u.idxOf (inv y)=b at *
   grind
 ·rw [if_neg h]
  have n1:y≠l:=fun e=>h (.inl e.symm)
  have n2:y≠inv l:=fun e=>h (.inr (by rw [e,aq]))
  have F:=iH U hy hl n1 n2
  have a1:=aF F.mx
  have a2:=aF F.mX
  have a3:=aF F.my
  have a4:=aF F.mY
  have n1:=F.n1;have n2:=F.n2;have n3:=F.n3;have n4:=F.n4;have n5:=F.n5;have n6:=F.n6
  unfold ch sgn ic
  rw [aG F.mx F.my,aG F.mx F.mX,aG F.mx F.mY]
  generalize u.idxOf y=a at *
  generalize u.idxOf (inv y)=b at *
  generalize u.idxOf l=c at *
  generalize u.idxOf (inv l)=d at *
  generalize u.length=n at *
  grind
theorem AJ {u:List L}{a b d:L}(ha:a∈u)(hb:b∈u)(hd:d∈u)(ab:a≠b)(ad:a≠d)(bd:b≠d):ch u a b a d=if rfI u a b < rfI u a d then 1 else -1:=by
 have a1:=aF ha
 have a2:=aF hb
 have a3:=aF hd
 have n1:u.idxOf a≠u.idxOf b:=fun e=>ab (aL ha hb e)
 have n2:u.idxOf a≠u.idxOf d:=fun e=>ad (aL ha hd e)
 have n3:u.idxOf b≠u.idxOf d:=fun e=>bd (aL hb hd e)
 unfold ch sgn
 rw [aG ha hb,aG ha hd]
 generalize u.idxOf a=x at *
 generalize u.idxOf b=y at *
 generalize u.idxOf d=z at *
 generalize u.length=n at *
 grind
theorem AK {u:List L}{a b c:L}(ha:a∈u)(hb:b∈u)(hc:c∈u)(ab:a≠b)(bc:b≠c)(ac:a≠c):ch u a b c b=if rfI u b a < rfI u b c then 1 else -1:=by
 have a1:=aF ha
 have a2:=aF hb
 have a3:=aF hc
 have n1:u.idxOf a≠u.idxOf b:=fun e=>ab (aL ha hb e)
 have n2:u.idxOf b≠u.idxOf c:=fun e=>bc (aL hb hc e)
 have n3:u.idxOf a≠u.idxOf c:=fun e=>ac (aL ha hc e)
 unfold ch sgn
 rw [aG hb ha,aG hb hc]
 generalize u.idxOf a=x at *
 generalize u.idxOf b=y at *
 generalize u.idxOf c=z at *
 generalize u.length=n at *
 grind
theorem xW {u:List L}{a b c d:L}(ha:a∈u)(hb:b∈u)(hc:c∈u)(hd:d∈u):Rr (if [a,b,c,d].Nodup then ch u a b c d else 0) (cK u a b c d).toNat:=by
 by_cases h:[a,b,c,d].Nodup
 ·rw [if_pos h]
  unfold cK
  rw [Ee h,EZ]
  simp only [EG,Et,EN,FM,not_or] at h
  obtain ⟨⟨m1,m2,m3⟩,⟨m4,m5⟩,m6,_⟩:=h
  have a1:=aF ha
  have a2:=aF hb
  have a3:=aF hc
  have a4:=aF hd
  have n1:u.idxOf a≠u.idxOf b:=fun e=>m1 (aL ha hb e)
  have n2:u.idxOf a≠u.idxOf c:=fun e=>m2 (aL ha hc e)
  have n3:u.idxOf a≠u.idxOf d:=fun e=>m3 (aL ha hd e)
  have n4:u.idxOf b≠u.idxOf c:=fun e=>m4 (aL hb hc e)
  have n5:u.idxOf b≠u.idxOf d:=fun e=>m5 (aL hb hd e)
  have n6:u.idxOf c≠u.idxOf d:=fun e=>m6 (aL hc hd e)
  rw [aG ha hc,aG ha hb,aG ha hd]
  unfold ch sgn
  generalize u.idxOf a=x1 at *
  generalize u.idxOf b=x2 at *
  generalize u.idxOf c=x3 at *
  generalize u.idxOf d=x4 at *
  generalize u.length=n at *
  clear m1 m2 m3 m4 m5 m6 ha hb hc hd
  have key:∀ (p q:Prop) [Decidable p] [Decidable q] (x:Int),((p ↔ q)→x=0)→(¬ (p ↔ q)→x=2 ∨ x = -2)→Rr x (decide p != decide q).toNat:=fun p q _ _ x h1 h2=>by
   unfold Rr
   by_cases hp:p <;> by_cases hq:q <;> simp only [hp,hq,decide_true,decide_false] at *
   ·have:=h1 trivial;subst this;decide
   ·rcases h2 (by simp) with rfl | rfl <;> decide
   ·rcases h2 (by simp) with rfl | rfl <;> decide
   ·have:=h1 trivial;subst this;decide
  refine key _ _ _ ?_ ?_ <;> grind
 ·rw [if_neg h]
  unfold cK
  rw [Ea h,EV]
  exact ⟨by decide,rfl⟩
theorem at_mod {w:List L}{i j:Int}(h:i % (w.length:Int)=j % (w.length:Int))(c:Int):atZ w (i+c)=atZ w (j+c):=by
 unfold atZ
 rw [FY,h,← FY]
theorem c_ {w:List L}{i j:Int}(h:i % (w.length:Int)=j % (w.length:Int)):atZ w i=atZ w j:=by
 unfold atZ
 rw [h]
def c2 (u w v:List L)(s:P2):Int:=ch u (inv (atZ w s.1)) (atZ w (s.1+1)) (inv (atZ v s.2)) (atZ v (s.2+1))
theorem rz (w:List L):(List.range w.length).map (fun p:Nat=>atZ w (p:Int))=w:=by
 refine List.ext_getElem (by simp) fun i h1 h2=>?_
 rw [Ja,List.getElem_range]
 exact f_ h2
theorem AL (G:L→L→Int)(w v:List L):sm (fun s:P2=>G (atZ w s.1) (atZ v s.2)) (prs w.length v.length)=sm (fun a=>sm (fun b=>G a b) v) w:=by
 unfold prs
 rw [rm]
 conv=>rhs;rw [← rz w,jV]
 refine bJ fun p _=>?_
 rw [jV]
 conv=>rhs;rw [← rz v,jV]
theorem rA (u:List L)(y:L):∀ w,gp u y w=sm (fun a=>tau u y a) w
 | []=>rfl
 | l::w=>by show tau u y l+gp u y w=tau u y l+_;rw [rA u y w]
theorem vO {u:List L}{k:Nat}(U:SK u k){w:List L}(hw:∀ l∈w,l∈u):∀ {v:List L},(∀ l∈v,l∈u)→bal u k w v=sm (fun b=>sm (fun a=>tau u b a) w) v
 | [],_=>by rw [iK,xi];rfl
 | b::r,h=>by
  have e:=qi u k w [b] r
  rw [xU U (h b Er) hw,vO U hw fun x hx=>h x (Eg _ hx),rA] at e
  exact e
theorem nV {u:List L}{k:Nat}(U:SK u k){w v:List L}(hw:∀ l∈w,l∈u)(hv:∀ l∈v,l∈u)(lw:0 < w.length)(lv:0 < v.length):sm (c2 u w v) (prs w.length v.length)=2*bal u k w v:=by
 have PA:∀ (g:L→L→Int),sm (fun s:P2=>g (atZ w s.1) (atZ v (s.2+1))) (prs w.length v.length)=sm (fun s:P2=>g (atZ w s.1) (atZ v s.2)) (prs w.length v.length):=fun g=>by
  have:=i8 (m:=w.length) (n:=v.length) (h:=fun s:P2=>g (atZ w s.1) (atZ v s.2)) (fun s t h1 h2=>by show g _ _=g _ _;rw [c_ h1,c_ h2]) 0 1
  rw [← this]
  exact bJ fun s _=>by rw [Gz]
 have PB:∀ (g:L→L→Int),sm (fun s:P2=>g (atZ w (s.1+1)) (atZ v s.2)) (prs w.length v.length)=sm (fun s:P2=>g (atZ w s.1) (atZ v s.2)) (prs w.length v.length):=fun g=>by
  have:=i8 (m:=w.length) (n:=v.length) (h:=fun s:P2=>g (atZ w s.1) (atZ v s.2)) (fun s t h1 h2=>by show g _ _=g _ _;rw [c_ h1,c_ h2]) 1 0
  rw [← this]
  exact bJ fun s _=>by rw [Gz]
 have PC:∀ (g:L→L→Int),sm (fun s:P2=>g (atZ w (s.1+1)) (atZ v (s.2+1))) (prs w.length v.length)=sm (fun s:P2=>g (atZ w s.1) (atZ v s.2)) (prs w.length v.length):=fun g=>i8 (m:=w.length) (n:=v.length) (h:=fun s:P2=>g (atZ w s.1) (atZ v s.2)) (fun s t h1 h2=>by show g _ _=g _ _;rw [c_ h1,c_ h2]) 1 1
 have e1:sm (c2 u w v) (prs w.length v.length)=sm (fun s:P2=>sgn u (inv (atZ w s.1)) (inv (atZ v s.2))+((-1)*sgn u (inv (atZ w s.1)) (atZ v (s.2+1))+((-1)*sgn u (atZ w (s.1+1)) (inv (atZ v s.2))+sgn u (atZ w (s.1+1)) (atZ v (s.2+1))))) (prs w.length v.length):=bJ fun s _=>by
  unfold c2 ch
  omega
 rw [e1,cT,cT,cT,gg,gg,PA (fun a b=>sgn u (inv a) b),PB (fun a b=>sgn u a (inv b)),PC (fun a b=>sgn u a b),← gg,← gg,← cT,← cT,← cT]
 rw [vO U hw hv,← rn,← AL (fun a b=>tau u b a),← gg]
 refine bJ fun s _=>?_
 rw [← AI U.srf (hw _ (cL lw s.1)) (hv _ (cL lv s.2))]
 unfold ch
 omega
theorem rB {f g:Int→L}{a b:Nat}(ha:0 < a)(hb:0 < b)(pf:∀ k,f (k+(a:Int))=f k)(pg:∀ k,g (k+(b:Int))=g k)(h:f (-1)≠g (-1)):frN f g 0 (a+b) < a+b∧f (frN f g 0 (a+b))≠g (frN f g 0 (a+b)):=by
 obtain ⟨_,h2,h3,h4⟩:=c8 f g (a+b) 0
 generalize frN f g 0 (a+b)=n at h2 h3 h4 ⊢
 by_cases c:n < a+b
 ·exact ⟨c,h4 (by omega)⟩
 ·refine absurd (mG (f:=f) (g:=g) (a:=(a:Int)) (b:=(b:Int)) (by omega) (by omega) pf pg fun k hk hl=>?_) h
  obtain ⟨m,rfl⟩:=Fn hk
  exact h3 m (E1 _) (by omega)
def eA (w v:List L)(s:P2):Bool:=decide (atZ w s.1=atZ v s.2∧atZ w (s.1+1)≠atZ v (s.2+1))
def bA (w v:List L)(s:P2):Bool:=decide (atZ w (s.1+1)=atZ v (s.2+1)∧atZ w s.1≠atZ v s.2)
def nF (w v:List L)(s:P2):Nat:=nW w v 1 (s.1+1,s.2+1)
def nB (w v:List L)(s:P2):Nat:=frN (fun k=>atZ w (s.1 - k)) (fun k=>atZ v (s.2 - k)) 0 (w.length+v.length)
theorem mR {u w v:List L}{s t:P2}(h1:s.1 % (w.length:Int)=t.1 % (w.length:Int))(h2:s.2 % (v.length:Int)=t.2 % (v.length:Int)):eA w v s=eA w v t∧bA w v s=bA w v t∧nB w v s=nB w v t∧nF w v s=nF w v t∧c2 u w v s=c2 u w v t:=by
 have q1:∀ c,(s.1+c) % (w.length:Int)=(t.1+c) % (w.length:Int):=fun c=>by rw [FY,h1,← FY]
 have q2:∀ c,(s.2+c) % (v.length:Int)=(t.2+c) % (v.length:Int):=fun c=>by rw [FY,h2,← FY]
 have e1:∀ c,atZ w (s.1+c)=atZ w (t.1+c):=fun c=>at_mod h1 c
 have e2:∀ c,atZ v (s.2+c)=atZ v (t.2+c):=fun c=>at_mod h2 c
 have e3:=c_ h1
 have e4:=c_ h2
 refine ⟨?_,?_,?_,?_,?_⟩
 ·unfold eA
  rw [e1,e2,e3,e4]
 ·unfold bA
  rw [e1,e2,e3,e4]
 ·unfold nB
  have f1:(fun k=>atZ w (s.1 - k))=fun k=>atZ w (t.1 - k):=by
   funext k
   exact e1 (-k)
  have f2:(fun k=>atZ v (s.2 - k))=fun k=>atZ v (t.2 - k):=by
   funext k
   exact e2 (-k)
  rw [f1,f2]
 ·exact (uJ (u:=u) (w:=w) (v:=v) (s:=(s.1+1,s.2+1)) (t:=(t.1+1,t.2+1)) (q1 1) (q2 1) 1).2.2
 ·unfold c2
  rw [e1,e2,e3,e4]
theorem rD {w v:List L}(lw:0 < w.length)(lv:0 < v.length){p q:Int}(h:bA w v (p,q)=true):∃ n:Nat,nF w v (p,q)=n∧0 < n∧n < w.length+v.length∧eA w v (p+n,q+n)=true∧nB w v (p+n,q+n)=n∧(∀ j:Nat,j < n→atZ w (p+1+j)=atZ v (q+1+j))∧atZ w (p+1+n)≠atZ v (q+1+n):=by
 unfold bA at h
 obtain ⟨h0,h1⟩:=Gv h
 dsimp only at h0 h1
 have pf:∀ (w:List L) (p k:Int),atZ w (p+(k+(w.length:Int)))=atZ w (p+k):=fun w p k=>by rw [← IQ];exact f7 _
 have e:nF w v (p,q)=frN (fun k=>atZ w (p+1+k)) (fun k=>atZ v (q+1+k)) 0 (w.length+v.length):=by
  unfold nF nW
  congr 1
  ·funext k;exact sg1 _ _
  ·funext k;exact sg1 _ _
 obtain ⟨a1,a2⟩:=rB (f:=fun k=>atZ w (p+1+k)) (g:=fun k=>atZ v (q+1+k)) lw lv (fun k=>pf w (p+1) k) (fun k=>pf v (q+1) k) (by
  show atZ w (p+1 + -1)≠atZ v (q+1 + -1)
  rw [show p+1 + -1=p by omega,show q+1 + -1=q by omega]
  exact h1)
 have a3:∀ j:Nat,j < frN (fun k=>atZ w (p+1+k)) (fun k=>atZ v (q+1+k)) 0 (w.length+v.length)→atZ w (p+1+j)=atZ v (q+1+j):=fun j hj=>gf (f:=fun k=>atZ w (p+1+k)) (g:=fun k=>atZ v (q+1+k)) j hj
 generalize frN (fun k=>atZ w (p+1+k)) (fun k=>atZ v (q+1+k)) 0 (w.length+v.length)=n at *
 have hn:0 < n:=by
  apply Nat.pos_of_ne_zero
  intro z
  subst z
  refine a2 ?_
  show atZ w (p+1+(0:Nat))=atZ v (q+1+(0:Nat))
  rw [show p+1+((0:Nat):Int)=p+1 by omega,show q+1+((0:Nat):Int)=q+1 by omega]
  exact h0
 have l1:atZ w (p+n)=atZ v (q+n):=by
  have:=a3 (n - 1) (by omega)
  rwa [show p+1+((n - 1:Nat):Int)=p+n by omega,show q+1+((n - 1:Nat):Int)=q+n by omega] at this
 refine ⟨n,e,hn,a1,Ee ⟨l1,?_⟩,?_,a3,a2⟩
 ·show atZ w (p+n+1)≠atZ v (q+n+1)
  rw [show p+(n:Int)+1=p+1+n by omega,show q+(n:Int)+1=q+1+n by omega]
  exact a2
 ·refine uI (fun j hj=>?_) (by omega) (.inr ?_)
  ·have:=a3 (n - 1 - j) (by omega)
   show atZ w (p+n - j)=atZ v (q+n - j)
   rwa [show p+1+((n - 1 - j:Nat):Int)=p+n - j by omega,show q+1+((n - 1 - j:Nat):Int)=q+n - j by omega] at this
  ·show atZ w (p+n - n)≠atZ v (q+n - n)
   rw [show p+(n:Int) - n=p by omega,show q+(n:Int) - n=q by omega]
   exact h1
theorem xX {w v:List L}(lw:0 < w.length)(lv:0 < v.length){p q:Int}(h:eA w v (p,q)=true):∃ n:Nat,nB w v (p,q)=n∧bA w v (p - n,q - n)=true∧nF w v (p - n,q - n)=n:=by
 unfold eA at h
 obtain ⟨h0,h1⟩:=Gv h
 dsimp only at h0 h1
 have pf:∀ (w:List L) (p k:Int),atZ w (p - (k+(w.length:Int)))=atZ w (p - k):=fun w p k=>by
  rw [← f7 (p - (k+(w.length:Int)))]
  congr 1
  omega
 obtain ⟨a1,a2⟩:=rB (f:=fun k=>atZ w (p - k)) (g:=fun k=>atZ v (q - k)) lw lv (fun k=>pf w p k) (fun k=>pf v q k) (by
  show atZ w (p - -1)≠atZ v (q - -1)
  rw [show p - -1=p+1 by omega,show q - -1=q+1 by omega]
  exact h1)
 have a3:∀ j:Nat,j < frN (fun k=>atZ w (p - k)) (fun k=>atZ v (q - k)) 0 (w.length+v.length)→atZ w (p - j)=atZ v (q - j):=fun j hj=>gf (f:=fun k=>atZ w (p - k)) (g:=fun k=>atZ v (q - k)) j hj
 have e:nB w v (p,q)=frN (fun k=>atZ w (p - k)) (fun k=>atZ v (q - k)) 0 (w.length+v.length):=rfl
 generalize frN (fun k=>atZ w (p - k)) (fun k=>atZ v (q - k)) 0 (w.length+v.length)=n at *
 have hn:0 < n:=by
  apply Nat.pos_of_ne_zero
  intro z
  subst z
  refine a2 ?_
  show atZ w (p - (0:Nat))=atZ v (q - (0:Nat))
  rw [show p - ((0:Nat):Int)=p by omega,show q - ((0:Nat):Int)=q by omega]
  exact h0
 refine ⟨n,e,Ee ⟨?_,a2⟩,?_⟩
 ·have:=a3 (n - 1) (by omega)
  show atZ w (p - n+1)=atZ v (q - n+1)
  rwa [show p - ((n - 1:Nat):Int)=p - n+1 by omega,show q - ((n - 1:Nat):Int)=q - n+1 by omega] at this
 ·unfold nF nW
  refine uI (fun j hj=>?_) (by omega) (.inr ?_)
  ·rw [sg1,sg1]
   have:=a3 (n - 1 - j) (by omega)
   show atZ w (p - n+1+j)=atZ v (q - n+1+j)
   rwa [show p - ((n - 1 - j:Nat):Int)=p - n+1+j by omega,show q - ((n - 1 - j:Nat):Int)=q - n+1+j by omega] at this
  ·rw [sg1,sg1]
   show atZ w (p - n+1+n)≠atZ v (q - n+1+n)
   rw [show p - (n:Int)+1+n=p+1 by omega,show q - (n:Int)+1+n=q+1 by omega]
   exact h1
theorem CB (A B:Bool):Rr ((if A=true then (1:Int) else -1)+(if B=true then 1 else -1)) (A == B).toNat:=by
 unfold Rr
 cases A <;> cases B <;> decide
theorem rE {k:Nat}{u w v:List L}(U:SK u k)(A:Wo k w)(B:Wo k v):Rr (sm (fun s=>(if eA w v s=true then c2 u w v s else 0)+(if bA w v s=true then c2 u w v s else 0)) (prs w.length v.length)) ((prs w.length v.length).countP (hP u w v 1)):=by
 have lw:=A.lp
 have lv:=B.lp
 have mk:∀ (x y:Int),(x % (w.length:Int),y % (v.length:Int))∈prs w.length v.length:=fun x y=>aQ.mpr ⟨EM _ (by omega),Ez _ (by omega),EM _ (by omega),Ez _ (by omega)⟩
 have e1:=ro (k:=prs w.length v.length) (l:=prs w.length v.length) (bF _ _) (bF _ _) (A:=bA w v) (B:=eA w v) (fun s=>((s.1+(nF w v s:Nat)) % (w.length:Int),(s.2+(nF w v s:Nat)) % (v.length:Int))) (fun s=>((s.1 - (nB w v s:Nat)) % (w.length:Int),(s.2 - (nB w v s:Nat)) % (v.length:Int)))
  (fun s hs h=>by
   obtain ⟨a1,a2,a3,a4⟩:=aQ.mp hs
   obtain ⟨n,n1,n2,n3,n4,n5,n6,n7⟩:=rD lw lv (p:=s.1) (q:=s.2) h
   have n1:nF w v s=n:=n1
   rw [n1]
   have q:=mR (u:=u) (w:=w) (v:=v) (s:=((s.1+n) % (w.length:Int),(s.2+n) % (v.length:Int))) (t:=(s.1+n,s.2+n)) (eJ _ _) (eJ _ _)
   refine ⟨mk _ _,by rw [q.1];exact n4,?_⟩
   show ((_ - ((nB w v ((s.1+n) % (w.length:Int),(s.2+n) % (v.length:Int)):Nat):Int)) % (w.length:Int),(_ - ((nB w v ((s.1+n) % (w.length:Int),(s.2+n) % (v.length:Int)):Nat):Int)) % (v.length:Int))=s
   rw [q.2.2.1,n5]
   exact G4 (bD a1 a2) (bD a3 a4))
  (fun s hs h=>by
   obtain ⟨a1,a2,a3,a4⟩:=aQ.mp hs
   obtain ⟨n,n1,n2,n3⟩:=xX lw lv (p:=s.1) (q:=s.2) h
   have n1:nB w v s=n:=n1
   rw [n1]
   have q:=mR (u:=u) (w:=w) (v:=v) (s:=((s.1 - n) % (w.length:Int),(s.2 - n) % (v.length:Int))) (t:=(s.1 - n,s.2 - n)) (eJ _ _) (eJ _ _)
   refine ⟨mk _ _,by rw [q.2.1];exact n2,?_⟩
   show ((_+((nF w v ((s.1 - n) % (w.length:Int),(s.2 - n) % (v.length:Int)):Nat):Int)) % (w.length:Int),(_+((nF w v ((s.1 - n) % (w.length:Int),(s.2 - n) % (v.length:Int)):Nat):Int)) % (v.length:Int))=s
   rw [q.2.2.2.1,n3]
   have b1:=bD (c:=-(n:Int)) a1 a2
   have b2:=bD (c:=-(n:Int)) a3 a4
   rw [IY] at b1 b2
   exact G4 b1 b2) (c2 u w v)
 rw [cT,e1,← cT,← rq (m:=w.length) (n:=v.length) (h:=hP u w v 1) (fun s t h1 h2=>(uJ h1 h2 1).2.1) 1 1]
 refine CA fun s _=>?_
 obtain ⟨p,q⟩:=s
 by_cases h:bA w v (p,q)=true
 ·rw [if_pos h,if_pos h]
  obtain ⟨n,n1,n2,n3,n4,n5,n6,n7⟩:=rD lw lv h
  obtain ⟨h0,h1⟩:=Gv h
  dsimp only at h0 h1
  have am:∀ j,atZ w j∈u:=fun j=>(U.mem _).mpr (A.i _ (cL lw j))
  have bm:∀ j,atZ v j∈u:=fun j=>(U.mem _).mpr (B.i _ (cL lv j))
  have iv:=U.srf.iv
  have ln:atZ w (p+n)=atZ v (q+n):=by
   have:=n6 (n - 1) (by omega)
   rwa [show p+1+((n - 1:Nat):Int)=p+n by omega,show q+1+((n - 1:Nat):Int)=q+n by omega] at this
  have t1:c2 u w v (p,q)=if decide (rfI u (atZ w (p+1)) (inv (atZ w p)) < rfI u (atZ w (p+1)) (inv (atZ v q)))=true then 1 else -1:=by
   unfold c2
   rw [← h0,AK (iv _ (am _)) (am _) (iv _ (bm _)) (rnd_at A.r p).symm (by rw [h0];exact rnd_at B.r q) (c9 h1)]
   simp only [Gy]
  have t2:c2 u w v ((p+(nF w v (p,q):Nat)) % (w.length:Int),(q+(nF w v (p,q):Nat)) % (v.length:Int))=if decide (rfI u (inv (atZ w (p+n))) (atZ w (p+1+n)) < rfI u (inv (atZ w (p+n))) (atZ v (q+1+n)))=true then 1 else -1:=by
   rw [n1,(mR (u:=u) (w:=w) (v:=v) (s:=((p+n) % (w.length:Int),(q+n) % (v.length:Int))) (t:=(p+n,q+n)) (eJ _ _) (eJ _ _)).2.2.2.2]
   unfold c2
   dsimp only
   rw [← ln,show p+(n:Int)+1=p+1+n by omega,show q+(n:Int)+1=q+1+n by omega]
   have r1:=rnd_at A.r (p+n)
   have r2:=rnd_at B.r (q+n)
   rw [show p+(n:Int)+1=p+1+n by omega] at r1
   rw [show q+(n:Int)+1=q+1+n by omega,← ln] at r2
   rw [AJ (iv _ (am _)) (am _) (bm _) r1.symm r2.symm n7]
   simp only [Gy]
  rw [t1,t2]
  have th:hP u w v 1 (p+1,q+1)=(decide (rfI u (inv (atZ w (p+n))) (atZ w (p+1+n)) < rfI u (inv (atZ w (p+n))) (atZ v (q+1+n))) == decide (rfI u (atZ w (p+1)) (inv (atZ w p)) < rfI u (atZ w (p+1)) (inv (atZ v q)))):=by
   unfold hP
   rw [show nW w v 1 (p+1,q+1)=n from n1]
   unfold ptB
   dsimp only
   rw [sg1,sg1,sg1,sg1,sg1,sg1]
   rw [show p+1 + -1=p by omega,show q+1 + -1=q by omega,show p+1+((n:Int) - 1)=p+n by omega,show p+1+(0:Int)=p+1 by omega]
   rw [Ee n2,Ee (p:=atZ w p≠atZ v q) h1,Ee (p:=atZ w (p+1+n)≠atZ v (q+1+n)) n7,EZ,EZ,EZ]
  show Rr _ (hP u w v 1 (p+1,q+1)).toNat
  rw [th]
  exact CB _ _
 ·rw [if_neg h,if_neg h]
  have:hP u w v 1 (p+1,q+1)=false:=by
   unfold hP
   dsimp only
   by_cases c:sgZ w (p+1) 1 (-1)=sgZ v (q+1) 1 (-1)
   ·exact eI c
   ·rw [sg1,sg1,show p+1 + -1=p by omega,show q+1 + -1=q by omega] at c
    have h0:atZ w (p+1)≠atZ v (q+1):=fun e=>h (Ee ⟨e,c⟩)
    have:nW w v 1 (p+1,q+1)=0:=by
     refine uI (fun j hj=>absurd hj (by omega)) (E1 _) (.inr ?_)
     rw [sg1,sg1]
     show atZ w (p+1+(0:Nat))≠atZ v (q+1+(0:Nat))
     rw [show p+1+((0:Nat):Int)=p+1 by omega,show q+1+((0:Nat):Int)=q+1 by omega]
     exact h0
    rw [this]
    rfl
  show Rr _ (hP u w v 1 (p+1,q+1)).toNat
  rw [this]
  exact ⟨by decide,rfl⟩
def eG (w v:List L)(s:P2):Bool:=decide (inv (atZ w s.1)=atZ v (s.2+1)∧atZ w (s.1+1)≠inv (atZ v s.2))
def bG (w v:List L)(s:P2):Bool:=decide (atZ w (s.1+1)=inv (atZ v s.2)∧inv (atZ w s.1)≠atZ v (s.2+1))
theorem mS {x y:L}:x=inv y ↔ inv x=y:=⟨fun e=>by rw [e,aq],fun e=>by rw [← e,aq]⟩
theorem CC {n:Nat}{u w v:List L}(U:SK u n)(A:Wo n w)(B:Wo n v):(prs w.length v.length).countP (hP u w (bk v) 1)=(prs w.length v.length).countP (hP u w v (-1)):=by
 have a1:=uM U A B.bk
 have a2:=uM U B.bk A
 have a3:=bkA U B A
 have a4:=nU U A B
 have a5:=nU U B A
 rw [bj] at a1 a2
 omega
theorem rF {k:Nat}{u w v:List L}(U:SK u k)(A:Wo k w)(B:Wo k v):Rr (sm (fun s=>(if eG w v s=true then c2 u w v s else 0)+(if bG w v s=true then c2 u w v s else 0)) (prs w.length v.length)) ((prs w.length v.length).countP (hP u w v (-1))):=by
 have lw:=A.lp
 have lv:=B.lp
 have R:=rE U A B.bk
 rw [bj,CC U A B] at R
 have e:=ro (k:=prs w.length v.length) (l:=prs w.length v.length) (bF _ _) (bF _ _) (A:=fun _=>true) (B:=fun _=>true) (fun s=>(s.1,(-2 - s.2) % (v.length:Int))) (fun s=>(s.1,(-2 - s.2) % (v.length:Int)))
  (fun s hs _=>by
   obtain ⟨a1,a2,a3,a4⟩:=aQ.mp hs
   exact ⟨aQ.mpr ⟨a1,a2,EM _ (by omega),Ez _ (by omega)⟩,rfl,G4 rfl (fm a3 a4)⟩)
  (fun s hs _=>by
   obtain ⟨a1,a2,a3,a4⟩:=aQ.mp hs
   exact ⟨aQ.mpr ⟨a1,a2,EM _ (by omega),Ez _ (by omega)⟩,rfl,G4 rfl (fm a3 a4)⟩) (fun s=>(if eA w (bk v) s=true then c2 u w (bk v) s else 0)+(if bA w (bk v) s=true then c2 u w (bk v) s else 0))
 simp only [Gb] at e
 rw [e] at R
 have R:=R.neg
 rw [show ∀ x:Int,-x=(-1)*x by intro x;omega,← gg] at R
 refine (Ey (fun x=>Rr x _) (bJ fun s _=>?_)).mp R
 have q:=mR (u:=u) (w:=w) (v:=bk v) (s:=(s.1,(-2 - s.2) % (v.length:Int))) (t:=(s.1,-2 - s.2)) rfl (by rw [bj];exact eJ _ _)
 rw [q.1,q.2.1,q.2.2.2.2]
 have b1:atZ (bk v) (-2 - s.2)=inv (atZ v (s.2+1)):=by
  rw [rf lv]
  congr 2
  omega
 have b2:atZ (bk v) (-2 - s.2+1)=inv (atZ v s.2):=by
  rw [rf lv]
  congr 2
  omega
 have f1:eA w (bk v) (s.1,-2 - s.2)=eG w v s:=by
  unfold eA eG
  dsimp only
  rw [b1,b2]
  exact Gj.mpr ⟨fun ⟨x,y⟩=>⟨mS.mp x,y⟩,fun ⟨x,y⟩=>⟨mS.mpr x,y⟩⟩
 have f2:bA w (bk v) (s.1,-2 - s.2)=bG w v s:=by
  unfold bA bG
  dsimp only
  rw [b1,b2]
  refine Gj.mpr ⟨fun ⟨x,y⟩=>⟨x,fun z=>y (mS.mpr z)⟩,fun ⟨x,y⟩=>⟨x,fun z=>y (mS.mp z)⟩⟩
 have f3:c2 u w (bk v) (s.1,-2 - s.2) = - c2 u w v s:=by
  unfold c2
  dsimp only
  rw [b1,b2,aq,AH]
 rw [f1,f2,f3]
 split <;> split <;> omega
theorem CD {k:Nat}{u w v:List L}(U:SK u k)(A:Wo k w)(B:Wo k v):Rr (2*bal u k w v) (NN u w v):=by
 have lw:=A.lp
 have lv:=B.lp
 have am:∀ j,atZ w j∈u:=fun j=>(U.mem _).mpr (A.i _ (cL lw j))
 have bm:∀ j,atZ v j∈u:=fun j=>(U.mem _).mpr (B.i _ (cL lv j))
 have iv:=U.srf.iv
 rw [← nV U (fun l hl=>(U.mem _).mpr (A.i l hl)) (fun l hl=>(U.mem _).mpr (B.i l hl)) lw lv]
 have R1:Rr (sm (fun s:P2=>if [inv (atZ w s.1),atZ w (s.1+1),inv (atZ v s.2),atZ v (s.2+1)].Nodup then c2 u w v s else 0) (prs w.length v.length)) ((prs w.length v.length).countP (hF u w v)):=CA fun s _=>by
  have:=xW (u:=u) (iv _ (am s.1)) (am (s.1+1)) (iv _ (bm s.2)) (bm (s.2+1))
  unfold hF
  rw [sg1,sg1,sg1,sg1,Gz,Gz]
  exact this
 have R:=R1.add ((rE U A B).add (rF U A B))
 rw [← cT,← cT] at R
 unfold NN
 refine (Ey (fun x=>Rr x _) (bJ fun s _=>?_)).mp R
 have n1:=rnd_at A.r s.1
 have n2:=rnd_at B.r s.2
 unfold eA bA eG bG c2
 have h1:∀ x y:L,x=y ↔ inv x=inv y:=fun x y=>⟨fun e=>by rw [e],fun e=>by rw [← aq x,e,aq]⟩
 rw [show (decide (atZ w s.1=atZ v s.2∧atZ w (s.1+1)≠atZ v (s.2+1)))=decide (inv (atZ w s.1)=inv (atZ v s.2)∧atZ w (s.1+1)≠atZ v (s.2+1)) by rw [Gj,h1 (atZ w s.1)],show (decide (atZ w (s.1+1)=atZ v (s.2+1)∧atZ w s.1≠atZ v s.2))=decide (atZ w (s.1+1)=atZ v (s.2+1)∧inv (atZ w s.1)≠inv (atZ v s.2)) by rw [Gj,ne_eq,h1 (atZ w s.1)]]
 generalize inv (atZ w s.1)=a at *
 generalize atZ w (s.1+1)=b at *
 generalize inv (atZ v s.2)=c at *
 generalize atZ v (s.2+1)=d at *
 simp only [Gy,EG,Et,EN,FM,not_or,Hn,FJ,JL]
 have z1:a=c→b=d→ch u a b c d=0:=fun e1 e2=>by
  subst e1 e2
  unfold ch sgn
  grind
 have z2:a=d→b=c→ch u a b c d=0:=fun e1 e2=>by
  subst e1 e2
  unfold ch sgn
  grind
 generalize ch u a b c d=x at *
 clear R R1 am bm iv h1
 have n1':¬ a=b:=fun e=>n1 e.symm
 have n2':¬ c=d:=fun e=>n2 e.symm
 clear n1 n2
 by_cases e1:a=c <;> by_cases e2:b=d <;> by_cases e3:a=d <;> by_cases e4:b=c <;> simp_all
theorem AM {k:Nat}{u w v:List L}(U:SK u k)(A:Wo k w)(B:Wo k v):((bal u k w v).natAbs:Int)≤NN u w v∧((NN u w v:Int) - bal u k w v) % 2=0:=by
 have R:=CD U A B
 unfold Rr at R
 omega
theorem mT {u h:List L}(U:Srf u)(hh:h∈hol u)(j:Int):u.idxOf (atZ h (j+1))=(u.idxOf (inv (atZ h j))+1) % u.length∧atZ h j∈u∧atZ h (j+1)∈u:=by
 have c:=(d_ U).cy h hh
 have lp:0 < h.length:=ET.mpr c.ne
 have e0:=EM j (show (h.length:Int)≠0 by omega)
 have e1:=Ez j (show (0:Int) < (h.length:Int) by omega)
 have g1:h[(j % (h.length:Int)).toNat]? = some (atZ h j):=by
  unfold atZ
  exact cJ (by omega)
 have g2:h[((j % (h.length:Int)).toNat+1) % h.length]? = some (atZ h (j+1)):=by
  have:((j % (h.length:Int)).toNat+1) % h.length=((j+1) % (h.length:Int)).toNat:=by
   have q:((((j % (h.length:Int)).toNat+1) % h.length:Nat):Int)=(j+1) % (h.length:Int):=by
    rw [Int.natCast_emod,show (((j % (h.length:Int)).toNat+1:Nat):Int)=j % (h.length:Int)+1 by omega,Ho]
   omega
  rw [this]
  unfold atZ
  have:=Ez (j+1) (show (0:Int) < (h.length:Int) by omega)
  have:=EM (j+1) (show (h.length:Int)≠0 by omega)
  exact cJ (by omega)
 have m1:atZ h j∈u:=(d_ U).pm.mem_iff.mp (FU.mpr ⟨h,hh,cL lp j⟩)
 have m2:atZ h (j+1)∈u:=(d_ U).pm.mem_iff.mp (FU.mpr ⟨h,hh,cL lp (j+1)⟩)
 have r:Nx u (inv (atZ h j)) (atZ h (j+1)):=c.st _ _ (qH g1 g2)
 have m3:=U.iv _ m1
 have lu:=aF m3
 have hg:u[(u.idxOf (inv (atZ h j))+1) % u.length]? = some (u.getD ((u.idxOf (inv (atZ h j))+1) % u.length) 0):=cJ (IH _ (by omega))
 have r2:=qH (iG m3) hg
 have e:=Ag U.nd r r2
 refine ⟨?_,m1,m2⟩
 rw [← e] at hg
 exact cn U.nd hg
theorem rG {u h:List L}(U:Srf u)(hh:h∈hol u):Rnd h:=by
 have c:=(d_ U).cy h hh
 refine AB c.ne fun k _=>?_
 obtain ⟨a,b,_⟩:=mT U hh ((k:Int) - 1)
 rw [show (k:Int) - 1+1=k by omega] at a
 intro e
 rw [e] at a
 have m:=U.iv _ b
 have l1:=aF m
 have n1:=aF b
 have:u.idxOf (inv (atZ h ((k:Int) - 1)))≠u.idxOf (atZ h ((k:Int) - 1)):=fun z=>cO _ (aL m b z)
 have q:(u.idxOf (inv (atZ h ((k:Int) - 1)))+1) % u.length=if u.idxOf (inv (atZ h ((k:Int) - 1)))+1=u.length then 0 else u.idxOf (inv (atZ h ((k:Int) - 1)))+1:=by
  split
  ·rename_i z
   rw [z,Hy]
  ·exact Fj (by omega)
 rw [q] at a
 split at a <;> omega
theorem du {u:List L}{a b d:L}(ha:a∈u)(hb:b∈u)(hd:d∈u)(h:u.idxOf b=(u.idxOf a+1) % u.length)(ad:a≠d)(bd:b≠d):rfI u a b < rfI u a d∧rfI u b d < rfI u b a:=by
 have a1:=aF ha
 have a2:=aF hb
 have a3:=aF hd
 have n2:u.idxOf a≠u.idxOf d:=fun e=>ad (aL ha hd e)
 have n3:u.idxOf b≠u.idxOf d:=fun e=>bd (aL hb hd e)
 have q:(u.idxOf a+1) % u.length=if u.idxOf a+1=u.length then 0 else u.idxOf a+1:=by
  split
  ·rename_i z
   rw [z,Hy]
  ·exact Fj (by omega)
 rw [q] at h
 rw [aG ha hb,aG ha hd,aG hb hd,aG hb ha]
 generalize u.idxOf a=x at *
 generalize u.idxOf b=y at *
 generalize u.idxOf d=z at *
 generalize u.length=n at *
 grind
theorem kX {k:Nat}{u h v:List L}(U:SK u k)(hh:h∈hol u)(B:Wo k v):NN u h v=0:=by
 have R:=rG U.srf hh
 have hi:InM k h:=fun x hx=>(U.mem x).mp (bO U.srf _ h hh x hx)
 have lw:=ET.mpr R.ne
 have nx:=mT U.srf hh
 have iv:=U.srf.iv
 have z:∀ {l:List P2} {g:P2→Bool},(∀ s,g s=false)→l.countP g=0:=fun hg=>List.countP_eq_zero.mpr fun x _=>by rw [hg];decide
 have hf:∀ s,hF u h v s=false:=fun s=>by
  unfold hF cK
  have F:=cS U R hi (.inl rfl) s.1
  have G:=cS U B.r B.i (.inl rfl) s.2
  by_cases nd:[inv (sgZ h s.1 1 0),sgZ h s.1 1 1,inv (sgZ v s.2 1 0),sgZ v s.2 1 1].Nodup
  ·rw [Ee nd,EZ]
   simp only [EG,Et,EN,FM,not_or] at nd
   obtain ⟨⟨m1,m2,m3⟩,⟨m4,m5⟩,m6,_⟩:=nd
   have ad:u.idxOf (sgZ h s.1 1 1)=(u.idxOf (inv (sgZ h s.1 1 0))+1) % u.length:=by
    rw [sg1,sg1,Gz]
    exact (nx s.1).1
   have q1:=(du (F.i 0) (F.m 1) (G.i 0) ad m2 m4).1
   have q2:=(du (F.i 0) (F.m 1) (G.m 1) ad m3 m5).1
   rw [Ea (by omega),Ea (by omega)]
   rfl
  ·rw [Ea nd,EV]
 have hp:∀ wy:Int,(wy=1 ∨ wy = -1)→∀ s,hP u h v wy s=false:=fun wy hy s=>by
  unfold hP
  have F:=cS U R hi (.inl rfl) s.1
  have G:=cS U B.r B.i hy s.2
  have al:∀ j:Nat,j < nW h v wy s→sgZ h s.1 1 j=sgZ v s.2 wy j:=fun j hj=>gf (N:=h.length+v.length) j hj
  generalize nW h v wy s=n at al
  unfold ptB
  by_cases hn:0 < n
  ·have e0:sgZ h s.1 1 0=sgZ v s.2 wy 0:=al 0 hn
   have e1:sgZ h s.1 1 ((n:Int) - 1)=sgZ v s.2 wy ((n:Int) - 1):=by
    have:=al (n - 1) (by omega)
    rwa [show ((n - 1:Nat):Int)=(n:Int) - 1 by omega] at this
   by_cases c1:sgZ h s.1 1 (-1)=sgZ v s.2 wy (-1)
   ·rw [Ea (p:=sgZ h s.1 1 (-1)≠sgZ v s.2 wy (-1)) (fun z=>z c1),EV,GK]
   by_cases c2:sgZ h s.1 1 n=sgZ v s.2 wy n
   ·rw [Ea (p:=sgZ h s.1 1 n≠sgZ v s.2 wy n) (fun z=>z c2),EV,GK,GK]
   have d1:u.idxOf (sgZ h s.1 1 n)=(u.idxOf (inv (sgZ h s.1 1 ((n:Int) - 1)))+1) % u.length:=by
    have:=(nx (s.1+((n:Int) - 1))).1
    rw [sg1,sg1]
    rwa [show s.1+((n:Int) - 1)+1=s.1+n by omega] at this
   have d0:u.idxOf (sgZ h s.1 1 0)=(u.idxOf (inv (sgZ h s.1 1 (-1)))+1) % u.length:=by
    have:=(nx (s.1 + -1)).1
    rw [sg1,sg1]
    rwa [show s.1 + -1+1=s.1+0 by omega] at this
   have q1:=(du (F.i ((n:Int) - 1)) (F.m n) (G.m n) d1 (by rw [e1];exact (G.st' n).symm) c2).1
   have q0:=(du (F.i (-1)) (F.m 0) (G.i (-1)) d0 (c9 c1) (by rw [e0];exact G.s0)).2
   rw [Ee q1,Ea (p:=rfI u (sgZ h s.1 1 0) (inv (sgZ h s.1 1 (-1))) < rfI u (sgZ h s.1 1 0) (inv (sgZ v s.2 wy (-1)))) (by omega)]
   simp
  ·rw [Ea hn,EV]
 unfold NN
 rw [z hf,z (hp 1 (.inl rfl)),z (hp (-1) (.inr rfl))]
end Kx
namespace PySem
end PySem
namespace L2
open PySem PySem.Spec PyProof.Rows Wd
section
variable {X:Cx}
end
end L2
namespace HT
open PySem PySem.Spec PyProof.Rows
section
variable {prog:Program} {w:World} {A:Around} {E:Value→Shared→Prop} {s:Shared}
end
end HT
namespace L2
open PySem PySem.Spec PyProof.Rows Wd
section
variable {X:Cx}
end
end L2
namespace L2
open PySem PySem.Spec PyProof.Rows
theorem Fnc.imp {P:Program}{w:World}{K:PySem.W.Frag}{mg:Str→Option Value}{base:Heap}{x:Str}{ps:List Str}{k:Nat}{sp sp':Sp}(F:Fnc P w K mg base x ps k sp)(h:∀ vs H Q E,sp' vs H Q E→sp vs H Q E):Fnc P w K mg base x ps k sp':=by
 obtain ⟨f,fd,a,b,c,d⟩:=F.ex
 exact ⟨f,fd,a,b,c,d.imp h⟩
end L2
namespace Kx
open PySem PySem.Spec PyProof.Rows L2 Wd Tv
def dif (u:List L)(x:L):Int:=((u.count x:Nat):Int) - ((u.count (inv x):Nat):Int)
@[irreducible] def sml (m:Int):List L:=([0,1,2,3,4,5]:List L).take m.toNat
theorem jW {m:Int}(h:1≤m):Txt.slice ("abcdef":Str) none (some m)=toS (sml m):=by
 rw [← pG,aO,dY _ (by omega)]
 unfold sml
 rfl
theorem nX {m:Int}:(sml m).length≤6:=by
 unfold sml
 rw [Es]
 exact Nat.min_le_right _ _
def vP:Sp:=fun vs H Q _=>∃ (m:Int) (u:List L),vs=[.int m,tx u]∧1≤m∧m≤6∧u.length≤60∧∀ (t:Addr) (H':Hp),H' t=some (.tup ((sml m).map fun x=>V.int (dif u x)))→aE H H'→Q (.ref t) H'
theorem uN {α:Type}(g:L→α){ys:List L}{i:Nat}{x:L}(h:ys[i]? = some x):(ys.take i).map g++[g x]=(ys.take (i+1)).map g:=by
 rw [GS,h,E_]
 rfl
theorem kY {k x:Nat}(hk:k≤6)(hx:x < k):(sml (k:Int))[x]? = some (lt6 x):=by
 have q:∀ x:Fin 6,([0,1,2,3,4,5]:List L)[x.val]? = some (lt6 x.val):=by decide
 unfold sml
 rw [E6 (by omega)]
 exact q ⟨x,by omega⟩
theorem xY {k:Nat}(hk:k≤6):(sml (k:Int)).length=k:=by
 unfold sml
 rw [Es]
 show min _ 6=k
 omega
def AN:Sp:=fun vs H Q _=>∃ (u:List L) (k:Nat),vs=[tx u]∧SK u k∧Q (tx (sml (k:Int))) H
def Dn:Sp:=fun vs H Q _=>∃ (u:List L) (k:Nat) (a:L),vs=[tx u,tx [a]]∧SK u k∧a∈u∧∀ (p:Addr) (H':Hp),H' p=some (.tup [.int (u.idxOf a:Nat),.int (u.idxOf (inv a):Nat)])→aE H H'→Q (.ref p) H'
def CF (a b c d:Nat):Bool:=decide (min a b < c∧c < max a b) != decide (min a b < d∧d < max a b)
def AO:Sp:=fun vs H Q _=>∃ (p q:Addr) (a b c d:Nat),vs=[.ref p,.ref q]∧H p=some (.tup [.int (a:Int),.int (b:Int)])∧H q=some (.tup [.int (c:Int),.int (d:Int)])∧Q (.bl (CF a b c d)) H
def vQ:Sp:=fun vs H Q _=>∃ (u:List L) (k:Nat) (x y:L),vs=[tx u,tx [x],tx [y]]∧SK u k∧vz u x y∧∀ H',aE H H'→Q (.int (sd u x y)) H'
def xZ:Sp:=fun vs H Q _=>∃ (u w1 w2:List L) (k:Nat),vs=[tx u,tx w1,tx w2]∧SK u k∧w1.length≤60∧w2.length≤60∧∀ H',aE H H'→Q (.int (bal u k w1 w2)) H'
theorem uO (u:List L)(x y:L):-1≤sd u x y∧sd u x y≤1:=by
 unfold sd ic
 split <;> split <;> omega
theorem jX {w:List L}(x:L)(h:w.length≤60):-60≤dfi w x∧dfi w x≤60:=by
 have h1:=List.count_le_length (a:=x) (l:=w)
 have h2:=List.count_le_length (a:=inv x) (l:=w)
 unfold dfi
 omega
theorem x6:∀ x:Fin 6,lt6 x.val=⟨x.val,by omega⟩:=by decide
end Kx
namespace L2
open PySem PySem.Spec PyProof.Rows Wd
section
variable {X:Cx}
end
end L2
namespace Kx
open PySem PySem.Spec PyProof.Rows L2 Wd Tv
def ins (u:List L)(p:Nat)(z:L):List L:=u.take p++z::u.drop p
inductive i9 (vs:List V)(H:Hp)(Q:VK)(Kv:XK):Prop
 | mk:∀ (d:Addr) (n:Nat),(vs=[.ref d,.int (n:Int)])→Fd H d→1≤n→n≤6→(∀ (u:List L) (H':Hp),SK u n→Fd H' d→bC d H H'→Q (tx u) H')→i9 vs H Q Kv
inductive kZ (vs:List V)(H:Hp)(Q:VK)(Kv:XK):Prop
 | mk:∀ (d:Addr) (m:Nat),(vs=[.ref d,.int (m:Int),.int 8])→Fd H d→1≤m→m≤6→(∀ (v:List L) (H':Hp),GR m 8 v→Fd H' d→bC d H H'→Q (tx v) H')→kZ vs H Q Kv
theorem GR.wo {n b:Nat}{w:List L}(h:GR n b w):Wo n w:=⟨h.1,h.2.2⟩
theorem k0 (u:List L)(i:Nat):StrLaws.At (toS (u++u)) (toS u) (toS (u++u)).length i ↔ (i≤u.length∧rot u i=u):=by
 unfold StrLaws.At
 rw [ae,ae,Eb,StrLaws.subAt_eq,ae,aZ,aZ,GL,← JD,← JC]
 have key:∀ i,i≤u.length→((u++u).drop i).take u.length=rot u i:=fun i hi=>by
  unfold rot
  rw [List.drop_append_of_le_length hi,List.take_append,Fb]
  have e:u.length - (u.length - i)=i:=by omega
  rw [e,E9 (by rw [Fb];omega)]
 constructor
 ·rintro ⟨h1,h2⟩
  have hi:i≤u.length:=by omega
  refine ⟨hi,?_⟩
  rw [← key i hi]
  exact dm h2
 ·rintro ⟨h1,h2⟩
  refine ⟨by omega,?_⟩
  rw [key i h1,h2]
theorem rH {u:List L}{p:Nat}(R:vw u p):Txt.find3 (toS (u++u)) (toS u) 1=(p:Int):=by
 unfold Txt.find3
 have e:PySem.fromIndex (toS (u++u)).length 1=1:=by
  unfold PySem.fromIndex
  rw [if_neg (by decide)]
  decide
 rw [e]
 rcases StrLaws.occ_head_from (toS (u++u)) (toS u) 1 1 (Ei 1) with ⟨h0,hn⟩ | ⟨i,r,h0,hlo,hi,hn⟩
 ·exact absurd ((k0 u p).mpr ⟨R.le,R.same⟩) (hn p R.pos)
 ·rw [h0]
  have hi:=(k0 u i).mp hi
  show (i:Int)=p
  have:i=p:=by
   rcases IJ i p with h | h | h
   ·exact absurd hi.2 (R.least i hlo h)
   ·exact h
   ·exact absurd ((k0 u p).mpr ⟨R.le,R.same⟩) (hn p R.pos h)
  rw [this]
def vR:Sp:=fun vs H Q _=>∃ u,vs=[tx u]∧u≠[]∧u.length≤60∧∀ (p:Nat) (t:Addr) (H':Hp),vw u p→H' t=some (.tup [tx (u.take p),.int ((u.length / p:Nat):Int)])→aE H H'→Q (.ref t) H'
def AQ (K:PySem.W.Frag):Sp:=fun vs H Q _=>∃ (u:List L) (k:Nat) (x:V),vs=[tx u,x]∧SK u k∧Th K H x∧∀ H',aE H H'→Q (.bl (xk k x)) H'
theorem uP {k:Nat}(hk:k≤6){z:Str}(h:isW (k:Int) z=true):isW 6 z=true:=by
 unfold isW at h ⊢
 rw [Fv] at h ⊢
 intro c hc
 have:=h c hc
 unfold okC at this ⊢
 cases hl:ltr c with
 | none=>rw [hl] at this;cases this
 | some x =>
  rw [hl] at this
  have:((x.val % 6:Nat):Int) < (k:Int):=Gv this
  exact Ee (by omega)
theorem AR {k:Nat}(hk:k≤6){z:Str}(h:isW (k:Int) z=true):∃ u,z=toS u:=by
 obtain ⟨u,hu⟩:=Cc (x:=.str z) (uP hk h)
 exact ⟨u,V.str.inj hu⟩
theorem x8 {k:Nat}{z:Str}(h:isW (k:Int) z=false):xk k (.str z)=false:=by
 show zW k z=false
 unfold zW
 cases ofS z with
 | none=>rfl
 | some u=>rw [h];rfl
theorem rJ {k:Nat}{u:List L}(h:isW (k:Int) (toS u)=true):xk k (.str (toS u))=Bu u:=by
 show zW k (toS u)=_
 unfold zW
 rw [w5,h]
 rfl
theorem nY (w:List L):c4 (toS w)=(w.map fun x=>[x]).map toS:=by
 unfold c4
 rw [aZ,Fp,Fp]
 rfl
theorem mU {H:Hp}{p:Addr}{zs:List Str}{w:List L}(h:H p=some (.lst (zs.map V.str)))(pm:zs.Perm (c4 (toS w))):∃ Vs:List (List L),zs=Vs.map toS∧Dt H (.ref p) (.list (dws Vs)):=by
 rw [nY] at pm
 obtain ⟨Vs,_,e⟩:=dQ toS pm.symm _ rfl
 refine ⟨Vs,e,.lst h ?_⟩
 rw [e,Fp]
 exact pO Vs
theorem i_ (ws:List (List L)):(PyData.list (dws ws)).canLay0=true:=by
 unfold PyData.canLay0
 exact jP ws
theorem mV {u:List L}(U:Srf u):(hol u).flatten.length=u.length:=(d_ U).pm.length_eq
theorem AS {u:List L}(U:Srf u){w:List L}(hw:w∈hol u):w≠[]∧w.length≤12:=by
 refine ⟨((d_ U).cy w hw).ne,?_⟩
 have h1:=List.Sublist.length_le (Ie hw)
 have h2:=mV U
 have:=U.le
 omega
theorem rK:∀ ws:List (List L),((ws.map toS).map (·.length)).sum=ws.flatten.length
 | []=>rfl
 | w::ws=>by
  rw [EO,EO,List.sum_cons,rK ws,E7,Eb,ae]
theorem jY:∀ ws:List (List L),PyData.depthAll (dws ws)≤0
 | []=>Ei _
 | w::ws=>by
  have:=jY ws
  show max (PyData.depth (.str (toS w))) (PyData.depthAll (dws ws))≤0
  have:PyData.depth (.str (toS w))=0:=rfl
  omega
theorem x9 {w:List L}(nd:w.Nodup):nI w=true:=by
 unfold nI
 rw [Fv]
 intro q hq
 rw [GJ] at hq
 by_cases h:q=0
 ·rw [Ee h,Bool.true_or]
 ·rw [Ea h,JB]
  have:rot w q≠w:=fun e=>by
   have h1:=ky (w:=w) (p:=q) (i:=0) (by omega) (by omega)
   rw [e,Jr,Fj hq,fu (by omega),fu hq] at h1
   have p:=FE.mp nd 0 q (by omega) hq (by omega)
   exact p (El h1)
  rw [Ea this]
  rfl
theorem x_ {w:List L}(h:Rnd w):sI w=true:=by
 unfold sI
 rw [Ee (qI h.rd),Ea h.ne,EZ,JB]
 have:¬ w.getLast? = w.head?.map inv:=fun e=>by
  cases w with
  | nil=>exact h.ne rfl
  | cons x r =>
   have hl:(x::r).getLast? = some (inv x):=e
   exact h.jn _ _ hl rfl (by rw [aq])
 rw [Ea this]
 rfl
theorem jZ {u h:List L}{k:Nat}(U:SK u k)(hh:h∈hol u):GR k 12 h:=⟨rG U.srf hh,(AS U.srf hh).2,fun x hx=>(U.mem x).mp (bO U.srf _ h hh x hx)⟩
theorem AU {k:Nat}{w:List L}(h:InM k w):isW (k:Int) (toS w)=true:=by
 unfold isW
 rw [aZ,Ir,Fv]
 intro x hx
 show okC (k:Int) (cp x)=true
 unfold okC
 rw [lZ]
 exact Ee (JK.mpr (h x hx))
theorem yd {u h:List L}{k:Nat}(U:SK u k)(hh:h∈hol u):xk k (tx h)=true:=by
 have g:=jZ U hh
 have h1:=g.2.1
 have h0:=ET.mpr g.1.ne
 have e:=rJ (AU g.2.2)
 show xk k (.str (toS h))=true
 rw [e]
 unfold Bu
 rw [Ee (show 1≤h.length from h0),Ee (show h.length≤30 by omega),x_ g.1,x9 ((d_ U.srf).cy h hh).nd]
 rfl
inductive k7 (vs:List V)(H:Hp)(Q:VK)(Kv:XK):Prop
 | mk:∀ (u:List L) (lw la:Addr) (n:Nat) (W:List (List L)),(vs=[tx u,.ref lw,.ref la])→SK u n→H lw=some (.lst ((hol u).map tx))→H la=some (.lst (W.map tx))→W.length≤3→(∀ w∈W,GR n 8 w)→(∀ H',aE H H'→Q (.bl true) H')→k7 vs H Q Kv
inductive k8 (vs:List V)(H:Hp)(Q:VK)(Kv:XK):Prop
 | mk:∀ (u w v:List L) (n:Nat),(vs=[tx u,tx w,tx v])→SK u n→GR n 8 w→GR n 8 v→(∀ H',aE H H'→Q (.bl true) H')→k8 vs H Q Kv
theorem wy2 {n:Nat}{w v:List L}(h:GR n 30 w)(g:GR n 30 v):WyR n [w,v]:=⟨by show 2≤4; decide,by show 1≤2; decide,fun x hx=>by
 simp only [Et,EN,FM] at hx
 rcases hx with rfl | rfl
 ·exact h
 ·exact g⟩
theorem wy1 {n:Nat}{w:List L}(h:GR n 30 w):WyR n [w]:=⟨by show 1≤4; decide,by show 1≤1; decide,fun x hx=>by
 rw [Ec.mp hx]
 exact h⟩
theorem uQ {k:Nat}{u h v:List L}(U:SK u k)(hh:h∈hol u)(B:Wo k v):(jQ u [h,v] 0 1 (wyZ [h,v] 0).length).length=0∧(jQ u [v,h] 0 1 (wyZ [v,h] 0).length).length=0:=by
 rw [rj (by decide),rj (by decide)]
 refine ⟨kX U hh B,?_⟩
 have e:NN u v h=NN u h v:=AE U B (jZ U hh).wo
 show NN u v h=0
 rw [e]
 exact kX U hh B
theorem rL {k:Nat}{u h:List L}(U:SK u k)(hh:h∈hol u):(jQ u [h] 0 0 (wyZ [h] 0).length).length=0:=by
 have A:=(jZ U hh).wo
 have:=AG (W:=[h]) (i:=0) U A
 have e:NN u (wyZ [h] 0) (wyZ [h] 0)=0:=kX U hh A
 omega
theorem rM {zs:List (Addr × Lk)}{ks:List Lk}(h:(zs.map (·.2)).Perm ks)(e:ks.length=0):zs=[]:=Fg (by have:=h.length_eq; rw [Ej,e] at this; exact this)
end Kx
namespace Kx
open PySem PySem.Spec PyProof.Rows L2 Wd
def top (i:Nat):Stmt:=PySem.Challenge.pw_ringwords_k95_whole_holes_cross_nothing.main.body.getD i (.Pass ⟨0,0,0,0⟩)
theorem oi {α:Type}{us:List α}(h:us.length=1):∃ a0,us=[a0]:=by
 cases us with
 | nil=>cases h
 | cons a0 us =>
  cases us with
  | nil=>exact ⟨a0,rfl⟩
  | cons b us=>cases h
theorem vS {α:Type}{us:List α}(h:us.length=2):∃ a0 a1,us=[a0,a1]:=by
 cases us with
 | nil=>cases h
 | cons a0 us =>
  cases us with
  | nil=>cases h
  | cons a1 us =>
   cases us with
   | nil=>exact ⟨a0,a1,rfl⟩
   | cons b us=>cases h
theorem sL {α:Type}{us:List α}(h:us.length=3):∃ a0 a1 a2,us=[a0,a1,a2]:=by
 cases us with
 | nil=>cases h
 | cons a0 us =>
  cases us with
  | nil=>cases h
  | cons a1 us =>
   cases us with
   | nil=>cases h
   | cons a2 us =>
    cases us with
    | nil=>exact ⟨a0,a1,a2,rfl⟩
    | cons b us=>cases h
theorem yS {α:Type}{us:List α}(h:us.length=4):∃ a0 a1 a2 a3,us=[a0,a1,a2,a3]:=by
 cases us with
 | nil=>cases h
 | cons a0 us =>
  cases us with
  | nil=>cases h
  | cons a1 us =>
   cases us with
   | nil=>cases h
   | cons a2 us =>
    cases us with
    | nil=>cases h
    | cons a3 us =>
     cases us with
     | nil=>exact ⟨a0,a1,a2,a3,rfl⟩
     | cons b us=>cases h
theorem D4 {α:Type}{us:List α}(h:us.length=5):∃ a0 a1 a2 a3 a4,us=[a0,a1,a2,a3,a4]:=by
 cases us with
 | nil=>cases h
 | cons a0 us =>
  cases us with
  | nil=>cases h
  | cons a1 us =>
   cases us with
   | nil=>cases h
   | cons a2 us =>
    cases us with
    | nil=>cases h
    | cons a3 us =>
     cases us with
     | nil=>cases h
     | cons a4 us =>
      cases us with
      | nil=>exact ⟨a0,a1,a2,a3,a4,rfl⟩
      | cons b us=>cases h
section
variable {P:Program} {w:World} {K:PySem.W.Frag} {mg:Str→Option Value} {base:Heap} {aB:Addr}
abbrev rN:Stmt:=top 40
theorem ye:ay ["_law_feed_here","_law_many","_law_cell","_law_mixed","_law_found"] ["_law_feed_here","_law_many"] (ak rN):=⟨rfl,rfl,rfl,by decide +kernel,rfl,by decide +kernel,by decide +kernel⟩
def _root_.JM {a b c d e}:=@ag a b c d e
def _root_.JN {a b c d e f g h i}:=@fF a b c d e f g h i
def _root_.JO {a b c d e f g h}:=@aD a b c d e f g h
def _root_.JP {a b c d e f}:=@b8 a b c d e f
def _root_.JQ {a b c d e f g h}:=@bT a b c d e f g h
def _root_.JR {a b c d e f g h}:=@aK a b c d e f g h
def _root_.JS {a b} (c) {d e f g}:=@aA a b c d e f g
def _root_.JT {a b c d e f g}:=@aV a b c d e f g
def _root_.JU {a b c d e f g h i}:=@au a b c d e f g h i
def _root_.JV {a b c d e}:=@aa a b c d e
def _root_.JW {a b c}:=@aj a b c
def _root_.JX {a b c d}:=@az a b c d
theorem AV (D:Df K mg "_law_draw" rN)(T:Bt K w mg aB):Fnc P w K mg base "_law_draw" ["_law_feed_here","_law_many"] 1 gN:=by
 have sc:=ye
 refine D.ok sc (fun _ _ _ _ _ _ us hl=>by obtain ⟨_,_,rfl⟩:=vS hl;rfl) (fun vs H Q E h=>?_) (fun f Ks A outer s H vs Q E hr h=>?_)
 ·obtain ⟨d,m,rfl,_⟩:=h
  rfl
 ·obtain ⟨d,m,rfl,F,m0,m1,k⟩:=h
  have hu:=o7 hr
  refine ⟨_,(JM (JN hu (pv 0) aM (JO bt (JP hu (pv 0) aM (fun _ _=>rfl)) ai) rfl) (JM (JQ (JR dJ (JP hu (pv 0) aM (fun _ _=>rfl)) ai (aJ _)) (JM (JS (2) sc.nd rfl (Or.inl rfl) (JT ie (JP hu (pv 0) aM (fun _ _=>rfl)) (JO cV (JP hu (pv 0) aM (fun _ _=>rfl)) (JU bw (by rfl) T.len EK (JV (JP hu (pv 0) aM (fun _ _=>rfl)) af))) (fun _ _=>rfl))) (JM (JN hu (pv 0) aM (JO bt (JP hu (pv 0) aM (fun _ _=>rfl)) ai) rfl) (JM (JQ (JR dw (pv 2) (JO zd ai ai) (aJ _)) (JM (JS (3) sc.nd rfl (Or.inl rfl) (JO cV (JO cU (JO bt (JO cV (pv 2) ai) (JO cU ai (JP hu (pv 0) aM (fun _ _=>rfl)))) ai) ai)) (JM (JS (3) sc.nd rfl (Or.inl rfl) (JO cV (JO cU (JO bt (JO cx (pv 3) ai) (JO cU ai (JP hu (pv 0) aM (fun _ _=>rfl)))) ai) ai)) (JW (JX (JO cV (JO cx (pv 3) ai) (pv 1)))))) aW) (JW (JN hu (pv 0) aM (pv 2) rfl))))) aW) (JM (JS (4) sc.nd rfl (Or.inl rfl) (JO cV (JP hu (pv 0) aM (fun _ _=>rfl)) (pv 1))) (JM (JN hu (pv 0) aM (JO cx (JP hu (pv 0) aM (fun _ _=>rfl)) (pv 1)) rfl) (JW (JX (pv 4))))))),?_⟩
  obtain ⟨c,i,l,t,ns,hd,hc,KG,h64⟩:=F.ex
  have dc:c≠d:=vU hc hd (by intro z;cases z)
  have fin:∀ (r i' l' t':Int),0≤r→r < m→Q (.int r) (upd H d (.dK (fkv c i' l' t'))):=fun r i' l' t' h0 h1 =>
   k r _ h0 h1 ⟨c,i',l',t',ns,ah,by rw [aH dc];exact hc,KG,h64⟩ bC.upd
  have c1:∀ o,(upd H d o) c=some (.lst (ns.map V.int)):=fun o=>by rw [aH dc];exact hc
  have hl0:(0:Int) < ((ns.map V.int).length:Int):=by
   rw [Ej]
   have:=ET.mpr KG
   omega
  refine ⟨_,rfl,d,_,rfl,dg hd (pL c i l t),_,_,rfl,rfl,_,rfl,d,_,rfl,dp hd (fL c i l t) (zD c i l t _),?_⟩
  refine ⟨_,rfl,d,_,rfl,dg ah (jy c i l _),rfl,_,rfl,?_⟩
  refine tF (fun _=>?_) (fun _=>?_)
  rotate_left
  ·refine ⟨_,rfl,d,_,rfl,dg ah (jy c _ _ _),_,rfl,_,_,rfl,rfl,m0,?_⟩
   refine ⟨_,rfl,d,_,rfl,dg ah (jy c _ _ _),_,rfl,_,_,rfl,rfl,⟨m0,by omega⟩,_,rfl,d,_,rfl,dp ah (fL c _ _ _) (pM c _ _ _ _),?_⟩
   refine ⟨_,rfl,?_⟩
   rw [g6]
   exact fin _ _ _ _ (EM _ (by omega)) (Ez _ m0)
  obtain ⟨n,hn⟩:=wN KG i
  refine ⟨_,rfl,d,_,rfl,dg ah (pK c i l _),_,rfl,d,_,rfl,dg ah (Dh c i l _),_,rfl,d,_,rfl,dg ah (pK c i l _),c,_,rfl,.inl (SqL.of (c1 _)),_,_,rfl,rfl,hl0,c,_,_,_,rfl,rfl,SqL.of (c1 _),hn,?_⟩
  refine ⟨_,rfl,d,_,rfl,dg ah (Dh c i l _),_,_,rfl,rfl,_,rfl,d,_,rfl,dp ah (fL c i l _) (DR c i l _ _),?_⟩
  rw [g6]
  refine ⟨_,rfl,_,_,rfl,rfl,⟨by decide,by decide,by decide⟩,_,_,rfl,rfl,_,rfl,?_⟩
  refine tF (fun _=>?_) (fun _=>?_)
  ·refine ⟨_,rfl,_,_,rfl,rfl,(by show (0:Int) < 2147483629;decide),_,rfl,d,_,rfl,dg ah (pL c _ l _),_,_,rfl,rfl,.inl ⟨by decide,by decide⟩,_,_,rfl,rfl,_,_,rfl,rfl,.inr ⟨by decide,by decide⟩,_,_,rfl,rfl,(by show (0:Int) < 2147483647;decide),?_⟩
   refine ⟨_,rfl,_,_,rfl,rfl,⟨by decide,by decide⟩,_,rfl,d,_,rfl,dg ah (pL c _ l _),_,_,rfl,rfl,.inl ⟨by decide,by decide⟩,_,_,rfl,rfl,_,_,rfl,rfl,.inr ⟨by decide,by decide⟩,_,_,rfl,rfl,(by show (0:Int) < 2147483587;decide),?_⟩
   refine ⟨_,rfl,_,_,rfl,rfl,⟨by decide,by decide⟩,_,rfl,_,_,rfl,rfl,m0,?_⟩
   exact fin _ _ _ _ (EM _ (by omega)) (Ez _ m0)
  ·refine ⟨_,rfl,_,rfl,d,_,rfl,dp ah (fL c _ l _) (pM c _ l _ _),?_⟩
   rw [g6]
   refine ⟨_,rfl,d,_,rfl,dg ah (jy c _ _ _),_,rfl,_,_,rfl,rfl,m0,?_⟩
   refine ⟨_,rfl,d,_,rfl,dg ah (jy c _ _ _),_,rfl,_,_,rfl,rfl,⟨m0,by omega⟩,_,rfl,d,_,rfl,dp ah (fL c _ _ _) (pM c _ _ _ _),?_⟩
   refine ⟨_,rfl,?_⟩
   rw [g6]
   exact fin _ _ _ _ (EM _ (by omega)) (Ez _ m0)
abbrev rO:Stmt:=top 39
theorem yf:ay ["_law_script"] ["_law_script"] (ak rO):=⟨rfl,rfl,rfl,by decide +kernel,rfl,by decide +kernel,by decide +kernel⟩
def _root_.JY {a b c d e f g h i j}:=@aU a b c d e f g h i j
def _root_.JZ {a b c}:=@a9 a b c
def _root_.J0 {a b c d}:=@bM a b c d
def _root_.J1 {a b c d e f g h}:=@bz a b c d e f g h
theorem AW (D:Df K mg "_law_feed" rO)(T:Bt K w mg aB):Fnc P w K mg base "_law_feed" ["_law_script"] 1 (pN K):=by
 have sc:=yf
 refine D.ok sc (fun _ _ _ _ _ _ us hl=>by obtain ⟨_,rfl⟩:=oi hl;rfl) (fun vs H Q E h=>?_) (fun f Ks A outer s H vs Q E hr h=>?_)
 ·obtain ⟨a,ns,rfl,_⟩:=h
  rfl
 ·obtain ⟨a,ns,rfl,hS,hlen,k⟩:=h
  have hu:=o7 hr
  refine ⟨_,(JW (JX (@wC _ _ _ _ _ (@fg _ _ _ _ _ _ _ _ _ aM (JO ve (@dS _ _ _ _ _ _ _ _ _ jo (by rfl) T.list zE (JV (JY ke (pv 0) bf (JZ ai)) af) (by decide) (by decide) (by rfl) (by rfl)) (JO zq (J0 (JV ai af)) (@dS _ _ _ _ _ _ _ _ _ oG (by rfl) T.int B7 (JV (J1 dJ (JU bw (by rfl) T.len EK (JV (pv 0) af)) ai (aJ _)) af) (by decide) (by decide) (by rfl) (by rfl)))) (@fg _ _ _ _ _ _ _ _ _ aM ai (@fg _ _ _ _ _ _ _ _ _ aM ai (@fg _ _ _ _ _ _ _ _ _ aM ai wA)))) rfl rfl (by simp) (by decide)))),?_⟩
  intro p hp
  have s1:aE H (upd H p (.dK [])):=aE.new hp
  have p1:(upd H p (.dK [])) p=some (.dK []):=ah
  generalize upd H p (.dK [])=H1 at s1 p1
  refine ⟨_,rfl,_,rfl,a,_,rfl,s1.seq hS,fun q1 hq1=>?_⟩
  rw [B_ hlen]
  have s2:aE H1 (upd H1 q1 (.lst (ns.map V.int))):=aE.new hq1
  have l2:(upd H1 q1 (.lst (ns.map V.int))) q1=some (.lst (ns.map V.int)):=ah
  generalize upd H1 q1 (.lst (ns.map V.int))=H2 at s2 l2 ⊢
  refine ⟨q1,_,rfl,.inl (SqL.of l2),fun q2 hq2=>?_⟩
  have s3:aE H2 (upd H2 q2 (.lst (ns.map V.int))):=aE.new hq2
  have l3:(upd H2 q2 (.lst (ns.map V.int))) q2=some (.lst (ns.map V.int)):=ah
  generalize upd H2 q2 (.lst (ns.map V.int))=H3 at s3 l3 ⊢
  refine ⟨(by show 1≤sizeLine;decide),fun q4 hq4=>?_⟩
  have s4:aE H3 (upd H3 q4 (.lst [V.int 0])):=aE.new hq4
  have l4:(upd H3 q4 (.lst [V.int 0])) q4=some (.lst [V.int 0]):=ah
  generalize upd H3 q4 (.lst [V.int 0])=H4 at s4 l4 ⊢
  have s14:aE H H4:=((s1.trans s2).trans s3).trans s4
  refine ⟨_,rfl,a,_,rfl,.inl (s14.seq hS),rfl,.inr ⟨_,rfl,q4,_,_,rfl,rfl,l4,?_,?_,?_,fun q5 hq5=>?_⟩⟩
  ·split <;> decide
  ·split <;> decide
  ·split <;> decide
  have s5:aE H4 (upd H4 q5 (.lst (List.replicate ((if decide (V.int ((ns.map V.int).length:Int)=V.int 0)=true then 1 else 0:Int)).toNat [V.int 0]).flatten)):=aE.new hq5
  have l5:(upd H4 q5 (.lst (List.replicate ((if decide (V.int ((ns.map V.int).length:Int)=V.int 0)=true then 1 else 0:Int)).toNat [V.int 0]).flatten)) q5=_:=ah
  generalize upd H4 q5 (.lst (List.replicate ((if decide (V.int ((ns.map V.int).length:Int)=V.int 0)=true then 1 else 0:Int)).toNat [V.int 0]).flatten)=H5 at s5 l5 ⊢
  refine ⟨q2,q5,_,_,rfl,rfl,s5 _ _ (s4 _ _ l3),l5,?_,fun q6 hq6=>?_⟩
  ·have e:(List.replicate ((if decide (V.int ((ns.map V.int).length:Int)=V.int 0)=true then 1 else 0:Int)).toNat [V.int 0]).flatten.length≤1:=by split <;> decide
   have e2:sizeLine=16777216:=Hm
   have e3:(ns.map V.int).length=ns.length:=Ej ..
   omega
  have el:ns.map V.int++(List.replicate ((if decide (V.int ((ns.map V.int).length:Int)=V.int 0)=true then 1 else 0:Int)).toNat [V.int 0]).flatten=(if ns=[] then [0] else ns).map V.int:=by
   cases ns with
   | nil=>rfl
   | cons n r =>
    have en:¬ (decide (V.int (((n::r).map V.int).length:Int)=V.int 0)=true):=by
     rw [Ej,EF]
     simp only [V.int.injEq,Gy]
     omega
    rw [if_neg en,if_neg (by simp)]
    simp
  rw [el]
  have s6:aE H5 (upd H5 q6 (.lst ((if ns=[] then [0] else ns).map V.int))):=aE.new hq6
  have l6:(upd H5 q6 (.lst ((if ns=[] then [0] else ns).map V.int))) q6=_:=ah
  generalize upd H5 q6 (.lst ((if ns=[] then [0] else ns).map V.int))=H6 at s6 l6 ⊢
  have p6:H6 p=some (.dK []):=s6 _ _ (s5 _ _ (s4 _ _ (s3 _ _ (s2 _ _ p1))))
  have pq:q6≠p:=vU l6 p6 (by intro z;cases z)
  refine ⟨p6,fkv q6 0 0 0,rfl,(by show 4≤15;decide),?_⟩
  rw [B5]
  refine k p _ hp ⟨q6,0,0,0,(if ns=[] then [0] else ns),ah,by rw [aH pq];exact l6,?_,?_⟩ fun b o e=>?_
  ·split
   ·simp
   ·assumption
  ·split
   ·decide
   ·omega
  ·rw [aH (ax e hp)]
   exact s6 _ _ (s5 _ _ (s14 _ _ e))
abbrev rP:Stmt:=top 6
theorem yg:ay ["word"] ["word"] (ak rP):=⟨rfl,rfl,rfl,by decide +kernel,rfl,by decide +kernel,by decide +kernel⟩
def _root_.J3 {a b c d e f g h i j k l}:=@dM a b c d e f g h i j k l
def _root_.J4 {a b c d e f g} (h i j) {k l m n}:=@eK a b c d e f g h i j k l m n
def _root_.J5 {a b c d e f}:=@dX a b c d e f
def _root_.J6 {a b} (c) {d}:=@aR a b c d
theorem AX (D:Df K mg "back" rP)(T:Bt K w mg aB):Fnc P w K mg base "back" ["word"] 1 nt:=by
 have sc:=yg
 refine D.ok sc (fun _ _ _ _ _ _ us hl=>by obtain ⟨_,rfl⟩:=oi hl;rfl) (fun vs H Q E h=>?_) (fun f Ks A outer s H vs Q E hr h=>?_)
 ·obtain ⟨u,rfl,_⟩:=h
  rfl
 ·obtain ⟨u,rfl,hu,k⟩:=h
  have KF:=aP
  refine ⟨_,(JW (JX (J3 EJ HH HJ kh aM (JV (J4 (["letter"]) (["letter"]) ([]) (J5 rfl (by kernel_rfl)) rfl (@wG _ _ _ _ _ _ rfl T.reversed nq (JV (pv 0) af) (by rfl)) (fun _ _ _ _=>J6 (0) (show (["letter"]:List Str).Nodup from by decide +kernel) rfl (Or.inl rfl)) (fun _ _ _ _=>cC) (fun _ _ _ _=>by (exact (@ki _ _ _ _ _ _ _ _ _ T.dB rfl rfl rfl T.mgB (pv 0) (fun _ _=>rfl) (by decide))))) af)))),?_⟩
  refine ⟨rfl,_,rfl,_,rfl,(by rw [ae];omega),?_⟩
  refine cD (own:=["letter"]) (cap:=[]) (J:=BV (toS u)) u.length (fun i ys σ H'=>H'=H∧ys=tN ((bk u).take i)∧∃ v,σ = [v]) ⟨rfl,rfl,none,rfl⟩ (fun i ys σ H' hi ⟨_,e,_⟩=>?_) (by omega) (fun i ys σ H' hi _=>?_) (fun ys σ H' _=>?_) ?_ ?_
  ·rw [e,fM,Es];omega
  ·show i < (toS u).cps.size;rw [bo];exact hi
  ·show _=(toS u).cps.size;rw [bo]
  ·rintro i ys σ H1 x H2 N hi ⟨rfl,rfl,v,rfl⟩ ⟨rfl,c,hc,rfl⟩ hN
   rw [bo] at hc
   obtain ⟨y,hy,e⟩:=cZ hc
   obtain ⟨t,ht⟩:=T.gB y
   refine ⟨_,rfl,toS [y],toS [inv y],t,by rw [e],ht,hN _ _ _ ⟨rfl,?_,_,rfl⟩⟩
   rw [dZ (vn u hi hy),← jz]
   rfl
  ·rintro ys σ H1 l ⟨rfl,rfl,v,rfl⟩ hl
   rw [E9 (by rw [bj];exact Ei _)]
   refine ⟨_,l,(bk u).map fun x=>toS [x],rfl,rfl,SqL.of (by rw [ah,lS]),jB _ (by rw [bj];omega),?_⟩
   rw [jA]
   exact k _ (aE.new hl)
abbrev k9:Stmt:=top 41
theorem uR:ay ["_law_word","_law_found","_law_sign"] ["_law_word"] (ak k9):=⟨rfl,rfl,rfl,by decide +kernel,rfl,by decide +kernel,by decide +kernel⟩
def _root_.J7 {a b c d e f g h}:=@cM a b c d e f g h
def _root_.J8 {a b c d e f g h}:=@de a b c d e f g h
theorem yh (D:Df K mg "_law_back" k9):Fnc P w K mg base "_law_back" ["_law_word"] 1 nt:=by
 have sc:=uR
 refine D.ok sc (fun _ _ _ _ _ _ us hl=>by obtain ⟨_,rfl⟩:=oi hl;rfl) (fun vs H Q E h=>?_) (fun f Ks A outer s H vs Q E hr h=>?_)
 ·obtain ⟨u,rfl,_⟩:=h
  rfl
 ·obtain ⟨u,rfl,hu,k⟩:=h
  have KF:=aP
  refine ⟨_,(JM (JS (1) sc.nd rfl (Or.inl rfl) aM) (JM (J7 Fe rfl (@jt _ _ _ _ (pv 0)) (J6 (2) sc.nd rfl (Or.inl rfl)) (JW (JS (1) sc.nd rfl (Or.inl rfl) (JO aY (J8 (JR oE (pv 2) aM rfl) (@lH _ _ _ _ _ _ _ _ _ EJ Je Jf lO (pv 2) (by rfl) (by rfl)) (@lH _ _ _ _ _ _ _ _ _ EJ Jg Jh lP (pv 2) (by rfl) (by rfl))) (pv 1))))) (JW (JX (pv 1))))),?_⟩
  refine ⟨_,rfl,_,rfl,o_ (z:=toS u) (fun i σ H'=>∃ v,σ = [some (tx u),some (tx (bk (u.take i))),v]∧H'=H) ⟨none,(by rw [List.take_zero];show _=[some (tx u),some (tx []),none];rw [gL];rfl),rfl⟩ ?_ ?_⟩
  ·rintro i c σ H1 hc ⟨v,rfl,rfl⟩
   obtain ⟨x,hx,e⟩:=cZ hc
   rw [e]
   have hi:i < u.length:=(Ed.mp hx).1
   have fin:∀ z,z=toS [inv x]→∃ v',[some (tx u),some (V.str (z++toS (bk (u.take i)))),some (V.str (toS [x]))]=[some (tx u),some (tx (bk (u.take (i+1)))),v']∧H1=H1:=fun z ez=>by
    refine ⟨some (V.str (toS [x])),?_,rfl⟩
    rw [ez,dF,dZ hx,ph]
    rfl
   have room:∀ z,z=toS [inv x]→z.length+(toS (bk (u.take i))).length≤sizeLine:=fun z ez=>by
    rw [ez,ae,ae,bj,Es]
    simp only [ES]
    omega
   refine ⟨_,rfl,_,_,rfl,rfl,_,rfl,?_⟩
   rw [tL]
   refine tF (fun h=>?_) (fun h=>?_)
   ·have h:x.val < 6:=by simpa using h
    exact ⟨_,rfl,rfl,_,rfl,rfl,(by rw [ae];show 1≤5592405;decide),_,rfl,_,_,rfl,rfl,room _ (fK h),fin _ (fK h)⟩
   ·have h:¬ x.val < 6:=by simpa using h
    exact ⟨_,rfl,rfl,_,rfl,rfl,(by rw [ae];show 1≤5592405;decide),_,rfl,_,_,rfl,rfl,room _ (jx h),fin _ (jx h)⟩
  ·rintro σ H1 ⟨v,rfl,rfl⟩
   rw [bo,GF]
   exact ⟨_,rfl,k _ (aE.refl _)⟩
abbrev rQ:Stmt:=top 42
theorem yi:ay ["_law_word","_law_at"] ["_law_word"] (ak rQ):=⟨rfl,rfl,rfl,by decide +kernel,rfl,by decide +kernel,by decide +kernel⟩
def _root_.J9 {a b c d e f g h i j k}:=@aC a b c d e f g h i j k
theorem AY (D:Df K mg "_law_reduced" rQ)(T:Bt K w mg aB)(Ky:Fnc P w K mg base "_law_back" ["_law_word"] 1 nt):Fnc P w K mg base "_law_reduced" ["_law_word"] 2 wR:=by
 have sc:=yi
 refine D.ok sc (fun _ _ _ _ _ _ us hl=>by obtain ⟨_,rfl⟩:=oi hl;rfl) (fun vs H Q E h=>?_) (fun f Ks A outer s H vs Q E hr h=>?_)
 ·obtain ⟨u,rfl,_⟩:=h
  rfl
 ·obtain ⟨u0,rfl,hu,k⟩:=h
  have KF:=aP
  refine ⟨_,(JM (JS (1) sc.nd rfl (Or.inl rfl) ai) (JM (@e_ _ _ _ _ _ _ Fe (JR dw (JO bt (pv 1) ai) (JU ao (by rfl) T.len EK (JV (pv 0) af)) (aJ _)) (JW (JQ (JR dJ (JT cN (pv 0) (JO bt (pv 1) ai) (fun _ _=>rfl)) (J9 Ky hr (by decide) rfl (JV (JT cN (pv 0) (pv 1) (fun _ _=>rfl)) af)) (aJ _)) (JM (JS (0) sc.nd rfl (Or.inl rfl) (JO aY (JY bV (pv 0) bf (JZ (pv 1))) (JY bV (pv 0) (JZ (JO bt (pv 1) ai)) bf))) (JW (JS (1) sc.nd rfl (Or.inl rfl) (JU (@oF _ rfl) (by rfl) T.max wO (JV ai (JV (JO cg (pv 1) ai) af)))))) (JW (JS (1) sc.nd rfl (Or.inl rfl) (JO bt (pv 1) ai)))))) (JW (JX (pv 0))))),?_⟩
  refine ⟨fun m σ H'=>∃ (u:List L) (j:Nat),σ = [some (tx u),some (.int j)]∧aE H H'∧red u=red u0∧vj (j+1) u∧u.length≤5000∧m=2*u.length - j,⟨_,u0,0,rfl,aE.refl _,rfl,(fun i x y hi=>by omega),hu,rfl⟩,?_⟩
  rintro m σ H1 ⟨u,j,rfl,s1,hr0,hrd,hlu,rfl⟩
  refine ⟨_,rfl,_,_,rfl,rfl,_,rfl,_,rfl,(by rw [ae];omega),_,_,rfl,rfl,_,rfl,?_⟩
  rw [ae]
  refine tF (fun h=>?_) (fun h=>?_)
  ·have h:j+1 < u.length:=by
    have h:(j:Int)+1 < (u.length:Int):=by simpa using h
    omega
   have hx:u[j]? = some u[j]:=fu (by omega)
   have hy:u[j+1]? = some u[j+1]:=fu h
   generalize u[j]=x at hx
   generalize u[j+1]=y at hy
   refine ⟨_,fun σ' H' q=>q,?_⟩
   refine ⟨_,rfl,_,rfl,_,_,rfl,rfl,_,_,cp y,rfl,rfl,(by rw [ae];omega),bN (k:=j+1) (by omega) hy,?_⟩
   refine ⟨_,rfl,_,rfl,_,_,cp x,rfl,rfl,(by rw [ae];omega),bN (k:=j) rfl hx,[x],rfl,(by show 1≤5000;decide),fun H2 s2=>?_⟩
   refine ⟨rfl,_,rfl,?_⟩
   show if decide (tx [y]=tx (bk [x]))=true then _ else _
   rw [pF,dE]
   refine tF (fun h2=>?_) (fun h2=>?_)
   ·have h2:y=inv x:=by simpa using h2
    subst h2
    refine ⟨_,rfl,_,rfl,_,rfl,_,rfl,(by rw [ae];omega),_,rfl,_,rfl,_,_,rfl,rfl,_,rfl,_,rfl,(by rw [ae];omega),_,_,rfl,rfl,?_,?_⟩
    ·rw [aO,aO,ae,ae]
     have h1:=gM u none (some (j:Int))
     have h2:=gM u (some ((j:Int)+2)) none
     omega
    ·refine ⟨_,rfl,_,_,rfl,rfl,_,_,rfl,?_⟩
     have el:(u.take j++u.drop (j+2)).length=u.length - 2:=by rw [Eb,Es,Fb];omega
     refine ⟨2*(u.take j++u.drop (j+2)).length - (j - 1),by omega,u.take j++u.drop (j+2),j - 1,?_,s1.trans s2,by rw [wI hx hy];exact hr0,tJ hrd,by omega,rfl⟩
     rw [aO,aO,dY u (by omega),iB u (by omega),dF]
     have e1:((j:Int)).toNat=j:=by omega
     have e2:((j:Int)+2).toNat=j+2:=by omega
     have e3:(if ((j:Int) - 1) > 0 then ((j:Int) - 1) else 0)=((j - 1:Nat):Int):=by split <;> omega
     rw [e1,e2,e3]
     rfl
   ·have h2:¬ y=inv x:=by simpa using h2
    refine ⟨_,rfl,_,_,rfl,rfl,?_⟩
    exact ⟨2*u.length - j - 1,by omega,u,j+1,rfl,s1.trans s2,hr0,pA hrd (fun a b ha hb=>by rw [hx] at ha;rw [hy] at hb;cases ha;cases hb;exact h2),hlu,by omega⟩
  ·have h:¬ j+1 < u.length:=by
    have h:¬ (j:Int)+1 < (u.length:Int):=by simpa using h
    omega
   refine ⟨_,rfl,?_⟩
   have e:red u0=u:=by rw [← hr0,fJ (by omega) hrd]
   rw [← e]
   exact k _ s1
abbrev ja:Stmt:=top 3
theorem rR:ay ["thing"] ["thing"] (ak ja):=⟨rfl,rfl,rfl,by decide +kernel,rfl,by decide +kernel,by decide +kernel⟩
def _root_.J_ {a b c d e f g}:=@jf a b c d e f g
def _root_.Ka {a b c d e}:=@gC a b c d e
theorem uS (D:Df K mg "is_letter" ja)(T:Bt K w mg aB)(B:Bk K aB):Fnc P w K mg base "is_letter" ["thing"] 1 (iE K):=by
 have sc:=rR
 refine D.ok sc (fun _ _ _ _ _ _ us hl=>by obtain ⟨_,rfl⟩:=oi hl;rfl) (fun vs H Q E h=>?_) (fun f Ks A outer s H vs Q E hr h=>?_)
 ·obtain ⟨x,rfl,_⟩:=h
  rfl
 ·obtain ⟨x,rfl,hx,k⟩:=h
  refine ⟨_,(JW (JX (J_ (JU (@lY _ (K) rfl) (by rfl) T.isinstance eZ (JV (pv 0) (JV (@ow _ _ (.ty "str") _ _ rfl T.str zH rfl (by decide) (by decide)) af))) (Ka (@zJ _ _ _ _ _ _ _ _ _ T.dB rfl rfl B.lo rfl T.mgB (pv 0) (by decide)))))),?_⟩
  cases hx with
  | str z hz =>
   obtain ⟨r,hr1,hr2⟩:=B.all z
   refine ⟨_,rfl,_,_,_,_,rfl,.str z,pV,true,rfl,?_⟩
   refine gO rfl ⟨_,rfl,z,r,rfl,hr1,?_⟩
   rw [hr2]
   exact k
  | oth ty e ns =>
   refine ⟨_,rfl,_,_,_,_,rfl,ty,e,false,rfl,?_⟩
   rw [tU ns] at k
   exact gP rfl k
abbrev yj:Stmt:=top 5
theorem AZ:ay ["letter"] ["letter"] (ak yj):=⟨rfl,rfl,rfl,by decide +kernel,rfl,by decide +kernel,by decide +kernel⟩
theorem CG (D:Df K mg "number_of" yj)(T:Bt K w mg aB)(S:∃ t,mg "SMALL" = some (.str "abcdef" t)):Fnc P w K mg base "number_of" ["letter"] 1 wX:=by
 have sc:=AZ
 refine D.ok sc (fun _ _ _ _ _ _ us hl=>by obtain ⟨_,rfl⟩:=oi hl;rfl) (fun vs H Q E h=>?_) (fun f Ks A outer s H vs Q E hr h=>?_)
 ·obtain ⟨x,rfl,_⟩:=h
  rfl
 ·obtain ⟨x,rfl,k⟩:=h
  obtain ⟨tS,mgS⟩:=S
  refine ⟨_,(JW (JX (J3 EJ Fz FA cH (@hJ _ _ (.str "abcdef") _ _ rfl mgS ⟨_,rfl⟩ (by decide)) (JV (@lH _ _ _ _ _ _ _ _ _ EJ Jg Jh lP (pv 0) (by rfl) (by rfl)) af)))),?_⟩
  exact ⟨rfl,_,rfl,rfl,_,rfl,rfl,(by rw [ae];show 1≤5592405;decide),_,_,_,_,rfl,rfl,zN x,k⟩
abbrev rS:Stmt:=top 4
theorem yk:ay ["many","thing"] ["many","thing"] (ak rS):=⟨rfl,rfl,rfl,by decide +kernel,rfl,by decide +kernel,by decide +kernel⟩
def _root_.Kb {a b c d}:=@fq a b c d
def _root_.Kc {a b c}:=@bU a b c
theorem A0 (D:Df K mg "is_word" rS)(T:Bt K w mg aB)(KW:Fnc P w K mg base "is_letter" ["thing"] 1 (iE K))(F_num:Fnc P w K mg base "number_of" ["letter"] 1 wX):Fnc P w K mg base "is_word" ["many","thing"] 2 (wY K):=by
 have sc:=yk
 refine D.ok sc (fun _ _ _ _ _ _ us hl=>by obtain ⟨_,_,rfl⟩:=vS hl;rfl) (fun vs H Q E h=>?_) (fun f Ks A outer s H vs Q E hr h=>?_)
 ·obtain ⟨m,x,rfl,_⟩:=h
  rfl
 ·obtain ⟨m,x,rfl,m1,m2,hx,k⟩:=h
  have KF:=aP
  refine ⟨_,(JM (JQ (Kb (Kc (JU (@lY _ (K) rfl) (by rfl) T.isinstance eZ (JV (pv 1) (JV (@ow _ _ (.ty "str") _ _ rfl T.str zH rfl (by decide) (by decide)) af))) (fun _=>rfl))) (JW (JX dI)) aW) (JW (JX (JU (@dG _ rfl) (by rfl) T.all zG (JV (J4 (["sign","many"]) (["sign"]) ([0]) (J5 rfl (by kernel_rfl)) rfl (@jt _ _ _ _ (pv 1)) (fun _ _ _ _=>J6 (0) (show (["sign","many"]:List Str).Nodup from by decide +kernel) rfl (Or.inl rfl)) (fun _ _ _ _=>cC) (fun _ _ _ _=>by (exact J_ (by (exact (J9 KW hr (by decide) rfl (JV (pv 0) af)))) (by (exact Ka (by (exact J1 dw (by (exact (J9 F_num hr (by decide) rfl (JV (pv 0) af)))) (by (exact (pv 1))) (aJ _)))))))) af))))),?_⟩
  cases hx with
  | oth ty e ns =>
   refine ⟨_,rfl,_,_,_,_,rfl,ty,e,_,rfl,?_⟩
   rw [pU ns] at k
   exact k _ (aE.refl _)
  | str z hz =>
   refine ⟨_,rfl,_,_,_,_,rfl,.str z,pV,_,rfl,?_⟩
   refine ⟨_,rfl,_,rfl,?_⟩
   refine cD (own:=["sign"]) (cap:=[0]) (J:=Its z) z.cps.size (fun i ys σ H'=>∃ v:Option V,σ = [v,some (.int m)]∧ys=(((z.cps.toList).take i).map (okC m)).map V.bl∧H'=H) ⟨none,rfl,rfl,rfl⟩ (fun i ys σ H' hi ⟨v,_,e,_⟩=>?_) (by have:z.cps.size≤500:=hz;omega) (fun i ys σ H' hi _=>hi) (fun ys σ H' _=>rfl) ?_ ?_
   ·rw [e,Ej,Ej,Es];omega
   ·rintro i ys σ H1 y H2 N hi ⟨v,rfl,rfl,rfl⟩ ⟨rfl,c,hc,rfl⟩ hN
    have hc':z.cps.toList[i]? = some c:=by simpa using hc
    have fin:∀ b,b=okC m c→N ((((z.cps.toList).take i).map (okC m)).map V.bl++[.bl b]) [some (.str ⟨#[c]⟩),some (.int m)] H2:=fun b eb=>hN _ _ _ ⟨_,rfl,by rw [GS,hc',E_,E_,eb];rfl,rfl⟩
    refine ⟨_,rfl,_,rfl,.str _ (by show 1≤500;decide),_,rfl,?_⟩
    cases hl:(ltr c).isSome with
    | false =>
     refine gP hl (fin _ (zP hl).symm)
    | true =>
     obtain ⟨x,e1,e2⟩:=pY hl
     refine gO hl ⟨_,rfl,x,by rw [e1];rfl,_,rfl,?_⟩
     refine ⟨_,_,rfl,rfl,fin _ ?_⟩
     rw [e2,zO]
   ·rintro ys σ H1 l ⟨v,rfl,rfl,rfl⟩ hl
    refine ⟨l,_,rfl,SqL.of ah,?_⟩
    rw [E9 (by simp),Ir]
    exact k _ (aE.new hl)
abbrev k_:Stmt:=top 7
theorem uT:ay ["word"] ["word"] (ak k_):=⟨rfl,rfl,rfl,by decide +kernel,rfl,by decide +kernel,by decide +kernel⟩
theorem ym (D:Df K mg "is_reduced" k_)(T:Bt K w mg aB):Fnc P w K mg base "is_reduced" ["word"] 1 ko:=by
 have sc:=uT
 refine D.ok sc (fun _ _ _ _ _ _ us hl=>by obtain ⟨_,rfl⟩:=oi hl;rfl) (fun vs H Q E h=>?_) (fun f Ks A outer s H vs Q E hr h=>?_)
 ·obtain ⟨u,rfl,_⟩:=h
  rfl
 ·obtain ⟨u,rfl,hu,k⟩:=h
  have KF:=aP
  refine ⟨_,(JW (JX (JU (@dG _ rfl) (by rfl) T.all zG (JV (J4 (["letter","behind"]) (["letter","behind"]) ([]) (J5 rfl (by kernel_rfl)) rfl (@zL _ _ _ _ _ _ _ _ _ rfl T.zip B9 (JV (pv 0) (JV (JY bV (pv 0) (JZ ai) bf) af)) (by rfl) (by rfl)) (fun _ _ _ _=>@wV _ (K) _ _ _ (2) _ rfl rfl (@lA _ _ _ _ _ (J6 (0) (show (["letter","behind"]:List Str).Nodup from by decide +kernel) rfl (Or.inl rfl)) (@lA _ _ _ _ _ (J6 (1) (show (["letter","behind"]:List Str).Nodup from by decide +kernel) rfl (Or.inl rfl)) v7 (by rfl)) (by rfl)) (by rfl) (by rfl)) (fun _ _ _ _=>cC) (fun _ _ _ _=>by (exact J1 h_ (by (exact (@ki _ _ _ _ _ _ _ _ _ T.dB rfl rfl rfl T.mgB (pv 0) (fun _ _=>rfl) (by decide)))) (by (exact (pv 1))) (aJ _)))) af)))),?_⟩
  refine ⟨_,rfl,_,rfl,_,rfl,_,rfl,(by rw [ae];omega),_,_,rfl,asc _,?_,?_⟩
  ·rw [aO];exact asc _
  rw [aO,iB _ (by decide)]
  have hm:min (toS u).cps.size (toS (u.drop 1)).cps.size=u.length - 1:=by rw [bo,bo,Fb];omega
  refine cD (own:=["letter","behind"]) (cap:=[]) (J:=Itz (toS u) (toS (u.drop 1))) (u.length - 1) (fun i ys σ H'=>∃ v1 v2:Option V,σ = [v1,v2]∧ys=((chk u).take i).map V.bl∧aE H H') ⟨none,none,rfl,rfl,aE.refl _⟩ (fun i ys σ H' hi ⟨_,_,_,e,_⟩=>?_) (by omega) (fun i ys σ H' hi _=>?_) (fun ys σ H' _=>?_) ?_ ?_
  ·rw [e,Ej,Es];omega
  ·show i < min _ _;rw [hm];exact hi
  ·show _=min _ _;rw [hm]
  ·rintro i ys σ H1 v H2 N hi ⟨v1,v2,rfl,rfl,s1⟩ ⟨t,c,d,hn,rfl,hc,hd,rfl⟩ hN
   obtain ⟨x,hx,e⟩:=cZ hc
   obtain ⟨y,hy,e2⟩:=cZ hd
   obtain ⟨tk,hb⟩:=T.gB x
   refine ⟨t,_,rfl,SqT.of ah,rfl,_,_,rfl,_,_,rfl,rfl,?_⟩
   refine ⟨_,rfl,toS [x],toS [inv x],tk,by rw [e],hb,_,rfl,rfl,hN _ _ _ ⟨_,_,rfl,?_,s1.then hn⟩⟩
   rw [GS,pX hx hy,E_,e2]
   rfl
  ·rintro ys σ H1 l ⟨v1,v2,rfl,rfl,s1⟩ hl
   refine ⟨l,_,rfl,SqL.of ah,?_⟩
   rw [E9 (by rw [gQ];exact Ei _),w4]
   exact k _ (s1.then hl)
abbrev gj:Stmt:=top 8
theorem n8:ay ["word"] ["word"] (ak gj):=⟨rfl,rfl,rfl,by decide +kernel,rfl,by decide +kernel,by decide +kernel⟩
def _root_.Ke {a b c d e f}:=@j9 a b c d e f
theorem rT (D:Df K mg "is_round" gj)(T:Bt K w mg aB)(K6:Fnc P w K mg base "is_reduced" ["word"] 1 ko):Fnc P w K mg base "is_round" ["word"] 2 fN:=by
 have sc:=n8
 refine D.ok sc (fun _ _ _ _ _ _ us hl=>by obtain ⟨_,rfl⟩:=oi hl;rfl) (fun vs H Q E h=>?_) (fun f Ks A outer s H vs Q E hr h=>?_)
 ·obtain ⟨u,rfl,_⟩:=h
  rfl
 ·obtain ⟨u,rfl,hu,k⟩:=h
  have KF:=aP
  refine ⟨_,(JW (JX (J_ (J9 K6 hr (by decide) rfl (JV (pv 0) af)) (Ka (@BA _ _ _ _ _ _ _ (J1 dJ (pv 0) aM (aJ _)) (Ka (J1 h_ (JT cN (pv 0) (Ke ft ai) (fun _ _=>rfl)) (@ki _ _ _ _ _ _ _ _ _ T.dB rfl rfl rfl T.mgB (JT cN (pv 0) ai (fun _ _=>rfl)) (fun _ _=>rfl) (by decide)) (aJ _)))))))),?_⟩
  refine ⟨_,rfl,u,rfl,hu,fun H1 s1=>⟨_,rfl,?_⟩⟩
  by_cases hrd:red u=u
  ·refine gO (Ee hrd) ?_
   by_cases KG:u=[]
   ·subst KG
    refine ⟨_,rfl,rfl,_,rfl,gO (by rw [gL];simp) ?_⟩
    have q:=k _ s1
    rw [wZ] at q
    exact q
   ·obtain ⟨x,z,h0,h1,h2,hq⟩:=tX KG
    obtain ⟨tk,hb⟩:=T.gB x
    refine ⟨_,rfl,rfl,_,rfl,gP (by rw [← gL];simpa using fun e=>KG (gK e)) ?_⟩
    refine ⟨_,rfl,_,rfl,_,_,_,rfl,rfl,(by rw [ae];omega),h2,_,rfl,_,_,_,rfl,rfl,(by rw [ae];omega),bN (k:=0) rfl h0,toS [x],toS [inv x],tk,rfl,hb,rfl,?_⟩
    have q:=k _ s1
    rw [hq,Ee hrd,EZ] at q
    have e:decide (V.str ⟨#[cp z]⟩=V.str (toS [inv x]))=decide (z=inv x):=Gj.mpr (vq (x:=z) (y:=inv x))
    rw [e]
    exact q
  ·refine gP (Ea hrd) ?_
   have q:=k _ s1
   have e:sI u=false:=by unfold sI;rw [Ea hrd];rfl
   rw [e] at q
   exact q
abbrev jb:Stmt:=top 14
theorem rV:ay ["word","length"] ["word"] (ak jb):=⟨rfl,rfl,rfl,by decide +kernel,rfl,by decide +kernel,by decide +kernel⟩
def _root_.Kf {a b c d e}:=@bu a b c d e
theorem uU (D:Df K mg "rooted" jb)(T:Bt K w mg aB):Fnc P w K mg base "rooted" ["word"] 1 vR:=by
 have sc:=rV
 refine D.ok sc (fun _ _ _ _ _ _ us hl=>by obtain ⟨_,rfl⟩:=oi hl;rfl) (fun vs H Q E h=>?_) (fun f Ks A outer s H vs Q E hr h=>?_)
 ·obtain ⟨u,rfl,_⟩:=h
  rfl
 ·obtain ⟨u,rfl,KG,hu,k⟩:=h
  have KF:=aP
  obtain ⟨p,R⟩:=xf KG
  have hp:=R.pos
  have hpl:=R.le
  refine ⟨_,(JM (JS (1) sc.nd rfl (Or.inl rfl) (J3 EJ PySem.F.slot_str_find PySem.F.type_str_find wU (JO aY (pv 0) (pv 0)) (JV (pv 0) (JV ai af)))) (JW (JX (Kf (JV (JY bV (pv 0) bf (JZ (pv 1))) (JV (JO cx (JU ao (by rfl) T.len EK (JV (pv 0) af)) (pv 1)) af)))))),?_⟩
  refine ⟨_,rfl,_,rfl,_,_,rfl,rfl,(by rw [ae];omega),rfl,_,rfl,_,_,_,rfl,rfl,?_⟩
  rw [dk,rH R]
  refine ⟨_,rfl,_,rfl,_,rfl,_,rfl,(by rw [ae];omega),_,rfl,_,rfl,(by rw [ae];omega),_,rfl,_,_,rfl,rfl,⟨by omega,by omega⟩,(by show 2≤sizeLine;decide),fun t ht=>?_⟩
  rw [aO,dY u (by omega),E2,ae]
  refine k p t _ R ?_ (aE.new ht)
  rw [ah]
  rfl
abbrev ll:Stmt:=top 19
theorem uV:ay ["surface","thing"] ["surface","thing"] (ak ll):=⟨rfl,rfl,rfl,by decide +kernel,rfl,by decide +kernel,by decide +kernel⟩
def _root_.Kg {a b c}:=@PW.pt a b c
def _root_.Kh {a b c d e f g}:=@mZ a b c d e f g
theorem yn (D:Df K mg "is_way" ll)(T:Bt K w mg aB)(M:∃ t,mg "MOST_WAY_LETTERS" = some (.int 30 t))(F_word:Fnc P w K mg base "is_word" ["many","thing"] 2 (wY K))(KM:Fnc P w K mg base "is_round" ["word"] 2 fN)(KU:Fnc P w K mg base "rooted" ["word"] 1 vR):Fnc P w K mg base "is_way" ["surface","thing"] 3 (AQ K):=by
 have sc:=uV
 refine D.ok sc (fun _ _ _ _ _ _ us hl=>by obtain ⟨_,_,rfl⟩:=vS hl;rfl) (fun vs H Q E h=>?_) (fun f Ks A outer s H vs Q E hr h=>?_)
 ·obtain ⟨u,k,x,rfl,_⟩:=h
  rfl
 ·obtain ⟨u,k,x,rfl,U,hx,q⟩:=h
  have KF:=aP
  obtain ⟨tW,mgW⟩:=M
  have hl:=U.len
  have h1:=U.lo
  have h6:=U.hi
  refine ⟨_,(JM (JQ (Kg (Kh (Kb (Kc (J9 F_word hr (by decide) rfl (JV (JO cx (JU ao (by rfl) T.len EK (JV (pv 0) af)) ai) (JV (pv 1) af))) (fun _=>rfl))) (@gu _ _ _ _ (Kb (@sV _ _ _ _ _ _ _ _ _ _ _ _ ze ze ai (JU ao (by rfl) T.len EK (JV (pv 1) af)) (@hJ _ _ (.int 30) _ _ rfl mgW ⟨_,rfl⟩ (by decide)) (by with_unfolding_all rfl)))))) (JW (JX dI)) aW) (JW (JX (J_ (J9 KM hr (by decide) rfl (JV (pv 1) af)) (Ka (J1 dJ (JT aX (J9 KU hr (by decide) rfl (JV (pv 1) af)) ai (fun _ _=>rfl)) ai (aJ _))))))),?_⟩
  have e:((toS u).length:Int) / 2=(k:Int):=by rw [ae];omega
  refine ⟨_,rfl,_,rfl,(by rw [ae];omega),_,_,rfl,rfl,⟨by decide,by decide⟩,_,rfl,(k:Int),x,(by rw [← e];rfl),by omega,by omega,hx,fun H1 s1=>⟨_,rfl,?_⟩⟩
  cases hw:wdV (k:Int) x with
  | false =>
   have:xk k x=false:=by
    cases hx with
    | oth ty e ns=>exact ue ns
    | str z hz=>exact x8 hw
   rw [this] at q
   exact nkF (DZ (zx (q _ s1)))
  | true =>
   obtain ⟨z,ex,hz⟩:=tY hx hw
   subst ex
   have hw:isW (k:Int) z=true:=hw
   obtain ⟨v,rfl⟩:=AR h6 hw
   rw [ae] at hz
   rw [rJ hw] at q
   unfold Bu at q
   have KS:(toS v).length≤sizeLine:=by rw [ae];omega
   refine nkT (yQ ⟨_,rfl,toS v,rfl,KS,_,_,rfl,rfl,_,rfl,?_⟩)
   by_cases g1:1≤v.length
   ·rw [Ee g1,EZ] at q
    refine gO (by rw [ae];exact Ee (by omega)) ⟨_,_,rfl,rfl,_,rfl,?_⟩
    by_cases g2:v.length≤30
    ·rw [Ee g2,EZ] at q
     have KG:v≠[]:=ET.mp g1
     refine gP (by rw [ae,Ee (by omega)];rfl) ?_
     refine ⟨_,rfl,v,rfl,by omega,fun H2 s2=>⟨_,rfl,?_⟩⟩
     cases hr:sI v with
     | false =>
      rw [hr,EV] at q
      exact gP rfl (q _ (s1.trans s2))
     | true =>
      rw [hr,EZ] at q
      refine gO rfl ⟨_,rfl,v,rfl,KG,by omega,fun p t H3 R ht s3=>?_⟩
      refine ⟨t,_,_,_,rfl,rfl,SqT.of ht,rfl,rfl,?_⟩
      have e2:decide (V.int ((v.length / p:Nat):Int)=V.int 1)=nI v:=by
       rw [qm R,EA,Eh,Eh,← uf R]
       constructor
       ·intro e
        have:=V.int.inj e
        omega
       ·intro e
        rw [e]
        rfl
      show Q (.bl (decide (V.int ((v.length / p:Nat):Int)=V.int 1))) H3
      rw [e2]
      exact q _ (s1.trans (s2.trans s3))
    ·rw [Ea g2,EV,EV] at q
     exact gO (by rw [ae,Ea (by omega)];rfl) (q _ s1)
   ·rw [Ea g1,EV,EV,EV] at q
    exact gP (by rw [ae];exact Ea (by omega)) ⟨_,rfl,nkF (yP (q _ s1))⟩
abbrev rX:Stmt:=top 27
theorem yo:ay ["ways","walk","step","way","letter"] ["ways","walk","step"] (ak rX):=⟨rfl,rfl,rfl,by decide +kernel,rfl,by decide +kernel,by decide +kernel⟩
theorem A2 (D:Df K mg "met" rX)(T:Bt K w mg aB)(Kp:Fnc P w K mg base "back" ["word"] 1 nt):Fnc P w K mg base "met" ["ways","walk","step"] 2 jR:=by
 have sc:=yo
 refine D.ok sc (fun _ _ _ _ _ _ us hl=>by obtain ⟨_,_,_,rfl⟩:=sL hl;rfl) (fun vs H Q E h=>?_) (fun f Ks A outer s H vs Q E hr h=>?_)
 ·obtain ⟨a,x,n,W,s,wy,kk,rfl,_⟩:=h
  rfl
 ·obtain ⟨a,x,n,W,s,wy,kk,rfl,hW,hp,i0,i1,hwy,k⟩:=h
  have KF:=aP
  obtain ⟨_,hat,_,l30,lp,_⟩:=hW.ok.get i0 i1
  have k:∀ H',aE H H'→Q (tx [sgZ (wyZ W s.1) s.2 wy kk]) H':=k
  generalize wyZ W s.1=v at hat l30 lp k
  refine ⟨_,(JM (JS (3) sc.nd rfl (Or.inl rfl) (JT aX (pv 0) (JT aX (pv 1) ai (fun _ _=>rfl)) (fun _ _=>rfl))) (JM (JS (4) sc.nd rfl (Or.inl rfl) (JT cN (pv 3) (JO cV (JO bt (JT aX (pv 1) ai (fun _ _=>rfl)) (JO cU (JT aX (pv 1) ai (fun _ _=>rfl)) (pv 2))) (JU ao (by rfl) T.len EK (JV (pv 3) af))) (fun _ _=>rfl))) (JW (JX (J8 (JR dJ (JT aX (pv 1) ai (fun _ _=>rfl)) ai (aJ _)) (pv 4) (J9 Kp hr (by decide) rfl (JV (pv 4) af))))))),?_⟩
  refine ⟨_,rfl,_,rfl,x,_,_,_,rfl,rfl,SqT.of hp,rfl,a,_,_,_,rfl,rfl,SqT.of hW.at_,hat,?_⟩
  have cm:Bn wy kk:=.inl ⟨by rcases hwy with rfl | rfl <;> decide,by rcases hwy with rfl | rfl <;> decide⟩
  refine ⟨_,rfl,_,rfl,x,_,_,_,rfl,rfl,SqT.of hp,rfl,_,rfl,x,_,_,_,rfl,rfl,SqT.of hp,rfl,_,rfl,_,_,rfl,rfl,cm,_,_,rfl,rfl,_,rfl,_,rfl,(by rw [ae];omega),_,_,rfl,rfl,(by rw [ae];omega),?_⟩
  rw [ae]
  refine ⟨_,_,_,rfl,rfl,(by rw [ae];omega),D2 (by omega),?_⟩
  refine ⟨_,rfl,x,_,_,_,rfl,rfl,SqT.of hp,rfl,?_⟩
  refine ⟨rfl,_,rfl,?_⟩
  rcases hwy with rfl | rfl
  ·refine gO rfl ⟨_,rfl,?_⟩
   have:=k _ (aE.refl _)
   unfold sgZ at this
   rw [if_pos rfl] at this
   exact this
  ·refine gP rfl ⟨_,rfl,[atZ v (s.2 + -1*kk)],rfl,(by show 1≤_;decide),fun H' s'=>?_⟩
   have:=k _ s'
   unfold sgZ at this
   rw [if_neg (by decide)] at this
   exact this
abbrev CH:Stmt:=top 20
theorem CI:ay ["surface","start","end"] ["surface","start","end"] (ak CH):=⟨rfl,rfl,rfl,by decide +kernel,rfl,by decide +kernel,by decide +kernel⟩
theorem D5 (D:Df K mg "round_from" CH)(T:Bt K w mg aB):Fnc P w K mg base "round_from" ["surface","start","end"] 1 Bw:=by
 have sc:=CI
 refine D.ok sc (fun _ _ _ _ _ _ us hl=>by obtain ⟨_,_,_,rfl⟩:=sL hl;rfl) (fun vs H Q E h=>?_) (fun f Ks A outer s H vs Q E hr h=>?_)
 ·obtain ⟨u,k,a,b,rfl,_⟩:=h
  rfl
 ·obtain ⟨u,k,a,b,rfl,U,ha,hb,q⟩:=h
  have KF:=aP
  have hl:=U.len
  have h1:=U.lo
  have h6:=U.hi
  obtain ⟨r1,o1⟩:=gR ha
  obtain ⟨r2,o2⟩:=gR hb
  refine ⟨_,(JW (JX (JO cV (JO cg (J3 EJ Fz FA cH (pv 0) (JV (pv 2) af)) (J3 EJ Fz FA cH (pv 0) (JV (pv 1) af))) (JU ao (by rfl) T.len EK (JV (pv 0) af))))),?_⟩
  refine ⟨_,rfl,rfl,_,rfl,_,_,_,r2,rfl,rfl,o2,_,rfl,rfl,_,rfl,_,_,_,r1,rfl,rfl,o1,_,_,rfl,rfl,_,rfl,_,rfl,(by rw [ae];omega),_,_,rfl,rfl,(by rw [ae];omega),?_⟩
  rw [ae]
  exact q
abbrev yp:Stmt:=top 37
theorem A3:ay ["surface","start","end","other"] ["surface","start","end","other"] (ak yp):=⟨rfl,rfl,rfl,by decide +kernel,rfl,by decide +kernel,by decide +kernel⟩
theorem CJ (D:Df K mg "is_first" yp)(T:Bt K w mg aB)(F_rf:Fnc P w K mg base "round_from" ["surface","start","end"] 1 Bw):Fnc P w K mg base "is_first" ["surface","start","end","other"] 2 xK:=by
 have sc:=A3
 refine D.ok sc (fun _ _ _ _ _ _ us hl=>by obtain ⟨_,_,_,_,rfl⟩:=yS hl;rfl) (fun vs H Q E h=>?_) (fun f Ks A outer s H vs Q E hr h=>?_)
 ·obtain ⟨u,k,s,a,b,rfl,_⟩:=h
  rfl
 ·obtain ⟨u,kk,s,a,b,rfl,U,hs,ha,hb,k⟩:=h
  refine ⟨_,(JW (JX (J1 dw (J9 F_rf hr (by decide) rfl (JV (pv 0) (JV (pv 1) (JV (pv 2) af)))) (J9 F_rf hr (by decide) rfl (JV (pv 0) (JV (pv 1) (JV (pv 3) af)))) (aJ _)))),?_⟩
  exact ⟨_,rfl,_,rfl,_,rfl,u,kk,s,a,rfl,U,hs,ha,_,rfl,_,rfl,_,rfl,u,kk,s,b,rfl,U,hs,hb,_,_,rfl,rfl,k _ (aE.refl _)⟩
abbrev CK:Stmt:=top 32
theorem CL:ay ["ways","strand","walk"] ["ways","strand"] (ak CK):=⟨rfl,rfl,rfl,by decide +kernel,rfl,by decide +kernel,by decide +kernel⟩
theorem D6 (D:Df K mg "chord_ends" CK)(T:Bt K w mg aB)(Kp:Fnc P w K mg base "back" ["word"] 1 nt)(Kt:Fnc P w K mg base "met" ["ways","walk","step"] 2 jR):Fnc P w K mg base "chord_ends" ["ways","strand"] 3 Cv:=by
 have sc:=CL
 refine D.ok sc (fun _ _ _ _ _ _ us hl=>by obtain ⟨_,_,rfl⟩:=vS hl;rfl) (fun vs H Q E h=>?_) (fun f Ks A outer s H vs Q E hr h=>?_)
 ·obtain ⟨a,x,n,W,s,rfl,_⟩:=h
  rfl
 ·obtain ⟨a,x,n,W,s,rfl,hW,hx,ok,k⟩:=h
  have KF:=aP
  refine ⟨_,(JM (JS (2) sc.nd rfl (Or.inl rfl) (Kf (JV (JT aX (pv 1) ai (fun _ _=>rfl)) (JV (JT aX (pv 1) ai (fun _ _=>rfl)) (JV ai af))))) (JW (JX (JO aY (J9 Kp hr (by decide) rfl (JV (J9 Kt hr (by decide) rfl (JV (pv 0) (JV (pv 2) (JV ai af)))) af)) (J9 Kt hr (by decide) rfl (JV (pv 0) (JV (pv 2) (JV ai af)))))))),?_⟩
  refine ⟨_,rfl,x,_,_,_,rfl,rfl,SqT.of hx,rfl,_,rfl,x,_,_,_,rfl,rfl,SqT.of hx,rfl,(bS (n:=3) (by decide)),fun p hp=>?_⟩
  have s1:aE H (upd H p (.tup [.int s.1,.int s.2,.int 1])):=aE.new hp
  have f1:(upd H p (.tup [.int s.1,.int s.2,.int 1])) p=some (.tup [.int s.1,.int s.2,.int 1]):=ah
  generalize upd H p (.tup [.int s.1,.int s.2,.int 1])=H1 at s1 f1 ⊢
  refine ⟨_,rfl,_,rfl,a,p,n,W,s,1,0,rfl,hW.same s1,f1,ok.1,ok.2.1,.inl rfl,fun H2 s2=>⟨[fZ W s 1 0],rfl,(by show 1≤_;decide),fun H3 s3=>?_⟩⟩
  have s13:=(s1.trans s2).trans s3
  refine ⟨_,rfl,_,rfl,a,p,n,W,s,1,1,rfl,hW.same s13,s3 _ _ (s2 _ _ f1),ok.1,ok.2.1,.inl rfl,fun H4 s4=>⟨_,_,rfl,rfl,(by rw [ae,ae,bj];show 1+1≤_;omega),?_⟩⟩
  rw [dF,dE]
  exact k _ (s13.trans s4)
abbrev yq:Stmt:=top 35
theorem A4:ay ["ways","one","other","many"] ["ways","one","other"] (ak yq):=⟨rfl,rfl,rfl,by decide +kernel,rfl,by decide +kernel,by decide +kernel⟩
theorem CM (D:Df K mg "stretch" yq)(T:Bt K w mg aB)(Kt:Fnc P w K mg base "met" ["ways","walk","step"] 2 jR):Fnc P w K mg base "stretch" ["ways","one","other"] 3 mJ:=by
 have sc:=A4
 refine D.ok sc (fun _ _ _ _ _ _ us hl=>by obtain ⟨_,_,_,rfl⟩:=sL hl;rfl) (fun vs H Q E h=>?_) (fun f Ks A outer s H vs Q E hr h=>?_)
 ·obtain ⟨a,x,y,n,W,s,t,wy,rfl,_⟩:=h
  rfl
 ·obtain ⟨a,x,y,n,W,s,t,wy,rfl,hW,hx,hy,os,ot,hwy,k⟩:=h
  have KF:=aP
  obtain ⟨_,_,Rw,lw30,lwp,_⟩:=hW.ok.get os.1 os.2.1
  obtain ⟨_,_,Rv,lv30,lvp,_⟩:=hW.ok.get ot.1 ot.2.1
  refine ⟨_,(JM (JQ (JR dJ (J9 Kt hr (by decide) rfl (JV (pv 0) (JV (pv 1) (JV (Ke ft ai) af)))) (J9 Kt hr (by decide) rfl (JV (pv 0) (JV (pv 2) (JV (Ke ft ai) af)))) (aJ _)) (JW (JX ai)) aW) (JM (JS (3) sc.nd rfl (Or.inl rfl) ai) (JM (@e_ _ _ _ _ _ _ Fe (JR dJ (J9 Kt hr (by decide) rfl (JV (pv 0) (JV (pv 1) (JV (pv 3) af)))) (J9 Kt hr (by decide) rfl (JV (pv 0) (JV (pv 2) (JV (pv 3) af)))) (aJ _)) (JW (@u7 _ _ (3) _ _ _ _ _ _ sc.nd rfl (Or.inl rfl) ai u9 (by first | exact .inl rfl | exact .inr rfl | assumption)))) (JW (JX (pv 3)))))),?_⟩
  refine ⟨_,rfl,_,rfl,_,rfl,a,x,n,W,s,1,-1,rfl,hW,hx,os.1,os.2.1,.inl rfl,fun H1 s1=>?_⟩
  refine ⟨_,rfl,_,rfl,_,rfl,a,y,n,W,t,wy,-1,rfl,hW.same s1,s1 _ _ hy,ot.1,ot.2.1,hwy,fun H2 s2=>⟨rfl,_,rfl,?_⟩⟩
  have s12:=s1.trans s2
  rw [pF]
  by_cases e:fZ W s 1 (-1)=fZ W t wy (-1)
  ·rw [Ee (by rw [e])]
   refine yP ?_
   have:=k _ s12
   rw [if_pos e] at this
   exact this
  ·rw [Ea (fun z=>e (Gm z).1)]
   refine mF ?_
   rw [if_neg e] at k
   obtain ⟨hend,KG⟩:=vI Rw.ne Rv.ne hwy e
   obtain ⟨_,_,hal,_⟩:=c8 (fZ W s 1) (fZ W t wy) ((wyZ W s.1).length+(wyZ W t.1).length) 0
   have KG:fZ W s 1 (nZ W s t wy)≠fZ W t wy (nZ W s t wy):=KG
   have hal:∀ j:Nat,0≤j→j < nZ W s t wy→fZ W s 1 j=fZ W t wy j:=hal
   refine ⟨fun m σ H'=>∃ i:Nat,σ = [some (.ref a),some (.ref x),some (.ref y),some (.int (i:Int))]∧i≤nZ W s t wy∧m=nZ W s t wy - i∧aE H H',⟨_,0,rfl,E1 _,rfl,s12⟩,?_⟩
   rintro m σ H3 ⟨i,rfl,hi,rfl,s3⟩
   refine ⟨_,rfl,_,rfl,_,rfl,a,x,n,W,s,1,(i:Int),rfl,hW.same s3,s3 _ _ hx,os.1,os.2.1,.inl rfl,fun H4 s4=>?_⟩
   refine ⟨_,rfl,_,rfl,_,rfl,a,y,n,W,t,wy,(i:Int),rfl,hW.same (s3.trans s4),(s3.trans s4) _ _ hy,ot.1,ot.2.1,hwy,fun H5 s5=>⟨rfl,_,rfl,?_⟩⟩
   have s35:=(s3.trans s4).trans s5
   rw [pF]
   by_cases c:i < nZ W s t wy
   ·refine tF (fun _=>?_) (fun z=>?_)
    ·refine ⟨_,fun σ' H' q=>q,?_⟩
     refine ⟨_,rfl,_,_,rfl,rfl,?_⟩
     exact ⟨_,Nat.sub_lt_sub_left c (Gg i),i+1,(by rw [show (((i+1:Nat):Int))=(i:Int)+1 by omega];rfl),c,rfl,s35⟩
    ·rw [hal i (E1 _) c] at z
     simp at z
   ·obtain rfl:i=nZ W s t wy:=by omega
    refine tF (fun z=>?_) (fun _=>?_)
    ·exact absurd (by simpa using z) KG
    ·exact ⟨_,rfl,k _ s35⟩
abbrev rY:Stmt:=top 36
theorem yr:ay ["surface","ways","one","other","many","end","ahead","begin"] ["surface","ways","one","other","many"] (ak rY):=⟨rfl,rfl,rfl,by decide +kernel,rfl,by decide +kernel,by decide +kernel⟩
theorem A5 (D:Df K mg "is_parted" rY)(T:Bt K w mg aB)(Kp:Fnc P w K mg base "back" ["word"] 1 nt)(Kt:Fnc P w K mg base "met" ["ways","walk","step"] 2 jR)(F_fst:Fnc P w K mg base "is_first" ["surface","start","end","other"] 2 xK):Fnc P w K mg base "is_parted" ["surface","ways","one","other","many"] 3 mK:=by
 have sc:=yr
 refine D.ok sc (fun _ _ _ _ _ _ us hl=>by obtain ⟨_,_,_,_,_,rfl⟩:=D4 hl;rfl) (fun vs H Q E h=>?_) (fun f Ks A outer s H vs Q E hr h=>?_)
 ·obtain ⟨u,a,x,y,n,m,W,s,t,wy,rfl,_⟩:=h
  rfl
 ·obtain ⟨u,a,x,y,n,m,W,s,t,wy,rfl,U,hW,hx,hy,os,ot,hwy,k⟩:=h
  have one:1≤100000:=by decide
  refine ⟨_,(JM (JQ (JR dJ (pv 4) ai (aJ _)) (JW (JX dI)) aW) (JM (JS (5) sc.nd rfl (Or.inl rfl) (J9 Kp hr (by decide) rfl (JV (J9 Kt hr (by decide) rfl (JV (pv 1) (JV (pv 2) (JV (JO cg (pv 4) ai) af)))) af))) (JM (JS (6) sc.nd rfl (Or.inl rfl) (J9 F_fst hr (by decide) rfl (JV (pv 0) (JV (pv 5) (JV (J9 Kt hr (by decide) rfl (JV (pv 1) (JV (pv 2) (JV (pv 4) af)))) (JV (J9 Kt hr (by decide) rfl (JV (pv 1) (JV (pv 3) (JV (pv 4) af)))) af)))))) (JM (JS (7) sc.nd rfl (Or.inl rfl) (J9 Kt hr (by decide) rfl (JV (pv 1) (JV (pv 2) (JV ai af))))) (JW (JX (J1 dJ (pv 6) (J9 F_fst hr (by decide) rfl (JV (pv 0) (JV (pv 7) (JV (J9 Kp hr (by decide) rfl (JV (J9 Kt hr (by decide) rfl (JV (pv 1) (JV (pv 2) (JV (Ke ft ai) af)))) af)) (JV (J9 Kp hr (by decide) rfl (JV (J9 Kt hr (by decide) rfl (JV (pv 1) (JV (pv 3) (JV (Ke ft ai) af)))) af)) af))))) (aJ _)))))))),?_⟩
  refine ⟨_,rfl,rfl,_,rfl,?_⟩
  by_cases e:m=0
  ·subst e
   exact yP (k _ (aE.refl _))
  ·have ez:decide (V.int (m:Int)=V.int 0)=false:=Ea (fun z=>e (by injection z with z;omega))
   rw [ez]
   refine mF ?_
   have ws:=fun {H'} (q:aE H H')=>hW.same q
   refine ⟨_,rfl,_,rfl,_,rfl,_,_,rfl,rfl,a,x,n,W,s,1,_,rfl,hW,hx,os.1,os.2.1,.inl rfl,fun H1 s1=>?_⟩
   refine ⟨[fZ W s 1 ((m:Int) - 1)],rfl,(by show 1≤_;decide),fun H2 s2=>?_⟩
   rw [dE]
   have q2:=s1.trans s2
   refine ⟨_,rfl,_,rfl,_,rfl,_,rfl,_,rfl,a,x,n,W,s,1,_,rfl,ws q2,q2 _ _ hx,os.1,os.2.1,.inl rfl,fun H3 s3=>?_⟩
   have q3:=q2.trans s3
   refine ⟨_,rfl,_,rfl,_,rfl,a,y,n,W,t,wy,_,rfl,ws q3,q3 _ _ hy,ot.1,ot.2.1,hwy,fun H4 s4=>?_⟩
   have q4:=q3.trans s4
   refine ⟨u,n,_,_,_,rfl,U,(gr U hW.ok os 1 _).2,(gr U hW.ok os 1 _).1,(gr U hW.ok ot wy _).1,fun H5 s5=>?_⟩
   have q5:=q4.trans s5
   refine ⟨_,rfl,_,rfl,a,x,n,W,s,1,_,rfl,ws q5,q5 _ _ hx,os.1,os.2.1,.inl rfl,fun H6 s6=>?_⟩
   have q6:=q5.trans s6
   refine ⟨_,rfl,_,rfl,_,rfl,_,rfl,_,rfl,_,rfl,a,x,n,W,s,1,_,rfl,ws q6,q6 _ _ hx,os.1,os.2.1,.inl rfl,fun H7 s7=>?_⟩
   refine ⟨[fZ W s 1 (-1)],rfl,(by show 1≤_;decide),fun H8 s8=>?_⟩
   rw [dE]
   have q8:=(q6.trans s7).trans s8
   refine ⟨_,rfl,_,rfl,_,rfl,a,y,n,W,t,wy,_,rfl,ws q8,q8 _ _ hy,ot.1,ot.2.1,hwy,fun H9 s9=>?_⟩
   refine ⟨[fZ W t wy (-1)],rfl,(by show 1≤_;decide),fun H10 s10=>?_⟩
   rw [dE]
   have q10:=(q8.trans s9).trans s10
   refine ⟨u,n,_,_,_,rfl,U,(gr U hW.ok os 1 _).1,(gr U hW.ok os 1 _).2,(gr U hW.ok ot wy _).2,fun H11 s11=>?_⟩
   have:=k _ (q10.trans s11)
   unfold jS at this
   rw [Ee (show 0 < m by omega),EZ] at this
   refine ⟨rfl,?_⟩
   refine cast (Ey (fun b=>Q (.bl b) H11) ?_) this
   exact Cw _ _
abbrev yt:Stmt:=top 33
theorem A6:ay ["surface","ways","one","other","mine","theirs","many"] ["surface","ways","one","other"] (ak yt):=⟨rfl,rfl,rfl,by decide +kernel,rfl,by decide +kernel,by decide +kernel⟩
def _root_.Ki {a b c d e}:=@sH a b c d e
theorem CN (D:Df K mg "along_at" yt)(T:Bt K w mg aB)(K2:Fnc P w K mg base "stretch" ["ways","one","other"] 3 mJ)(KL:Fnc P w K mg base "is_parted" ["surface","ways","one","other","many"] 3 mK):Fnc P w K mg base "along_at" ["surface","ways","one","other"] 4 (uH xM):=by
 have sc:=A6
 refine D.ok sc (fun _ _ _ _ _ _ us hl=>by obtain ⟨_,_,_,_,rfl⟩:=yS hl;rfl) (fun vs H Q E h=>?_) (fun f Ks A outer s H vs Q E hr h=>?_)
 ·obtain ⟨u,a,x,y,n,W,s,t,rfl,_⟩:=h
  rfl
 ·obtain ⟨u,a,x,y,n,W,s,t,rfl,U,hW,hx,hy,os,ot,k⟩:=h
  refine ⟨_,(JM (JS (4) sc.nd rfl (Or.inl rfl) (Kf (JV (JT aX (pv 2) ai (fun _ _=>rfl)) (JV (JT aX (pv 2) ai (fun _ _=>rfl)) (JV ai af))))) (JM (JS (5) sc.nd rfl (Or.inl rfl) (Kf (JV (JT aX (pv 3) ai (fun _ _=>rfl)) (JV (JT aX (pv 3) ai (fun _ _=>rfl)) (JV ai af))))) (JM (JS (6) sc.nd rfl (Or.inl rfl) (J9 K2 hr (by decide) rfl (JV (pv 1) (JV (pv 4) (JV (pv 5) af))))) (JW (JX (J8 (Kc (J9 KL hr (by decide) rfl (Ki (pv 0) (Ki (pv 1) (Ki (pv 4) (Ki (pv 5) (Ki (pv 6) af)))))) (fun _=>rfl)) (J0 (JV (Kf (JV aM (JV (pv 2) (JV (pv 3) (JV (pv 6) af))))) af)) (J0 af))))))),?_⟩
  refine ⟨_,rfl,x,_,_,_,rfl,rfl,SqT.of hx,rfl,_,rfl,x,_,_,_,rfl,rfl,SqT.of hx,rfl,(by show 3≤_;decide),fun p hp=>?_⟩
  have s1:aE H (upd H p (.tup [.int s.1,.int s.2,.int 1])):=aE.new hp
  have f1:(upd H p (.tup [.int s.1,.int s.2,.int 1])) p=some (.tup [.int s.1,.int s.2,.int 1]):=ah
  generalize upd H p (.tup [.int s.1,.int s.2,.int 1])=H1 at s1 f1 ⊢
  refine ⟨_,rfl,y,_,_,_,rfl,rfl,SqT.of (s1 _ _ hy),rfl,_,rfl,y,_,_,_,rfl,rfl,SqT.of (s1 _ _ hy),rfl,(by show 3≤_;decide),fun q hq=>?_⟩
  have s2:aE H1 (upd H1 q (.tup [.int t.1,.int t.2,.int 1])):=aE.new hq
  have f2:(upd H1 q (.tup [.int t.1,.int t.2,.int 1])) q=some (.tup [.int t.1,.int t.2,.int 1]):=ah
  generalize upd H1 q (.tup [.int t.1,.int t.2,.int 1])=H2 at s2 f2 ⊢
  have q2:=s1.trans s2
  refine ⟨_,rfl,_,rfl,_,rfl,a,p,q,n,W,s,t,1,rfl,hW.same q2,s2 _ _ f1,f2,os,ot,.inl rfl,fun H3 s3=>?_⟩
  have q3:=q2.trans s3
  refine ⟨_,rfl,_,rfl,_,rfl,_,rfl,_,rfl,u,a,p,q,n,_,W,s,t,1,rfl,U,hW.same q3,s3 _ _ (s2 _ _ f1),s3 _ _ f2,os,ot,.inl rfl,fun H4 s4=>⟨_,rfl,?_⟩⟩
  rw [mL hW.ok os ot (.inl rfl)]
  have q4:=q3.trans s4
  by_cases c:ptB u (fZ W s 1) (fZ W t 1) (nZ W s t 1)=true
  ·have hb:¬ fZ W s 1 (-1)=fZ W t 1 (-1):=fun z=>by rw [eI z] at c;cases c
   rw [c,if_neg hb]
   refine Ct ⟨_,rfl,_,rfl,_,rfl,(by show 4≤_;decide),fun r hr'=>⟨(by show 1≤_;decide),fun l hl=>?_⟩⟩
   refine kQ (m:=.a s t (nZ W s t 1)) q4 hr' hl ⟨x,y,ah,(q4.trans (aE.new hr')) _ _ hx,(q4.trans (aE.new hr')) _ _ hy⟩ k ?_
   unfold xM
   rw [c]
   rfl
  ·rw [GI] at c
   rw [c]
   refine Cu ⟨(by show 0≤_;decide),fun l hl=>?_⟩
   refine jT q4 hl k ?_
   unfold xM
   rw [c]
   rfl
abbrev yu:Stmt:=top 34
theorem A7:ay ["surface","ways","one","other","mine","theirs","many"] ["surface","ways","one","other"] (ak yu):=⟨rfl,rfl,rfl,by decide +kernel,rfl,by decide +kernel,by decide +kernel⟩
theorem CO (D:Df K mg "against_at" yu)(T:Bt K w mg aB)(K2:Fnc P w K mg base "stretch" ["ways","one","other"] 3 mJ)(KL:Fnc P w K mg base "is_parted" ["surface","ways","one","other","many"] 3 mK):Fnc P w K mg base "against_at" ["surface","ways","one","other"] 4 (uH oh):=by
 have sc:=A7
 refine D.ok sc (fun _ _ _ _ _ _ us hl=>by obtain ⟨_,_,_,_,rfl⟩:=yS hl;rfl) (fun vs H Q E h=>?_) (fun f Ks A outer s H vs Q E hr h=>?_)
 ·obtain ⟨u,a,x,y,n,W,s,t,rfl,_⟩:=h
  rfl
 ·obtain ⟨u,a,x,y,n,W,s,t,rfl,U,hW,hx,hy,os,ot,k⟩:=h
  have KF:=aP
  obtain ⟨_,hat,_,l30,lp,_⟩:=hW.ok.get ot.1 ot.2.1
  refine ⟨_,(JM (JS (4) sc.nd rfl (Or.inl rfl) (Kf (JV (JT aX (pv 2) ai (fun _ _=>rfl)) (JV (JT aX (pv 2) ai (fun _ _=>rfl)) (JV ai af))))) (JM (JS (5) sc.nd rfl (Or.inl rfl) (Kf (JV (JT aX (pv 3) ai (fun _ _=>rfl)) (JV (JT aX (pv 3) ai (fun _ _=>rfl)) (JV (Ke ft ai) af))))) (JM (JS (6) sc.nd rfl (Or.inl rfl) (J9 K2 hr (by decide) rfl (JV (pv 1) (JV (pv 4) (JV (pv 5) af))))) (JM (JQ (JR (@Au _ (K) rfl (by exact hr.units)) (pv 2) (Kf (JV (JT aX (pv 3) ai (fun _ _=>rfl)) (JV (JO cV (JO bt (JO cg (JT aX (pv 3) ai (fun _ _=>rfl)) (pv 6)) ai) (JU ao (by rfl) T.len EK (JV (JT aX (pv 1) (JT aX (pv 3) ai (fun _ _=>rfl)) (fun _ _=>rfl)) af))) af))) (aJ _)) (JW (JX (J0 af))) aW) (JW (JX (J8 (Kc (J9 KL hr (by decide) rfl (Ki (pv 0) (Ki (pv 1) (Ki (pv 4) (Ki (pv 5) (Ki (pv 6) af)))))) (fun _=>rfl)) (J0 (JV (Kf (JV aM (JV (pv 2) (JV (pv 3) (JV (pv 6) af))))) af)) (J0 af)))))))),?_⟩
  refine ⟨_,rfl,x,_,_,_,rfl,rfl,SqT.of hx,rfl,_,rfl,x,_,_,_,rfl,rfl,SqT.of hx,rfl,(by show 3≤_;decide),fun p hp=>?_⟩
  have s1:aE H (upd H p (.tup [.int s.1,.int s.2,.int 1])):=aE.new hp
  have f1:(upd H p (.tup [.int s.1,.int s.2,.int 1])) p=some (.tup [.int s.1,.int s.2,.int 1]):=ah
  generalize upd H p (.tup [.int s.1,.int s.2,.int 1])=H1 at s1 f1 ⊢
  refine ⟨_,rfl,y,_,_,_,rfl,rfl,SqT.of (s1 _ _ hy),rfl,_,rfl,y,_,_,_,rfl,rfl,SqT.of (s1 _ _ hy),rfl,_,rfl,(by show 3≤_;decide),fun q hq=>?_⟩
  have s2:aE H1 (upd H1 q (.tup [.int t.1,.int t.2,.int (-1)])):=aE.new hq
  have f2:(upd H1 q (.tup [.int t.1,.int t.2,.int (-1)])) q=some (.tup [.int t.1,.int t.2,.int (-1)]):=ah
  generalize upd H1 q (.tup [.int t.1,.int t.2,.int (-1)])=H2 at s2 f2 ⊢
  have q2:=s1.trans s2
  refine ⟨_,rfl,_,rfl,_,rfl,a,p,q,n,W,s,t,-1,rfl,hW.same q2,s2 _ _ f1,f2,os,ot,.inr rfl,fun H3 s3=>?_⟩
  have q3:=q2.trans s3
  have hy3:=q3 _ _ hy
  generalize hm:(if fZ W s 1 (-1)=fZ W t (-1) (-1) then 0 else nZ W s t (-1))=m
  refine ⟨_,rfl,_,rfl,y,_,_,_,rfl,rfl,SqT.of hy3,rfl,_,rfl,y,_,_,_,rfl,rfl,SqT.of hy3,rfl,_,rfl,_,_,rfl,rfl,_,_,rfl,rfl,_,rfl,_,rfl,y,_,_,_,rfl,rfl,SqT.of hy3,rfl,?_⟩
  refine ⟨a,_,_,_,rfl,rfl,SqT.of (q3 _ _ hW.at_),hat,_,rfl,(by rw [ae];omega),_,_,rfl,rfl,(by rw [ae];omega),(by show 2≤_;decide),fun r hr'=>?_⟩
  rw [ae]
  have s4:aE H3 (upd H3 r (.tup [.int t.1,.int ((t.2 - (m:Int)+1) % ((wyZ W t.1).length:Int))])):=aE.new hr'
  have f4:(upd H3 r (.tup [.int t.1,.int ((t.2 - (m:Int)+1) % ((wyZ W t.1).length:Int))])) r=some (.tup [.int t.1,.int ((t.2 - (m:Int)+1) % ((wyZ W t.1).length:Int))]):=ah
  generalize upd H3 r (.tup [.int t.1,.int ((t.2 - (m:Int)+1) % ((wyZ W t.1).length:Int))])=H4 at s4 f4 ⊢
  have q4:=q3.trans s4
  refine ⟨x,r,[s.1,s.2],[t.1,(t.2 - (m:Int)+1) % ((wyZ W t.1).length:Int)],rfl,rfl,SqT.of (q4 _ _ hx),SqT.of f4,_,rfl,?_⟩
  have he:oh u W s t=if ltP (nT W s t m) s then [] else if jS u (fZ W s 1) (fZ W t (-1)) m then [Lk.g s t m] else []:=by
   rw [← hm]
   by_cases e:fZ W s 1 (-1)=fZ W t (-1) (-1)
   ·rw [if_pos e,vJ]
    unfold oh
    rw [eI e,GK,if_neg (by decide)]
    split <;> rfl
   ·rw [← uG hW.ok os ot e,mL hW.ok os ot (.inr rfl),if_neg e]
  show cu _ _ _ _ (ltP (nT W s t m) s) _
  by_cases c:ltP (nT W s t m) s=true
  ·rw [c]
   rw [c] at he
   exact yP ⟨(by show 0≤_;decide),fun l hl=>jT q4 hl k he⟩
  ·rw [GI] at c
   rw [c]
   rw [c] at he
   refine mF ?_
   refine ⟨_,rfl,_,rfl,_,rfl,_,rfl,_,rfl,u,a,p,q,n,_,W,s,t,-1,rfl,U,hW.same q4,s4 _ _ (s3 _ _ (s2 _ _ f1)),s4 _ _ (s3 _ _ f2),os,ot,.inr rfl,fun H5 s5=>⟨_,rfl,?_⟩⟩
   have q5:=q4.trans s5
   by_cases c2:jS u (fZ W s 1) (fZ W t (-1)) m=true
   ·rw [c2]
    rw [c2] at he
    refine Ct ⟨_,rfl,_,rfl,_,rfl,(by show 4≤_;decide),fun r hr'=>⟨(by show 1≤_;decide),fun l hl=>?_⟩⟩
    exact kQ (m:=.g s t m) q5 hr' hl ⟨x,y,ah,(q5.trans (aE.new hr')) _ _ hx,(q5.trans (aE.new hr')) _ _ hy⟩ k he
   ·rw [GI] at c2
    rw [c2]
    rw [c2] at he
    exact Cu ⟨(by show 0≤_;decide),fun l hl=>jT q5 hl k he⟩
theorem vT {u:List L}{a b c:L}(ha:a∈u)(hb:b∈u)(hc:c∈u)(ab:a≠b)(ac:a≠c)(bc:b≠c):decide (rfI u a c < rfI u a b)=(decide (min (u.idxOf a) (u.idxOf b) < u.idxOf c∧u.idxOf c < max (u.idxOf a) (u.idxOf b)) != decide (u.idxOf b < u.idxOf a)):=by
 have inj:∀ {x y:L},x∈u→y∈u→x≠y→u.idxOf x≠u.idxOf y:=fun hx hy n e=>n (by
  have h1:=FQ (aF hx)
  have h2:=FQ (aF hy)
  rw [← h1,← h2]
  simp only [e])
 have n1:=inj ha hb ab
 have n2:=inj ha hc ac
 have n3:=inj hb hc bc
 have l1:=aF ha
 have l2:=aF hb
 have l3:=aF hc
 rw [aG ha hc,aG ha hb]
 by_cases o:u.idxOf b < u.idxOf a
 ·rw [Ee o,if_neg (show ¬ u.idxOf a≤u.idxOf b by omega),EA,Eh]
  rw [show ∀ x:Bool,(x != true)=!x by decide,Bool.not_eq_true',IW]
  split <;> omega
 ·rw [Ea o,if_pos (show u.idxOf a≤u.idxOf b by omega),Bool.bne_false,EA,Eh,Eh]
  split <;> omega
theorem uW {u:List L}{a b c d:L}(ha:a∈u)(hb:b∈u)(hc:c∈u)(hd:d∈u)(h:[a,b,c,d].Nodup):cK u a b c d=(decide (min (u.idxOf a) (u.idxOf b) < u.idxOf c∧u.idxOf c < max (u.idxOf a) (u.idxOf b)) != decide (min (u.idxOf a) (u.idxOf b) < u.idxOf d∧u.idxOf d < max (u.idxOf a) (u.idxOf b))):=by
 unfold cK
 rw [Ee h,EZ]
 simp only [EG,Et,EN,FM,Hn,FJ,JL,not_or] at h
 obtain ⟨⟨e1,e2,e3⟩,⟨e4,e5⟩,e6⟩:=h
 rw [vT ha hb hc e1 e2 e4,vT ha hb hd e1 e3 e5]
 generalize decide (u.idxOf b < u.idxOf a)=z
 exact (show ∀ x y z:Bool,((x != z) != (y != z))=(x != y) by decide) _ _ _
inductive yw (vs:List V)(H:Hp)(Q:VK)(Kv:XK):Prop
 | mk:∀ (p q:Addr) (a b c d:Nat),(vs=[.ref p,.ref q])→H p=some (.lst [.int a,.int b])→H q=some (.lst [.int c,.int d])→Q (.bl (decide (min a b < c∧c < max a b) != decide (min a b < d∧d < max a b))) H→yw vs H Q Kv
abbrev yy:Stmt:=top 21
theorem A8:ay ["one","other","low","high"] ["one","other"] (ak yy):=⟨rfl,rfl,rfl,by decide +kernel,rfl,by decide +kernel,by decide +kernel⟩
def _root_.Kj {a b c d e f g h i j k l}:=@fc a b c d e f g h i j k l
theorem CP (D:Df K mg "are_met_by_turns" yy)(T:Bt K w mg aB):Fnc P w K mg base "are_met_by_turns" ["one","other"] 1 (fun vs H Q E=>AO vs H Q E ∨ yw vs H Q E):=by
 have sc:=A8
 refine D.ok sc (fun _ _ _ _ _ _ us hl=>by obtain ⟨_,_,rfl⟩:=vS hl;rfl) (fun vs H Q E h=>?_) (fun f Ks A outer s H vs Q E hr h=>?_)
 ·rcases h with h | h
  ·obtain ⟨p,q,a,b,c,d,rfl,_⟩:=h
   rfl
  ·obtain ⟨p,q,a,b,c,d,rfl,_⟩:=h
   rfl
 rcases h with h | h
 ·obtain ⟨p,q,a,b,c,d,rfl,hp,hq,k⟩:=h
  have KF:=aP
  refine ⟨_,(JM (JS (2) sc.nd rfl (Or.inl rfl) (JU (@kr _ rfl) (by rfl) T.min zF (JV (pv 0) af))) (JM (JS (3) sc.nd rfl (Or.inl rfl) (JU (@ku _ rfl) (by rfl) T.max wO (JV (pv 0) af))) (JW (JX (J1 h_ (Kj dw dw (pv 2) (JT aX (pv 1) ai (fun _ _=>rfl)) (pv 3)) (Kj dw dw (pv 2) (JT aX (pv 1) ai (fun _ _=>rfl)) (pv 3)) (aJ _)))))),?_⟩
  refine ⟨_,rfl,p,_,_,rfl,SqT.of hp,?_⟩
  refine ⟨_,rfl,p,_,_,rfl,SqT.of hp,?_⟩
  have e1:(if (b:Int) < (a:Int) then (b:Int) else (a:Int))=((min a b:Nat):Int):=by split <;> omega
  have e2:(if (b:Int) > (a:Int) then (b:Int) else (a:Int))=((max a b:Nat):Int):=by split <;> omega
  rw [e1,e2]
  have fin:∀ v1 v2:Bool,v1=decide (min a b < c∧c < max a b)→v2=decide (min a b < d∧d < max a b)→Q (.bl (!decide (V.bl v1=V.bl v2))) H:=fun v1 v2 e1 e2=>by
   subst e1 e2
   have e:∀ x y:Bool,(!decide (V.bl x=V.bl y))=(x != y):=by intro x y;cases x <;> cases y <;> rfl
   rw [e]
   exact k
  refine ⟨_,rfl,_,rfl,q,_,_,_,rfl,rfl,SqT.of hq,rfl,_,_,rfl,rfl,_,rfl,?_⟩
  by_cases h1:min a b < c
  ·refine gO (Ee (by omega)) ⟨_,rfl,_,_,rfl,rfl,?_⟩
   refine ⟨_,rfl,_,rfl,q,_,_,_,rfl,rfl,SqT.of hq,rfl,_,_,rfl,rfl,_,rfl,?_⟩
   by_cases h2:min a b < d
   ·exact gO (Ee (by omega)) ⟨_,rfl,_,_,rfl,rfl,rfl,fin _ _ (by rw [EA,Eh,Eh];omega) (by rw [EA,Eh,Eh];omega)⟩
   ·exact gP (Ea (by omega)) ⟨rfl,fin _ _ (by rw [EA,Eh,Eh];omega) (Ea (by omega)).symm⟩
  ·refine gP (Ea (by omega)) ?_
   refine ⟨_,rfl,_,rfl,q,_,_,_,rfl,rfl,SqT.of hq,rfl,_,_,rfl,rfl,_,rfl,?_⟩
   by_cases h2:min a b < d
   ·exact gO (Ee (by omega)) ⟨_,rfl,_,_,rfl,rfl,rfl,fin _ _ (Ea (by omega)).symm (by rw [EA,Eh,Eh];omega)⟩
   ·exact gP (Ea (by omega)) ⟨rfl,fin _ _ (Ea (by omega)).symm (Ea (by omega)).symm⟩
 ·obtain ⟨p,q,a,b,c,d,rfl,hp,hq,k⟩:=h
  have KF:=aP
  refine ⟨_,(JM (JS (2) sc.nd rfl (Or.inl rfl) (JU (@kL _ rfl) (by rfl) T.min zF (JV (pv 0) af))) (JM (JS (3) sc.nd rfl (Or.inl rfl) (JU (@kM _ rfl) (by rfl) T.max wO (JV (pv 0) af))) (JW (JX (J1 h_ (Kj dw dw (pv 2) (JT ie (pv 1) ai (fun _ _=>rfl)) (pv 3)) (Kj dw dw (pv 2) (JT ie (pv 1) ai (fun _ _=>rfl)) (pv 3)) (aJ _)))))),?_⟩
  refine ⟨_,rfl,p,_,_,rfl,SqL.of hp,?_⟩
  refine ⟨_,rfl,p,_,_,rfl,SqL.of hp,?_⟩
  have e1:(if (b:Int) < (a:Int) then (b:Int) else (a:Int))=((min a b:Nat):Int):=by split <;> omega
  have e2:(if (b:Int) > (a:Int) then (b:Int) else (a:Int))=((max a b:Nat):Int):=by split <;> omega
  rw [e1,e2]
  have fin:∀ v1 v2:Bool,v1=decide (min a b < c∧c < max a b)→v2=decide (min a b < d∧d < max a b)→Q (.bl (!decide (V.bl v1=V.bl v2))) H:=fun v1 v2 e1 e2=>by
   subst e1 e2
   have e:∀ x y:Bool,(!decide (V.bl x=V.bl y))=(x != y):=by intro x y;cases x <;> cases y <;> rfl
   rw [e]
   exact k
  refine ⟨_,rfl,_,rfl,q,_,_,_,rfl,rfl,SqL.of hq,rfl,_,_,rfl,rfl,_,rfl,?_⟩
  by_cases h1:min a b < c
  ·refine gO (Ee (by omega)) ⟨_,rfl,_,_,rfl,rfl,?_⟩
   refine ⟨_,rfl,_,rfl,q,_,_,_,rfl,rfl,SqL.of hq,rfl,_,_,rfl,rfl,_,rfl,?_⟩
   by_cases h2:min a b < d
   ·exact gO (Ee (by omega)) ⟨_,rfl,_,_,rfl,rfl,rfl,fin _ _ (by rw [EA,Eh,Eh];omega) (by rw [EA,Eh,Eh];omega)⟩
   ·exact gP (Ea (by omega)) ⟨rfl,fin _ _ (by rw [EA,Eh,Eh];omega) (Ea (by omega)).symm⟩
  ·refine gP (Ea (by omega)) ?_
   refine ⟨_,rfl,_,rfl,q,_,_,_,rfl,rfl,SqL.of hq,rfl,_,_,rfl,rfl,_,rfl,?_⟩
   by_cases h2:min a b < d
   ·exact gO (Ee (by omega)) ⟨_,rfl,_,_,rfl,rfl,rfl,fin _ _ (Ea (by omega)).symm (by rw [EA,Eh,Eh];omega)⟩
   ·exact gP (Ea (by omega)) ⟨rfl,fin _ _ (Ea (by omega)).symm (Ea (by omega)).symm⟩
abbrev yz:Stmt:=top 31
theorem A9:ay ["surface","ways","one","other","mine","theirs","places"] ["surface","ways","one","other"] (ak yz):=⟨rfl,rfl,rfl,by decide +kernel,rfl,by decide +kernel,by decide +kernel⟩
theorem CQ (D:Df K mg "beside_at" yz)(T:Bt K w mg aB)(Tset:mg "set" = none)(F_ce:Fnc P w K mg base "chord_ends" ["ways","strand"] 3 Cv)(K3:Fnc P w K mg base "are_met_by_turns" ["one","other"] 1 yw):Fnc P w K mg base "beside_at" ["surface","ways","one","other"] 4 (uH Ay):=by
 have sc:=A9
 refine D.ok sc (fun _ _ _ _ _ _ us hl=>by obtain ⟨_,_,_,_,rfl⟩:=yS hl;rfl) (fun vs H Q E h=>?_) (fun f Ks A outer s H vs Q E hr h=>?_)
 ·obtain ⟨u,a,x,y,n,W,s,t,rfl,_⟩:=h
  rfl
 ·obtain ⟨u,a,x,y,n,W,s,t,rfl,U,hW,hx,hy,os,ot,k⟩:=h
  have KF:=aP
  have m1:=(gr U hW.ok os 1 0).2
  have m2:=(gr U hW.ok os 1 1).1
  have m3:=(gr U hW.ok ot 1 0).2
  have m4:=(gr U hW.ok ot 1 1).1
  have k:∀ (l:Addr) (zs:List (Addr × Lk)) (H':Hp),H l=none→aE H H'→H' l=some (.lst ((zs.map (·.1)).map V.ref))→LkA H' zs→zs.map (·.2)=(if cK u (inv (fZ W s 1 0)) (fZ W s 1 1) (inv (fZ W t 1 0)) (fZ W t 1 1) then [.b s t] else [])→Q (.ref l) H':=k
  refine ⟨_,(JM (JS (4) sc.nd rfl (Or.inl rfl) (J9 F_ce hr (by decide) rfl (JV (pv 1) (JV (pv 2) af)))) (JM (JS (5) sc.nd rfl (Or.inl rfl) (J9 F_ce hr (by decide) rfl (JV (pv 1) (JV (pv 3) af)))) (JM (JQ (JR dw (JU kK (by rfl) T.len EK (JV (@dS _ _ _ _ _ _ _ _ _ (@i3 _ rfl) (by rfl) Tset Cr (JV (JO aY (pv 4) (pv 5)) af) (by decide) (by decide) (by rfl) (by rfl)) af)) ai (aJ _)) (JW (JX (J0 af))) aW) (JM (@kq _ (6) _ _ _ _ _ _ _ _ _ (["end","surface"]) (["end"]) ([0]) _ _ _ _ sc.nd rfl (Or.inl rfl) (J5 rfl (by kernel_rfl)) rfl (@jt _ _ _ _ (JO aY (pv 4) (pv 5))) (fun _ _ _ _=>J6 (0) (show (["end","surface"]:List Str).Nodup from by decide +kernel) rfl (Or.inl rfl)) (fun _ _ _ _=>cC) (fun _ _ _ _=>by (exact (@pP _ _ _ _ _ _ _ _ _ _ _ _ (K) rfl EJ Fz FA cH (pv 1) (JV (pv 0) af) (by rfl) (by rfl) (by rfl) (by rfl) (by rfl)))) (by intro _ ;rfl) (by rfl) (by first | exact .inl rfl | exact .inr rfl | assumption)) (JW (JX (J8 (Kc (J9 K3 hr (by decide) rfl (JV (JY ke (pv 6) bf (JZ ai)) (JV (JY ke (pv 6) (JZ ai) bf) af))) (fun _=>rfl)) (J0 (JV (Kf (JV aM (JV (pv 2) (JV (pv 3) af)))) af)) (J0 af)))))))),?_⟩
  refine ⟨_,rfl,_,rfl,a,x,n,W,s,rfl,hW,hx,os,fun H1 s1=>?_⟩
  refine ⟨_,rfl,_,rfl,a,y,n,W,t,rfl,hW.same s1,s1 _ _ hy,ot,fun H2 s2=>?_⟩
  have q2:=s1.trans s2
  generalize inv (fZ W s 1 0)=e1 at m1 k ⊢
  generalize fZ W s 1 1=e2 at m2 k ⊢
  generalize inv (fZ W t 1 0)=e3 at m3 k ⊢
  generalize fZ W t 1 1=e4 at m4 k ⊢
  refine ⟨_,rfl,_,rfl,_,_,rfl,rfl,(by rw [ae,ae];show 2+2≤_;omega),?_⟩
  rw [dF]
  refine ⟨[e1,e2,e3,e4],rfl,(by show 4≤4000;decide),fun p dl hp nd hm=>?_⟩
  refine ⟨p,dl,rfl,ah,_,_,rfl,rfl,_,rfl,?_⟩
  rw [D3 nd hm]
  generalize hG:upd H2 p (StO _ _ p dl)=H3
  have q3:aE H H3:=hG ▸ q2.trans (aE.new hp)
  by_cases c:[e1,e2,e3,e4].Nodup
  ·rw [Ee c]
   refine mF ?_
   have hall:∀ x∈[e1,e2,e3,e4],x∈u:=fun x hx=>by
    simp only [Et,EN,FM] at hx
    rcases hx with rfl | rfl | rfl | rfl <;> assumption
   have k4:=uW m1 m2 m3 m4 c
   refine ⟨_,rfl,_,rfl,_,_,rfl,rfl,(by rw [ae,ae];show 2+2≤_;omega),?_⟩
   rw [dF]
   refine ⟨_,rfl,?_⟩
   refine cD (own:=["end"]) (cap:=[0]) (J:=Its (toS [e1,e2,e3,e4])) 4 (fun i ys σ H'=>∃ v:Option V,σ = [v,some (tx u)]∧ys=(([e1,e2,e3,e4].take i).map fun x=>V.int (u.idxOf x:Nat))∧H'=H3) ⟨none,rfl,rfl,rfl⟩ (fun i ys σ H' hi ⟨v,_,e,_⟩=>?_) (by omega) (fun i ys σ H' hi _=>?_) (fun ys σ H' _=>?_) ?_ ?_
   ·rw [e,Ej,Es];omega
   ·show i < (toS _).cps.size;rw [bo];exact hi
   ·show _=(toS _).cps.size;rw [bo];rfl
   ·rintro i ys σ H4 y H5 N hi ⟨v,rfl,rfl,rfl⟩ ⟨rfl,cc,hcc,rfl⟩ hN
    obtain ⟨z,hz,ez⟩:=cZ hcc
    rw [ez]
    obtain ⟨r1,o1⟩:=gR (hall z (EY hz))
    refine ⟨_,rfl,rfl,_,rfl,_,_,_,r1,rfl,rfl,o1,hN _ _ _ ⟨_,rfl,?_,rfl⟩⟩
    rw [dZ hz,E_]
    rfl
   ·rintro ys σ H4 l ⟨v,rfl,rfl,rfl⟩ hl
    show j8 _ _ _ _ (upd H4 l (.lst [.int (u.idxOf e1:Nat),.int (u.idxOf e2:Nat),.int (u.idxOf e3:Nat),.int (u.idxOf e4:Nat)]))
    have s4:aE H4 (upd H4 l (.lst [.int (u.idxOf e1:Nat),.int (u.idxOf e2:Nat),.int (u.idxOf e3:Nat),.int (u.idxOf e4:Nat)])):=aE.new hl
    have f4:(upd H4 l (.lst [.int (u.idxOf e1:Nat),.int (u.idxOf e2:Nat),.int (u.idxOf e3:Nat),.int (u.idxOf e4:Nat)])) l=some (.lst [.int (u.idxOf e1:Nat),.int (u.idxOf e2:Nat),.int (u.idxOf e3:Nat),.int (u.idxOf e4:Nat)]):=ah
    generalize upd H4 l (.lst [.int (u.idxOf e1:Nat),.int (u.idxOf e2:Nat),.int (u.idxOf e3:Nat),.int (u.idxOf e4:Nat)])=H5 at s4 f4 ⊢
    refine ⟨_,rfl,_,rfl,l,_,rfl,SqL.of f4,fun p1 hp1=>?_⟩
    have s5:=aE.new (o:=.lst (oa [.int (u.idxOf e1:Nat),.int (u.idxOf e2:Nat),.int (u.idxOf e3:Nat),.int (u.idxOf e4:Nat)] none (some 2))) hp1
    have f5:(upd H5 p1 (.lst (oa [.int (u.idxOf e1:Nat),.int (u.idxOf e2:Nat),.int (u.idxOf e3:Nat),.int (u.idxOf e4:Nat)] none (some 2)))) p1=some (.lst [.int (u.idxOf e1:Nat),.int (u.idxOf e2:Nat)]):=ah
    generalize upd H5 p1 (.lst (oa [.int (u.idxOf e1:Nat),.int (u.idxOf e2:Nat),.int (u.idxOf e3:Nat),.int (u.idxOf e4:Nat)] none (some 2)))=H6 at s5 f5 ⊢
    refine ⟨_,rfl,_,rfl,l,_,rfl,SqL.of (s5 _ _ f4),fun p2 hp2=>?_⟩
    have s6:=aE.new (o:=.lst (oa [.int (u.idxOf e1:Nat),.int (u.idxOf e2:Nat),.int (u.idxOf e3:Nat),.int (u.idxOf e4:Nat)] (some 2) none)) hp2
    have f6:(upd H6 p2 (.lst (oa [.int (u.idxOf e1:Nat),.int (u.idxOf e2:Nat),.int (u.idxOf e3:Nat),.int (u.idxOf e4:Nat)] (some 2) none))) p2=some (.lst [.int (u.idxOf e3:Nat),.int (u.idxOf e4:Nat)]):=ah
    generalize upd H6 p2 (.lst (oa [.int (u.idxOf e1:Nat),.int (u.idxOf e2:Nat),.int (u.idxOf e3:Nat),.int (u.idxOf e4:Nat)] (some 2) none))=H7 at s6 f6 ⊢
    refine ⟨p1,p2,_,_,_,_,rfl,s6 _ _ f5,f6,_,rfl,?_⟩
    rw [← k4]
    have q7:=((q3.trans s4).trans s5).trans s6
    by_cases c2:cK u e1 e2 e3 e4=true
    ·rw [c2]
     rw [c2] at k
     refine Ct ⟨_,rfl,_,rfl,(by show 3≤_;decide),fun r hr'=>⟨(by show 1≤_;decide),fun l hl=>?_⟩⟩
     exact kQ (m:=.b s t) q7 hr' hl ⟨x,y,ah,(q7.trans (aE.new hr')) _ _ hx,(q7.trans (aE.new hr')) _ _ hy⟩ k rfl
    ·rw [GI] at c2
     rw [c2]
     rw [c2] at k
     exact Cu ⟨(by show 0≤_;decide),fun l hl=>jT q7 hl k rfl⟩
  ·rw [Ea c]
   refine yP ⟨(by show 0≤_;decide),fun l hl=>jT q3 hl k ?_⟩
   unfold cK
   rw [Ea c]
   rfl
abbrev yA:Stmt:=top 30
theorem A_:ay ["surface","ways","one","other","told"] ["surface","ways","one","other"] (ak yA):=⟨rfl,rfl,rfl,by decide +kernel,rfl,by decide +kernel,by decide +kernel⟩
theorem CS (D:Df K mg "links_at" yA)(T:Bt K w mg aB)(F_agn:Fnc P w K mg base "against_at" ["surface","ways","one","other"] 4 (uH oh))(F_alg:Fnc P w K mg base "along_at" ["surface","ways","one","other"] 4 (uH xM))(F_bes:Fnc P w K mg base "beside_at" ["surface","ways","one","other"] 4 (uH Ay)):Fnc P w K mg base "links_at" ["surface","ways","one","other"] 5 (uH yR):=by
 have sc:=A_
 refine D.ok sc (fun _ _ _ _ _ _ us hl=>by obtain ⟨_,_,_,_,rfl⟩:=yS hl;rfl) (fun vs H Q E h=>?_) (fun f Ks A outer s H vs Q E hr h=>?_)
 ·obtain ⟨u,a,x,y,n,W,s,t,rfl,_⟩:=h
  rfl
 ·obtain ⟨u,a,x,y,n,W,s,t,rfl,U,hW,hx,hy,os,ot,k⟩:=h
  have KF:=aP
  refine ⟨_,(JM (JS (4) sc.nd rfl (Or.inl rfl) (J9 F_agn hr (by decide) rfl (JV (pv 0) (JV (pv 1) (JV (pv 2) (JV (pv 3) af)))))) (JM (JQ (JR (xH (K:=K) rfl (by exact lt0 hr.units)) (pv 2) (pv 3) (aJ _)) (JM (@hU _ _ _ _ (J3 GE G7 G8 fz (pv 4) (JV (J9 F_alg hr (by decide) rfl (JV (pv 0) (JV (pv 1) (JV (pv 2) (JV (pv 3) af))))) af)) (by rfl)) (JW (@hU _ _ _ _ (J3 GE G7 G8 fz (pv 4) (JV (J9 F_bes hr (by decide) rfl (JV (pv 0) (JV (pv 1) (JV (pv 2) (JV (pv 3) af))))) af)) (by rfl)))) aW) (JW (JX (pv 4))))),?_⟩
  refine ⟨_,rfl,_,rfl,_,rfl,_,rfl,u,a,x,y,n,W,s,t,rfl,U,hW,hx,hy,os,ot,fun l1 z1 H1 n1 s1 f1 k1 e1=>?_⟩
  refine ⟨_,rfl,_,rfl,x,y,[s.1,s.2],[t.1,t.2],rfl,rfl,SqT.of (s1 _ _ hx),SqT.of (s1 _ _ hy),_,rfl,?_⟩
  show cu _ _ _ _ (ltP s t) _
  by_cases c:ltP s t=true
  ·rw [c]
   refine yP ?_
   have len:∀ {zs:List (Addr × Lk)} {r:List Lk} {m:Nat},zs.map (·.2)=r→r.length≤m→zs.length≤m:=fun e h=>by rw [← e,Ej] at h;exact h
   have la1:z1.length≤1:=len e1 (by unfold oh;split <;> simp)
   refine ⟨_,rfl,.inl ⟨rfl,_,SqL.of f1⟩,_,rfl,_,rfl,_,rfl,_,rfl,u,a,x,y,n,W,s,t,rfl,U,hW.same s1,s1 _ _ hx,s1 _ _ hy,os,ot,fun l2 z2 H2 n2 s2 f2 k2 e2=>?_⟩
   have la2:z2.length≤1:=len e2 (by unfold xM;split <;> simp)
   have g1:=s2 _ _ f1
   refine ⟨l1,l2,_,_,rfl,rfl,g1,f2,(by simp only [Ej];omega),?_⟩
   rw [i7]
   have s3:aE H (upd H2 l1 (.lst (((z1++z2).map (·.1)).map V.ref))):=f9 (s1.trans s2) n1
   have f3:(upd H2 l1 (.lst (((z1++z2).map (·.1)).map V.ref))) l1=some (.lst (((z1++z2).map (·.1)).map V.ref)):=ah
   have k3:LkA (upd H2 l1 (.lst (((z1++z2).map (·.1)).map V.ref))) (z1++z2):=((k1.same s2).app k2).to (i6 g1)
   generalize upd H2 l1 (.lst (((z1++z2).map (·.1)).map V.ref))=H3 at s3 f3 k3 ⊢
   refine ⟨_,rfl,.inl ⟨rfl,_,SqL.of f3⟩,_,rfl,_,rfl,_,rfl,_,rfl,u,a,x,y,n,W,s,t,rfl,U,hW.same s3,s3 _ _ hx,s3 _ _ hy,os,ot,fun l4 z4 H4 n4 s4 f4 k4 e4=>?_⟩
   have la4:z4.length≤1:=len e4 (by unfold Ay;split <;> simp)
   have g3:=s4 _ _ f3
   refine ⟨l1,l4,_,_,rfl,rfl,g3,f4,(by simp only [Ej,Eb];omega),?_⟩
   rw [i7]
   refine ⟨_,rfl,k l1 (z1++z2++z4) _ n1 (f9 (s3.trans s4) n1) ah (((k3.same s4).app k4).to (i6 g3)) ?_⟩
   unfold yR
   rw [c,if_pos rfl,E_,E_,e1,e2,e4,Ek]
  ·rw [GI] at c
   rw [c]
   refine mF ⟨_,rfl,k l1 z1 H1 n1 s1 f1 k1 ?_⟩
   unfold yR
   rw [c,e1]
   simp
abbrev lq:Stmt:=top 29
theorem uX:ay ["surface","ways","i","j","told","p","q"] ["surface","ways","i","j"] (ak lq):=⟨rfl,rfl,rfl,by decide +kernel,rfl,by decide +kernel,by decide +kernel⟩
def _root_.Kk {a b c d e f}:=@bL a b c d e f
theorem yB (D:Df K mg "links" lq)(T:Bt K w mg aB)(F_lat:Fnc P w K mg base "links_at" ["surface","ways","one","other"] 5 (uH yR)):Fnc P w K mg base "links" ["surface","ways","i","j"] 6 i5:=by
 have sc:=uX
 refine D.ok sc (fun _ _ _ _ _ _ us hl=>by obtain ⟨_,_,_,_,rfl⟩:=yS hl;rfl) (fun vs H Q E h=>?_) (fun f Ks A outer s H vs Q E hr h=>?_)
 ·obtain ⟨u,a,n,W,i,j,rfl,_⟩:=h
  rfl
 ·obtain ⟨u,a,n,W,i,j,rfl,U,hW,i0,i1,j0,j1,k⟩:=h
  have KF:=aP
  obtain ⟨_,ati,_,li,_,_⟩:=hW.ok.get i0 i1
  obtain ⟨_,atj,_,lj,_,_⟩:=hW.ok.get j0 j1
  refine ⟨_,(JM (JS (4) sc.nd rfl (Or.inl rfl) (J0 af)) (JM (J7 Fe rfl (Kk rfl T.range (JV (JU ao (by rfl) T.len EK (JV (JT aX (pv 1) (pv 2) (fun _ _=>rfl)) af)) af)) (J6 (5) sc.nd rfl (Or.inl rfl)) (JW (J7 Fe rfl (Kk rfl T.range (JV (JU ao (by rfl) T.len EK (JV (JT aX (pv 1) (pv 3) (fun _ _=>rfl)) af)) af)) (J6 (6) sc.nd rfl (Or.inl rfl)) (JW (@hU _ _ _ _ (J3 GE G7 G8 fz (pv 4) (JV (J9 F_lat hr (by decide) rfl (JV (pv 0) (JV (pv 1) (JV (Kf (JV (pv 2) (JV (pv 5) af))) (JV (Kf (JV (pv 3) (JV (pv 6) af))) af))))) af)) (by rfl)))))) (JW (JX (JU (@gq _ (.s) (shL) _ (fun z=>by cases z) (by exact hr.units) rfl) (by rfl) T.sorted iC (JV (pv 4) af)))))),?_⟩
  refine ⟨(by show 0≤_;decide),fun l hl=>?_⟩
  have s0:aE H (upd H l (.lst [])):=aE.new hl
  have f0:(upd H l (.lst [])) l=some (.lst []):=ah
  generalize upd H l (.lst [])=H0 at s0 f0 ⊢
  refine ⟨_,rfl,_,rfl,a,_,_,_,rfl,rfl,SqT.of (s0 _ _ hW.at_),ati,_,rfl,(by rw [ae];omega),_,rfl,?_⟩
  rw [ae]
  refine ⟨by omega,by omega,?_⟩
  refine cf (lo:=0) (n:=((wyZ W i).length:Int).toNat) (fun m σ H'=>∃ (v1 v2:Option V) (zs:List (Addr × Lk)),σ = [some (tx u),some (.ref a),some (.int i),some (.int j),some (.ref l),v1,v2]∧aE H H'∧H' l=some (.lst ((zs.map (·.1)).map V.ref))∧LkA H' zs∧(zs.map (·.2)).Perm (jQ u W i j m)) ⟨none,none,[],rfl,s0,f0,(fun _ h=>absurd h (by simp)),G0 _⟩ ?_ ?_
  ·rintro p σ H1 hp ⟨v1,v2,zs,rfl,s1,f1,k1,e1⟩
   have hp':p < (wyZ W i).length:=by omega
   refine ⟨_,rfl,_,rfl,a,_,_,_,rfl,rfl,SqT.of (s1 _ _ hW.at_),atj,_,rfl,(by rw [ae];omega),_,rfl,?_⟩
   rw [ae]
   refine ⟨by omega,by omega,?_⟩
   rw [show ((0:Int)+(p:Int))=(p:Int) by omega]
   refine cf (lo:=0) (n:=((wyZ W j).length:Int).toNat) (fun m σ H'=>∃ (v2:Option V) (zs:List (Addr × Lk)),σ = [some (tx u),some (.ref a),some (.int i),some (.int j),some (.ref l),some (.int (p:Int)),v2]∧aE H H'∧H' l=some (.lst ((zs.map (·.1)).map V.ref))∧LkA H' zs∧(zs.map (·.2)).Perm (jQ u W i j p++sJ u W i j p m)) ⟨v2,zs,rfl,s1,f1,k1,by rw [show sJ u W i j p 0=[] from rfl,FC];exact e1⟩ ?_ ?_
   ·clear e1 k1 f1 s1 zs
    rintro q σ H2 hq ⟨v2,zs,rfl,s2,f2,k2,e2⟩
    have hq':q < (wyZ W j).length:=by omega
    rw [show ((0:Int)+(q:Int))=(q:Int) by omega]
    refine ⟨_,rfl,.inl ⟨rfl,_,SqL.of f2⟩,_,rfl,_,rfl,_,rfl,_,rfl,(by show 2≤_;decide),fun x hx=>?_⟩
    have s3:aE H2 (upd H2 x (.tup [.int i,.int (p:Int)])):=aE.new hx
    have f3:(upd H2 x (.tup [.int i,.int (p:Int)])) x=some (.tup [.int i,.int (p:Int)]):=ah
    generalize upd H2 x (.tup [.int i,.int (p:Int)])=H3 at s3 f3 ⊢
    refine ⟨_,rfl,_,rfl,(by show 2≤_;decide),fun y hy=>?_⟩
    have s4:aE H3 (upd H3 y (.tup [.int j,.int (q:Int)])):=aE.new hy
    have f4:(upd H3 y (.tup [.int j,.int (q:Int)])) y=some (.tup [.int j,.int (q:Int)]):=ah
    generalize upd H3 y (.tup [.int j,.int (q:Int)])=H4 at s4 f4 ⊢
    have s24:=s3.trans s4
    refine ⟨u,a,x,y,n,W,(i,(p:Int)),(j,(q:Int)),rfl,U,hW.same (s2.trans s24),s4 _ _ f3,f4,⟨i0,i1,by omega,by show (p:Int) < ((wyZ W i).length:Int);omega⟩,⟨j0,j1,by omega,by show (q:Int) < ((wyZ W j).length:Int);omega⟩,fun l5 z5 H5 n5 s5 f5 k5 e5=>?_⟩
    have s25:=s24.trans s5
    have g2:=s25 _ _ f2
    have ez:(z5.map (·.2)).Perm (lkZ u W (i,(p:Int)) (j,(q:Int))):=by rw [e5];exact qY _ _ _ _
    have en:((zs++z5).map (·.2)).Perm (jQ u W i j p++sJ u W i j p (q+1)):=by
     rw [E_,mH,← Ek]
     exact e2.append ez
    have hlen:zs.length+z5.length≤3*30*p+3*(q+1):=by
     have h1:=en.length_eq
     rw [Ej,Eb,Eb] at h1
     have h2:=qX u W i j lj p
     have h3:=kP u W i j p (q+1)
     omega
    refine ⟨l,l5,_,_,rfl,rfl,g2,f5,(by simp only [Ej];omega),?_⟩
    rw [i7]
    exact ⟨_,zs++z5,rfl,f9 (s2.trans s25) hl,ah,((k2.same s25).app k5).to (i6 g2),en⟩
   ·clear e1 k1 f1 s1 zs
    rintro σ H2 ⟨v2,zs,rfl,s2,f2,k2,e2⟩
    refine ⟨_,_,zs,rfl,s2,f2,k2,?_⟩
    rw [mI]
    exact e2
  ·rintro σ H1 ⟨v1,v2,zs,rfl,s1,f1,k1,e1⟩
   have em:zs.map (·.1)=(zs.map fun z=>(z.1,z.2.key)).map (·.1):=by rw [Fp];rfl
   rw [em] at f1
   refine ⟨_,rfl,l,zs.map fun z=>(z.1,z.2.key),rfl,.inl (SqL.of f1),fun z hz=>?_,fun p ks hp pm pw=>?_⟩
   ·obtain ⟨y,hy,rfl⟩:=EU.mp hz
    exact (k1 y hy).kd
   ·obtain ⟨ys,h1,h2⟩:=dQ (fun z:Addr × Lk=>(z.1,z.2.key)) pm.symm zs rfl
    have e2:ks.map (·.1)=ys.map (·.1):=by rw [h2,Fp];rfl
    have e3:ks.map (·.2)=(ys.map (·.2)).map Lk.key:=by rw [h2,Fp,Fp];rfl
    rw [e2]
    rw [e3] at pw
    refine k p ys _ (s1.free hp) (s1.trans (aE.new hp)) ah (fun z hz=>?_) ((h1.map _).trans e1) pw
    exact (k1 z (h1.mem_iff.mp hz)).to fun b o e=>aE.new hp _ _ e
abbrev rZ:Stmt:=top 15
theorem yC:ay ["many","word"] ["many","word"] (ak rZ):=⟨rfl,rfl,rfl,by decide +kernel,rfl,by decide +kernel,by decide +kernel⟩
theorem Ba (D:Df K mg "sums" rZ)(T:Bt K w mg aB)(Kp:Fnc P w K mg base "back" ["word"] 1 nt)(S:∃ t,mg "SMALL" = some (.str "abcdef" t)):Fnc P w K mg base "sums" ["many","word"] 2 vP:=by
 have sc:=yC
 refine D.ok sc (fun _ _ _ _ _ _ us hl=>by obtain ⟨_,_,rfl⟩:=vS hl;rfl) (fun vs H Q E h=>?_) (fun f Ks A outer s H vs Q E hr h=>?_)
 ·obtain ⟨m,u,rfl,_⟩:=h
  rfl
 ·obtain ⟨m,u,rfl,m1,m2,hu,k⟩:=h
  obtain ⟨tS,mgS⟩:=S
  have KF:=aP
  have h6:=nX (m:=m)
  refine ⟨_,(JW (JX (@dS _ _ _ _ _ _ _ _ _ ij (by rfl) T.tuple wQ (JV (J4 (["letter","word"]) (["letter"]) ([1]) (J5 rfl (by kernel_rfl)) rfl (@jt _ _ _ _ (JY bV (@hJ _ _ (.str "abcdef") _ _ rfl mgS ⟨_,rfl⟩ (by decide)) bf (JZ (pv 0)))) (fun _ _ _ _=>J6 (0) (show (["letter","word"]:List Str).Nodup from by decide +kernel) rfl (Or.inl rfl)) (fun _ _ _ _=>cC) (fun _ _ _ _=>by (exact JO cg (by (exact (@pP _ _ _ _ _ _ _ _ _ _ _ _ (K) rfl EJ Ji Jj lU (pv 1) (JV (pv 0) af) (by rfl) (by rfl) (by rfl) (by rfl) (by rfl)))) (by (exact (@pP _ _ _ _ _ _ _ _ _ _ _ _ (K) rfl EJ Ji Jj lU (pv 1) (JV (J9 Kp hr (by decide) rfl (JV (pv 0) af)) af) (by rfl) (by rfl) (by rfl) (by rfl) (by rfl))))))) af) (by decide) (by decide) (by rfl) (by rfl)))),?_⟩
  refine ⟨_,rfl,_,rfl,_,rfl,(by rw [jD];omega),?_⟩
  rw [jW m1]
  refine ⟨_,rfl,?_⟩
  refine cD (own:=["letter"]) (cap:=[1]) (J:=Its (toS (sml m))) (sml m).length (fun i ys σ H'=>∃ v:Option V,σ = [v,some (tx u)]∧ys=((sml m).take i).map (fun x=>V.int (dif u x))∧aE H H') ⟨none,rfl,rfl,aE.refl _⟩ (fun i ys σ H' hi ⟨v,_,e,_⟩=>?_) (by omega) (fun i ys σ H' hi _=>?_) (fun ys σ H' _=>?_) ?_ ?_
  ·rw [e,Ej,Es];omega
  ·show i < (toS _).cps.size;rw [bo];exact hi
  ·show _=(toS _).cps.size;rw [bo]
  ·rintro i ys σ H1 z H2 N hi ⟨v,rfl,rfl,s1⟩ ⟨rfl,c,hc,rfl⟩ hN
   obtain ⟨x,hx,e⟩:=cZ hc
   rw [e]
   refine ⟨_,rfl,rfl,_,rfl,_,_,rfl,rfl,_,rfl,rfl,_,rfl,[x],rfl,(by show 1≤5000;decide),fun H3 s3=>⟨_,_,rfl,rfl,_,_,rfl,rfl,hN _ _ _ ⟨_,rfl,?_,s1.trans s3⟩⟩⟩
   rw [jE,dE,jE,← uN _ hx]
   rfl
  ·rintro ys σ H1 l ⟨v,rfl,rfl,s1⟩ hl
   rw [GF]
   exact ⟨l,_,rfl,.inl ⟨SqL.of ah,fun t ht=>k t _ ah ((s1.then hl).then ht)⟩⟩
abbrev yD:Stmt:=top 18
theorem Bb:ay ["surface"] ["surface"] (ak yD):=⟨rfl,rfl,rfl,by decide +kernel,rfl,by decide +kernel,by decide +kernel⟩
theorem CT (D:Df K mg "letters_of" yD)(T:Bt K w mg aB)(S:∃ t,mg "SMALL" = some (.str "abcdef" t)):Fnc P w K mg base "letters_of" ["surface"] 1 AN:=by
 have sc:=Bb
 refine D.ok sc (fun _ _ _ _ _ _ us hl=>by obtain ⟨_,rfl⟩:=oi hl;rfl) (fun vs H Q E h=>?_) (fun f Ks A outer s H vs Q E hr h=>?_)
 ·obtain ⟨u,k,rfl,_⟩:=h
  rfl
 ·obtain ⟨u,k,rfl,U,q⟩:=h
  obtain ⟨tS,mgS⟩:=S
  have KF:=aP
  have hl:=U.len
  have h1:=U.lo
  have h6:=U.hi
  refine ⟨_,(JW (JX (JY bV (@hJ _ _ (.str "abcdef") _ _ rfl mgS ⟨_,rfl⟩ (by decide)) bf (JZ (JO cx (JU ao (by rfl) T.len EK (JV (pv 0) af)) ai))))),?_⟩
  refine ⟨_,rfl,_,rfl,(by rw [ae];omega),_,_,rfl,rfl,⟨by decide,by decide⟩,_,rfl,_,rfl,(by rw [jD];omega),?_⟩
  have e:((toS u).length:Int) / 2=(k:Int):=by rw [ae];omega
  rw [e,jW (by omega)]
  exact q
abbrev CU:Stmt:=top 25
theorem CV:ay ["surface","letter"] ["surface","letter"] (ak CU):=⟨rfl,rfl,rfl,by decide +kernel,rfl,by decide +kernel,by decide +kernel⟩
theorem D7 (D:Df K mg "places_of" CU)(T:Bt K w mg aB)(Kp:Fnc P w K mg base "back" ["word"] 1 nt):Fnc P w K mg base "places_of" ["surface","letter"] 2 Dn:=by
 have sc:=CV
 refine D.ok sc (fun _ _ _ _ _ _ us hl=>by obtain ⟨_,_,rfl⟩:=vS hl;rfl) (fun vs H Q E h=>?_) (fun f Ks A outer s H vs Q E hr h=>?_)
 ·obtain ⟨u,k,a,rfl,_⟩:=h
  rfl
 ·obtain ⟨u,k,a,rfl,U,ha,q⟩:=h
  have KF:=aP
  obtain ⟨r1,o1⟩:=gR ha
  obtain ⟨r2,o2⟩:=gR (U.srf.iv a ha)
  refine ⟨_,(JW (JX (Kf (JV (J3 EJ Fz FA cH (pv 0) (JV (pv 1) af)) (JV (J3 EJ Fz FA cH (pv 0) (JV (J9 Kp hr (by decide) rfl (JV (pv 1) af)) af)) af))))),?_⟩
  refine ⟨_,rfl,rfl,_,rfl,_,_,_,r1,rfl,rfl,o1,_,rfl,rfl,_,rfl,[a],rfl,(by show 1≤5000;decide),fun H1 s1=>?_⟩
  rw [dE]
  refine ⟨_,_,_,r2,rfl,rfl,o2,(bS (n:=2) (by decide)),fun p hp=>q p _ ah (s1.then hp)⟩
abbrev r6:Stmt:=top 24
theorem yE:ay ["surface","x","y"] ["surface","x","y"] (ak r6):=⟨rfl,rfl,rfl,by decide +kernel,rfl,by decide +kernel,by decide +kernel⟩
theorem Bc (D:Df K mg "side_of" r6)(T:Bt K w mg aB)(Kp:Fnc P w K mg base "back" ["word"] 1 nt)(F_pl:Fnc P w K mg base "places_of" ["surface","letter"] 2 Dn)(K3:Fnc P w K mg base "are_met_by_turns" ["one","other"] 1 AO)(F_rf:Fnc P w K mg base "round_from" ["surface","start","end"] 1 Bw):Fnc P w K mg base "side_of" ["surface","x","y"] 3 vQ:=by
 have sc:=yE
 refine D.ok sc (fun _ _ _ _ _ _ us hl=>by obtain ⟨_,_,_,rfl⟩:=sL hl;rfl) (fun vs H Q E h=>?_) (fun f Ks A outer s H vs Q E hr h=>?_)
 ·obtain ⟨u,k,x,y,rfl,_⟩:=h
  rfl
 ·obtain ⟨u,k,x,y,rfl,U,F,q⟩:=h
  have KF:=aP
  have e:=zU F
  change (if CF (u.idxOf x) (u.idxOf (inv x)) (u.idxOf y) (u.idxOf (inv y))=true then (if rfI u x (inv y) < rfI u x y then -1 else 1) else 0)=_ at e
  refine ⟨_,(JM (JQ (Kb (Kc (J9 K3 hr (by decide) rfl (JV (J9 F_pl hr (by decide) rfl (JV (pv 0) (JV (pv 1) af))) (JV (J9 F_pl hr (by decide) rfl (JV (pv 0) (JV (pv 2) af))) af))) (fun _=>rfl))) (JW (JX ai)) aW) (JW (JX (J8 (JR dw (J9 F_rf hr (by decide) rfl (JV (pv 0) (JV (pv 1) (JV (J9 Kp hr (by decide) rfl (JV (pv 2) af)) af)))) (J9 F_rf hr (by decide) rfl (JV (pv 0) (JV (pv 1) (JV (pv 2) af)))) (aJ _)) (Ke ft ai) ai)))),?_⟩
  refine ⟨_,rfl,_,rfl,u,k,x,rfl,U,F.mx,fun p1 H1 h1 s1=>?_⟩
  refine ⟨_,rfl,_,rfl,u,k,y,rfl,U,F.my,fun p2 H2 h2 s2=>?_⟩
  refine ⟨p1,p2,_,_,_,_,rfl,s2 _ _ h1,h2,_,rfl,?_⟩
  by_cases hm:CF (u.idxOf x) (u.idxOf (inv x)) (u.idxOf y) (u.idxOf (inv y))=true
  ·refine gP (by rw [hm];rfl) ?_
   rw [if_pos hm] at e
   refine ⟨_,rfl,_,rfl,_,rfl,[y],rfl,(by show 1≤5000;decide),fun H3 s3=>?_⟩
   rw [dE]
   refine ⟨u,k,x,inv y,rfl,U,F.mx,F.mY,_,rfl,_,rfl,_,rfl,u,k,x,y,rfl,U,F.mx,F.my,_,_,rfl,rfl,_,rfl,?_⟩
   have s03:=s1.trans (s2.trans s3)
   by_cases hl:rfI u x (inv y) < rfI u x y
   ·rw [if_pos hl] at e
    refine gO (Ee hl) ⟨_,rfl,?_⟩
    rw [← e] at q
    exact q _ s03
   ·rw [if_neg hl] at e
    refine gP (Ea hl) ?_
    rw [← e] at q
    exact q _ s03
  ·refine gO (by rw [GI] at hm;rw [hm];rfl) ?_
   rw [if_neg hm] at e
   rw [← e] at q
   exact q _ (s1.trans s2)
abbrev yF:Stmt:=top 23
theorem Bd:ay ["surface","one","other","letters","mine","theirs","total","x","y"] ["surface","one","other"] (ak yF):=⟨rfl,rfl,rfl,by decide +kernel,rfl,by decide +kernel,by decide +kernel⟩
theorem CW (D:Df K mg "balance" yF)(T:Bt K w mg aB)(F_let:Fnc P w K mg base "letters_of" ["surface"] 1 AN)(K4:Fnc P w K mg base "sums" ["many","word"] 2 vP)(F_side:Fnc P w K mg base "side_of" ["surface","x","y"] 3 vQ):Fnc P w K mg base "balance" ["surface","one","other"] 4 xZ:=by
 have sc:=Bd
 refine D.ok sc (fun _ _ _ _ _ _ us hl=>by obtain ⟨_,_,_,rfl⟩:=sL hl;rfl) (fun vs H Q E h=>?_) (fun f Ks A outer s H vs Q E hr h=>?_)
 ·obtain ⟨u,w1,w2,k,rfl,_⟩:=h
  rfl
 ·obtain ⟨u,w1,w2,k,rfl,U,hw1,hw2,q⟩:=h
  have KF:=aP
  have h1:=U.lo
  have h6:=U.hi
  have hsl:=xY h6
  have KS:(toS (sml (k:Int))).length≤sizeLine:=by rw [ae];omega
  have hlk:((toS (sml (k:Int))).length:Int)=(k:Int):=by rw [ae,hsl]
  refine ⟨_,(JM (JS (3) sc.nd rfl (Or.inl rfl) (J9 F_let hr (by decide) rfl (JV (pv 0) af))) (JM (JS (4) sc.nd rfl (Or.inl rfl) (J9 K4 hr (by decide) rfl (JV (JU ao (by rfl) T.len EK (JV (pv 3) af)) (JV (pv 1) af)))) (JM (JS (5) sc.nd rfl (Or.inl rfl) (J9 K4 hr (by decide) rfl (JV (JU ao (by rfl) T.len EK (JV (pv 3) af)) (JV (pv 2) af)))) (JM (JS (6) sc.nd rfl (Or.inl rfl) ai) (JM (J7 Fe rfl (Kk rfl T.range (JV (JU ao (by rfl) T.len EK (JV (pv 3) af)) af)) (J6 (7) sc.nd rfl (Or.inl rfl)) (JW (J7 Fe rfl (@jg _ _ _ _ _ _ _ rfl T.range (JV (JO bt (pv 7) ai) (JV (JU ao (by rfl) T.len EK (JV (pv 3) af)) af)) (by rfl) (by rfl)) (J6 (8) sc.nd rfl (Or.inl rfl)) (JW (@u7 _ _ (6) _ _ _ _ _ _ sc.nd rfl (Or.inl rfl) (JO cU (J9 F_side hr (by decide) rfl (JV (pv 0) (JV (JT cN (pv 3) (pv 7) (fun _ _=>rfl)) (JV (JT cN (pv 3) (pv 8) (fun _ _=>rfl)) af)))) (JO cg (JO cU (JT aX (pv 4) (pv 7) (fun _ _=>rfl)) (JT aX (pv 5) (pv 8) (fun _ _=>rfl))) (JO cU (JT aX (pv 4) (pv 8) (fun _ _=>rfl)) (JT aX (pv 5) (pv 7) (fun _ _=>rfl))))) u9 (by first | exact .inl rfl | exact .inr rfl | assumption)))))) (JW (JX (pv 6)))))))),?_⟩
  refine ⟨_,rfl,u,k,rfl,U,?_⟩
  refine ⟨_,rfl,_,rfl,KS,_,rfl,(k:Int),w1,by rw [hlk];rfl,by omega,by omega,hw1,fun t1 H1 ht1 s1=>?_⟩
  refine ⟨_,rfl,_,rfl,KS,_,rfl,(k:Int),w2,by rw [hlk];rfl,by omega,by omega,hw2,fun t2 H2 ht2 s2=>?_⟩
  have ht1:=s2 _ _ ht1
  have s02:=s1.trans s2
  have at1:∀ (w:List L) (x:Nat),x < k→atI ((sml (k:Int)).map fun x=>V.int (dif w x)) (x:Int)=some (.int (dfi w (lt6 x))):=fun w x hx=>by
   have:=kY h6 hx
   unfold atI ixN
   rw [Ej,hsl,if_pos (by omega),if_pos (by omega)]
   show ((sml (k:Int)).map _)[((x:Nat):Int).toNat]? = _
   rw [E2,Ff,this]
   rfl
  refine ⟨_,rfl,_,rfl,KS,_,rfl,(by omega),(by omega),?_⟩
  rw [hlk]
  refine cf (lo:=0) (n:=(k:Int).toNat) (fun i σ H'=>∃ (a b:Option V),σ = [some (tx u),some (tx w1),some (tx w2),some (tx (sml (k:Int))),some (.ref t1),some (.ref t2),some (.int (bh i fun x=>bh (k - (x+1)) fun j=>trm u w1 w2 x (x+1+j))),a,b]∧aE H2 H') ⟨none,none,rfl,aE.refl _⟩ ?_ ?_
  ·rintro i σ H3 hi ⟨a,b,rfl,s3⟩
   have hi:i < k:=by omega
   rw [Jq]
   refine ⟨_,rfl,_,_,rfl,rfl,_,rfl,_,rfl,KS,_,_,rfl,(by first | omega | (rw [hlk];omega)),?_⟩
   rw [hlk]
   refine cf (lo:=(i:Int)+1) (n:=((k:Int) - ((i:Int)+1)).toNat) (fun j σ H'=>∃ (b:Option V),σ = [some (tx u),some (tx w1),some (tx w2),some (tx (sml (k:Int))),some (.ref t1),some (.ref t2),some (.int ((bh i fun x=>bh (k - (x+1)) fun j=>trm u w1 w2 x (x+1+j))+bh j fun j=>trm u w1 w2 i (i+1+j))),some (.int (i:Int)),b]∧aE H2 H') ⟨b,(by show _=[_,_,_,_,_,_,some (V.int (_+0)),_,_];rw [Gz];rfl),s3⟩ ?_ ?_
   ·rintro j σ H4 hj ⟨b,rfl,s4⟩
    have hj:i+1+j < k:=by omega
    have ey:(i:Int)+1+(j:Int)=((i+1+j:Nat):Int):=by omega
    rw [ey]
    have gx:=kY h6 hi
    have gy:=kY h6 hj
    have ht1:=s4 _ _ ht1
    have ht2:=s4 _ _ ht2
    refine ⟨_,rfl,_,rfl,_,rfl,_,rfl,_,_,cp (lt6 i),rfl,rfl,KS,bN (k:=i) rfl gx,_,rfl,_,rfl,_,_,cp (lt6 (i+1+j)),rfl,rfl,KS,bN (k:=i+1+j) rfl gy,u,k,lt6 i,lt6 (i+1+j),rfl,U,U.four hi hj (by omega),fun H5 s5=>?_⟩
    have ht1:=s5 _ _ ht1
    have ht2:=s5 _ _ ht2
    have b1:=jX (lt6 i) hw1
    have b2:=jX (lt6 (i+1+j)) hw1
    have b3:=uO u (lt6 i) (lt6 (i+1+j))
    refine ⟨_,rfl,_,rfl,t1,_,_,_,rfl,rfl,SqT.of ht1,at1 w1 i hi,_,rfl,_,rfl,t2,_,_,_,rfl,rfl,SqT.of ht2,at1 w2 _ hj,_,_,rfl,rfl,.inl ⟨by omega,by omega⟩,?_⟩
    refine ⟨_,rfl,_,rfl,t1,_,_,_,rfl,rfl,SqT.of ht1,at1 w1 _ hj,_,rfl,_,rfl,t2,_,_,_,rfl,rfl,SqT.of ht2,at1 w2 i hi,_,_,rfl,rfl,.inl ⟨by omega,by omega⟩,?_⟩
    refine ⟨_,_,rfl,rfl,_,_,rfl,rfl,.inl ⟨by omega,by omega⟩,?_⟩
    refine ⟨_,_,rfl,rfl,some (.int ((i+1+j:Nat):Int)),?_,s4.trans s5⟩
    show _=[_,_,_,_,_,_,some (V.int (_+(bh j (fun j=>trm u w1 w2 i (i+1+j))+trm u w1 w2 i (i+1+j)))),_,_]
    rw [← IQ]
    rfl
   ·rintro σ H4 ⟨b,rfl,s4⟩
    refine ⟨some (.int (i:Int)),b,?_,s4⟩
    rw [show ((k:Int) - ((i:Int)+1)).toNat=k - (i+1) by omega]
    rfl
  ·rintro σ H3 ⟨a,b,rfl,s3⟩
   exact ⟨_,rfl,q _ (s02.trans s3)⟩
abbrev r9:Stmt:=top 11
theorem yG:ay ["surface","start","seen","word","gap","letter"] ["surface","start","seen"] (ak r9):=⟨rfl,rfl,rfl,by decide +kernel,rfl,by decide +kernel,by decide +kernel⟩
theorem Be (D:Df K mg "hole_from" r9)(T:Bt K w mg aB)(Kp:Fnc P w K mg base "back" ["word"] 1 nt):Fnc P w K mg base "hole_from" ["surface","start","seen"] 2 qd:=by
 have sc:=yG
 refine D.ok sc (fun _ _ _ _ _ _ us hl=>by obtain ⟨_,_,_,rfl⟩:=sL hl;rfl) (fun vs H Q E h=>?_) (fun f Ks A outer s H vs Q E hr h=>?_)
 ·obtain ⟨u,g,a,S,rfl,_⟩:=h
  rfl
 ·obtain ⟨u,g0,a,S0,rfl,U,hg0,hs0,ha0,k⟩:=h
  have hu:=o7 hr
  have KF:=aP
  have h12:=U.le
  have hpos:=U.pos
  refine ⟨_,(JM (JS (3) sc.nd rfl (Or.inl rfl) aM) (JM (JS (4) sc.nd rfl (Or.inl rfl) (pv 1)) (JM (@e_ _ _ _ _ _ _ Fe (@p8 _ _ _ _ _ _ hu (pv 4) (pv 2) rfl) (JM (JN hu (pv 2) (pv 4) dI rfl) (JM (JS (5) sc.nd rfl (Or.inl rfl) (JT cN (pv 0) (JO cV (JO bt (pv 4) ai) (JU ao (by rfl) T.len EK (JV (pv 0) af))) (fun _ _=>rfl))) (JM (JS (3) sc.nd rfl (Or.inl rfl) (JO aY (pv 3) (pv 5))) (JW (JS (4) sc.nd rfl (Or.inl rfl) (J3 EJ Fz FA cH (pv 0) (JV (J9 Kp hr (by decide) rfl (JV (pv 5) af)) af)))))))) (JW (JX (pv 3)))))),?_⟩
  refine ⟨_,rfl,?_⟩
  refine ⟨fun m σ H'=>∃ (S:List Nat) (w:List L) (g:Nat) (v:Option V),σ = [some (tx u),some (.int g0),some (.ref a),some (tx w),some (.int g),v]∧Sn u S∧g < u.length∧H' a=some (.dK (sk S))∧bC a H H'∧wk u g S w=wk u g0 S0 []∧w.length≤S.length∧m=u.length+1 - S.length,⟨_,S0,[],g0,none,rfl,hs0,hg0,ha0,bC.refl _ _,rfl,E1 _,rfl⟩,?_⟩
  rintro m σ H1 ⟨S,w,g,v,rfl,hs,hg,ha,sb,e,hw,rfl⟩
  have hle:=hs.le
  refine ⟨_,rfl,_,rfl,a,_,rfl,oS.k (k:=Sum.inl (g:Int)) ha,?_⟩
  rw [qc]
  refine ⟨_,rfl,?_⟩
  refine tF (fun h=>?_) (fun h=>?_)
  ·have h:g∉S:=by simpa using h
   have K0:=hs.snoc hg h
   have hle':=K0.le
   rw [Eb,ES] at hle'
   refine ⟨_,fun σ' H' q=>q,?_⟩
   refine ⟨_,rfl,_,rfl,a,_,rfl,wu.k (k:=Sum.inl (g:Int)) ha (by rw [zT];omega),?_⟩
   rw [zR h]
   have hx:=bI U g
   have em:((g:Int)+1) % (u.length:Int)=(((g+1) % u.length:Nat):Int):=by rw [Int.natCast_emod];rfl
   refine ⟨_,rfl,_,rfl,_,_,rfl,rfl,_,rfl,_,rfl,(by rw [ae];omega),_,_,rfl,rfl,(by rw [ae];omega),_,_,cp (cb u g),rfl,rfl,(by rw [ae];omega),bN (k:=(g+1) % u.length) (by rw [ae];exact em) hx,?_⟩
   refine ⟨_,rfl,_,rfl,_,_,rfl,rfl,(by rw [ae];show w.length+1≤sizeLine;omega),?_⟩
   obtain ⟨rest,ho⟩:=gR (U.iv _ (cI U g))
   refine ⟨_,rfl,rfl,_,rfl,[cb u g],rfl,(by show 1≤5000;decide),fun H2 s2=>?_⟩
   rw [dE]
   refine ⟨_,_,_,rest,rfl,rfl,ho,?_⟩
   have e2:=(l_ (w:=w) hs hg h).symm.trans e
   refine ⟨u.length+1 - (S++[g]).length,?_,S++[g],w++[cb u g],bp u g,some (tx [cb u g]),(by rw [← dF];rfl),K0,bW U g,s2 _ _ ah,(sb.trans bC.upd).trans s2.b,e2,?_,rfl⟩
   ·rw [Eb,ES]
    omega
   ·rw [Eb,Eb]
    simp only [ES]
    omega
  ·have h:g∈S:=by simpa using h
   rw [qa h] at e
   rw [← e] at k
   exact ⟨_,rfl,k _ ha hs sb⟩
abbrev lx:Stmt:=top 10
theorem uY:ay ["surface","told","seen","gap"] ["surface"] (ak lx):=⟨rfl,rfl,rfl,by decide +kernel,rfl,by decide +kernel,by decide +kernel⟩
theorem yH (D:Df K mg "holes" lx)(T:Bt K w mg aB)(F_hole:Fnc P w K mg base "hole_from" ["surface","start","seen"] 2 qd):Fnc P w K mg base "holes" ["surface"] 3 iF:=by
 have sc:=uY
 refine D.ok sc (fun _ _ _ _ _ _ us hl=>by obtain ⟨_,rfl⟩:=oi hl;rfl) (fun vs H Q E h=>?_) (fun f Ks A outer s H vs Q E hr h=>?_)
 ·obtain ⟨u,rfl,_⟩:=h
  rfl
 ·obtain ⟨u,rfl,U,k⟩:=h
  have hu:=o7 hr
  have KF:=aP
  have h12:=U.le
  refine ⟨_,(JM (JS (1) sc.nd rfl (Or.inl rfl) (J0 af)) (JM (JS (2) sc.nd rfl (Or.inl rfl) tw) (JM (J7 Fe rfl (Kk rfl T.range (JV (JU ao (by rfl) T.len EK (JV (pv 0) af)) af)) (J6 (3) sc.nd rfl (Or.inl rfl)) (JW (JQ (@p8 _ _ _ _ _ _ hu (pv 3) (pv 2) rfl) (JW (@hU _ _ _ _ (J3 GE PySem.F.slot_list_append PySem.F.type_list_append oP (pv 1) (JV (J9 F_hole hr (by decide) rfl (JV (pv 0) (JV (pv 3) (JV (pv 2) af)))) af)) (by rfl))) aW))) (JW (JX (pv 1)))))),?_⟩
  refine ⟨(by show 0≤sizeLine;decide),fun l hl=>?_⟩
  have s1:aE H (upd H l (.lst [])):=aE.new hl
  have f1:(upd H l (.lst [])) l=some (.lst []):=ah
  generalize upd H l (.lst [])=H1 at s1 f1 ⊢
  intro a ha
  have la:a≠l:=(ax f1 ha).symm
  have s2:aE H1 (upd H1 a (.dK [])):=aE.new ha
  have f2:(upd H1 a (.dK [])) a=some (.dK []):=ah
  have g1:=s2 _ _ f1
  have s2:=s1.trans s2
  generalize upd H1 a (.dK [])=H2 at s2 f2 g1 ⊢
  have na:H a=none:=by
   cases e:H a with
   | none=>rfl
   | some o=>exact absurd (s1 _ _ e) (by rw [ha];intro z;cases z)
  refine ⟨_,rfl,_,rfl,(by rw [ae];omega),_,rfl,(by rw [ae];omega),(by rw [ae];omega),?_⟩
  rw [ae]
  refine cf (lo:=0) (n:=(u.length:Int).toNat) (fun i σ H'=>∃ v:Option V,σ = [some (tx u),some (.ref l),some (.ref a),v]∧H' l=some (.lst ((cq u i).2.map tx))∧H' a=some (.dK (sk (cq u i).1))∧Sn u (cq u i).1∧aE H H') ⟨none,rfl,g1,f2,Sn.nil u,s2⟩ ?_ ?_
  ·rintro i σ H3 hi ⟨v,rfl,h1,h2,hs,s3⟩
   have hi:i < u.length:=by omega
   rw [Jq]
   refine ⟨_,rfl,_,rfl,a,_,rfl,oS.k (k:=Sum.inl (i:Int)) h2,?_⟩
   rw [qc]
   refine ⟨_,rfl,?_⟩
   refine tF (fun h=>?_) (fun h=>?_)
   ·have h:i∉(cq u i).1:=by simpa using h
    refine ⟨_,rfl,.inl ⟨rfl,_,SqL.of h1⟩,_,rfl,_,rfl,_,rfl,u,i,a,_,rfl,U,hi,hs,h2,fun H4 q1 q2 q3=>?_⟩
    have h4:=q3 _ _ la.symm h1
    have hlen:=w_ u i
    refine ⟨l,_,_,rfl,rfl,h4,by omega,_,rfl,?_,?_,?_,?_⟩
    ·rw [ah,eM h,E_]
     rfl
    ·rw [aH la,eM h]
     exact q1
    ·rw [eM h]
     exact q2
    ·intro b o e
     rw [aH (ax e hl)]
     exact q3 _ _ (ax e na) (s3 _ _ e)
   ·have h:i∈(cq u i).1:=by simpa using h
    exact ⟨_,rfl,by rw [fO h];exact h1,by rw [fO h];exact h2,by rw [fO h];exact hs,s3⟩
  ·rintro σ H3 ⟨v,rfl,h1,h2,hs,s3⟩
   exact ⟨_,rfl,k l _ hl h1 s3⟩
abbrev gk:Stmt:=top 12
theorem n9:ay ["surface"] ["surface"] (ak gk):=⟨rfl,rfl,rfl,by decide +kernel,rfl,by decide +kernel,by decide +kernel⟩
theorem r_ (D:Df K mg "handles" gk)(T:Bt K w mg aB)(KB:Fnc P w K mg base "holes" ["surface"] 3 iF):Fnc P w K mg base "handles" ["surface"] 4 fP:=by
 have sc:=n9
 refine D.ok sc (fun _ _ _ _ _ _ us hl=>by obtain ⟨_,rfl⟩:=oi hl;rfl) (fun vs H Q E h=>?_) (fun f Ks A outer s H vs Q E hr h=>?_)
 ·obtain ⟨u,rfl,_⟩:=h
  rfl
 ·obtain ⟨u,rfl,U,k⟩:=h
  have KF:=aP
  have h12:=U.le
  refine ⟨_,(JW (JX (JO cx (JO cg (JO bt ai (JO cx (JU ao (by rfl) T.len EK (JV (pv 0) af)) ai)) (JU bw (by rfl) T.len EK (JV (J9 KB hr (by decide) rfl (JV (pv 0) af)) af))) ai))),?_⟩
  refine ⟨_,rfl,_,rfl,(by rw [ae];omega),_,_,rfl,rfl,⟨by decide,by decide⟩,_,_,rfl,rfl,_,rfl,u,rfl,U,fun l H1 _ hl s1=>?_⟩
  refine ⟨l,_,rfl,.inl (SqL.of hl),_,_,rfl,rfl,_,_,rfl,rfl,⟨by decide,by decide⟩,?_⟩
  rw [Ej,ae]
  exact k _ s1
abbrev se:Stmt:=top 43
theorem yI:ay ["_law_feed_here","_law_many","_law_most","_law_signs"] ["_law_feed_here","_law_many","_law_most"] (ak se):=⟨rfl,rfl,rfl,by decide +kernel,rfl,by decide +kernel,by decide +kernel⟩
theorem Bf (D:Df K mg "_law_some" se)(T:Bt K w mg aB)(Ku:Fnc P w K mg base "_law_draw" ["_law_feed_here","_law_many"] 1 gN):Fnc P w K mg base "_law_some" ["_law_feed_here","_law_many","_law_most"] 2 kI:=by
 have sc:=yI
 refine D.ok sc (fun _ _ _ _ _ _ us hl=>by obtain ⟨_,_,_,rfl⟩:=sL hl;rfl) (fun vs H Q E h=>?_) (fun f Ks A outer s H vs Q E hr h=>?_)
 ·obtain ⟨d,m,n,rfl,_⟩:=h
  rfl
 ·obtain ⟨d,m,n,rfl,F,m1,m2,n1,n2,k⟩:=h
  have KF:=aP
  refine ⟨_,(JM (JS (3) sc.nd rfl (Or.inr rfl) (JO aY (JY bV aM bf (JZ (pv 1))) (JY bV aM bf (JZ (pv 1))))) (JW (JX (J3 EJ HH HJ kh aM (JV (J4 (["_law_k","_law_signs","_law_feed_here","_law_many"]) (["_law_k"]) ([3,0,1]) (J5 rfl (by kernel_rfl)) rfl (Kk rfl T.range (JV (J9 Ku hr (by decide) rfl (JV (pv 0) (JV (JO bt (pv 2) ai) af))) af)) (fun _ _ _ _=>J6 (0) (show (["_law_k","_law_signs","_law_feed_here","_law_many"]:List Str).Nodup from by decide +kernel) rfl (Or.inl rfl)) (fun _ _ _ _=>cC) (fun _ _ _ _=>by (exact (JT cN (pv 1) (J9 Ku hr (by decide) rfl (JV (pv 2) (JV (JO cU ai (pv 3)) af))) (fun _ _=>rfl))))) af))))),?_⟩
  refine ⟨_,rfl,_,rfl,_,rfl,(by rw [jD];omega),_,rfl,_,rfl,_,rfl,(by rw [vm];omega),_,_,rfl,rfl,?_,?_⟩
  ·have h1:=Hu ("abcdef":Str) none (some m)
   have h2:=Hu ("ABCDEF":Str) none (some m)
   rw [jD] at h1
   rw [vm] at h2
   omega
  rw [tO m1]
  refine ⟨rfl,_,rfl,_,rfl,_,_,rfl,rfl,d,_,rfl,F,by omega,by omega,fun r H1 r0 r1 F1 sb1=>?_⟩
  refine ⟨_,rfl,by omega,by omega,?_⟩
  refine cD (own:=["_law_k"]) (cap:=[3,0,1]) (J:=Itr 0 r.toNat) r.toNat (fun i ys σ H'=>∃ (v:Option V) (W:List L),σ = [v,some (tx (sg m)),some (.ref d),some (.int m)]∧ys=tN W∧W.length=i∧InM m.toNat W∧Fd H' d∧bC d H H')
   ⟨none,[],rfl,rfl,rfl,InM.nil,F1,sb1⟩ (fun i ys σ H' hi ⟨v,W,_,e,e2,_⟩=>by rw [e,fM,e2];exact Ei _) (by omega) (fun i ys σ H' hi _=>hi) (fun ys σ H' _=>Ei _) ?_ ?_
  ·rintro i ys σ H2 x H3 N hi ⟨v,W,rfl,rfl,hW,hI,F2,sb2⟩ ⟨rfl,rfl⟩ hN
   refine ⟨_,rfl,_,rfl,_,rfl,_,_,rfl,rfl,.inl ⟨by decide,by decide⟩,d,_,rfl,F2,by omega,by omega,fun q H4 q0 q1 F4 sb4=>?_⟩
   have hq:q.toNat < (sg m).length:=by rw [jC m1 m2];omega
   refine ⟨_,_,cp (sg m)[q.toNat],rfl,rfl,(by rw [ae,jC m1 m2];omega),bN (k:=q.toNat) (by omega) (fu hq),hN _ _ _ ⟨_,W++[(sg m)[q.toNat]],rfl,(jz _ _),by rw [Eb,hW];rfl,InM.snoc hI (Co m1 m2 _ (Fc hq)),F4,sb2.trans sb4⟩⟩
  ·rintro ys σ H2 l ⟨v,W,rfl,rfl,hW,hI,F2,sb2⟩ hl
   refine ⟨_,l,W.map fun x=>toS [x],rfl,rfl,SqL.of (by rw [ah,lS]),jB _ (by omega),?_⟩
   rw [jA]
   exact k _ _ (by omega) hI (F2.new hl) (sb2.trans (aE.new hl).b)
theorem uZ:∀ (k:Fin 7) (i:Fin 6),i.val < k.val→(([0,1,2,3,4,5]:List L).take k.val)[i.val]? = some ⟨i.val,by omega⟩:=by decide
theorem sf:∀ i:Fin 6,inv (⟨i.val,by omega⟩:L)=⟨i.val+6,by omega⟩:=by decide
abbrev si:Stmt:=top 44
theorem yJ:ay ["_law_feed_here","_law_many","_law_row","_law_sign","_law_end","_law_at"] ["_law_feed_here","_law_many"] (ak si):=⟨rfl,rfl,rfl,by decide +kernel,rfl,by decide +kernel,by decide +kernel⟩
theorem Bg (D:Df K mg "_law_surface" si)(T:Bt K w mg aB)(Ku:Fnc P w K mg base "_law_draw" ["_law_feed_here","_law_many"] 1 gN):Fnc P w K mg base "_law_surface" ["_law_feed_here","_law_many"] 2 i9:=by
 have sc:=yJ
 refine D.ok sc (fun _ _ _ _ _ _ us hl=>by obtain ⟨_,_,rfl⟩:=vS hl;rfl) (fun vs H Q E h=>?_) (fun f Ks A outer s H vs Q E hr h=>?_)
 ·obtain ⟨d,n,rfl,_⟩:=h
  rfl
 ·obtain ⟨d,n,rfl,F,h1,h6,k⟩:=h
  have KF:=aP
  have e6:("abcdef":Str).length=6:=by decide +kernel
  have ez:Txt.slice ("abcdef":Str) none (some (n:Int))=toS (([0,1,2,3,4,5]:List L).take n):=by
   rw [← pG,aO,dY _ (by omega),E2]
  refine ⟨_,(JM (JS (2) sc.nd rfl (Or.inl rfl) aM) (JM (J7 Fe rfl (@jt _ _ _ _ (JY bV aM bf (JZ (pv 1)))) (J6 (3) sc.nd rfl (Or.inl rfl)) (JW (J7 Fe rfl (@y8 _ _ _ _ (Kf (JV (pv 3) (JV (@lH _ _ _ _ _ _ _ _ _ EJ Je Jf lO (pv 3) (by rfl) (by rfl)) af)))) (J6 (4) sc.nd rfl (Or.inl rfl)) (JM (JS (5) sc.nd rfl (Or.inl rfl) (J9 Ku hr (by decide) rfl (JV (pv 0) (JV (JO bt (JU ao (by rfl) T.len EK (JV (pv 2) af)) ai) af)))) (JW (JS (2) sc.nd rfl (Or.inl rfl) (JO aY (JO aY (JY bV (pv 2) bf (JZ (pv 5))) (pv 4)) (JY bV (pv 2) (JZ (pv 5)) bf)))))))) (JW (JX (pv 2))))),?_⟩
  refine ⟨_,rfl,_,rfl,_,rfl,by omega,?_⟩
  rw [ez]
  refine ⟨_,rfl,o_ (z:=toS (([0,1,2,3,4,5]:List L).take n)) (fun i σ H'=>∃ (v3 v4 v5:Option V) (W:List L),σ = [some (.ref d),some (.int (n:Int)),some (tx W),v3,v4,v5]∧W.Perm (fam i)∧Fd H' d∧bC d H H') ⟨none,none,none,[],(by rw [gL];rfl),G0 _,F,bC.refl _ _⟩ ?_ ?_⟩
  ·rintro i ch σ H1 hc ⟨v3,v4,v5,W,rfl,pW,F1,sb1⟩
   obtain ⟨x,hx,e⟩:=cZ hc
   rw [e]
   have hi:i < n:=by
    have:=(Ed.mp hx).1
    rw [Es] at this
    simp at this
    omega
   have hxi:x=⟨i,by omega⟩:=by
    have:=uZ ⟨n,by omega⟩ ⟨i,by omega⟩ hi
    rw [hx] at this
    exact El this
   refine ⟨_,rfl,_,rfl,rfl,_,rfl,rfl,(by rw [ae];show 1≤5592405;decide),?_⟩
   rw [fK (by rw [hxi];show i < 6;omega)]
   refine ⟨(bS (n:=2) (by decide)),fun t ht=>?_⟩
   have htd:t≠d:=F1.ne ht
   refine ⟨t,rfl,⟨_,SqT.of ah⟩,v8 (xs:=[tx [x],tx [inv x]]) (fun j σ H'=>∃ (v4 v5:Option V) (W:List L),σ = [some (.ref d),some (.int (n:Int)),some (tx W),some (tx [x]),v4,v5]∧W.Perm (fam i++[x,inv x].take j)∧Fd H' d∧bC d H H'∧H' t=some (.tup [tx [x],tx [inv x]])) ⟨v4,v5,W,rfl,by rw [List.take_zero,FC];exact pW,F1.new ht,sb1.trans (aE.new ht).b,ah⟩ (fun j σ H' hj ⟨_,_,_,_,_,_,_,q⟩=>SqT.of q) ?_ ?_⟩
   ·rintro j z σ H3 hz ⟨v4,v5,W,rfl,pW,F3,sb3,h3⟩
    have hj:j < 2:=(Ed.mp hz).1
    have lW:W.length≤14:=by
     have c:=qe (show i≤6 by omega)
     have:=pW.length_eq
     rw [Eb,Es,c] at this
     simp only [EF,Fl] at this
     omega
    obtain ⟨z',ez,hz'⟩:∃ z',z=tx [z']∧[x,inv x][j]? = some z':=by
     have:j=0 ∨ j=1:=by omega
     rcases this with rfl | rfl
     ·exact ⟨x,(El hz).symm,rfl⟩
     ·exact ⟨inv x,(El hz).symm,rfl⟩
    subst ez
    have KS:(toS W).length≤sizeLine:=by rw [ae];omega
    refine ⟨_,rfl,_,rfl,_,rfl,KS,_,_,rfl,rfl,d,_,rfl,F3,by rw [ae];omega,by rw [ae];omega,fun q H4 q0 q1 F4 sb4=>?_⟩
    have c1:Txt.slice (toS W) (some q) none=toS (W.drop q.toNat):=by rw [aO,iB _ q0]
    have c2:Txt.slice (toS W) none (some q)=toS (W.take q.toNat):=by rw [aO,dY _ q0]
    refine ⟨_,rfl,_,rfl,_,rfl,_,rfl,KS,?_⟩
    rw [c2]
    refine ⟨_,rfl,_,_,rfl,rfl,(by rw [ae,ae,Es];show _+1≤_;omega),?_⟩
    rw [dF]
    refine ⟨_,rfl,_,rfl,_,rfl,_,rfl,KS,?_⟩
    rw [c1]
    refine ⟨_,_,rfl,rfl,(by rw [ae,ae,Eb,Es,Fb];show _+1+_≤_;omega),?_⟩
    rw [dF,Ek]
    refine ⟨_,_,W.take q.toNat++([z']++W.drop q.toNat),rfl,?_,F4,sb3.trans sb4,sb4 _ _ htd h3⟩
    have e:[x,inv x].take (j+1)=[x,inv x].take j++[z']:=dZ hz'
    rw [e,show fam i++([x,inv x].take j++[z'])=fam i++[x,inv x].take j++[z'] from (Ek ..).symm]
    exact ua z' q.toNat pW
   ·rintro σ H3 ⟨v4,v5,W,rfl,pW,F3,sb3,h3⟩
    refine ⟨_,_,_,W,rfl,?_,F3,sb3⟩
    rw [t_ (show i < 6 by omega)]
    have e:[x,inv x]=[(⟨i,by omega⟩:L),⟨i+6,by omega⟩]:=by rw [hxi,sf ⟨i,by omega⟩]
    rw [← e]
    exact pW
  ·rintro σ H1 ⟨v3,v4,v5,W,rfl,pW,F1,sb1⟩
   have ln:(toS (([0,1,2,3,4,5]:List L).take n)).cps.size=n:=by rw [bo,Es];simp;omega
   rw [ln] at pW
   exact ⟨_,rfl,k W _ ⟨pW,h1,h6⟩ F1 sb1⟩
theorem sj {t u:TS}{D:j4}{σ:L2.St}{H:Hp}(R:L2.St→Hp→Prop)(h1:∀ nx:L2.St→Hp→Prop,(∀ σ2 H2,R σ2 H2→nx σ2 H2)→t ⟨nx,D.rt,D.bk,D.ct⟩ σ H)(h2:∀ σ2 H2,R σ2 H2→u D σ2 H2):C1 t u D σ H:=h1 _ h2
theorem yK {nx:L2.St→Hp→Prop}{rt:VK}{bk ct:L2.St→Hp→Prop}{i:Nat}{σ:L2.St}{x:V}{H:Hp}(h:nx (σ.set i (some x)) H):j8 (sS i) ⟨nx,rt,bk,ct⟩ σ x H:=h
theorem Bh {r:Int}(h0:0≤r)(h1:r < 6):atI ("abcdef":Str).cps.toList r=some (cp (lt6 r.toNat)):=by
 have e:=sm_at (i:=r.toNat) (by omega)
 rw [show ((r.toNat:Nat):Int)=r by omega,← x6 ⟨r.toNat,by omega⟩] at e
 exact e
theorem u3 (w:List L):rep 1 w=w:=rfl
abbrev yL:Stmt:=top 45
theorem Bi:ay ["_law_feed_here","_law_many","_law_most","_law_short","_law_sizes"] ["_law_feed_here","_law_many","_law_most"] (ak yL):=⟨rfl,rfl,rfl,by decide +kernel,rfl,by decide +kernel,by decide +kernel⟩
theorem CY (D:Df K mg "_law_way" yL)(T:Bt K w mg aB)(Ku:Fnc P w K mg base "_law_draw" ["_law_feed_here","_law_many"] 1 gN)(Ky:Fnc P w K mg base "_law_back" ["_law_word"] 1 nt)(F_lred:Fnc P w K mg base "_law_reduced" ["_law_word"] 2 wR)(F_some:Fnc P w K mg base "_law_some" ["_law_feed_here","_law_many","_law_most"] 2 kI):Fnc P w K mg base "_law_way" ["_law_feed_here","_law_many","_law_most"] 3 kZ:=by
 have sc:=Bi
 refine D.ok sc (fun _ _ _ _ _ _ us hl=>by obtain ⟨_,_,_,rfl⟩:=sL hl;rfl) (fun vs H Q E h=>?_) (fun f Ks A outer s H vs Q E hr h=>?_)
 ·obtain ⟨d,m,rfl,_⟩:=h
  rfl
 ·obtain ⟨d,m,rfl,F,m1,m6,k⟩:=h
  have KF:=aP
  refine ⟨_,(JM (JS (3) sc.nd rfl (Or.inr rfl) (J9 F_lred hr (by decide) rfl (JV (J9 F_some hr (by decide) rfl (JV (pv 0) (JV (pv 1) (JV (pv 2) af)))) af))) (JM (@e_ _ _ _ _ _ _ Fe (Kg (@yZ _ _ _ _ _ _ _ (JR BJ (JU ao (by rfl) T.len EK (JV (pv 3) af)) ai (aJ _)) (@vX _ _ _ _ (JR dJ (JT cN (pv 3) ai (fun _ _=>rfl)) (J9 Ky hr (by decide) rfl (JV (JT cN (pv 3) (JO cg (JU ao (by rfl) T.len EK (JV (pv 3) af)) ai) (fun _ _=>rfl)) af)) (aJ _))))) (JW (JS (3) sc.nd rfl (Or.inr rfl) (JY bV (pv 3) (JZ ai) (JZ (JO cg (JU ao (by rfl) T.len EK (JV (pv 3) af)) ai)))))) (JM (JQ (JR dJ (pv 3) aM (aJ _)) (JW (JS (3) sc.nd rfl (Or.inr rfl) (JT cN aM (J9 Ku hr (by decide) rfl (JV (pv 0) (JV (pv 1) af))) (fun _ _=>rfl)))) aW) (JM (@kq _ (4) _ _ _ _ _ _ _ _ _ (["_law_k","_law_short"]) (["_law_k"]) ([3]) _ _ _ _ sc.nd rfl (Or.inl rfl) (J5 rfl (by kernel_rfl)) rfl (@jg _ _ _ _ _ _ _ rfl T.range (JV ai (JV (JO bt (JU ao (by rfl) T.len EK (JV (pv 3) af)) ai) af)) (by rfl) (by rfl)) (fun _ _ _ _=>J6 (0) (show (["_law_k","_law_short"]:List Str).Nodup from by decide +kernel) rfl (Or.inl rfl)) (fun _ _ _ _=>(@lM _ _ _ (by exact (JR dJ (JO nh (JY bV (pv 1) bf (JZ (pv 0))) (JO cx (JU ao (by rfl) T.len EK (JV (pv 1) af)) (pv 0))) (pv 1) (aJ _))))) (fun _ _ _ _=>by (exact (pv 0))) (by intro _ ;rfl) (by rfl) (by first | exact .inl rfl | exact .inr rfl | assumption)) (JW (JX (JY bV (pv 3) bf (JZ (JT ie (pv 4) ai (fun _ _=>rfl)))))))))),?_⟩
  refine ⟨_,rfl,_,rfl,_,rfl,d,_,_,rfl,F,by omega,by omega,by decide,by decide,fun u0 H1 l0 i0 F1 sb1=>?_⟩
  have l0:u0.length≤8:=l0
  refine ⟨u0,rfl,by omega,fun H2 s2=>?_⟩
  have F2:=F1.same s2
  have sb2:=sb1.trans s2.b
  have r0:=Al u0
  have n0:=ni u0
  have j0:InM m (red u0):=fun x hx=>by
   have:=i0 x (xE hx)
   rwa [E2] at this
  generalize red u0=w0 at r0 n0 j0 ⊢
  refine yK (sj (fun σ H'=>∃ W:List L,σ = [some (.ref d),some (.int (m:Int)),some (.int 8),some (tx W),none]∧Cyc W∧W.length≤8∧InM m W∧aE H2 H') ?_ ?_)
  ·intro nx hn
   refine ⟨fun mm σ H'=>∃ W:List L,σ = [some (.ref d),some (.int (m:Int)),some (.int 8),some (tx W),none]∧Wd.Rd W∧W.length≤8∧InM m W∧aE H2 H'∧mm=W.length,⟨_,w0,rfl,r0,by omega,j0,aE.refl _,rfl⟩,?_⟩
   rintro mm σ H3 ⟨W,rfl,rW,lW,iW,s3,rfl⟩
   have KS:(toS W).length≤sizeLine:=by rw [ae];omega
   refine ⟨_,rfl,_,rfl,KS,_,_,rfl,rfl,_,rfl,?_⟩
   rw [ae]
   by_cases g1:1 < W.length
   ·refine gO (Ee (by omega)) ?_
    obtain ⟨x,mid,y,rfl⟩:∃ x mid y,W=x::(mid++[y]):=by
     cases W with
     | nil=>simp at g1
     | cons x r =>
      have hr:r≠[]:=by
       intro e
       subst e
       simp at g1
      exact ⟨x,r.dropLast,r.getLast hr,by rw [HP]⟩
    have hl2:(x::(mid++[y])).length=mid.length+2:=by simp
    have a0:atI (toS (x::(mid++[y]))).cps.toList 0=some (cp x):=bN (k:=0) rfl rfl
    have al:atI (toS (x::(mid++[y]))).cps.toList (((toS (x::(mid++[y]))).length:Int) - 1)=some (cp y):=by
     rw [ae,hl2]
     refine bN (k:=mid.length+1) (by omega) ?_
     rw [IS,ED (Ei _),Hx]
     rfl
    refine ⟨_,rfl,_,_,_,rfl,rfl,KS,a0,_,rfl,_,rfl,_,rfl,KS,_,_,rfl,rfl,_,_,_,rfl,rfl,KS,al,[y],rfl,(by show 1≤5000;decide),fun H4 s4=>?_⟩
    refine ⟨rfl,_,rfl,?_⟩
    rw [dE]
    by_cases hxy:x=inv y
    ·refine gO (by rw [hxy];exact Ee rfl) ⟨_,fun σ' H' q=>q,?_⟩
     refine ⟨_,rfl,_,rfl,_,rfl,_,rfl,KS,_,_,rfl,rfl,_,rfl,_,rfl,KS,?_⟩
     have cm:Txt.slice (toS (x::(mid++[y]))) (some 1) (some (((toS (x::(mid++[y]))).length:Int) - 1))=toS mid:=by rw [aO,ae,w9]
     rw [cm]
     exact ⟨mid.length,by omega,mid,rfl,Az rW,by omega,fun z hz=>iW z (Eg _ (ER _ hz)),s3.trans s4,rfl⟩
    ·refine gP (Ea fun e=>hxy (Gm (gK (show tx [x]=tx [inv y] from e))).1) ?_
     exact hn _ _ ⟨_,rfl,xP rW hxy,lW,iW,s3.trans s4⟩
   ·refine gP (Ea (by omega)) (yN ?_)
    exact hn _ _ ⟨_,rfl,xQ g1,lW,iW,s3⟩
  ·rintro σ H3 ⟨W,rfl,cW,lW,iW,s3⟩
   have F3:=F2.same s3
   have sb3:=sb2.trans s3.b
   refine sj (fun σ H'=>∃ W:List L,σ = [some (.ref d),some (.int (m:Int)),some (.int 8),some (tx W),none]∧GR m 8 W∧Fd H' d∧bC d H H') ?_ ?_
   ·intro nx hn
    refine ⟨_,rfl,rfl,_,rfl,?_⟩
    by_cases w0:W=[]
    ·subst w0
     refine gO (Ee (by rw [gL])) ?_
     refine ⟨_,rfl,_,rfl,d,_,rfl,F3,by omega,by omega,fun r H4 r0 r1 F4 sb4=>?_⟩
     refine ⟨_,_,_,rfl,rfl,(by rw [jD];omega),Bh r0 (show r < 6 by omega),?_⟩
     refine hn _ _ ⟨[lt6 r.toNat],rfl,⟨kR _,by show 1≤8;decide,fun x hx=>?_⟩,F4,sb3.trans sb4⟩
     rw [Ec.mp hx,fR (by omega)]
     omega
    ·refine gP (Ea (fun e=>w0 (gK (by rw [gL];exact e)))) (hn _ _ ⟨W,rfl,⟨cW.rnd w0,lW,iW⟩,F3,sb3⟩)
   ·clear iW lW cW W
    rintro σ H4 ⟨W,rfl,gW,F4,sb4⟩
    have lW:=gW.2.1
    have pW:0 < W.length:=ET.mpr gW.1.ne
    have KS:(toS W).length≤sizeLine:=by rw [ae];omega
    refine ⟨_,rfl,_,rfl,KS,_,_,rfl,rfl,_,_,rfl,?_,?_⟩
    ·rw [ae]
     omega
    rw [ae,show ((W.length:Int)+1 - 1).toNat=W.length by omega]
    refine cD (own:=["_law_k"]) (cap:=[3]) (J:=Itr 1 W.length) W.length (fun i ys σ H'=>∃ (v:Option V) (zs:List Nat),σ = [v,some (tx W)]∧ys=zs.map (fun z:Nat=>V.int (z:Int))∧zs.length≤i∧(∀ z∈zs,1≤z∧z≤W.length∧rep (W.length / z) (W.take z)=W)∧(W.length≤i→zs≠[])∧H'=H4)
     ⟨none,[],rfl,rfl,Ei _,(fun z hz=>by cases hz),(fun h=>absurd h (by omega)),rfl⟩ (fun i ys σ H' hi ⟨_,zs,_,e,e2,_⟩=>by rw [e,Ej];exact e2) (by omega) (fun i ys σ H' hi _=>hi) (fun ys σ H' _=>Ei _) ?_ ?_
    ·rintro i ys σ H5 x H6 N hi ⟨v,zs,rfl,rfl,hz,gz,nz,rfl⟩ ⟨rfl,rfl⟩ hN
     have e1:(1:Int)+(i:Int)=((i+1:Nat):Int):=by omega
     rw [e1]
     have c1:Txt.slice (toS W) none (some ((i+1:Nat):Int))=toS (W.take (i+1)):=by rw [aO,dY _ (by omega)];rfl
     have dv:((toS W).length:Int) / ((i+1:Nat):Int)=((W.length / (i+1):Nat):Int):=by rw [ae];rfl
     have db:W.length / (i+1)≤W.length:=Nat.div_le_self _ _
     refine ⟨_,rfl,_,rfl,_,rfl,_,rfl,KS,?_⟩
     rw [c1]
     refine ⟨_,rfl,_,rfl,KS,_,rfl,_,_,rfl,rfl,⟨by omega,by omega⟩,?_⟩
     refine ⟨_,((W.length / (i+1):Nat):Int),rfl,Ey V.int dv,pJ _ (Int.le_trans (by decide) (Int.natCast_nonneg _)) (Int.ofNat_le.mpr (show W.length / (i+1)≤1000 by omega)) (by rw [Es];omega),?_⟩
     rw [wM,E2]
     refine ⟨_,rfl,rfl,_,rfl,?_⟩
     by_cases he:rep (W.length / (i+1)) (W.take (i+1))=W
     ·refine gO (by rw [he];exact Ee rfl) ⟨_,rfl,?_⟩
      refine hN _ _ _ ⟨_,zs++[i+1],rfl,by rw [E_];rfl,by rw [Eb];show _+1≤_;omega,fun z hz=>?_,fun _=>by simp,rfl⟩
      rcases Ew.mp hz with hz | hz
      ·exact gz z hz
      ·rw [Ec.mp hz];exact ⟨by omega,by omega,he⟩
     ·refine gP (Ea fun e=>he (gK e)) (hN _ _ _ ⟨_,zs,rfl,rfl,by omega,gz,fun h=>?_,rfl⟩)
      exfalso
      apply he
      have:i+1=W.length:=by omega
      rw [this,Nat.div_self pW,GF]
      exact u3 W
    ·rintro ys σ H5 p ⟨v,zs,rfl,rfl,hz,gz,nz,rfl⟩ hp
     obtain ⟨z,r,rfl⟩:∃ z r,zs=z::r:=by
      cases zs with
      | nil=>exact absurd rfl (nz (Ei _))
      | cons z r=>exact ⟨z,r,rfl⟩
     obtain ⟨z1,z2,z3⟩:=gz z Er
     have c1:Txt.slice (toS W) none (some (z:Int))=toS (W.take z):=by rw [aO,dY _ (by omega),E2]
     refine ⟨_,rfl,_,rfl,p,_,_,_,rfl,rfl,SqL.of ah,oM (j:=0) rfl,_,rfl,_,rfl,KS,?_⟩
     rw [c1]
     have cy:Cyc (W.take z):=xR (n:=W.length / z) (by rw [z3];exact ⟨gW.1.rd,gW.1.jn⟩) (by rw [z3];exact gW.1.ne)
     exact k _ _ ⟨cy.rnd (ET.mp (by rw [Es];omega)),by rw [Es];omega,fun x hx=>gW.2.2 x (GX hx)⟩ (F4.new hp) (sb4.trans (aE.new hp).b)
abbrev jc:Stmt:=top 46
theorem sq:ay ["_law_surface_here","_law_words","_law_ways","_law_word","_law_other"] ["_law_surface_here","_law_words","_law_ways"] (ak jc):=⟨rfl,rfl,rfl,by decide +kernel,rfl,by decide +kernel,by decide +kernel⟩
theorem u4 (D:Df K mg "_law_holes_right" jc)(T:Bt K w mg aB)(K5:Fnc P w K mg base "is_way" ["surface","thing"] 3 (AQ K))(KA:Fnc P w K mg base "links" ["surface","ways","i","j"] 6 i5)(KH:Fnc P w K mg base "balance" ["surface","one","other"] 4 xZ):Fnc P w K mg base "_law_holes_right" ["_law_surface_here","_law_words","_law_ways"] 7 k7:=by
 have sc:=sq
 refine D.ok sc (fun _ _ _ _ _ _ us hl=>by obtain ⟨_,_,_,rfl⟩:=sL hl;rfl) (fun vs H Q E h=>?_) (fun f Ks A outer s H vs Q E hr h=>?_)
 ·obtain ⟨u,lw,la,n,W,rfl,_⟩:=h
  rfl
 ·obtain ⟨u,lw,la,n,W,rfl,U,hl,ha,w3,gW,k⟩:=h
  have hu:=o7 hr
  have KF:=aP
  have h12:=U.srf.le
  have fl:=mV U.srf
  have hh:(hol u).length≤u.length:=kx u u.length
  refine ⟨_,(JM (JQ (JR (@qN _ (by exact hr.units)) (JU (@cR _ rfl) (by rfl) T.sorted iC (JV (J3 EJ HH HJ kh aM (JV (pv 1) af)) af)) (JU (@cR _ rfl) (by rfl) T.sorted iC (JV (pv 0) af)) (aJ _)) (JW (JX dI)) aW) (JM (J7 Fe rfl (@hV _ _ _ _ (pv 1)) (J6 (3) sc.nd rfl (Or.inl rfl)) (JM (JQ (Kg (Kh (Kb (Kc (J9 K5 hr (by decide) rfl (JV (pv 0) (JV (pv 3) af))) (fun _=>rfl))) (@gu _ _ _ _ (JR (@d3 _ (by exact hr.units)) (J9 KA hr (by decide) rfl (JV (pv 0) (JV (Kf (JV (pv 3) af)) (JV ai (JV ai af))))) (J0 af) (aJ _))))) (JW (JX dI)) aW) (JW (J7 Fe rfl (@hV _ _ _ _ (JO ve (pv 1) (pv 2))) (J6 (4) sc.nd rfl (Or.inl rfl)) (JM (JQ (Kg (Kh (JR (@d3 _ (by exact hr.units)) (J9 KA hr (by decide) rfl (JV (pv 0) (JV (Kf (JV (pv 3) (JV (pv 4) af))) (JV ai (JV ai af))))) (J0 af) (aJ _)) (@gu _ _ _ _ (JR (@d3 _ (by exact hr.units)) (J9 KA hr (by decide) rfl (JV (pv 0) (JV (Kf (JV (pv 4) (JV (pv 3) af))) (JV ai (JV ai af))))) (J0 af) (aJ _))))) (JW (JX dI)) aW) (JW (JQ (JR h_ (J9 KH hr (by decide) rfl (JV (pv 0) (JV (pv 3) (JV (pv 4) af)))) ai (aJ _)) (JW (JX dI)) aW))))))) (JW (JX dI)))),?_⟩
  refine ⟨rfl,_,rfl,_,lw,(hol u).map toS,rfl,rfl,SqL.of (by rw [hl,Fp];rfl),?_,?_⟩
  ·rw [rK,fl]
   show u.length+((hol u).map toS).length*0≤16777216
   omega
  rw [qO]
  refine ⟨_,rfl,by rw [ae];omega,fun p zs hp pm so=>?_⟩
  have s1:aE H (upd H p (.lst (zs.map V.str))):=aE.new hp
  have f1:(upd H p (.lst (zs.map V.str))) p=some (.lst (zs.map V.str)):=ah
  generalize upd H p (.lst (zs.map V.str))=H1 at s1 f1 ⊢
  refine ⟨_,rfl,_,rfl,by rw [ae];omega,fun q ys hq pm2 so2=>?_⟩
  have s2:aE H1 (upd H1 q (.lst (ys.map V.str))):=aE.new hq
  have f2:(upd H1 q (.lst (ys.map V.str))) q=some (.lst (ys.map V.str)):=ah
  generalize upd H1 q (.lst (ys.map V.str))=H2 at s2 f2 ⊢
  have e:zs=ys:=nG so so2 (pm.trans ((nH.mpr (by rw [aZ,aZ];exact (d_ U.srf).pm.map cp)).trans pm2.symm))
  subst e
  obtain ⟨Vs,e1,d1⟩:=mU (s2 _ _ f1) pm
  obtain ⟨Vs2,e2,d2⟩:=mU f2 pm2
  have e3:Vs=Vs2:=(List.map_inj_right (fun _ _ e=>kl e)).mp (e1.symm.trans e2)
  subst e3
  refine ⟨_,_,d1,d2,i_ Vs,i_ Vs,?_,?_⟩
  ·show PyData.depthAll (dws Vs)+1≤10
   have:=jY Vs
   omega
  rw [SeqAt.eqv_refl _ (i_ Vs)]
  have s2:=s1.trans s2
  refine ⟨_,rfl,mF ?_⟩
  refine ⟨_,rfl,lw,rfl,⟨_,SqL.of (s2 _ _ hl)⟩,hZ (xs:=(hol u).map tx) (fun i σ H'=>∃ v4 v5:Option V,σ = [some (tx u),some (.ref lw),some (.ref la),v4,v5]∧aE H H') ⟨none,none,rfl,s2⟩ (fun i σ H' _ ⟨_,_,_,s3⟩=>SqL.of (s3 _ _ hl)) ?_ ?_⟩
  ·rintro i x σ H3 hx ⟨v4,v5,rfl,s3⟩
   obtain ⟨h,hh2,rfl⟩:∃ w,w∈hol u∧x=tx w:=by
    obtain ⟨w,hw,e⟩:=EU.mp (EY hx)
    exact ⟨w,hw,e.symm⟩
   have gh:=jZ U hh2
   have gh30:GR n 30 h:=gh.le (by decide)
   have lh:=gh.2.1
   refine ⟨_,rfl,_,rfl,u,n,tx h,rfl,U,.str _ (by rw [ae];omega),fun H4 s4=>?_⟩
   rw [yd U hh2]
   have s04:=s3.trans s4
   refine ⟨_,rfl,nkT (yQ ?_)⟩
   refine ⟨_,rfl,_,rfl,(bS (n:=1) (by decide)),fun t5 ht5=>?_⟩
   have s5:=s04.then (o:=.tup [tx h]) ht5
   have f5:(upd H4 t5 (.tup [tx h])) t5=some (.tup ([h].map tx)):=ah
   generalize upd H4 t5 (.tup [tx h])=H5 at s5 f5 ⊢
   refine ⟨u,t5,n,[h],0,0,rfl,U,⟨f5,wy1 gh30⟩,by decide,(by show (0:Int) < 1;decide),by decide,(by show (0:Int) < 1;decide),fun l6 z6 H6 n6 s6 f6 k6 e6 w6=>?_⟩
   have z60:=rM e6 (rL U hh2)
   subst z60
   refine ⟨(bS (n:=0) (by decide)),fun p7 hp7=>⟨l6,p7,_,rfl,rfl,aE.new hp7 _ _ f6,ah,_,rfl,mF ?_⟩⟩
   have s7:=(s5.trans s6).then (o:=.lst []) hp7
   generalize upd H6 p7 (.lst [])=H7 at s7 ⊢
   have em:(hol u).map tx++W.map tx=(hol u++W).map tx:=by rw [E_]
   refine ⟨_,rfl,_,rfl,lw,la,_,_,rfl,rfl,s7 _ _ hl,s7 _ _ ha,by rw [Ej,Ej];omega,fun l8 hl8=>?_⟩
   rw [em]
   have s8:=s7.then (o:=.lst ((hol u++W).map tx)) hl8
   have f8:(upd H7 l8 (.lst ((hol u++W).map tx))) l8=some (.lst ((hol u++W).map tx)):=ah
   generalize upd H7 l8 (.lst ((hol u++W).map tx))=H8 at s8 f8 ⊢
   refine ⟨l8,rfl,⟨_,SqL.of f8⟩,hZ (xs:=(hol u++W).map tx) (fun i σ H'=>∃ v5:Option V,σ = [some (tx u),some (.ref lw),some (.ref la),some (tx h),v5]∧aE H8 H') ⟨v5,rfl,aE.refl _⟩ (fun i σ H' _ ⟨_,_,s9⟩=>SqL.of (s9 _ _ f8)) ?_ ?_⟩
   ·rintro j x σ H9 hx2 ⟨v5,rfl,s9⟩
    obtain ⟨v,hv,rfl⟩:∃ w,w∈hol u++W∧x=tx w:=by
     obtain ⟨w,hw,e⟩:=EU.mp (EY hx2)
     exact ⟨w,hw,e.symm⟩
    have gv:GR n 12 v:=by
     rcases Ew.mp hv with hv | hv
     ·exact jZ U hv
     ·exact (gW v hv).le (by decide)
    have gv30:GR n 30 v:=gv.le (by decide)
    have lv:=gv.2.1
    obtain ⟨zA,zB⟩:=uQ U hh2 gv.wo
    refine ⟨_,rfl,_,rfl,_,rfl,(bS (n:=2) (by decide)),fun tA htA=>?_⟩
    have sA:=s9.then (o:=.tup [tx h,tx v]) htA
    have fA:(upd H9 tA (.tup [tx h,tx v])) tA=some (.tup ([h,v].map tx)):=ah
    generalize upd H9 tA (.tup [tx h,tx v])=HA at sA fA ⊢
    refine ⟨u,tA,n,[h,v],0,1,rfl,U,⟨fA,wy2 gh30 gv30⟩,by decide,(by show (0:Int) < 2;decide),by decide,(by show (1:Int) < 2;decide),fun lB zsB HB nB sB fB kB eB wB=>?_⟩
    have zz:=rM eB zA
    subst zz
    refine ⟨(bS (n:=0) (by decide)),fun pB hpB=>⟨lB,pB,_,rfl,rfl,aE.new hpB _ _ fB,ah,_,rfl,yQ ?_⟩⟩
    have sC:=(sA.trans sB).then (o:=.lst []) hpB
    generalize upd HB pB (.lst [])=HC at sC ⊢
    refine ⟨_,rfl,_,rfl,_,rfl,(bS (n:=2) (by decide)),fun tD htD=>?_⟩
    have sD:=sC.then (o:=.tup [tx v,tx h]) htD
    have fD:(upd HC tD (.tup [tx v,tx h])) tD=some (.tup ([v,h].map tx)):=ah
    generalize upd HC tD (.tup [tx v,tx h])=HD at sD fD ⊢
    refine ⟨u,tD,n,[v,h],0,1,rfl,U,⟨fD,wy2 gv30 gh30⟩,by decide,(by show (0:Int) < 2;decide),by decide,(by show (1:Int) < 2;decide),fun lE zsE HE nE sE fE kE eE wE=>?_⟩
    have zz:=rM eE zB
    subst zz
    refine ⟨(bS (n:=0) (by decide)),fun pE hpE=>⟨lE,pE,_,rfl,rfl,aE.new hpE _ _ fE,ah,_,rfl,mF ?_⟩⟩
    have sF:=(sD.trans sE).then (o:=.lst []) hpE
    generalize upd HE pE (.lst [])=HF at sF ⊢
    refine ⟨_,rfl,_,rfl,_,rfl,u,h,v,n,rfl,U,by omega,by omega,fun HG sG=>?_⟩
    refine ⟨rfl,_,rfl,?_⟩
    refine (Ey (fun b=>cu _ _ _ _ b _) (show (!decide (V.int (bal u n h v)=V.int 0))=false by rw [ud U hh2,Ee rfl];rfl)).mpr (mF ?_)
    exact ⟨_,rfl,sF.trans sG⟩
   ·rintro σ H9 ⟨v5,rfl,s9⟩
    exact ⟨_,_,rfl,s8.trans s9⟩
  ·rintro σ H3 ⟨v4,v5,rfl,s3⟩
   exact k _ s3
abbrev jd:Stmt:=top 47
theorem su:ay ["_law_surface_here","_law_one","_law_other","_law_found","_law_many"] ["_law_surface_here","_law_one","_law_other"] (ak jd):=⟨rfl,rfl,rfl,by decide +kernel,rfl,by decide +kernel,by decide +kernel⟩
theorem u5 (D:Df K mg "_law_balance_right" jd)(T:Bt K w mg aB)(Ky:Fnc P w K mg base "_law_back" ["_law_word"] 1 nt)(KA:Fnc P w K mg base "links" ["surface","ways","i","j"] 6 i5)(KH:Fnc P w K mg base "balance" ["surface","one","other"] 4 xZ):Fnc P w K mg base "_law_balance_right" ["_law_surface_here","_law_one","_law_other"] 7 k8:=by
 have sc:=su
 refine D.ok sc (fun _ _ _ _ _ _ us hl=>by obtain ⟨_,_,_,rfl⟩:=sL hl;rfl) (fun vs H Q E h=>?_) (fun f Ks A outer s H vs Q E hr h=>?_)
 ·obtain ⟨u,w1,w2,n,rfl,_⟩:=h
  rfl
 ·obtain ⟨u,w1,w2,n,rfl,U,g1,g2,k⟩:=h
  have KF:=aP
  have l1:=g1.2.1
  have l2:=g2.2.1
  obtain ⟨b1,b2⟩:=AM U g1.wo g2.wo
  have e1:bal u n w2 w1 = - bal u n w1 w2:=iK u n w1 w2
  have e2:bal u n (bk w1) w2 = - bal u n w1 w2:=zV u n w1 w2
  have e3:bal u n (w1++w1) w2=2*bal u n w1 w2:=by
   rw [iK u n w2 (w1++w1),qi,e1]
   omega
  have e4:=ub u n w1
  have z1:(jQ u [w1,w2] 0 1 (wyZ [w1,w2] 0).length).length=NN u w1 w2:=rj (by decide)
  refine ⟨_,(JM (JS (3) sc.nd rfl (Or.inl rfl) (J9 KH hr (by decide) rfl (JV (pv 0) (JV (pv 1) (JV (pv 2) af))))) (JM (JS (4) sc.nd rfl (Or.inl rfl) (JU bw (by rfl) T.len EK (JV (J9 KA hr (by decide) rfl (JV (pv 0) (JV (Kf (JV (pv 1) (JV (pv 2) af))) (JV ai (JV ai af))))) af))) (JM (JQ (Kg (Kh (JR dw (pv 4) (JU sW (by rfl) T.abs B8 (JV (pv 3) af)) (aJ _)) (@gu _ _ _ _ (JR h_ (JO cV (JO cg (pv 4) (pv 3)) ai) ai (aJ _))))) (JW (JX dI)) aW) (JM (JQ (Kg (Kh (JR h_ (J9 KH hr (by decide) rfl (JV (pv 0) (JV (pv 2) (JV (pv 1) af)))) (JO cg ai (pv 3)) (aJ _)) (@gu _ _ _ _ (JR h_ (J9 KH hr (by decide) rfl (JV (pv 0) (JV (J9 Ky hr (by decide) rfl (JV (pv 1) af)) (JV (pv 2) af)))) (JO cg ai (pv 3)) (aJ _))))) (JW (JX dI)) aW) (JW (JX (J_ (J1 dJ (J9 KH hr (by decide) rfl (JV (pv 0) (JV (pv 1) (JV (pv 1) af)))) ai (aJ _)) (Ka (J1 dJ (J9 KH hr (by decide) rfl (JV (pv 0) (JV (JO aY (pv 1) (pv 1)) (JV (pv 2) af)))) (JO cU ai (pv 3)) (aJ _)))))))))),?_⟩
  refine ⟨_,rfl,_,rfl,_,rfl,u,w1,w2,n,rfl,U,by omega,by omega,fun H1 s1=>?_⟩
  refine ⟨_,rfl,_,rfl,_,rfl,(bS (n:=2) (by decide)),fun t2 ht2=>?_⟩
  have s2:=s1.then (o:=.tup [tx w1,tx w2]) ht2
  have f2:(upd H1 t2 (.tup [tx w1,tx w2])) t2=some (.tup ([w1,w2].map tx)):=ah
  generalize upd H1 t2 (.tup [tx w1,tx w2])=H2 at s2 f2 ⊢
  refine ⟨u,t2,n,[w1,w2],0,1,rfl,U,⟨f2,wy2 (g1.le (by decide)) (g2.le (by decide))⟩,by decide,(by show (0:Int) < 2;decide),by decide,(by show (1:Int) < 2;decide),fun l3 z3 H3 n3 s3 f3 k3 e3' w3=>⟨l3,_,rfl,.inl (SqL.of f3),?_⟩⟩
  have hl:(((z3.map (·.1)).map V.ref).length:Int)=((NN u w1 w2:Nat):Int):=by
   have:=e3'.length_eq
   rw [z1] at this
   simp only [Ej] at this ⊢
   omega
  rw [hl]
  have s03:=s2.trans s3
  have e5:decide (((NN u w1 w2:Nat):Int) < (if bal u n w1 w2 < 0 then - bal u n w1 w2 else bal u n w1 w2))=false:=Ea (by split <;> omega)
  generalize bal u n w1 w2=B at *
  generalize NN u w1 w2=M at *
  refine ⟨_,rfl,_,rfl,_,rfl,_,_,rfl,rfl,_,rfl,?_⟩
  refine (Ey (fun b=>gs _ _ _ b _) e5).mpr (yQ ?_)
  refine ⟨_,rfl,_,rfl,_,_,rfl,rfl,_,_,rfl,rfl,by decide,rfl,_,rfl,?_⟩
  refine (Ey (fun b=>cu _ _ _ _ b _) (show (!decide (V.int (((M:Int) - B) % 2)=V.int 0))=false by rw [b2,Ee rfl];rfl)).mpr (mF ?_)
  refine ⟨_,rfl,_,rfl,_,rfl,u,w2,w1,n,rfl,U,by omega,by omega,fun H4 s4=>?_⟩
  refine ⟨_,rfl,_,_,rfl,rfl,rfl,_,rfl,?_⟩
  refine (Ey (fun b=>gs _ _ _ b _) (show (!decide (V.int (bal u n w2 w1)=V.int (0 - B)))=false by rw [e1,Ee (Ey V.int (by omega))];rfl)).mpr (yQ ?_)
  refine ⟨_,rfl,_,rfl,w1,rfl,by omega,fun H5 s5=>⟨_,rfl,u,bk w1,w2,n,rfl,U,by rw [bj];omega,by omega,fun H6 s6=>?_⟩⟩
  refine ⟨_,rfl,_,_,rfl,rfl,rfl,_,rfl,?_⟩
  refine (Ey (fun b=>cu _ _ _ _ b _) (show (!decide (V.int (bal u n (bk w1) w2)=V.int (0 - B)))=false by rw [e2,Ee (Ey V.int (by omega))];rfl)).mpr (mF ?_)
  refine ⟨_,rfl,_,rfl,_,rfl,u,w1,w1,n,rfl,U,by omega,by omega,fun H7 s7=>?_⟩
  have s07:=(((s03.trans s4).trans s5).trans s6).trans s7
  refine ⟨rfl,?_⟩
  rw [e4]
  refine ⟨true,rfl,zx ?_⟩
  refine ⟨_,rfl,_,rfl,_,rfl,_,_,rfl,rfl,(by rw [ae];omega),?_⟩
  rw [dF]
  refine ⟨_,rfl,u,w1++w1,w2,n,rfl,U,by rw [Eb];omega,by omega,fun H8 s8=>?_⟩
  refine ⟨_,rfl,_,_,rfl,rfl,.inl ⟨by decide,by decide⟩,rfl,?_⟩
  rw [e3]
  exact (Ey (fun b=>Q (V.bl b) H8) (Ee (rfl:V.int (2*B)=V.int (2*B)))).mpr (k _ (s07.trans s8))
end
inductive sv (K:PySem.W.Frag)(vs:List V)(H:Hp)(Q:VK)(Kv:XK):Prop
 | mk:∀ (a:Addr) (ns:List Int),(vs=[.ref a])→(SqL K H a (ns.map V.int))→(ns.length≤63)→(∀ H',Q (.bl true) H')→sv K vs H Q Kv
section
variable {P:Program} {w:World} {K:PySem.W.Frag} {mg:Str→Option Value} {base:Heap} {aB:Addr}
abbrev j3:Stmt:=top 48
theorem Bj:ay ["_law_script","_law_feed_here","_law_k","_law_many","_law_surface_here","_law_words","_law_ways","_law_one"] ["_law_script"] (ak j3):=⟨rfl,rfl,rfl,by decide +kernel,rfl,by decide +kernel,by decide +kernel⟩
theorem CZ {f:Addr}{fd:FuncData}(D:Fun K "law" "law" j3 f fd)(T:Bt K w mg aB)(F_feed:Fnc P w K mg base "_law_feed" ["_law_script"] 1 (pN K))(Ku:Fnc P w K mg base "_law_draw" ["_law_feed_here","_law_many"] 1 gN)(F_surf:Fnc P w K mg base "_law_surface" ["_law_feed_here","_law_many"] 2 i9)(F_way:Fnc P w K mg base "_law_way" ["_law_feed_here","_law_many","_law_most"] 3 kZ)
  (KB:Fnc P w K mg base "holes" ["surface"] 3 iF) (KC:Fnc P w K mg base "handles" ["surface"] 4 fP) (KY:Fnc P w K mg base "_law_holes_right" ["_law_surface_here","_law_words","_law_ways"] 7 k7) (KZ:Fnc P w K mg base "_law_balance_right" ["_law_surface_here","_law_one","_law_other"] 7 k8):nc P w K mg base CX0 9 f fd ["_law_script"] (sv K):=by
 have sc:=Bj
 refine D.ok sc (fun vs H Q E h=>?_) (fun Ks A outer s H vs Q E hr h=>?_)
 ·obtain ⟨a,ns,rfl,_⟩:=h
  rfl
 ·obtain ⟨a,ns,rfl,hS,hlen,q⟩:=h
  have KF:=aP
  refine ⟨_,(JM (JS (1) sc.nd rfl (Or.inr rfl) (J9 F_feed hr (by decide) rfl (JV (pv 0) af))) (JM (J7 Fe rfl (Kk rfl T.range (JV ai af)) (J6 (2) sc.nd rfl (Or.inl rfl)) (JM (JS (3) sc.nd rfl (Or.inr rfl) (JO bt ai (J9 Ku hr (by decide) rfl (JV (pv 1) (JV ai af))))) (JM (JS (4) sc.nd rfl (Or.inr rfl) (J9 F_surf hr (by decide) rfl (JV (pv 1) (JV (pv 3) af)))) (JM (JS (5) sc.nd rfl (Or.inl rfl) (J9 KB hr (by decide) rfl (JV (pv 4) af))) (JM (@kq _ (6) _ _ _ _ _ _ _ _ _ (["_law_j","_law_feed_here","_law_many"]) (["_law_j"]) ([1,3]) _ _ _ _ sc.nd rfl (Or.inl rfl) (J5 rfl (by kernel_rfl)) rfl (Kk rfl T.range (JV ai af)) (fun _ _ _ _=>J6 (0) (show (["_law_j","_law_feed_here","_law_many"]:List Str).Nodup from by decide +kernel) rfl (Or.inl rfl)) (fun _ _ _ _=>cC) (fun _ _ _ _=>by (exact (J9 F_way hr (by decide) rfl (JV (pv 1) (JV (pv 2) (JV ai af)))))) (by intro _ ;rfl) (by rfl) (by first | exact .inl rfl | exact .inr rfl | assumption)) (JM (JQ (Kb (Kc (J9 KY hr (by decide) rfl (JV (pv 4) (JV (pv 5) (JV (pv 6) af)))) (fun _=>rfl))) (JW (JX dI)) aW) (JM (JQ (Kg (Kh (JR h_ (JU bw (by rfl) T.len EK (JV (pv 5) af)) (JO cg (JO bt (pv 3) ai) (JO cU ai (J9 KC hr (by decide) rfl (JV (pv 4) af)))) (aJ _)) (@gu _ _ _ _ (JR dw (J9 KC hr (by decide) rfl (JV (pv 4) af)) ai (aJ _))))) (JW (JX dI)) aW) (JW (J7 Fe rfl (@hV _ _ _ _ (pv 6)) (J6 (7) sc.nd rfl (Or.inr rfl)) (JW (JQ (JR (@d3 _ (by exact hr.units)) (J4 (["_law_other","_law_surface_here","_law_one"]) (["_law_other"]) ([4,7]) (J5 rfl (by kernel_rfl)) rfl (@hV _ _ _ _ (pv 6)) (fun _ _ _ _=>J6 (0) (show (["_law_other","_law_surface_here","_law_one"]:List Str).Nodup from by decide +kernel) rfl (Or.inl rfl)) (fun _ _ _ _=>(@lM _ _ _ (by exact (Kb (@Cd _ _ _ (J9 KZ hr (by decide) rfl (JV (pv 1) (JV (pv 2) (JV (pv 0) af)))) (fun _=>rfl)))))) (fun _ _ _ _=>by (exact (pv 0)))) (J0 af) (aJ _)) (JW (JX dI)) aW))))))))))) (JW (JX dI)))),?_⟩
  refine ⟨_,rfl,a,ns,rfl,hS,hlen,fun d H1 _ F1 _=>?_⟩
  refine ⟨_,rfl,by decide,by decide,cf (lo:=0) (n:=4) (fun i σ H'=>∃ (b2 b3 b4 b5 b6 b7:Option V),σ = [some (.ref a),some (.ref d),b2,b3,b4,b5,b6,b7]∧Fd H' d) ⟨none,none,none,none,none,none,rfl,F1⟩ ?_ ?_⟩
  ·rintro i σ H1 hi ⟨b2,b3,b4,b5,b6,b7,rfl,F1⟩
   refine ⟨_,rfl,d,_,rfl,F1,by decide,by decide,fun r H2 r0 r1 F2 _=>?_⟩
   refine ⟨_,_,rfl,rfl,?_⟩
   obtain ⟨n,en,n1,n5⟩:∃ n:Nat,(1:Int)+r=(n:Int)∧1≤n∧n≤5:=⟨(1+r).toNat,by omega,by omega,by omega⟩
   rw [en]
   refine ⟨_,rfl,_,rfl,d,n,rfl,F2,n1,by omega,fun u H3 U F3 _=>?_⟩
   have hul:=U.len
   refine ⟨_,rfl,u,rfl,U.srf,fun lw H4 n4 f4 s4=>?_⟩
   have F4:=F3.same s4
   have hwd:lw≠d:=F3.ne n4
   refine ⟨_,rfl,by decide,by decide,?_⟩
   refine cD (own:=["_law_j"]) (cap:=[1,3]) (J:=Itr 0 3) 3 (fun i ys σ H'=>∃ (v:Option V) (W:List (List L)),σ = [v,some (.ref d),some (.int (n:Int))]∧ys=W.map tx∧W.length=i∧(∀ w∈W,GR n 8 w)∧Fd H' d∧bC d H4 H')
    ⟨none,[],rfl,rfl,rfl,(fun w h=>by cases h),F4,bC.refl _ _⟩ (fun i ys σ H' hi ⟨v,W,_,e,e2,_⟩=>by rw [e,Ej,e2];exact Ei _) (by decide) (fun i ys σ H' hi _=>hi) (fun ys σ H' _=>Ei _) ?_ ?_
   ·rintro i ys σ H5 x H6 N hi ⟨v,W,rfl,rfl,hW,gW,F5,sb5⟩ ⟨rfl,rfl⟩ hN
    refine ⟨_,rfl,_,rfl,d,n,rfl,F5,n1,by omega,fun w H7 gw F7 sb7=>hN _ _ _ ⟨_,W++[w],rfl,by rw [E_];rfl,by rw [Eb,hW];rfl,fun z hz=>?_,F7,sb5.trans sb7⟩⟩
    rcases Ew.mp hz with hz | hz
    ·exact gW z hz
    ·rw [Ec.mp hz];exact gw
   rintro ys σ H5 la ⟨v,W,rfl,rfl,hW,gW,F5,sb5⟩ hla
   have F6:=F5.new (o:=.lst (W.map tx)) hla
   have fa6:(upd H5 la (.lst (W.map tx))) la=some (.lst (W.map tx)):=ah
   have fw6:=aE.new (o:=.lst (W.map tx)) hla _ _ (sb5 _ _ hwd f4)
   generalize upd H5 la (.lst (W.map tx))=H6 at F6 fa6 fw6 ⊢
   refine ⟨_,rfl,_,rfl,_,rfl,u,lw,la,n,W,rfl,U,fw6,fa6,by omega,gW,fun H7 s7=>?_⟩
   refine ⟨_,rfl,nkT (mF ?_)⟩
   have fa7:=s7 _ _ fa6
   have F7:=F6.same s7
   obtain ⟨m,hm⟩:=xD U.srf
   have ht:(1+(u.length:Int) / 2 - ((hol u).length:Int)) / 2=(m:Int):=by omega
   have fw7:=s7 _ _ fw6
   refine ⟨_,rfl,lw,_,rfl,.inl (SqL.of fw7),_,rfl,_,_,rfl,rfl,?_⟩
   refine ⟨_,rfl,u,rfl,U.srf,fun H8 s8=>?_⟩
   rw [ht]
   refine ⟨_,_,rfl,rfl,.inl ⟨by decide,by decide⟩,_,_,rfl,rfl,rfl,_,rfl,?_⟩
   refine (Ey (fun b=>gs _ _ _ b _) (show (!decide (V.int (((hol u).map tx).length:Int)=V.int ((n:Int)+1 - 2*(m:Int))))=false by rw [Ej,Ee (Ey V.int (by omega))];rfl)).mpr (yQ ?_)
   refine ⟨_,rfl,u,rfl,U.srf,fun H9 s9=>?_⟩
   rw [ht]
   refine ⟨_,_,rfl,rfl,_,rfl,?_⟩
   refine (Ey (fun b=>cu _ _ _ _ b _) (Ea (show ¬ (m:Int) < 0 by omega))).mpr (mF ?_)
   have s79:=s8.trans s9
   have fa9:=s79 _ _ fa7
   have F9:=F7.same s79
   refine ⟨_,rfl,la,rfl,⟨_,SqL.of fa9⟩,hZ (xs:=W.map tx) (fun _ σ H'=>∃ (b7:Option V),σ = [some (.ref a),some (.ref d),some (.int (0+(i:Int))),some (.int (n:Int)),some (tx u),some (.ref lw),some (.ref la),b7]∧aE H9 H') ⟨b7,rfl,aE.refl _⟩ (fun _ σ H' _ ⟨_,_,e⟩=>SqL.of (e _ _ fa9)) ?_ ?_⟩
   ·rintro j x σ HA hx ⟨b7,rfl,sA⟩
    obtain ⟨w1,hw1,rfl⟩:∃ w,w∈W∧x=tx w:=by
     obtain ⟨w,hw,e⟩:=EU.mp (EY hx)
     exact ⟨w,hw,e.symm⟩
    have faA:=sA _ _ fa9
    refine ⟨_,rfl,la,rfl,⟨_,SqL.of faA⟩,?_⟩
    refine p5 (xs:=W.map tx) (own:=["_law_other"]) (cap:=[4,7]) (fun i ys σ H'=>ys=[]∧(∃ (b:Option V),σ = [b,some (tx u),some (tx w1)])∧aE HA H') ⟨rfl,⟨none,rfl⟩,aE.refl _⟩ (fun i ys σ H' hi ⟨e,_⟩=>by rw [e];exact E1 _) (by rw [Ej];omega) (fun i ys σ H' ⟨_,_,q⟩=>SqL.of (q _ _ faA)) ?_ ?_
    ·rintro j2 ys σ HB x M hx2 ⟨rfl,⟨b,rfl⟩,sB⟩ hM
     obtain ⟨w2,hw2,rfl⟩:∃ w,w∈W∧x=tx w:=by
      obtain ⟨w,hw,e⟩:=EU.mp (EY hx2)
      exact ⟨w,hw,e.symm⟩
     exact ⟨_,rfl,_,rfl,_,rfl,u,w1,w2,n,rfl,U,gW w1 hw1,gW w2 hw2,fun HC sC=>⟨_,rfl,nkT (yN (hM _ _ _ ⟨rfl,⟨_,rfl⟩,sB.trans sC⟩))⟩⟩
    ·rintro ys σ HB pB ⟨rfl,⟨b,rfl⟩,sB⟩ hpB
     have sC:=sB.then (o:=.lst []) hpB
     have fC:(upd HB pB (.lst [])) pB=some (.lst []):=ah
     generalize upd HB pB (.lst [])=HC at sC fC ⊢
     refine ⟨(bS (n:=0) (by decide)),fun pD hpD=>⟨pB,pD,_,rfl,rfl,aE.new hpD _ _ fC,ah,_,rfl,mF ?_⟩⟩
     exact ⟨_,rfl,sA.trans (sC.then hpD)⟩
   ·rintro σ HA ⟨b7,rfl,sA⟩
    exact ⟨_,_,_,_,_,_,rfl,F9.same sA⟩
  ·rintro σ H1 ⟨b2,b3,b4,b5,b6,b7,rfl,F1⟩
   exact q _
end
theorem C0 {K:PySem.W.Frag}{h:Heap}{mg:Str→Option Value}{x:Str}{st:Stmt}{f:Addr}{oc:Value}{od an:Option Addr}{osl:Array (Option Value)}{kV doc pm Ks ct:Value}(X:K.In h)(G:h.Ns mainGlobals mg)(a:PySem.W.nsIn K mainGlobals x=some (some (.ref f)))
  (l:K.lookup f=some ⟨oc,od,.func (PySem.W.fnOf x x (b9 st) (bB st) (ak st) .none kV doc pm an Ks ct),osl⟩) (c:PySem.W.codeIn K Ks x=true) (k:PySem.W.keepIn K (.ref f)=true):Df K mg x st:=⟨f,_,G9 X G a,vg l c k⟩
inductive DI (K:PySem.W.Frag)(x:Str)(st:Stmt):Prop
 | mk {f:Addr} {oc:Value} {od an:Option Addr} {osl:Array (Option Value)} {kV doc pm Ks ct:Value} (a:PySem.W.nsIn K mainGlobals x=some (some (.ref f))) (l:K.lookup f=some ⟨oc,od,.func (PySem.W.fnOf x x (b9 st) (bB st) (ak st) .none kV doc pm an Ks ct),osl⟩) (c:PySem.W.codeIn K Ks x=true) (k:PySem.W.keepIn K (.ref f)=true):DI K x st
theorem DI.df {K:PySem.W.Frag}{h:Heap}{mg:Str→Option Value}{x:Str}{st:Stmt}(d:DI K x st)(X:K.In h)(G:h.Ns mainGlobals mg):Df K mg x st:=by
 cases d with
 | mk a l c k=>exact C0 X G a l c k
inductive DL where
 | n
 | c (x:Str) (st:Stmt) (r:DL)
def DIs (K:PySem.W.Frag):DL→Prop
 | .n=>True
 | .c x st r=>DI K x st∧DIs K r
theorem DIs.on {K:PySem.W.Frag}{x:Str}{st:Stmt}{r:DL}{f:Addr}{oc:Value}{od an:Option Addr}{osl:Array (Option Value)}{kV doc pm Ks ct:Value}(a:PySem.W.nsIn K mainGlobals x=some (some (.ref f)))(l:K.lookup f=some ⟨oc,od,.func (PySem.W.fnOf x x (b9 st) (bB st) (ak st) .none kV doc pm an Ks ct),osl⟩)(c:PySem.W.codeIn K Ks x=true)(k:PySem.W.keepIn K (.ref f)=true)(hr:DIs K r):DIs K (.c x st r):=⟨.mk a l c k,hr⟩
theorem Bl {l:PySem.W.OpenLaw}{w:World}{K:PySem.W.Frag}{h:Heap}{mg:Str→Option Value}{fa:Addr}(X:K.In h)(G:h.Ns mainGlobals mg)(hfa:mg "law" = some (.ref fa))
  {f37:Addr} {od37 an37:Option Addr} {sl37:Array (Option Value)} {oc37 kV37 dc37 pm37 cd37 ct37:Value} {aB:Addr} {es:Array DictEntry} {en:Nat} {tS:Tok}   {tm1:Tok}  {t0 t1 t2 t3 t4 t5 t6 t7 t8 t9 t10 t11:Tok}
  (hs:DIs K (.c "is_letter" ja <| .c "is_word" rS <| .c "number_of" yj <| .c "back" rP <| .c "is_reduced" k_ <| .c "is_round" gj <| .c "holes" lx <| .c "hole_from" r9 <| .c "handles" gk <| .c "rooted" jb <| .c "sums" rZ <| .c "letters_of" yD <| .c "is_way" ll <| .c "round_from" CH <| .c "are_met_by_turns" yy <| .c "balance" yF <| .c "side_of" r6 <| .c "places_of" CU <| .c "met" rX <| .c "links" lq <| .c "links_at" yA <| .c "beside_at" yz <| .c "chord_ends" CK <| .c "along_at" yt <| .c "against_at" yu <| .c "stretch" yq <| .c "is_parted" rY <| .c "is_first" yp <| .c "_law_feed" rO <| .c "_law_draw" rN <| .c "_law_back" k9 <| .c "_law_reduced" rQ <| .c "_law_some" se <| .c "_law_surface" si <| .c "_law_way" yL <| .c "_law_holes_right" jc <| .c "_law_balance_right" jd <| .n))
  (a37:PySem.W.nsIn K mainGlobals "law" = some (some (.ref f37)))
  (l37:K.lookup f37=some ⟨oc37,od37,.func (PySem.W.fnOf "law" "law" (b9 j3) (bB j3) (ak j3) .none kV37 dc37 pm37 an37 cd37 ct37),sl37⟩)
  (c37:PySem.W.codeIn K cd37 "law" = true)
  (k37:PySem.W.keepIn K (.ref f37)=true)
  (z_len:PySem.W.nsIn K mainGlobals "len" = some none)
  (z_repr:PySem.W.nsIn K mainGlobals "repr" = some none)
  (z_abs:PySem.W.nsIn K mainGlobals "abs" = some none)
  (z_max:PySem.W.nsIn K mainGlobals "max" = some none)
  (z_int:PySem.W.nsIn K mainGlobals "int" = some none)
  (z_list:PySem.W.nsIn K mainGlobals "list" = some none)
  (z_range:PySem.W.nsIn K mainGlobals "range" = some none)
  (z_reversed:PySem.W.nsIn K mainGlobals "reversed" = some none)
  (z_min:PySem.W.nsIn K mainGlobals "min" = some none)
  (z_sorted:PySem.W.nsIn K mainGlobals "sorted" = some none)
  (z_tuple:PySem.W.nsIn K mainGlobals "tuple" = some none)
  (z_isinstance:PySem.W.nsIn K mainGlobals "isinstance" = some none)
  (z_all:PySem.W.nsIn K mainGlobals "all" = some none)
  (z_str:PySem.W.nsIn K mainGlobals "str" = some none)
  (z_zip:PySem.W.nsIn K mainGlobals "zip" = some none)
  (aBk:PySem.W.nsIn K mainGlobals "BACKS" = some (some (.ref aB)))
  (lB:K.lookup aB=some ⟨.type "dict",none,.dict es en,#[]⟩)
  (kB:PySem.W.KeysLit w.params es.toList)
  (aS:PySem.W.nsIn K mainGlobals "SMALL" = some (some (.str "abcdef" tS)))
  (kN:es.toList.map Bs=iD)
  (lo:(aB == sysModules)=false)
  (am1:PySem.W.nsIn K mainGlobals "MOST_WAY_LETTERS" = some (some (.int 30 tm1)))
  (zS:PySem.W.nsIn K mainGlobals "set" = some none)
  (gl0:PySem.W.nsIn K aB "a" = some (some (.str "A" t0)))
  (gl1:PySem.W.nsIn K aB "b" = some (some (.str "B" t1)))
  (gl2:PySem.W.nsIn K aB "c" = some (some (.str "C" t2)))
  (gl3:PySem.W.nsIn K aB "d" = some (some (.str "D" t3)))
  (gl4:PySem.W.nsIn K aB "e" = some (some (.str "E" t4)))
  (gl5:PySem.W.nsIn K aB "f" = some (some (.str "F" t5)))
  (gl6:PySem.W.nsIn K aB "A" = some (some (.str "a" t6)))
  (gl7:PySem.W.nsIn K aB "B" = some (some (.str "b" t7)))
  (gl8:PySem.W.nsIn K aB "C" = some (some (.str "c" t8)))
  (gl9:PySem.W.nsIn K aB "D" = some (some (.str "d" t9)))
  (gl10:PySem.W.nsIn K aB "E" = some (some (.str "e" t10)))
  (gl11:PySem.W.nsIn K aB "F" = some (some (.str "f" t11))) :
  ∃ fd:FuncData,(∀ (s:Shared) (v:Value),BindsTo s fd ⟨[v],[]⟩ [("_law_script",v)])∧∀ base:Heap,K.In base→base.Ns mainGlobals mg→nc l.prog w K mg base CX0 9 fa fd ["_law_script"] (sv K):=by
 have e:=hfa.symm.trans (G9 X G a37)
 cases e
 have gB:∀ x:L,∃ t,PySem.W.nsIn K aB (toS [x])=some (some (.str (toS [inv x]) t)):=by
  have q:∀ (x:L) (u v:Str) (t:Tok),PySem.W.nsIn K aB u=some (some (.str v t))→toS [x]=u→toS [inv x]=v→∃ t,PySem.W.nsIn K aB (toS [x])=some (some (.str (toS [inv x]) t)):=fun x u v t g e1 e2=>⟨t,by rw [e1,e2];exact g⟩
  intro x
  match x with
  | ⟨0,_⟩=>exact q 0 "a" "A" _ gl0 (by decide +kernel) (by decide +kernel)
  | ⟨1,_⟩=>exact q 1 "b" "B" _ gl1 (by decide +kernel) (by decide +kernel)
  | ⟨2,_⟩=>exact q 2 "c" "C" _ gl2 (by decide +kernel) (by decide +kernel)
  | ⟨3,_⟩=>exact q 3 "d" "D" _ gl3 (by decide +kernel) (by decide +kernel)
  | ⟨4,_⟩=>exact q 4 "e" "E" _ gl4 (by decide +kernel) (by decide +kernel)
  | ⟨5,_⟩=>exact q 5 "f" "F" _ gl5 (by decide +kernel) (by decide +kernel)
  | ⟨6,_⟩=>exact q 6 "A" "a" _ gl6 (by decide +kernel) (by decide +kernel)
  | ⟨7,_⟩=>exact q 7 "B" "b" _ gl7 (by decide +kernel) (by decide +kernel)
  | ⟨8,_⟩=>exact q 8 "C" "c" _ gl8 (by decide +kernel) (by decide +kernel)
  | ⟨9,_⟩=>exact q 9 "D" "d" _ gl9 (by decide +kernel) (by decide +kernel)
  | ⟨10,_⟩=>exact q 10 "E" "e" _ gl10 (by decide +kernel) (by decide +kernel)
  | ⟨11,_⟩=>exact q 11 "F" "f" _ gl11 (by decide +kernel) (by decide +kernel)
 have T:Bt K w mg aB:=⟨EX X G z_len,EX X G z_repr,EX X G z_abs,EX X G z_max,EX X G z_int,EX X G z_list,EX X G z_range,EX X G z_reversed,EX X G z_min,EX X G z_sorted,EX X G z_tuple,EX X G z_isinstance,EX X G z_all,EX X G z_str,EX X G z_zip,G9 X G aBk,⟨es,en,lB,kB⟩,gB⟩
 have B:Bk K aB:=Cb lo lB kB kN
 have S:∃ t,mg "SMALL" = some (.str "abcdef" t):=⟨_,G9 X G aS⟩
 have MW:∃ t,mg "MOST_WAY_LETTERS" = some (.int 30 t):=⟨_,G9 X G am1⟩
 have Tset:mg "set" = none:=EX X G zS
 refine ⟨PySem.W.fnOf "law" "law" (b9 j3) (bB j3) (ak j3) .none kV37 dc37 pm37 an37 cd37 ct37,fun s v=>.of_eq rfl,fun base _ _=>?_⟩
 obtain ⟨h0,h1,h2,h3,h4,h5,h6,h7,h8,h9,h10,h11,h12,h13,h14,h15,h16,h17,h18,h19,h20,h21,h22,h23,h24,h25,h26,h27,h28,h29,h30,h31,h32,h33,h34,h35,h36,_⟩:=hs
 have F_feed:=AW (P:=l.prog) (w:=w) (base:=base) (h28.df X G) T
 have Ku:=AV (P:=l.prog) (w:=w) (base:=base) (h29.df X G) T
 have Kp:=AX (P:=l.prog) (w:=w) (base:=base) (h3.df X G) T
 have Ky:=yh (P:=l.prog) (w:=w) (base:=base) (h30.df X G)
 have F_lred:=AY (P:=l.prog) (w:=w) (base:=base) (h31.df X G) T Ky
 have KW:=uS (P:=l.prog) (w:=w) (base:=base) (h0.df X G) T B
 have F_num:=CG (P:=l.prog) (w:=w) (base:=base) (h2.df X G) T S
 have F_word:=A0 (P:=l.prog) (w:=w) (base:=base) (h1.df X G) T KW F_num
 have K6:=ym (P:=l.prog) (w:=w) (base:=base) (h4.df X G) T
 have KM:=rT (P:=l.prog) (w:=w) (base:=base) (h5.df X G) T K6
 have KU:=uU (P:=l.prog) (w:=w) (base:=base) (h9.df X G) T
 have K5:=yn (P:=l.prog) (w:=w) (base:=base) (h12.df X G) T MW F_word KM KU
 have Kt:=A2 (P:=l.prog) (w:=w) (base:=base) (h18.df X G) T Kp
 have F_rf:=D5 (P:=l.prog) (w:=w) (base:=base) (h13.df X G) T
 have F_fst:=CJ (P:=l.prog) (w:=w) (base:=base) (h27.df X G) T F_rf
 have F_ce:=D6 (P:=l.prog) (w:=w) (base:=base) (h22.df X G) T Kp Kt
 have K2:=CM (P:=l.prog) (w:=w) (base:=base) (h25.df X G) T Kt
 have KL:=A5 (P:=l.prog) (w:=w) (base:=base) (h26.df X G) T Kp Kt F_fst
 have F_alg:=CN (P:=l.prog) (w:=w) (base:=base) (h23.df X G) T K2 KL
 have F_agn:=CO (P:=l.prog) (w:=w) (base:=base) (h24.df X G) T K2 KL
 have K3:=CP (P:=l.prog) (w:=w) (base:=base) (h14.df X G) T
 have F_bes:=CQ (P:=l.prog) (w:=w) (base:=base) (h21.df X G) T Tset F_ce (K3.imp fun _ _ _ _ h=>Or.inr h)
 have F_lat:=CS (P:=l.prog) (w:=w) (base:=base) (h20.df X G) T F_agn F_alg F_bes
 have KA:=yB (P:=l.prog) (w:=w) (base:=base) (h19.df X G) T F_lat
 have K4:=Ba (P:=l.prog) (w:=w) (base:=base) (h10.df X G) T Kp S
 have F_let:=CT (P:=l.prog) (w:=w) (base:=base) (h11.df X G) T S
 have F_pl:=D7 (P:=l.prog) (w:=w) (base:=base) (h17.df X G) T Kp
 have F_side:=Bc (P:=l.prog) (w:=w) (base:=base) (h16.df X G) T Kp F_pl (K3.imp fun _ _ _ _ h=>Or.inl h) F_rf
 have KH:=CW (P:=l.prog) (w:=w) (base:=base) (h15.df X G) T F_let K4 F_side
 have F_hole:=Be (P:=l.prog) (w:=w) (base:=base) (h7.df X G) T Kp
 have KB:=yH (P:=l.prog) (w:=w) (base:=base) (h6.df X G) T F_hole
 have KC:=r_ (P:=l.prog) (w:=w) (base:=base) (h8.df X G) T KB
 have F_some:=Bf (P:=l.prog) (w:=w) (base:=base) (h32.df X G) T Ku
 have F_surf:=Bg (P:=l.prog) (w:=w) (base:=base) (h33.df X G) T Ku
 have F_way:=CY (P:=l.prog) (w:=w) (base:=base) (h34.df X G) T Ku Ky F_lred F_some
 have KY:=u4 (P:=l.prog) (w:=w) (base:=base) (h35.df X G) T K5 KA KH
 have KZ:=u5 (P:=l.prog) (w:=w) (base:=base) (h36.df X G) T Ky KA KH
 exact CZ (vg l37 c37 k37) T F_feed Ku F_surf F_way KB KC KY KZ
theorem D8 {l:PySem.W.OpenLaw}{q:Program}{loose:List Str}{XP:(Str→Option Value)→Heap→Prop}{YP:World→Heap→Prop}{d:DefRec}{K:Params→PySem.W.Frag}(hn:l.most=some 63)(hdf:d.params.defaults=[])
  (hY:∀ (w:World) (h:Heap),YP w h→(K w.params).In h)
  (F:∀ (w:World) (mg:Str→Option Value) (fa:Addr) (h:Heap),(K w.params).In h→h.Ns mainGlobals mg→mg d.name=some (.ref fa) →
   ∃ fd:FuncData,(∀ (s:Shared) (u:Value),BindsTo s fd ⟨[u],[]⟩ [("_law_script",u)])∧∀ base:Heap,(K w.params).In base→base.Ns mainGlobals mg→nc l.prog w (K w.params) mg base CX0 9 fa fd ["_law_script"] (sv (K w.params))) :
  PySem.W.WalkO q loose XP YP l.row.toRowW d [] (fun f vs=>PySem.call f vs) :=
 L2.o6 (n:=63) (k:=9) (x:="_law_script") (CX:=fun _=>CX0) (sp:=fun w=>sv (K w.params)) hn (by decide) hdf ⟨rfl,by decide,by decide,rfl⟩ hY F (fun _ _ a ns hl _ hS=>⟨a,ns,rfl,hS,hl,fun _=>rfl⟩) fun _ _ _ _ _ z=>z
end Kx
namespace Kx
open PySem
def Bm (s:String):Str:=⟨⟨PySem.W.R.mapR Char.toNat (PySem.W.S.toListS s)⟩⟩
theorem u6:Str.ofString=Bm:=by
 funext s
 rw [Str.ofString_eq_toList,PySem.W.S.toListS_eq]
 show _=(⟨⟨PySem.W.R.mapR Char.toNat (PySem.W.S.toListS s)⟩⟩:Str)
 rw [← PySem.W.R.mapR_eq]
def apG (G:(String→Str)→Program)(x:String→Str):Program:=G x
def Gs:{ G:(String→Str)→Program // apG G Str.ofString=PySem.Challenge.pw_ringwords_k95_whole_holes_cross_nothing }:=by
 refine ⟨?G,?h⟩
 case h =>
  delta PySem.Challenge.pw_ringwords_k95_whole_holes_cross_nothing
  generalize Str.ofString=x
  exact rfl
end Kx
def PySem.W.Fast.tw10965838332491772829:PySem.Program:=Kx.Gs.1 Kx.Bm
theorem PySem.W.Fast.te10965838332491772829:PySem.Challenge.pw_ringwords_k95_whole_holes_cross_nothing=PySem.W.Fast.tw10965838332491772829:=Kx.Gs.2.symm.trans (Ey (Kx.apG Kx.Gs.1) Kx.u6)
namespace PySem.W.Fast
theorem te10123763609218088341:True:=trivial
theorem tw50988136828505785:True:=trivial
theorem tw6531472592698555270:True:=trivial
theorem tw14048334818029294588:True:=trivial
theorem tw2938225588050362319:True:=trivial
theorem tw6682737180814734680:True:=trivial
theorem tw8601871173866374804:True:=trivial
theorem tw1079289264343311867:True:=trivial
theorem tw9965636478738069213:True:=trivial
theorem tw8155983676760010102:True:=trivial
theorem tw15154182238006336760:True:=trivial
theorem tw5161345917861273080:True:=trivial
theorem tw2916806659398825227:True:=trivial
theorem tw2237090381360441619:True:=trivial
theorem tw5428007810806501770:True:=trivial
theorem tw12521471751047782311:True:=trivial
theorem tw2586389170907624274:True:=trivial
theorem tw9839230134167641770:True:=trivial
theorem tw8325152584449902849:True:=trivial
theorem tw7029924455429415602:True:=trivial
theorem tw17112430838400911905:True:=trivial
theorem tw6510650141713875637:True:=trivial
theorem tw9758077961905504387:True:=trivial
theorem tw13147509434406283184:True:=trivial
theorem tw4236066486448689382:True:=trivial
theorem tw2999715553389221326:True:=trivial
theorem tw1980131988601826032:True:=trivial
theorem tw6282131562710289175:True:=trivial
theorem tw3268037640465598817:True:=trivial
theorem tw4731131712831123020:True:=trivial
theorem tw18191449270552246446:True:=trivial
theorem tw9110974936440750613:True:=trivial
theorem tw9053626793405205085:True:=trivial
theorem tw15310044694884380307:True:=trivial
theorem tw4434168763658370111:True:=trivial
theorem tw7979306050445200562:True:=trivial
theorem tw7686191484093087488:True:=trivial
theorem tw16318185900591586376:True:=trivial
theorem tw16556466299121424933:True:=trivial
theorem tw16341617142812630739:True:=trivial
theorem tw5320648468245287072:True:=trivial
theorem tw8861631493284662639:True:=trivial
theorem tw13509270226021585998:True:=trivial
theorem tw15237739202784050712:True:=trivial
theorem tw3681491399015850836:True:=trivial
theorem tw13387904036554002478:True:=trivial
theorem tw13628645277221691871:True:=trivial
theorem tw5265149795910763855:True:=trivial
theorem tw1090549592558654652:True:=trivial
theorem tw17369219395575025297:True:=trivial
theorem tw15959549022053309710:True:=trivial
theorem tw17622951710774062251:True:=trivial
theorem tw11204648529041987381:True:=trivial
theorem tw16490295502840627720:True:=trivial
theorem tw11428583646772532925:True:=trivial
theorem tw8406944058422932691:True:=trivial
theorem tw15693481956505461531:True:=trivial
theorem tw5386756174214436738:True:=trivial
theorem tw3888255371494568970:True:=trivial
theorem tw13111149002725363358:True:=trivial
theorem tw7040425610713020693:True:=trivial
theorem tw13592579078797500241:True:=trivial
theorem tw14886381436841878240:True:=trivial
theorem tw5600737101774792471:True:=trivial
theorem tw12939387267523051131:True:=trivial
theorem tw7310092090995749435:True:=trivial
theorem tw15531993528721432065:True:=trivial
theorem tw13758271189312559289:True:=trivial
theorem tw8683037203196655305:True:=trivial
theorem tw10731960878323296432:True:=trivial
theorem tw4550566379174289385:True:=trivial
theorem tw9300992146954783298:True:=trivial
theorem tw332416932628656133:True:=trivial
theorem tw8483228960388120149:True:=trivial
theorem tw17603391730541186817:True:=trivial
theorem tw15362803188660063894:True:=trivial
theorem tw13965924368727149271:True:=trivial
theorem tw8598095921526633314:True:=trivial
theorem tw11307725018605463607:True:=trivial
theorem tw5113767673413087735:True:=trivial
theorem tw2161190993380115836:True:=trivial
theorem tw12941765240560760152:True:=trivial
theorem tw7125103600011981553:True:=trivial
theorem tw1947773777877971217:True:=trivial
theorem tw8298712745660314843:True:=trivial
theorem tw1735463806268894261:True:=trivial
theorem tw4508472532389874034:True:=trivial
theorem tw1422883166538483514:True:=trivial
theorem tw13845128905717601565:True:=trivial
theorem tw17296337955652716406:True:=trivial
theorem tw378687681355237957:True:=trivial
theorem tw9755465025437774023:True:=trivial
theorem tw5805689822897347572:True:=trivial
theorem tw17477866515398080827:True:=trivial
theorem tw8066154528736603777:True:=trivial
theorem tw1823981896079336187:True:=trivial
theorem tw14410263453762152713:True:=trivial
theorem tw9358896715587173965:True:=trivial
theorem tw17805625572469699040:True:=trivial
theorem tw9436499922991951205:True:=trivial
theorem tw5027608268861559204:True:=trivial
theorem tw11655237333245259294:True:=trivial
theorem tw18317503421977471706:True:=trivial
theorem tw11332894736305012326:True:=trivial
theorem tw18083689651447260827:True:=trivial
end PySem.W.Fast
open PySem PySem.W PyProof.Rows
set_option maxRecDepth 100000 in
set_option maxHeartbeats 0 in
theorem PySem.Challenge.cw_ringwords_k95_whole_holes_cross_nothing_holds : PySem.Challenge.rw_ringwords_k95_whole_holes_cross_nothing.Holds := by
 w_on; o_law; k_head; (case hw=>w_witness2)
 k_fill
 refine Kx.D8 (l:=PySem.Challenge.rw_ringwords_k95_whole_holes_cross_nothing) rfl rfl (fun w h Y=>PySem.W.kIn_of Y) ?F
 case F =>
  intro w mg fa h KX G hmg
  refine' Kx.Bl KX G hmg ?hs ?a37 ?l37 ?c37 ?k37 ?z_len ?z_repr ?z_abs ?z_max ?z_int ?z_list ?z_range ?z_reversed ?z_min ?z_sorted ?z_tuple ?z_isinstance ?z_all ?z_str ?z_zip ?aBk ?lB ?kB ?aS ?kN ?lo ?am1 ?zS ?gl0 ?gl1 ?gl2 ?gl3 ?gl4 ?gl5 ?gl6 ?gl7 ?gl8 ?gl9 ?gl10 ?gl11
  (case hs=>(iterate 37 (refine' Kx.DIs.on ?_ ?_ ?_ ?_ ?_; rotate_left 10; k_is; k_is; k_is; k_is)); exact trivial)
  (case a37 | l37 | c37 | k37 | z_len | z_repr | z_abs | z_max | z_int | z_list | z_range | z_reversed | z_min | z_sorted | z_tuple | z_isinstance | z_all | z_str | z_zip | aBk | lB=>k_is)
  (case kB=>exact ⟨⟨_,_,rfl,rfl⟩,⟨_,_,rfl,rfl⟩,⟨_,_,rfl,rfl⟩,⟨_,_,rfl,rfl⟩,⟨_,_,rfl,rfl⟩,⟨_,_,rfl,rfl⟩,⟨_,_,rfl,rfl⟩,⟨_,_,rfl,rfl⟩,⟨_,_,rfl,rfl⟩,⟨_,_,rfl,rfl⟩,⟨_,_,rfl,rfl⟩,⟨_,_,rfl,rfl⟩,trivial⟩)
  (case aS=>k_is)
  (case kN | lo=>rfl)
  (case am1 | zS | gl0 | gl1 | gl2 | gl3 | gl4 | gl5 | gl6 | gl7 | gl8 | gl9 | gl10 | gl11=>k_is)
end
