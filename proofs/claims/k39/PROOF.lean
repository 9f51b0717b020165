import PyProof.Rows.All
import Wide.All
import OpenK.AllK
import Wide.FinOn
import Lean
import PyProof.EqAt
import PyProof.EqKinds
import PyProof.TupleCall
import KE.KRevIter
import PyProof.Rows.SortShellK
import PyProof.Rows.SortRunsK
import PyProof.FString5
import PyProof.NeData
import PyProof.TupleOfStr
import PyProof.IsRules
import PyProof.ListRange
import PyProof.FactsAll.tuple_3
import PyProof.ExcInit
import PyProof.InstStoreFacts
import PyProof.NsDelKeeps
import PyProof.ListMulRoad
import PyProof.FactsAll.tuple_2
import PyProof.TupleKey
import PyProof.DictKinds
import PyProof.P3Eq
import PyProof.DictWalks
import PyProof.Rows.DictUnroll
import PyProof.Rows.SumAny
import PyProof.AttrMiss
import KE.KDictOf
import PySem.Challenge.RW_ringwords_k39_whole_links_in_every_drawi
set_option Elab.async false
set_option linter.all false
set_option maxRecDepth 100000
set_option maxHeartbeats 0
noncomputable section
def fu:=@List.getElem?_eq_getElem
def Bo:=@List.length_map
def Bp:=@PySem.wpAny_bind
def Bq:=@List.length_append
def Br:=@PySem.wpAny_pure
def Bs:=@decide_eq_false
def Bu:=@List.mem_singleton
def Bv:=@List.getElem?_eq_some_iff
def Bw:=@List.mem_cons_of_mem
def Bx:=@Array.length_toList
def By:=@List.getD_eq_getElem?_getD
def Bz:=@PySem.Heap.get?_push_of_some
def BA:=@Option.some.inj
def BB:=@Nat.le_refl
def BC:=@List.mem_cons_self
def BD:=@decide_eq_true
def BE:=@decide_eq_true_iff
def BF:=@List.append_assoc
def BG:=@PyProof.Rows.wpS_bind
def BH:=@List.getElem?_map
def BI:=@PySem.Heap.get?_push_size
def BJ:=@Int.emod_lt_of_pos
def BK:=@List.map_append
def BL:=@List.length_take
def BM:=@List.size_toArray
def BN:=@PyProof.Rows.wpS_pure
def BO:=@List.mem_append_right
def BP:=@congrArg
def BQ:=@List.mem_of_getElem?
def BR:=@Bool.false_eq_true
def BS:=@PySem.Heap.lt_size
def BU:=@List.mem_cons
def BV:=@Int.emod_nonneg
def BW:=@List.mem_filter
def BX:=@Bool.eq_iff_iff
def BY:=@List.getElem?_append_right
def BZ:=@Bool.and_eq_true
def B0:=@List.mem_append
def B2:=@List.mem_map
def B3:=@List.take_append_drop
def B4:=@PySem.boot_len
def B5:=@Int.emod_eq_of_lt
def B6:=@List.take_of_length_le
def B7:=@List.nodup_cons
def B8:=@PySem.F.plainAttrs_list
def B9:=@List.getElem?_append_left
def B_:=@Nat.lt_of_lt_of_le
def Ca:=@Bool.false_ne_true
def Cb:=@List.mem_append_left
def Cc:=@Nat.zero_le
def Cd:=@List.map_cons
def Ce:=@Int.toNat_natCast
def Cf:=@decide_eq_true_eq
def Cg:=@PySem.F.plainAttrs_str
def Ci:=@List.idxOf_lt_length_of_mem
def Cj:=@Array.getElem?_toList
def Ck:=@List.getElem_mem
def Cm:=@PySem.W.mg_none_of
def Cn:=@List.length_cons
def Co:=@List.not_mem_nil
def Cp:=@PySem.PassesOwn.never
def Cq:=@List.length_drop
def Cr:=@Nat.le_trans
def Cs:=@List.getElem?_drop
def Ct:=@List.length_pos_iff
def Cu:=@Nat.ne_of_lt
def Cv:=@List.drop_eq_getElem_cons
def Cw:=@PySem.wpAny_holding
def Cy:=@Bool.true_and
def Cz:=@Int.add_emod
def CA:=@List.Pairwise.filter
def CB:=@Int.eq_ofNat_of_zero_le
def CC:=@List.filter_cons_of_pos
def CF:=@List.filter_cons_of_neg
def CG:=@List.nodup_nil
def CH:=@PySem.Heap.get?_update_other
def CI:=@PySem.wpAny_call_entry
def CJ:=@decide_eq_decide
def CK:=@List.getElem?_take_of_lt
def CL:=@List.mem_range
def CM:=@Bool.false_and
def CN:=@List.perm_append_comm
def CO:=@PyProof.Rows.wpS_forRange
def CP:=@Classical.byContradiction
def CQ:=@List.flatMap_cons
def CS:=@List.mem_of_mem_take
def CT:=@List.countP_eq_length_filter
def CU:=@if_false
def CV:=@List.append_nil
def CW:=@Nat.lt_irrefl
def CY:=@Prod.ext
def CZ:=@of_decide_eq_true
def C0:=@List.mem_of_mem_drop
def C3:=@Array.toList_extract
def C4:=@List.getElem?_of_mem
def C5:=@PyProof.Rows.KeyOrd.kle_refl
def C6:=@List.pairwise_iff_getElem
def C7:=@List.take_length
def C8:=@PySem.F.slot_list_extend
def C9:=@PySem.F.type_list_extend
def C_:=@List.length_nil
def Da:=@PySem.wpAny_callSpecial?_slot
def Dc:=@List.getElem_idxOf
def Dd:=@List.map_map
def De:=@List.mem_flatMap
def Dg:=@Array.perm_iff_toList_perm
def Dh:=@PySem.wpAny_mono
def Di:=@PySem.wpAny_truthy_bool
def Dj:=@PySem.mem_of_lookup
def Dk:=@PyProof.Rows.slot_tuple_getitem
def Dl:=@List.take_add_one
def Dm:=@List.flatMap_append
def Dn:=@List.cons.inj
def Do:=@List.getElem?_eq_none
def Dp:=@List.range_succ
def Dq:=@List.Perm.append_left
def Dr:=@List.cons_lt_cons_iff
def Ds:=@List.zip_cons_cons
def Du:=@List.pairwise_cons
def Dv:=@List.eq_nil_of_length_eq_zero
def Dx:=@List.countP_cons
def Dy:=@PySem.wpAny_getItem_str_slice
def Dz:=@PyProof.Rows.wpS_mono
def DA:=@PyProof.Rows.F.plain_set_update_loop
def DB:=@PySem.wpAny_newObj_type
def DC:=@PyProof.Rows.callWith_type1
def DE:=@List.drop_of_length_le
def DF:=@PySem.F.slot_str_index
def DG:=@PySem.F.type_str_index
def DH:=@if_true
def DJ:=@Array.getElem?_eq_some_iff
def DK:=@Int.add_mul_emod_self_left
def DM:=@PySem.wpAny_rule
def DN:=@Nat.mod_eq_of_lt
def DO:=@PySem.Heap.get?_update_self
def DP:=@PySem.Obj.data_mapFields
def DQ:=@Nat.lt_or_gt_of_ne
def DR:=@PySem.F.slot_str_join
def DS:=@PySem.F.type_str_join
def DT:=@List.Perm.refl
def DU:=@PySem.wpAny_passesOwn
def DV:=@PySem.wpAny_specialOf
def DW:=@Array.toList_push
def DX:=@List.flatten_cons
def DY:=@Int.emod_add_emod
def DZ:=@Int.sub_emod_emod
def D0:=@Nat.le_of_lt
def D1:=@beq_eq_false_iff_ne
def D2:=@PySem.Heap.SameBut.update
def D3:=@Nat.add_sub_cancel_left
def D4:=@List.flatten_append
def D5:=@decide_eq_false_iff_not
def D6:=@or_false
def D7:=@PyProof.Rows.KeyOrd.kle_trans
def D9:=@List.length_singleton
def D_:=@List.find?_cons
def Ea:=@PySem.builtinLookup_eq_fast
def Eb:=@List.getElem?_reverse
def Ec:=@PySem.codeAny_builtin
def Ed:=@List.length_filter_le
def Ee:=@List.getElem?_concat_length
def Ef:=@PySem.wpAny_newList
def Eg:=@Bool.not_true
def Eh:=@PyProof.Rows.KeyOrd.kle_of_klt
def Ei:=@Bool.eq_false_iff
def Ej:=@List.perm_ext_iff_of_nodup
def Ek:=@Array.getElem?_eq_getElem
def El:=@List.drop_zero
def Em:=@PyProof.Rows.F.entry_set_update_loop
def En:=@List.all_eq_true
def Eo:=@Nat.lt_succ_self
def Ep:=@List.mem_reverse
def Er:=@Bool.not_eq_true
def Es:=@PySem.wpAny_field
def Et:=@List.length_reverse
def Eu:=@PySem.F.slot_list_insert
def Ew:=@PyProof.Rows.wpS_modify
def Ex:=@List.length_erase_of_mem
def Ey:=@bne_iff_ne
def Ez:=@PySem.F.slot_list_append
def EA:=@PySem.F.type_list_append
def EB:=@PySem.Paired.length
def EC:=@List.forIn_cons
def ED:=@PySem.post_val_or_str
def EE:=@PySem.wpAny_attempt
def EF:=@List.map_drop
def EG:=@List.idxOf_cons
def EH:=@List.getElem?_take
def EI:=@PyProof.Rows.KK_mirror_equal
def EJ:=@List.length_eq_zero_iff
def EK:=@List.filter_append
def EL:=@List.Perm.append_right
def EM:=@List.pairwise_lt_range
def EN:=@List.flatten_singleton
def EO:=@PySem.F.slot_str_lower
def ER:=@PySem.F.type_str_lower
def ES:=@PySem.wpAny_pyIter_list
def ET:=@Nat.le_succ
def EU:=@PySem.wpAny_of_eq
def EV:=@List.nodup_append
def EW:=@not_false_eq_true
def EX:=@Bool.not_eq_true'
def EY:=@PySem.wpAny_loadPart_at
def EZ:=@PySem.wpAny_setField
def E1:=@PySem.Txt.slice_le
def E2:=@PySem.Obj.isFreed_of_fields
def E3:=@Nat.succ_mul
def E4:=@PyProof.Rows.listItems_at
def E5:=@Nat.lt_asymm
def E6:=@List.cons_prefix_cons
def E7:=@PySem.F.args_dict_keyiterator_next_1
def E8:=@List.lookup_cons
def E9:=@List.map_reverse
def E_:=@PySem.Heap.size_update
def Fb:=@List.nodup_range
def Fc:=@PySem.F.entry_dict_keyiterator_next
def Fd:=@PySem.wpAny_typeNameOfWhole_keyiter
def Fe:=@List.flatMap_nil
def Ff:=@Int.mul_le_mul_of_nonneg_left
def Fg:=@PySem.Around.under_plainId
def Fh:=@List.mem_erase_of_ne
def Fi:=@PySem.F.slot_dict_keyiterator_next
def Fj:=@List.dropLast_concat_getLast
def Fk:=@PySem.typeIs_str
def Fl:=@PySem.call_meets
def Fm:=@List.filterMap_cons
def Fn:=@PySem.wpAny_execs_nil
def Fo:=@PySem.typeLookup_type
def Fp:=@List.cons.injEq
def Fq:=@PyProof.Rows.wpS_get
def Fs:=@Array.toList_append
def Ft:=@PyProof.Rows.entry_list_sort
def Fu:=@List.isPerm_iff
def Fv:=@PySem.Calls.Name_function_global
def Fw:=@Array.toList_setIfInBounds
def Fx:=@List.mem_filterMap
def Fy:=@PySem.codeAny_mono
def Fz:=@PySem.wpAny_Call_Name_kw
def FB:=@PySem.wpAny_typeOf
def FC:=@List.map_nil
def FD:=@Nat.zero_add
def FE:=@of_decide_eq_false
def FF:=@List.countP_append
def FG:=@Int.add_zero
def FH:=@Option.toList_some
def FI:=@Bool.and_false
def FJ:=@PySem.Heap.size_push
def FK:=@PySem.isSubtype_type
def FL:=@Nat.mul_le_mul
def FM:=@Nat.add_mul_mod_self_left
def FN:=@PyProof.Rows.pairsOf_toList
def FO:=@PySem.Calls.call_function_entry
def FP:=@PyProof.Rows.slot_list_sort
def FQ:=@PyProof.Rows.args_list_sort
def FR:=@List.getLast?_eq_getElem?
def FS:=@PySem.AutoSeq1.sub_tuple_tuple
def FT:=@List.reverse_cons
def FU:=@List.ext_getElem?
def FV:=@List.drop_sublist
def FW:=@Option.some.injEq
def FX:=@Nat.lt_succ_of_lt
def FY:=@List.Pairwise.map
def FZ:=@Int.emod_sub_emod
def F0:=@List.reverse_perm
def F_:=@List.countP_congr
def Ga:=@List.Pairwise.imp
def Gb:=@PySem.wpAny_dictEntries
def Gc:=@List.length_range
def Ge:=@PySem.F.type_list_insert
def Gf:=@PySem.wpAny_standAt
def Gg:=@PySem.W.mg_of
def Gh:=@List.map_take
def Gi:=@List.pairwise_singleton
def Gj:=@Prod.mk.injEq
def Gk:=@PyProof.Rows.listUpdate_at
def Gm:=@List.getLast?_cons_cons
def Gn:=@Int.ofNat.inj
def Gp:=@PySem.F.slot_list_index
def Gq:=@PySem.F.type_list_index
def Gr:=@Option.getD_none
def Gu:=@beq_self_eq_true
def Gv:=@PySem.wpAny_isInstance
def Gw:=@List.drop_length
def Gx:=@Array.toList_inj
def Gy:=@List.perm_middle
def Gz:=@List.zipIdx_cons
def GA:=@List.getElem_map
def GB:=@PySem.SeqAt.eqAt_reads
def GC:=@Int.max_eq_right
def GD:=@List.getElem?_set_self
def GE:=@PySem.W.cellsFrom_some
def GF:=@List.head?_eq_getElem?
def GG:=@List.length_pos_of_mem
def GH:=@List.of_mem_zip
def GI:=@Nat.mul_comm
def GJ:=@Array.Perm.refl
def GK:=@getElem?_pos
def GL:=@Nat.sub_self
def GM:=@Nat.le_antisymm
def GN:=@Int.sub_emod
def GO:=@PySem.wpAny_dictEpoch
def GQ:=@Int.min_eq_left
def GS:=@Int.zero_add
def GT:=@PyProof.Rows.Subscript_
def GU:=@beq_iff_eq
def GV:=@PyProof.Rows.wpS_lift
def GW:=@List.lt_irrefl
def GX:=@PySem.sizeLine_eq
def GY:=@Int.neg_neg
def GZ:=@Bool.or_false
def G0:=@List.any_cons
def G1:=@Nat.add_assoc
def G2:=@and_true
def G3:=@Nat.ne_of_gt
def G4:=@Nat.lt_trans
def G5:=@Nat.sub_zero
def G6:=@Nat.add_comm
def G7:=@iff_false
namespace L2
open PySem PySem.Spec PyProof.Rows
abbrev Key:=Sum Int Str
def l_:Key→Value→Bool
 | .inl k,v=>Value.isInt k v
 | .inr x,v=>Value.isStrOf x v
def AK (w:World):Key→Int
 | .inl k=>hashInt k
 | .inr x=>hashStr w x
theorem aZ:∀ {k:Key} {v:Value},l_ k v=true→(∃ i t,k=Sum.inl i∧v=Value.int i t) ∨ (∃ x t,k=Sum.inr x∧v=Value.str x t)
 | .inl i,v,h=>by
  obtain ⟨t,e⟩:=Value.isInt_shape (k:=i) (v:=v) h
  exact .inl ⟨i,t,rfl,e⟩
 | .inr x,v,h=>by
  obtain ⟨t,e⟩:=Value.isStrOf_shape (x:=x) (v:=v) h
  exact .inr ⟨x,t,rfl,e⟩
theorem mX (i:Int)(t:Tok):l_ (.inl i) (.int i t)=true:=by simp [l_,Value.isInt]
theorem mY (x:Str)(t:Tok):l_ (.inr x) (.str x t)=true:=by simp [l_,Value.isStrOf]
theorem wm (a b:Int):decide ((Sum.inl a:Key)=Sum.inl b)=(a == b):=by
 by_cases e:a=b
 ·subst e;simp
 ·have h:¬ (Sum.inl a:Key)=Sum.inl b:=fun q=>e (Sum.inl.inj q)
  rw [Bs h]
  exact (D1.mpr e).symm
theorem wo (a b:Str):decide ((Sum.inr a:Key)=Sum.inr b)=decide (a=b):=by
 by_cases e:a=b
 ·subst e;simp
 ·have h:¬ (Sum.inr a:Key)=Sum.inr b:=fun q=>e (Sum.inr.inj q)
  rw [Bs h,Bs e]
theorem wq (a:Int)(b:Str):decide ((Sum.inl a:Key)=Sum.inr b)=false:=Bs (fun q=>nomatch q)
theorem wt (a:Str)(b:Int):decide ((Sum.inr a:Key)=Sum.inl b)=false:=Bs (fun q=>nomatch q)
def bu (prog:Program)(w:World):PySem.KeyKind prog w Key where
 is:=l_
 hash:=AK w
 inj:=fun v a b ha hb=>by
  rcases aZ ha with ⟨i,t,rfl,rfl⟩ | ⟨x,t,rfl,rfl⟩
  ·rcases aZ hb with ⟨j,u,rfl,e⟩ | ⟨y,u,rfl,e⟩
   ·injection e with e1 _;rw [e1]
   ·exact nomatch e
  ·rcases aZ hb with ⟨j,u,rfl,e⟩ | ⟨y,u,rfl,e⟩
   ·exact nomatch e
   ·injection e with e1 _;rw [e1]
 byValue:=fun k v h=>by
  rcases aZ h with ⟨i,t,rfl,rfl⟩ | ⟨x,t,rfl,rfl⟩ <;> rfl
 pyHash:=fun hv h=>by
  rcases aZ hv with ⟨i,t,rfl,rfl⟩ | ⟨x,t,rfl,rfl⟩
  ·exact wpAny_pyHash_int h
  ·exact wpAny_pyHash_str h
 eqBool:=fun hu hv h=>by
  rcases aZ hu with ⟨i,t,rfl,rfl⟩ | ⟨x,t,rfl,rfl⟩
  ·rcases aZ hv with ⟨j,u,rfl,rfl⟩ | ⟨y,u,rfl,rfl⟩
   ·rw [wm] at h;exact wpAny_eqBool_int h
   ·rw [wq] at h;exact SeqAt.EqAt.int_str i t y u _ _ _ _ h
  ·rcases aZ hv with ⟨j,u,rfl,rfl⟩ | ⟨y,u,rfl,rfl⟩
   ·rw [wt] at h;exact SeqAt.EqAt.str_int x t j u _ _ _ _ h
   ·rw [wo] at h;exact wpAny_eqBool_str h
 «strs»:=fun k x t v h=>by
  rcases aZ h with ⟨i,u,rfl,e⟩ | ⟨y,u,rfl,e⟩
  ·exact nomatch e
  ·injection e with e1 _
   subst e1
   cases v <;> rfl
theorem jI (prog:Program)(w:World)(i:Int)(t:Tok):(bu prog w).is (.inl i) (.int i t)=true:=mX i t
theorem jJ (prog:Program)(w:World)(x:Str)(t:Tok):(bu prog w).is (.inr x) (.str x t)=true:=mY x t
inductive V where
 | non | bl (b:Bool) | int (i:Int) | str (x:Str) | byt (b:Array UInt8) | flt (b:UInt64) | ref (a:Addr) | ty (n:String)
 deriving DecidableEq
def bE:V→Value→Prop
 | .non,u=>u=Value.none
 | .bl b,u=>u=Value.bool b
 | .int i,u=>∃ t,u=Value.int i t
 | .str x,u=>∃ t,u=Value.str x t
 | .byt b,u=>∃ t,u=Value.bytes b t
 | .flt b,u=>∃ t,u=Value.float b t
 | .ref a,u=>u=Value.ref a
 | .ty n,u=>u=Value.type n
abbrev a8:List V→List Value→Prop:=Paired bE
theorem a8.length {xs:List V}{us:List Value}(r:a8 xs us):xs.length=us.length:=EB r
theorem a8.get:∀ {xs:List V} {us:List Value} {i:Nat} {x:V},a8 xs us→xs[i]? = some x→∃ u,us[i]? = some u∧bE x u
 | _,_,_,_,.nil,e=>by simp at e
 | _,_,0,_,.cons r _,e=>by simp at e;subst e;exact ⟨_,rfl,r⟩
 | _,_,i+1,x,.cons _ t,e=>by
  obtain ⟨u,h1,h2⟩:=a8.get (i:=i) (x:=x) t (by simpa using e)
  exact ⟨u,by simpa using h1,h2⟩
theorem a8.set {x:V}{u:Value}(r:bE x u):∀ {xs:List V} {us:List Value} (i:Nat),a8 xs us→a8 (xs.set i x) (us.set i u)
 | _,_,_,.nil=>.nil
 | _,_,0,.cons _ t=>.cons r t
 | _,_,i+1,.cons q t=>.cons q (a8.set r i t)
theorem a8.append:∀ {xs ys:List V} {us ws:List Value},a8 xs us→a8 ys ws→a8 (xs++ys) (us++ws)
 | _,_,_,_,.nil,s=>s
 | _,_,_,_,.cons r t,s=>.cons r (a8.append t s)
theorem a8.take:∀ {xs:List V} {us:List Value} (n:Nat),a8 xs us→a8 (xs.take n) (us.take n)
 | _,_,0,_=>.nil
 | _,_,_+1,.nil=>.nil
 | _,_,n+1,.cons r t=>.cons r (a8.take n t)
theorem a8.drop:∀ {xs:List V} {us:List Value} (n:Nat),a8 xs us→a8 (xs.drop n) (us.drop n)
 | _,_,0,r=>r
 | _,_,_+1,.nil=>.nil
 | _,_,n+1,.cons _ t=>a8.drop n t
def mZ:Option V→Option Value→Prop
 | some v,some u=>bE v u
 | none,none=>True
 | _,_=>False
def KV {κ:Type}:List (κ × V)→List (κ × Value)→Prop:=Paired fun (p:κ × V) (q:κ × Value)=>p.1=q.1∧bE p.2 q.2
def kV:Key→V
 | .inl i=>.int i
 | .inr x=>.str x
inductive HO where
 | lst (xs:List V)
 | tup (xs:List V)
 | dK (HG:List (Key × V)) | dT (HG:List (List Key × V))
 | set (S:Int→Bool) (n:Nat)
 | ins (C dx:Addr) (fs:List (Str × V))
 | own (x:Addr)
 | xd (fs:List (Str × V))
 | met (f x:Addr)
 | rng (lo hi:Int)
 | frz (o:Obj) (u:HO)
 | tbl (ps:Array Value)
 | ext (φ:Heap→Prop)
abbrev Hp:=Addr→Option HO
def upd (H:Hp)(a:Addr)(o:HO):Hp:=fun b=>if b=a then some o else H b
theorem af {H:Hp}{a:Addr}{o:HO}:upd H a o a=some o:=by unfold upd; rw [if_pos rfl]
theorem aF {H:Hp}{a b:Addr}{o:HO}(h:b≠a):upd H a o b=H b:=by unfold upd; rw [if_neg h]
theorem d6 {H:Hp}{a:Addr}{o u:HO}:upd (upd H a o) a u=upd H a u:=by
 funext b;unfold upd;split <;> rfl
theorem eW {H:Hp}{a b:Addr}{o u:HO}(h:H a=some o)(h':H b=some u)(d:o≠u):a≠b:=by
 intro e;subst e;rw [h] at h';exact d (BA h')
theorem au {H:Hp}{a b:Addr}{o:HO}(h:H a=some o)(h':H b=none):a≠b:=by
 intro e;subst e;rw [h] at h';cases h'
section
variable (P:Program) (w:World)
def NoD (h:Heap)(a:Addr):Prop:=∃ o,h.get? a=some o∧o.dict=none
theorem NoD.new (h:Heap)(o:Obj)(e:o.dict=none)(hf:o.isFreed=false:=by rfl):NoD (h.push o) h.objs.size:=⟨o,BI _ hf,e⟩
def bW (H:Hp)(h:Heap)(a:Addr):HO→Prop
 | .lst xs=>xs.length≤sizeLine∧∃ (HE:List Value) (n:Nat),a8 xs HE∧h.get? a=some { cls:=.type "list",data:=.seq HE.toArray n }
 | .tup xs=>xs.length≤sizeLine∧∃ HE:List Value,a8 xs HE∧IsTup h a HE.toArray∧NoD h a
 | .dK HG=>HG.length≤sizeLine∧(a == sysModules)=false∧∃ vs,KV HG vs∧h.DictOf (bu P w) a vs
 | .dT HG=>HG.length≤sizeLine∧(a == sysModules)=false∧∃ xs:List (List Key × Addr × Value),
   Paired (fun (p:List Key × V) (q:List Key × Addr × Value)=>p.1=q.1∧H q.2.1=some (.tup (p.1.map kV))∧bE p.2 q.2.2) HG xs ∧
   ∃ o es ep,h.get? a=some o∧o.ExactDict∧o.data = .dict es ep∧es.toList=xs.map (entryOfKey (tupleKind (bu P w)))∧(xs.map (·.1)).Nodup
 | .set S n=>h.SetOf (intKind P w) a S n
 | .ins C dx fs=>H dx=some (.own a)∧fs.length≤1000∧dx≠a∧h.get? a=some (PySem.W.instObj C dx) ∧
   ∃ mA,h.Ns1 dx mA∧(∀ f,mZ (fs.lookup f) (mA f))∧PySem.Within mA (fs.map (·.1))
 | .own _=>∃ o,h.get? a=some o
 | .xd fs=>∃ mA,h.Ns1 a mA∧∀ f,mZ (fs.lookup f) (mA f)
 | .rng lo hi=>∃ t u v,h.get? a=some { cls:=.type "range",data:=.fields #[.int lo t,.int hi u,.int 1 v] }
 | .frz o u=>h.get? a=some o∧bW H h a u
 | .tbl ps=>h.get? a=some { cls:=.none,data:=.fields ps }
 | .met f x=>h.get? a=some (PySem.W.methodObj (.ref f) (.ref x))
 | .ext φ=>φ h∧(∃ o,h.get? a=some o)∧∀ h1 h2:Heap,φ h1→(∀ o,h1.get? a=some o→h2.get? a=some o)→φ h2
def HOk (H:Hp)(h:Heap):Prop:=∀ a o,H a=some o→bW P w H h a o
end
section
variable {P:Program} {w:World} {H H':Hp} {h h':Heap} {a:Addr} {o:HO}
theorem bW.lt (x:bW P w H h a o):a < h.objs.size:=by
 cases o with
 | lst xs=>obtain ⟨_,_,_,_,e⟩:=x;exact BS e
 | tup xs=>obtain ⟨_,_,_,p,_⟩:=x;exact p.lt
 | dK HG=>obtain ⟨_,_,_,_,o,_,_,e,_⟩:=x;exact BS e
 | dT HG=>obtain ⟨_,_,_,_,o,_,_,e,_⟩:=x;exact BS e
 | set S n=>obtain ⟨o,_,_,_,e,_⟩:=x;exact BS e
 | ins C dx fs=>obtain ⟨_,_,_,e,_⟩:=x;exact BS e
 | own y=>obtain ⟨_,e⟩:=x;exact BS e
 | xd fs=>obtain ⟨_,⟨_,_,_,e,_⟩,_⟩:=x;exact BS e
 | rng lo hi=>obtain ⟨_,_,_,e⟩:=x;exact BS e
 | frz ob u=>obtain ⟨e,_⟩:=x;exact BS e
 | tbl ps=>exact BS (show h.get? a=some _ from x)
 | met f y=>exact BS (show h.get? a=some _ from x)
 | ext φ=>obtain ⟨_,⟨_,e⟩,_⟩:=x;exact BS e
theorem Paired.mapP {α β:Type}{F G:α→β→Prop}:∀ {l₁:List α} {l₂:List β},Paired F l₁ l₂→(∀ a b,F a b→G a b)→Paired G l₁ l₂
 | _,_,.nil,_=>.nil
 | _,_,.cons r t,f=>.cons (f _ _ r) (Paired.mapP t f)
theorem bW.stay (x:bW P w H h a o)(k:∀ b u,(b=a ∨ H b=some (.own a))→h.get? b=some u→h'.get? b=some u)
  (ho:∀ b,H b=some (.own a)→H' b=some (.own a)) (ht:∀ b xs,H b=some (.tup xs)→H' b=some (.tup xs)):bW P w H' h' a o:=by
 induction o with
 | lst xs=>obtain ⟨z,HE,n,r,e⟩:=x;exact ⟨z,HE,n,r,k _ _ (.inl rfl) e⟩
 | tup xs=>obtain ⟨z,HE,r,⟨ob,e,c⟩,o2,e2,c2⟩:=x;exact ⟨z,HE,r,⟨ob,k _ _ (.inl rfl) e,c⟩,o2,k _ _ (.inl rfl) e2,c2⟩
 | dK HG=>obtain ⟨z,y,vs,r,ob,es,ep,e,c⟩:=x;exact ⟨z,y,vs,r,ob,es,ep,k _ _ (.inl rfl) e,c⟩
 | dT HG =>
  obtain ⟨z,y,xs,r,ob,es,ep,e,c⟩:=x
  exact ⟨z,y,xs,Paired.mapP r fun p q z=>⟨z.1,ht _ _ z.2.1,z.2.2⟩,ob,es,ep,k _ _ (.inl rfl) e,c⟩
 | set S n=>obtain ⟨ob,es,ep,t,e,c⟩:=x;exact ⟨ob,es,ep,t,k _ _ (.inl rfl) e,c⟩
 | ins C dx fs =>
  obtain ⟨d,z,ne,e,mA,⟨od,es,ep,e2,c⟩,r⟩:=x
  exact ⟨ho _ d,z,ne,k _ _ (.inl rfl) e,mA,⟨od,es,ep,k _ _ (.inr d) e2,c⟩,r⟩
 | own y=>obtain ⟨ob,e⟩:=x;exact ⟨ob,k _ _ (.inl rfl) e⟩
 | xd fs=>obtain ⟨mA,⟨od,es,ep,e,c⟩,r⟩:=x;exact ⟨mA,⟨od,es,ep,k _ _ (.inl rfl) e,c⟩,r⟩
 | rng lo hi=>obtain ⟨t,u,v,e⟩:=x;exact ⟨t,u,v,k _ _ (.inl rfl) e⟩
 | frz ob u ih=>obtain ⟨e,q⟩:=x;exact ⟨k _ _ (.inl rfl) e,ih q⟩
 | tbl ps =>
  have e:h.get? a=some { cls:=.none,data:=.fields ps }:=x
  show h'.get? a=some { cls:=.none,data:=.fields ps }
  exact k a _ (.inl rfl) e
 | met f y =>
  have e:h.get? a=some (PySem.W.methodObj (.ref f) (.ref y)):=x
  show h'.get? a=some (PySem.W.methodObj (.ref f) (.ref y))
  exact k a _ (.inl rfl) e
 | ext φ=>obtain ⟨p,⟨o,e⟩,st⟩:=x;exact ⟨st _ _ p fun o q=>k _ _ (.inl rfl) q,⟨o,k _ _ (.inl rfl) e⟩,st⟩
theorem HOk.lt (x:HOk P w H h)(e:H a=some o):a < h.objs.size:=(x a o e).lt
theorem HOk.fresh (x:HOk P w H h)(e:h.objs.size≤a):H a=none:=by
 cases q:H a with
 | none=>rfl
 | some u=>exact absurd (B_ (x.lt q) e) (CW _)
theorem HOk.kept (x:HOk P w H h)(k:∀ b u,h.get? b=some u→h'.get? b=some u):HOk P w H h':=fun a o e =>
 (x a o e).stay (fun b u _ q=>k b u q) (fun _ q=>q) fun _ _ q=>q
theorem HOk.laid (x:HOk P w H h)(k:∀ b u,h.get? b=some u→h'.get? b=some u)(hp:h.objs.size≤a)(new:bW P w (upd H a o) h' a o):HOk P w (upd H a o) h':=fun b u e=>by
 have hn:=x.fresh hp
 by_cases hb:b=a
 ·subst hb;rw [af] at e;cases e;exact new
 ·rw [aF hb] at e
  exact (x b u e).stay (fun c v _ q=>k c v q) (fun c q=>by rw [aF (au q hn)];exact q) fun c xs q=>by rw [aF (au q hn)];exact q
end
def Rd (H:Hp)(a:Addr)(u:HO):Prop:=H a=some u ∨ ∃ o,H a=some (.frz o u)
theorem Rd.ok {P:Program}{w:World}{H:Hp}{h:Heap}{a:Addr}{u:HO}(r:Rd H a u)(x:HOk P w H h):bW P w H h a u:=by
 rcases r with r | ⟨o,r⟩
 ·exact x a u r
 ·obtain ⟨_,q⟩:=x a _ r
  exact q
def Mut:Option HO→Prop
 | some (.lst _)=>True
 | some (.dK _)=>True
 | some (.dT _)=>True
 | some (.set _ _)=>True
 | some (.ins _ _ _)=>True
 | some (.ext _)=>True
 | _=>False
section
variable {P:Program} {w:World} {H:Hp} {h h':Heap} {x e:Addr} {o':HO}
theorem HOk.write (ok:HOk P w H h)(mu:Mut (H x))(he:e=x ∨ H e=some (.own x))(k:∀ b u,b≠e→h.get? b=some u→h'.get? b=some u)(heo:∃ u,h'.get? e=some u)
  (new:bW P w (upd H x o') h' x o'):HOk P w (upd H x o') h':=fun b u q=>by
 have nown:∀ c y,H c=some (.own y)→c≠x:=fun c y r z=>by subst z;rw [r] at mu;exact mu
 have ntup:∀ c xs,H c=some (.tup xs)→c≠x:=fun c xs r z=>by subst z;rw [r] at mu;exact mu
 by_cases hb:b=x
 ·subst hb;rw [af] at q;cases q;exact new
 ·rw [aF hb] at q
  by_cases hbe:b=e
  ·have q':H b=some (.own x):=by
    rcases he with z | z
    ·exact absurd (hbe.trans z) hb
    ·rw [hbe];exact z
   rw [q] at q';cases q'
   obtain ⟨v,hv⟩:=heo
   exact ⟨v,by rw [hbe];exact hv⟩
  ·refine (ok b u q).stay (fun c v hc r=>k c v ?_ r) (fun c r=>by rw [aF (nown c b r)];exact r) fun c xs r=>by rw [aF (ntup c xs r)];exact r
   rcases hc with rfl | hc
   ·exact hbe
   ·rintro rfl
    rcases he with z | z
    ·exact nown c b hc z
    ·rw [hc] at z;cases z;exact hb rfl
end
structure Un (fs ex:List Addr) (H H':Hp) (h h':Heap):Prop where
 keep:∀ b o,h.get? b=some o→H b=none→b∉fs→b∉ex→h'.get? b=some o
 slot:∀ b o,h.get? b=some o→H b=none→b∈fs→b∉ex→∃ sl,h'.get? b=some { o with slots:=sl }
 free:∀ b o,h.get? b=some o→H b=none→b∉ex→H' b=none
 there:∀ b o,h.get? b=some o→b∉ex→∃ o',h'.get? b=some o'
 tups:∀ b xs,H b=some (.tup xs)→H' b=some (.tup xs)
 frzs:∀ b o u,H b=some (.frz o u)→H' b=some (.frz o u)
 tbls:∀ b ps,H b=some (.tbl ps)→∃ more,H' b=some (.tbl (ps++more))
section
variable {fs fs' ex ex':List Addr} {H H1 H2:Hp} {h h1 h2 h':Heap} {a x e:Addr} {o:HO}
theorem Un.any (u:Un fs ex H H1 h h1){b:Addr}{ob:Obj}(q:h.get? b=some ob)(n:H b=none)(hx:b∉ex):∃ sl,h1.get? b=some { ob with slots:=sl }:=by
 by_cases hb:b∈fs
 ·exact u.slot b ob q n hb hx
 ·exact ⟨ob.slots,u.keep b ob q n hb hx⟩
theorem Un.kept (k:∀ b u,h.get? b=some u→h'.get? b=some u):Un fs ex H H h h' :=
 ⟨fun b ob q _ _ _=>k b ob q,fun b ob q _ _ _=>⟨ob.slots,k b ob q⟩,fun _ _ _ n _=>n,fun b ob q _=>⟨ob,k b ob q⟩,fun _ _ q=>q,fun _ _ _ q=>q,fun _ ps q=>⟨#[],by rw [q];simp⟩⟩
theorem Un.refl:Un fs ex H H h h:=Un.kept fun _ _ q=>q
theorem Un.laid (k:∀ b u,h.get? b=some u→h'.get? b=some u)(hp:h.objs.size≤a)(hn:H a=none):Un fs ex H (upd H a o) h h' where
 keep:=fun b u q _ _ _=>k b u q
 slot:=fun b u q _ _ _=>⟨u.slots,k b u q⟩
 free:=fun b u q n _=>by rw [aF (Cu (B_ (BS q) hp))];exact n
 there:=fun b u q _=>⟨u,k b u q⟩
 tups:=fun b xs q=>by rw [aF (au q hn)];exact q
 frzs:=fun b u xs q=>by rw [aF (au q hn)];exact q
 tbls:=fun b ps q=>⟨#[],by rw [aF (au q hn),q];simp⟩
theorem Un.write (mu:Mut (H x))(he:e=x ∨ H e=some (.own x))(k:∀ b u,b≠e→h.get? b=some u→h'.get? b=some u)(heo:∃ u,h'.get? e=some u):Un fs ex H (upd H x o) h h':=by
 have hx:∀ b,H b=none→b≠x:=fun b n z=>by subst z;rw [n] at mu;exact mu
 have hb:∀ b,H b=none→b≠e:=fun b n z=>by
  subst z
  rcases he with r | r
  ·exact hx b n r
  ·rw [n] at r;cases r
 have hm:∀ b u,H b=some u→¬ Mut (some u)→b≠x:=fun b u q nm z=>by subst z;rw [q] at mu;exact nm mu
 refine ⟨fun b u q n _ _=>k b u (hb b n) q,fun b u q n _ _=>⟨u.slots,k b u (hb b n) q⟩,fun b u q n _=>by rw [aF (hx b n)];exact n,fun b u q _=>?_,
  fun b xs q=>by rw [aF (hm b _ q fun z=>z)];exact q,fun b u xs q=>by rw [aF (hm b _ q fun z=>z)];exact q,fun b ps q=>⟨#[],by rw [aF (hm b _ q fun z=>z),q];simp⟩⟩
 by_cases hbe:b=e
 ·subst hbe;exact heo
 ·exact ⟨u,k b u hbe q⟩
end
def trk (h:Heap)(H:Hp):List Addr:=(List.range h.objs.size).filter fun a=>(H a).isSome
def qA (h:Heap)(H:Hp):Heap:=PySem.W.hideAll h (trk h H)
theorem m8 (h:Heap)(H:Hp):(qA h H).objs.size=h.objs.size:=PySem.W.hideAll_size _ _
theorem qB {h:Heap}{H:Hp}{b:Addr}{o:Obj}(e:h.get? b=some o)(n:H b=none):(qA h H).get? b=some o :=
 PySem.W.hideAll_get _ e fun hm=>by
  have q:(H b).isSome=true:=(BW.mp hm).2
  rw [n] at q;simp at q
theorem tY {h:Heap}{H:Hp}{b:Addr}{o:Obj}(e:(qA h H).get? b=some o):h.get? b=some o∧H b=none:=by
 have e':h.get? b=some o:=PySem.W.of_hideAll (trk h H) e
 refine ⟨e',?_⟩
 cases q:H b with
 | none=>rfl
 | some x =>
  have hm:b∈trk h H:=BW.mpr ⟨CL.mpr (BS e'),by simp [q]⟩
  have z:(qA h H).get? b=none:=PySem.W.hideAll_none (trk h H) hm
  rw [z] at e;cases e
structure Mod (K:PySem.W.Frag) (mg:Str→Option Value) (base:Heap):Prop where
 kin:K.In base
 glob:base.Ns mainGlobals mg
 blt:∃ mb,base.Ns builtinsNs mb∧∀ x:Str,x ≠ "__name__"→mb x=bootBuiltins x
 nolimit:base.NoLimit
/-- the context: a def's body (or a comprehension's block) running. base: fixed through the whole law;s₀,H₀: the entry;outer: the frames whose slots others may change (a def's callers);stack: all frames that run;
  ex: iterators that were made ahead of the entry and are walked here (a comprehension's);fn: the names whose cells were made at the entry (a def: all;a comprehension's block: HE own);calm: not within an except suite;pn: Hz that every state bears;xe: what is wanted of an exception that leaves the code -/
structure Cx where
 prog:Program
 w:World
 K:PySem.W.Frag
 mg:Str→Option Value
 base:Heap
 A:Around
 N:List Str
 s₀:Shared
 H₀:Hp
 env:Env
 outer:List Env
 stack:List Env
 ex:List Addr
 fn:Str→Bool
 calm:Bool
 pn:List (Addr × Obj)
 xe:Value→Shared→Prop
def frs (l:List Env):List Addr:=l.filterMap (·.frame)
abbrev Cx.fs (X:Cx):List Addr:=frs X.outer
def Vis (sc:Scope)(x:Str):Prop:=sc.names.lookup x=some .local ∨ sc.names.lookup x=some .cell ∨ sc.names.lookup x=some .free
def Loc (sc:Scope)(x:Str):Prop:=sc.names.lookup x=some .local ∨ sc.names.lookup x=some .cell
def AL (env:Env)(h:Heap)(m:Str→Option Value)(x:Str)(u:Value):Prop :=
 (env.kindOf x=some .local∧m x=some u) ∨ ((env.kindOf x=some .cell ∨ env.kindOf x=some .free)∧∃ c,env.cells.lookup x=some c∧h.IsCell c (some u))
structure Cx.Ok (X:Cx):Prop where
 mod:Mod X.K X.mg X.base
 kind:X.env.scope.kind = .function
 glob:X.env.globals=mainGlobals
 blt:X.env.builtins=builtinsNs
 above:X.s₀.heap.objs.size≤X.env.locals
 inj:∀ x y c,X.env.cells.lookup x=some c→X.env.cells.lookup y=some c→x=y
 has:∀ x,(X.env.kindOf x=some .cell ∨ X.env.kindOf x=some .free)→∃ c,X.env.cells.lookup x=some c
 cab:∀ x c,X.fn x=true→X.env.cells.lookup x=some c→X.s₀.heap.objs.size≤c
 hd:X.calm=true→X.A.handled=none
 frames:X.A.frames=some X.stack
 stk:X.stack=X.outer ∨ (X.stack=X.env::X.outer∧X.env.frame=some X.env.locals)
 exf:∀ b∈X.ex,b≠X.env.locals∧∀ x c,X.env.cells.lookup x=some c→c≠b
 bs:∀ b o,X.base.get? b=some o→X.s₀.heap.get? b=some o∧X.H₀ b=none
 bsz:X.base.objs.size≤X.s₀.heap.objs.size
 noex:∀ b o,X.base.get? b=some o→b∉X.ex
 exfs:∀ b∈X.ex,b∉X.fs
 funs:X.s₀.heap.FunFrames X.base X.outer
 frf:∀ b∈X.fs,X.H₀ b=none
structure Inv (X:Cx) (Hz:List (Addr × Obj)) (σ:List (Option V)) (H:Hp) (s:Shared):Prop where
 ok:X.Ok
 os:s.os=X.s₀.os
 bare:AllBare s.gens
 base:Un X.fs X.ex X.H₀ H X.s₀.heap s.heap
 loc:∃ m,s.heap.Ns X.env.locals m∧∀ (i:Nat) (x:Str) (v:V),X.N[i]? = some x→σ[i]? = some (some v)→Vis X.env.scope x→∃ u,bE v u∧AL X.env s.heap m x u
 cell:∀ x c,X.env.cells.lookup x=some c→∃ v,s.heap.IsCell c v
 free:H X.env.locals=none
 freeC:∀ x c,X.env.cells.lookup x=some c→H c=none
 pin:∀ p∈X.pn++Hz,s.heap.get? p.1=some p.2∧H p.1=none∧p.1≠X.env.locals∧p.1∉X.fs∧∀ v,p.2.data ≠ .cell v
 hok:HOk X.prog X.w H s.heap
 len:σ.length=X.N.length
section
variable {X:Cx} {Hz:List (Addr × Obj)} {σ:List (Option V)} {H H':Hp} {s:Shared} {h':Heap}
theorem Cx.Ok.nofr (ok:X.Ok){b:Addr}{o:Obj}(e:X.base.get? b=some o):b∉X.fs:=fun hb=>by
 have:=(ok.funs.mem hb).1
 rw [e] at this;cases this
theorem Inv.bs (I:Inv X Hz σ H s):∀ b o,X.base.get? b=some o→s.heap.get? b=some o∧H b=none:=fun b o e =>
 ⟨I.base.keep b o (I.ok.bs b o e).1 (I.ok.bs b o e).2 (I.ok.nofr e) (I.ok.noex b o e),I.base.free b o (I.ok.bs b o e).1 (I.ok.bs b o e).2 (I.ok.noex b o e)⟩
theorem Inv.bk (I:Inv X Hz σ H s):∀ b o,X.base.get? b=some o→s.heap.get? b=some o:=fun b o e=>(I.bs b o e).1
theorem Inv.mod (I:Inv X Hz σ H s):Mod X.K X.mg X.base:=I.ok.mod
theorem Inv.kIn (I:Inv X Hz σ H s):X.K.In s.heap:=I.ok.mod.kin.keeps I.bk
theorem Inv.fr (I:Inv X Hz σ H s):∃ m,Fr X.base X.env.locals s.heap m :=
 let ⟨m,hn,_⟩:=I.loc
 ⟨m,hn,I.bk,Cr I.ok.bsz I.ok.above⟩
theorem Inv.lt (I:Inv X Hz σ H s):X.env.locals < s.heap.objs.size:=let ⟨_,hn,_⟩:=I.loc; hn.lt
theorem Inv.sz (I:Inv X Hz σ H s):X.s₀.heap.objs.size≤s.heap.objs.size:=Cr I.ok.above (D0 I.lt)
theorem Inv.nofs (I:Inv X Hz σ H s){a:Addr}(h:s.heap.objs.size≤a):a∉X.fs:=fun hb=>by
 obtain ⟨_,o,ho,_⟩:=I.ok.funs.mem hb
 exact absurd (B_ (BS ho) (Cr I.sz h)) (CW _)
theorem Inv.cne (I:Inv X Hz σ H s):∀ x c,X.env.cells.lookup x=some c→c≠X.env.locals:=fun x c e z=>by
 obtain ⟨v,o,ho,hd⟩:=I.cell x c e
 obtain ⟨m,⟨o',es,ep,Iy,hd',_⟩,_⟩:=I.loc
 rw [z,Iy] at ho;cases ho;rw [hd'] at hd;cases hd
theorem Inv.funs (I:Inv X Hz σ H s):s.heap.FunFrames X.base X.outer:=by
 have all:∀ (l:List Env),(∀ b∈frs l,b∈X.fs)→X.s₀.heap.FunFrames X.base l→s.heap.FunFrames X.base l:=by
  intro l
  induction l with
  | nil=>intro _ _;trivial
  | cons env r ih =>
   intro hs hl
   obtain ⟨hk,⟨L,o,hf,hn,ho,hd⟩,hr⟩:=hl
   have hL:L∈X.fs:=hs L (by unfold frs;rw [Fm,hf];exact BC)
   obtain ⟨sl,e⟩:=I.base.slot L o ho (I.ok.frf L hL) hL fun z=>I.ok.exfs L z hL
   exact ⟨hk,⟨L,_,hf,hn,e,hd⟩,ih (fun b hb=>hs b (by unfold frs;rw [Fm,hf];exact Bw _ hb)) hr⟩
 exact all X.outer (fun _ hb=>hb) I.ok.funs
theorem Inv.stack (I:Inv X Hz σ H s):s.heap.FunFrames X.base X.stack:=by
 rcases I.ok.stk with e | ⟨e,hf⟩
 ·rw [e];exact I.funs
 ·rw [e]
  obtain ⟨m,hn,_⟩:=I.loc
  refine .cons (by rw [I.ok.kind];decide) hf hn ?_ I.funs
  exact Heap.get?_none_of_le (Cr I.ok.bsz I.ok.above)
theorem Inv.stkSub (I:Inv X Hz σ H s):∀ b∈frs X.stack,b∈X.env.locals::X.fs:=fun b hb=>by
 rcases I.ok.stk with e | ⟨e,hf⟩
 ·rw [e] at hb;exact Bw _ hb
 ·rw [e] at hb
  unfold frs at hb
  rw [Fm,hf] at hb
  exact hb
theorem Inv.stkFree (I:Inv X Hz σ H s):∀ b∈frs X.stack,H b=none:=fun b hb=>by
 rcases BU.mp (I.stkSub b hb) with e | hb
 ·rw [e];exact I.free
 ·obtain ⟨_,o,ho,_⟩:=I.ok.funs.mem hb
  exact I.base.free b o ho (I.ok.frf b hb) fun z=>I.ok.exfs b z hb
theorem Inv.step {g':Array GenState}{t':Nat}{d':Drawn}{ch:List Addr}(I:Inv X Hz σ H s)
  (hch:∀ b∈ch,(b∈X.ex ∨ X.s₀.heap.objs.size≤b)∧b≠X.env.locals∧(∀ x c,X.env.cells.lookup x=some c→c≠b)∧∀ p∈X.pn++Hz,p.1≠b)
  (keep:∀ b o,b≠X.env.locals→b∉X.fs→b∉ch→s.heap.get? b=some o→H b=none→h'.get? b=some o)
  (slot:∀ b o,b≠X.env.locals→b∈X.fs→b∉ch→s.heap.get? b=some o→H b=none→∃ sl,h'.get? b=some { o with slots:=sl }) (free:∀ b o,b∉ch→s.heap.get? b=some o→H b=none→H' b=none)
  (there:∀ b o,b∉ch→s.heap.get? b=some o→∃ o',h'.get? b=some o')
  (tups:∀ b xs,H b=some (.tup xs)→H' b=some (.tup xs)) (frzs:∀ b o u,H b=some (.frz o u)→H' b=some (.frz o u)) (tbls:∀ b ps,H b=some (.tbl ps)→∃ more,H' b=some (.tbl (ps++more)))
  (ns:∀ m,s.heap.Ns X.env.locals m→h'.Ns X.env.locals m) (hok:HOk X.prog X.w H' h') (hg:AllBare g') :
  Inv X Hz σ H' { s with heap:=h',gens:=g',drawn:=d',toks:=t' }:=by
 have neL:∀ b o,X.s₀.heap.get? b=some o→b≠X.env.locals:=fun b o e=>Cu (B_ (BS e) I.ok.above)
 have neC:∀ b o,X.s₀.heap.get? b=some o→b∉X.ex→b∉ch:=fun b o e hx hb=>by
  rcases (hch b hb).1 with z | z
  ·exact hx z
  ·exact absurd (B_ (BS e) z) (CW _)
 have cellK:∀ x c,X.env.cells.lookup x=some c→∀ v,s.heap.IsCell c v→h'.IsCell c v:=fun x c e v ⟨o,ho,hd⟩=>by
  have nch:c∉ch:=fun z=>(hch c z).2.2.1 x c e rfl
  by_cases hc:c∈X.fs
  ·obtain ⟨sl,q⟩:=slot c o (I.cne x c e) hc nch ho (I.freeC x c e)
   exact ⟨_,q,hd⟩
  ·exact ⟨o,keep c o (I.cne x c e) hc nch ho (I.freeC x c e),hd⟩
 refine ⟨I.ok,I.os,hg,⟨fun b o e n hb hx=>?_,fun b o e n hb hx=>?_,fun b o e n hx=>?_,fun b o e hx=>?_,fun b xs e=>tups b xs (I.base.tups b xs e),fun b o xs e=>frzs b o xs (I.base.frzs b o xs e),fun b ps e=>?_⟩,?_,fun x c e=>?_,?_,fun x c e=>?_,fun p hp=>?_,hok,I.len⟩
 ·exact keep b o (neL b o e) hb (neC b o e hx) (I.base.keep b o e n hb hx) (I.base.free b o e n hx)
 ·obtain ⟨sl,e1⟩:=I.base.slot b o e n hb hx
  obtain ⟨sl',e2⟩:=slot b _ (neL b o e) hb (neC b o e hx) e1 (I.base.free b o e n hx)
  exact ⟨sl',e2⟩
 ·obtain ⟨o',e1⟩:=I.base.there b o e hx
  exact free b o' (neC b o e hx) e1 (I.base.free b o e n hx)
 ·obtain ⟨o',e1⟩:=I.base.there b o e hx
  exact there b o' (neC b o e hx) e1
 ·obtain ⟨m1,e1⟩:=I.base.tbls b ps e
  obtain ⟨m2,e2⟩:=tbls b _ e1
  exact ⟨m1++m2,by rw [e2,Array.append_assoc]⟩
 ·obtain ⟨m,hn,hl⟩:=I.loc
  refine ⟨m,ns m hn,fun i x v e1 e2 e3=>?_⟩
  obtain ⟨u,r,l⟩:=hl i x v e1 e2 e3
  refine ⟨u,r,?_⟩
  rcases l with l | ⟨k,c,e,z⟩
  ·exact .inl l
  ·exact .inr ⟨k,c,e,cellK x c e _ z⟩
 ·obtain ⟨v,z⟩:=I.cell x c e
  exact ⟨v,cellK x c e v z⟩
 ·obtain ⟨m,⟨o,_,_,ho,_⟩,_⟩:=I.loc
  exact free _ o (fun z=>(hch _ z).2.1 rfl) ho I.free
 ·obtain ⟨v,o,ho,hd⟩:=I.cell x c e
  exact free c o (fun z=>(hch c z).2.2.1 x c e rfl) ho (I.freeC x c e)
 ·obtain ⟨e,n,ne,nf,d⟩:=I.pin p hp
  have nch:p.1∉ch:=fun z=>(hch p.1 z).2.2.2 p hp rfl
  exact ⟨keep p.1 p.2 ne nf nch e n,free p.1 p.2 nch e n,ne,nf,d⟩
theorem Inv.un {t':Nat}(I:Inv X Hz σ H s)(u:Un X.fs [] H H' s.heap h')(hok:HOk X.prog X.w H' h'):Inv X Hz σ H' { s with heap:=h',toks:=t' }:=by
 obtain ⟨m,⟨o,es,ep,ho,r⟩,_⟩:=id I.loc
 obtain ⟨sl,hL⟩:=u.any ho I.free (by simp)
 exact I.step (g':=s.gens) (d':=s.drawn) (ch:=[]) (fun _ z=>nomatch z) (fun b o _ hb _ e n=>u.keep b o e n hb (by simp)) (fun b o _ hb _ e n=>u.slot b o e n hb (by simp)) (fun b o _ e n=>u.free b o e n (by simp)) (fun b o _ e=>u.there b o e (by simp)) u.tups u.frzs u.tbls (fun m' hm=>by
  obtain ⟨o',es',ep',Iy,r'⟩:=hm
  rw [ho] at Iy;cases Iy
  exact ⟨_,es',ep',hL,r'⟩) hok I.bare
theorem Inv.call {g':Array GenState}{t':Nat}{d':Drawn}{ch:List Addr}(I:Inv X Hz σ H s)(u:Un (frs X.stack) ch H H' s.heap h')(hok:HOk X.prog X.w H' h')(hg:AllBare g')
  (hch:∀ b∈ch,(b∈X.ex ∨ X.s₀.heap.objs.size≤b)∧b≠X.env.locals∧(∀ x c,X.env.cells.lookup x=some c→c≠b)∧∀ p∈X.pn++Hz,p.1≠b) :
  Inv X Hz σ H' { s with heap:=h',gens:=g',drawn:=d',toks:=t' }:=by
 obtain ⟨m,⟨o,es,ep,ho,r⟩,_⟩:=id I.loc
 obtain ⟨sl,hL⟩:=u.any ho I.free fun z=>(hch _ z).2.1 rfl
 exact I.step (ch:=ch) hch (fun b o hL hb hc e n=>u.keep b o e n (fun z=>(BU.mp (I.stkSub b z)).elim hL hb) hc) (fun b o _ _ hc e n=>u.any e n hc) (fun b o hc e n=>u.free b o e n hc) (fun b o hc e=>u.there b o e hc) u.tups u.frzs u.tbls (fun m' hm=>by
  obtain ⟨o',es',ep',Iy,r'⟩:=hm
  rw [ho] at Iy;cases Iy
  exact ⟨_,es',ep',hL,r'⟩) hok hg
theorem Inv.turned {t':Nat}{it:Addr}(I:Inv X Hz σ H s)(k:∀ b o,b≠it→s.heap.get? b=some o→h'.get? b=some o)(hn:H it=none)(hL:it≠X.env.locals)
  (h1:it∈X.ex ∨ X.s₀.heap.objs.size≤it) (h2:∀ x c,X.env.cells.lookup x=some c→c≠it) (h3:∀ p∈X.pn++Hz,p.1≠it):Inv X Hz σ H { s with heap:=h',toks:=t' }:=by
 have nit:∀ b u,H b=some u→b≠it:=fun b u e z=>by rw [z,hn] at e;cases e
 refine I.step (g':=s.gens) (d':=s.drawn) (ch:=[it]) (fun b hb=>?_) (fun b o _ _ hc e _=>k b o (fun z=>hc (by simp [z])) e) (fun b o _ _ hc e _=>⟨o.slots,k b o (fun z=>hc (by simp [z])) e⟩) (fun _ _ _ _ n=>n)
  (fun b o hc e=>⟨o,k b o (fun z=>hc (by simp [z])) e⟩) (fun _ _ e=>e) (fun _ _ _ e=>e) (fun b ps e=>⟨#[],by rw [e];simp⟩) (fun m hm=>?_) (fun b u e=>?_) I.bare
 ·have e:b=it:=by simpa using hb
  subst e
  exact ⟨h1,hL,h2,h3⟩
 ·obtain ⟨o,es,ep,ho,r⟩:=hm
  exact ⟨o,es,ep,k _ o (Ne.symm hL) ho,r⟩
 ·refine (I.hok b u e).stay (fun c v hc q=>k c v ?_ q) (fun _ q=>q) fun _ _ q=>q
  rcases hc with z | z
  ·rw [z];exact nit b u e
  ·exact nit c _ z
theorem Inv.tok (I:Inv X Hz σ H s)(t:Nat):Inv X Hz σ H { s with toks:=t }:=I.un (h':=s.heap) (t':=t) Un.refl I.hok
theorem Inv.kept {t':Nat}(I:Inv X Hz σ H s)(k:∀ b u,s.heap.get? b=some u→h'.get? b=some u):Inv X Hz σ H { s with heap:=h',toks:=t' }:=I.un (Un.kept k) (I.hok.kept k)
theorem Inv.laid {a:Addr}{o:HO}{t':Nat}(I:Inv X Hz σ H s)(k:∀ b u,s.heap.get? b=some u→h'.get? b=some u)(hp:s.heap.objs.size≤a)(new:bW X.prog X.w (upd H a o) h' a o) :
  Inv X Hz σ (upd H a o) { s with heap:=h',toks:=t' }:=I.un (Un.laid k hp (I.hok.fresh hp)) (I.hok.laid k hp new)
theorem Inv.write {x e:Addr}{o:HO}{t':Nat}(I:Inv X Hz σ H s)(mu:Mut (H x))(he:e=x ∨ H e=some (.own x))(k:∀ b u,b≠e→s.heap.get? b=some u→h'.get? b=some u)(heo:∃ u,h'.get? e=some u)
  (new:bW X.prog X.w (upd H x o) h' x o):Inv X Hz σ (upd H x o) { s with heap:=h',toks:=t' }:=I.un (Un.write mu he k heo) (I.hok.write mu he k heo new)
theorem Inv.pins_of {pins':List (Addr × Obj)}(I:Inv X Hz σ H s)(h:∀ p∈pins',s.heap.get? p.1=some p.2∧H p.1=none∧p.1≠X.env.locals∧p.1∉X.fs∧∀ v,p.2.data ≠ .cell v):Inv X pins' σ H s :=
 ⟨I.ok,I.os,I.bare,I.base,I.loc,I.cell,I.free,I.freeC,fun p hp=>(B0.mp hp).elim (fun z=>I.pin p (Cb _ z)) (h p),I.hok,I.len⟩
theorem kq {N:List Str}(hN:N.Nodup){i j:Nat}{x:Str}(a:N[i]? = some x)(b:N[j]? = some x):i=j:=by
 obtain ⟨h1,e1⟩:=Bv.mp a
 obtain ⟨h2,e2⟩:=Bv.mp b
 exact (List.getElem_inj hN).mp (e1.trans e2.symm)
theorem m9 {M:Model}{A:Around}{E:Value→Shared→Prop}{i:Nat}{x:Str}{v:V}{u:Value}{Q:Unit→Shared→Prop}(I:Inv X Hz σ H s)(hN:X.N.Nodup)(hi:X.N[i]? = some x)(hx:Loc X.env.scope x)(r:bE v u)
  (h:∀ s',Inv X Hz (σ.set i (some v)) H s'→(∃ a,Heap.SameBut a s.heap s'.heap∧(a=X.env.locals ∨ X.env.cells.lookup x=some a))→Q () s') (hf:X.fn x=true ∨ X.env.scope.names.lookup x=some .local:=by first | exact .inl rfl | exact .inr rfl | assumption):wpAny M A (storeName X.env x u) Q E s:=by
 obtain ⟨m,hn,hl⟩:=id I.loc
 have hcls:(X.env.scope.kind == .class || (X.env.scope.kind == .module && X.env.locals != X.env.globals))=false:=by rw [I.ok.kind];rfl
 have hiσ:i < σ.length:=by rw [I.len];exact (Bv.mp hi).1
 have cne:=I.cne
 have tracked:∀ {a:Addr} {h':Heap},(∃ o,s.heap.get? a=some o∧H a=none)→Heap.SameBut a s.heap h'→HOk X.prog X.w H h':=fun {a h'} ha hs b ob e=>by
  obtain ⟨_,_,hfree⟩:=ha
  refine (I.hok b ob e).stay (fun c w' hc q=>(hs.2 c ?_).trans q) (fun _ q=>q) fun _ _ q=>q
  rintro rfl
  rcases hc with rfl | hc
  ·rw [hfree] at e;cases e
  ·rw [hfree] at hc;cases hc
 rcases hx with hk | hk
 ·refine wpAny_storeName_local hk hn (fun h' hn' hs=>?_) hcls
  obtain ⟨oL,_,_,hoL,_⟩:=id hn
  refine h _ ⟨I.ok,I.os,I.bare,⟨fun b o e n hb hx=>?_,fun b o e n hb hx=>?_,I.base.free,fun b o e hx=>?_,I.base.tups,I.base.frzs,I.base.tbls⟩,⟨_,hn',fun j y v' e1 e2 e3=>?_⟩,fun y c e=>?_,I.free,I.freeC,fun p hp=>?_,tracked ⟨oL,hoL,I.free⟩ hs,by simpa using I.len⟩ ⟨_,hs,.inl rfl⟩
  ·exact (hs.2 b (Cu (B_ (BS e) I.ok.above))).trans (I.base.keep b o e n hb hx)
  ·obtain ⟨sl,e1⟩:=I.base.slot b o e n hb hx
   exact ⟨sl,(hs.2 b (Cu (B_ (BS e) I.ok.above))).trans e1⟩
  ·obtain ⟨o',e1⟩:=I.base.there b o e hx
   exact ⟨o',(hs.2 b (Cu (B_ (BS e) I.ok.above))).trans e1⟩
  ·by_cases hj:j=i
   ·subst hj
    rw [hi] at e1;cases e1
    rw [GD hiσ] at e2
    cases e2
    exact ⟨u,r,.inl ⟨hk,by simp⟩⟩
   ·rw [List.getElem?_set_ne (Ne.symm hj)] at e2
    obtain ⟨u',r',q⟩:=hl j y v' e1 e2 e3
    refine ⟨u',r',?_⟩
    rcases q with ⟨k,e⟩ | ⟨k,c,e,z⟩
    ·refine .inl ⟨k,?_⟩
     have:y≠x:=fun e=>hj (kq hN e1 (e ▸ hi))
     simp [this,e]
    ·exact .inr ⟨k,c,e,z.sameBut hs (cne y c e)⟩
  ·obtain ⟨w',z⟩:=I.cell y c e
   exact ⟨w',z.sameBut hs (cne y c e)⟩
  ·obtain ⟨e,n,ne,nf,d⟩:=I.pin p hp
   exact ⟨(hs.2 p.1 ne).trans e,n,ne,nf,d⟩
 ·have hfn:X.fn x=true:=by
   rcases hf with z | z
   ·exact z
   ·rw [z] at hk;cases hk
  obtain ⟨c,hc⟩:=I.ok.has x (.inl hk)
  obtain ⟨w',z⟩:=I.cell x c hc
  refine wpAny_storeName_cell I.ok.kind hk hc z (fun h' hc' hs=>?_)
  obtain ⟨oc,hoc,hocd⟩:=id z
  refine h { s with heap:=h' } ⟨I.ok,I.os,I.bare,⟨fun b o e n hb hx=>?_,fun b o e n hb hx=>?_,I.base.free,fun b o e hx=>?_,I.base.tups,I.base.frzs,I.base.tbls⟩,⟨m,hn.sameBut hs (Ne.symm (cne x c hc)),fun j y v' e1 e2 e3=>?_⟩,fun y c' e=>?_,I.free,I.freeC,fun p hp=>?_,tracked ⟨oc,hoc,I.freeC x c hc⟩ hs,by simpa using I.len⟩ ⟨c,hs,.inr hc⟩
  ·exact (hs.2 b (Cu (B_ (BS e) (I.ok.cab x c hfn hc)))).trans (I.base.keep b o e n hb hx)
  ·obtain ⟨sl,e1⟩:=I.base.slot b o e n hb hx
   exact ⟨sl,(hs.2 b (Cu (B_ (BS e) (I.ok.cab x c hfn hc)))).trans e1⟩
  ·obtain ⟨o',e1⟩:=I.base.there b o e hx
   exact ⟨o',(hs.2 b (Cu (B_ (BS e) (I.ok.cab x c hfn hc)))).trans e1⟩
  ·by_cases hj:j=i
   ·subst hj
    rw [hi] at e1;cases e1
    rw [GD hiσ] at e2
    cases e2
    exact ⟨u,r,.inr ⟨.inl hk,c,hc,hc'⟩⟩
   ·rw [List.getElem?_set_ne (Ne.symm hj)] at e2
    obtain ⟨u',r',q⟩:=hl j y v' e1 e2 e3
    refine ⟨u',r',?_⟩
    rcases q with q | ⟨k,c',e,z'⟩
    ·exact .inl q
    ·refine .inr ⟨k,c',e,z'.sameBut hs ?_⟩
     rintro rfl
     exact hj (kq hN e1 (I.ok.inj _ _ _ e hc ▸ hi))
  ·by_cases hcc:c'=c
   ·subst hcc;exact ⟨_,hc'⟩
   ·obtain ⟨w2,z2⟩:=I.cell y c' e
    exact ⟨w2,z2.sameBut hs hcc⟩
  ·obtain ⟨e,n,ne,nf,d⟩:=I.pin p hp
   refine ⟨(hs.2 p.1 ?_).trans e,n,ne,nf,d⟩
   intro q
   rw [q,hoc] at e
   have q':oc=p.2:=BA e
   exact d w' (by rw [← q'];exact hocd)
theorem gH {M:Model}{A:Around}{E:Value→Shared→Prop}{i:Nat}{x:Str}{v:V}{u:Value}{Q:Unit→Shared→Prop}(I:Inv X Hz σ H s)(hN:X.N.Nodup)(hi:X.N[i]? = some x)(hx:Loc X.env.scope x)(r:bE v u)
  (h:∀ s',Inv X Hz (σ.set i (some v)) H s'→Q () s') (hf:X.fn x=true ∨ X.env.scope.names.lookup x=some .local:=by first | exact .inl rfl | exact .inr rfl | assumption):wpAny M A (storeName X.env x u) Q E s :=
 m9 I hN hi hx r (fun s' I' _=>h s' I') hf
theorem Inv.call' {s':Shared}{ch:List Addr}(I:Inv X Hz σ H s)(ho:s'.os=s.os)(u:Un (frs X.stack) ch H H' s.heap s'.heap)(hok:HOk X.prog X.w H' s'.heap)(hg:AllBare s'.gens)
  (hch:∀ b∈ch,(b∈X.ex ∨ X.s₀.heap.objs.size≤b)∧b≠X.env.locals∧(∀ x c,X.env.cells.lookup x=some c→c≠b)∧∀ p∈X.pn++Hz,p.1≠b):Inv X Hz σ H' s':=by
 obtain ⟨h',g',d',t',o'⟩:=s'
 have e:o'=s.os:=ho
 subst e
 exact I.call (g':=g') (t':=t') (d':=d') u hok hg hch
end
abbrev XK:=Value→Option Addr→Hp→Prop
abbrev St:=List (Option V)
abbrev VK:=V→Hp→Prop
abbrev TE:=St→Hp→VK→Prop
abbrev TT:=St→Hp→(Bool→Hp→Prop)→Prop
abbrev TA:=St→Hp→(List V→Hp→Prop)→Prop
structure gI where
 nx:St→Hp→Prop
 rt:VK
 bk:St→Hp→Prop:=fun _ _=>False
 ct:St→Hp→Prop:=fun _ _=>False
abbrev TS:=gI→St→Hp→Prop
def EP (X:Cx)(Hz:List (Addr × Obj))(σ:St)(Q:VK)(u:Value)(s':Shared):Prop:=∃ v H',Inv X Hz σ H' s'∧bE v u∧Q v H'
def TP (X:Cx)(Hz:List (Addr × Obj))(σ:St)(Q:Bool→Hp→Prop)(b:Bool)(s':Shared):Prop:=∃ H',Inv X Hz σ H' s'∧Q b H'
def AP (X:Cx)(Hz:List (Addr × Obj))(σ:St)(Q:List V→Hp→Prop)(us:List Value)(s':Shared):Prop:=∃ vs H',Inv X Hz σ H' s'∧a8 vs us∧Q vs H'
def SP (X:Cx)(Hz:List (Addr × Obj))(D:gI)(f:Flow)(s':Shared):Prop :=
 match f with
 | .next=>∃ σ' H',Inv X Hz σ' H' s'∧D.nx σ' H'
 | .brk=>∃ σ' H',Inv X Hz σ' H' s'∧D.bk σ' H'
 | .cont=>∃ σ' H',Inv X Hz σ' H' s'∧D.ct σ' H'
 | .ret u=>∃ v σ' H',Inv X Hz σ' H' s'∧bE v u∧D.rt v H'
def PE (X:Cx)(e:Expr)(t:TE):Prop :=
 ∀ (Hz:List (Addr × Obj)) (s:Shared) (σ:St) (H:Hp) (Q:VK),Inv X Hz σ H s→t σ H Q→wpAny (model X.prog X.w) X.A (eval e X.env) (EP X Hz σ Q) X.xe s
def PT (X:Cx)(e:Expr)(t:TT):Prop :=
 ∀ (Hz:List (Addr × Obj)) (s:Shared) (σ:St) (H:Hp) (Q:Bool→Hp→Prop),Inv X Hz σ H s→t σ H Q→wpAny (model X.prog X.w) X.A (isTrue e X.env (eval e X.env)) (TP X Hz σ Q) X.xe s
def PW (X:Cx)(e:Expr)(t:TT):Prop :=
 ∀ (whole:Sem Value) (Hz:List (Addr × Obj)) (s:Shared) (σ:St) (H:Hp) (Q:Bool→Hp→Prop),Inv X Hz σ H s→t σ H Q→wpAny (model X.prog X.w) X.A (isTrue e X.env whole) (TP X Hz σ Q) X.xe s
theorem PW.pt {X:Cx}{e:Expr}{t:TT}(h:PW X e t):PT X e t:=h _
def PA (X:Cx)(es:List Expr)(t:TA):Prop :=
 ∀ (pos:Pos) (Hz:List (Addr × Obj)) (s:Shared) (σ:St) (H:Hp) (Q:List V→Hp→Prop),Inv X Hz σ H s→t σ H Q→wpAny (model X.prog X.w) X.A (spliced (backTo pos (starEach es X.env))) (AP X Hz σ Q) X.xe s
def PS (X:Cx)(st:Stmt)(t:TS):Prop :=
 ∀ (Hz:List (Addr × Obj)) (s:Shared) (σ:St) (H:Hp) (D:gI),Inv X Hz σ H s→t D σ H→wpAny (model X.prog X.w) X.A (exec st X.env) (SP X Hz D) X.xe s
def PSs (X:Cx)(st:List Stmt)(t:TS):Prop :=
 ∀ (Hz:List (Addr × Obj)) (s:Shared) (σ:St) (H:Hp) (D:gI),Inv X Hz σ H s→t D σ H→wpAny (model X.prog X.w) X.A (execs st X.env) (SP X Hz D) X.xe s
theorem thn {α:Type}{t:Sem α}{Q Q':α→Shared→Prop}{M:Model}{A:Around}{E:Value→Shared→Prop}{s:Shared}(h:wpAny M A t Q E s)(hQ:∀ a s,Q a s→Q' a s):wpAny M A t Q' E s:=Dh h hQ fun _ _ x=>x
section
variable {X:Cx}
inductive yQ (i:Nat)(σ:St)(H:Hp)(Q:VK):Prop
 | mk:∀ v,(σ[i]? = some (some v))→(Q v H)→yQ i σ H Q
def tC (v:V):TE:=fun _ H Q=>Q v H
theorem wu {i:Nat}{x:Str}{pos:Pos}(hN:X.N[i]? = some x)(hv:Vis X.env.scope x)(hd:(x == ("__debug__":Str))=false:=by decide)(hcd:(x == ("__classdict__":Str))=false:=by decide):PE X (.Name x pos) (yQ i):=by
 intro Hz s σ H Q I h
 obtain ⟨v,e,h⟩:=h
 obtain ⟨m,hn,hl⟩:=I.loc
 obtain ⟨u,r,l⟩:=hl i x v hN e hv
 have fin:EP X Hz σ Q u s:=⟨v,H,I,r,h⟩
 rcases l with ⟨hk,hm⟩ | ⟨hk,c,hc,hcell⟩
 ·exact wpAny_Name (wpAny_loadName_local I.ok.kind hk hn hm fin) hd
 ·rcases hk with hk | hk
  ·exact wpAny_Name (wpAny_loadName_cell I.ok.kind hk hc hcell fin) hd
  ·exact wpAny_Name (wpAny_loadName_free I.ok.kind hk hc hcell fin hcd) hd
theorem ao {i j pos}:PE X (.Constant (.int i) j pos) (tC (.int i)):=fun _ _ _ H _ I h=>wpAny_Constant_int ⟨.int i,H,I.tok _,⟨_,rfl⟩,h⟩
theorem tZ {b j pos}:PE X (.Constant (.bool b) j pos) (tC (.bl b)):=fun _ _ _ H _ I h=>Constant_bool ⟨.bl b,H,I,rfl,h⟩
theorem bP {x j pos}:PE X (.Constant (.str x) j pos) (tC (.str x)):=fun _ _ _ H _ I h=>Calls.Constant_str ⟨.str x,H,I.tok _,⟨_,rfl⟩,h⟩
def Gl (X:Cx)(x:Str):Prop:=X.env.kindOf x=some .globalImplicit
theorem m_ {E:Value→Shared→Prop}{Hz:List (Addr × Obj)}{s:Shared}{σ:St}{H:Hp}{x:Str}{u:Value}{pos:Pos}{Q:Value→Shared→Prop}(I:Inv X Hz σ H s)(hg:Gl X x)(hm:X.mg x=some u)(h:Q u s)
  (hd:(x == ("__debug__":Str))=false:=by decide):wpAny (model X.prog X.w) X.A (eval (.Name x pos) X.env) Q E s :=
 Fv I.ok.kind hg (Calls.loadGlobal_global (by rw [I.ok.glob];exact I.mod.glob.keeps I.bk) hm h) hd
theorem iR {E:Value→Shared→Prop}{Hz:List (Addr × Obj)}{s:Shared}{σ:St}{H:Hp}{x:Str}{u:Value}{pos:Pos}{Q:Value→Shared→Prop}(I:Inv X Hz σ H s)(hg:Gl X x)(hm:X.mg x=none)(hv:bootBuiltins x=some u)(h:Q u s)
  (hn:x ≠ "__name__":=by decide) (hd:(x == ("__debug__":Str))=false:=by decide):wpAny (model X.prog X.w) X.A (eval (.Name x pos) X.env) Q E s:=by
 obtain ⟨mb,h1,h2⟩:=I.mod.blt
 exact Fv I.ok.kind hg (Calls.loadGlobal_builtin (by rw [I.ok.glob];exact I.mod.glob.keeps I.bk) hm (by rw [I.ok.blt];exact h1.keeps I.bk) ((h2 x hn).trans hv) h) hd
variable {a b:Expr} {ta tb:TE} {pos:Pos}
inductive IsB (x:V)(H:Hp)(Q:Bool→Hp→Prop):Prop
 | mk:∀ c,(x = .bl c)→(Q c H)→IsB x H Q
variable {tA tB':TT} {rest:List Expr}
def jK (u:TT)(σ:St)(Q:(Bool→Hp→Prop)):Bool→Hp→Prop:=fun c H1=>if c=true then u σ H1 Q else Q false H1
def AM (t u:TT):TT:=fun σ H Q=>t σ H (jK u σ Q)
def nc (u:TT)(σ:St)(Q:(Bool→Hp→Prop)):Bool→Hp→Prop:=fun c H1=>if c=true then Q true H1 else u σ H1 Q
def tOr (t u:TT):TT:=fun σ H Q=>t σ H (nc u σ Q)
theorem jL (ha:PT X a tA):PW X (.BoolOp .And [a] pos) tA:=by
 intro wh Hz s σ H Q I h
 refine isTrue_and (thn (ha Hz s σ H Q I h) fun c s1 e=>?_)
 cases c with
 | true=>exact isTrue_and_nil e
 | false=>exact e
theorem sO (ha:PT X a tA):PW X (.BoolOp .Or [a] pos) tA:=by
 intro wh Hz s σ H Q I h
 refine isTrue_or (thn (ha Hz s σ H Q I h) fun c s1 e=>?_)
 cases c with
 | false=>exact isTrue_or_nil e
 | true=>exact e
theorem ng (ha:PT X a tA)(hb:PW X (.BoolOp .And (b::rest) pos) tB'):PW X (.BoolOp .And (a::b::rest) pos) (AM tA tB'):=by
 intro wh Hz s σ H Q I h
 refine isTrue_and (thn (ha Hz s σ H _ I h) fun c s1 zq7=>?_)
 obtain ⟨H1,I1,q1⟩:=zq7
 cases c with
 | true=>exact hb wh Hz s1 σ H1 Q I1 q1
 | false=>exact ⟨H1,I1,q1⟩
theorem wx (ha:PT X a tA)(hb:PW X (.BoolOp .Or (b::rest) pos) tB'):PW X (.BoolOp .Or (a::b::rest) pos) (tOr tA tB'):=by
 intro wh Hz s σ H Q I h
 refine isTrue_or (thn (ha Hz s σ H _ I h) fun c s1 zq8=>?_)
 obtain ⟨H1,I1,q1⟩:=zq8
 cases c with
 | true=>exact ⟨H1,I1,q1⟩
 | false=>exact hb wh Hz s1 σ H1 Q I1 q1
theorem wz {op}{t:TE}(h:PE X a t):PE X (.BoolOp op [a] pos) t:=fun Hz s σ H Q I hw=>BoolOp_one (h Hz s σ H Q I hw)
def nh (ta:TE)(tb:TE)(σ:St)(Q:VK):Bool→Hp→Prop:=fun c H1=>if c=true then ta σ H1 Q else tb σ H1 Q
def tIf (t:TT)(ta tb:TE):TE:=fun σ H Q=>t σ H (nh ta tb σ Q)
theorem dD {c:Expr}(hc:PT X c tA)(ha:PE X a ta)(hb:PE X b tb):PE X (.IfExp c a b pos) (tIf tA ta tb):=by
 intro Hz s σ H Q I h
 refine wpAny_IfExp (thn (hc Hz s σ H _ I h) fun d s1 zq12=>?_)
 obtain ⟨H1,I1,q1⟩:=zq12
 cases d with
 | true=>exact ha Hz s1 σ H1 Q I1 q1
 | false=>exact hb Hz s1 σ H1 Q I1 q1
end
def SqL (K:PySem.W.Frag)(H:Hp)(a:Addr)(xs:List V):Prop :=
 Rd H a (.lst xs) ∨
  ∃ (o:Obj) (HE:Array Value) (n:Nat),K.lookup a=some o∧o.cls = .type "list"∧o.dict=none∧o.data = .seq HE n∧HE.size≤sizeLine∧a8 xs HE.toList
def SqT (K:PySem.W.Frag)(H:Hp)(a:Addr)(xs:List V):Prop :=
 Rd H a (.tup xs) ∨
  ∃ (o:Obj) (HE:Array Value) (n:Nat),K.lookup a=some o∧o.cls = .type "tuple"∧o.data = .seq HE n∧HE.size≤sizeLine∧a8 xs HE.toList
def AN:Value→Option V
 | .none=>some .non
 | .bool b=>some (.bl b)
 | .int i _=>some (.int i)
 | .str x _=>some (.str x)
 | .bytes b _=>some (.byt b)
 | .float b _=>some (.flt b)
 | .ref a=>some (.ref a)
 | .type n=>some (.ty n)
 | _=>none
theorem bE.abs {x:V}{u:Value}(r:bE x u):AN u=some x:=by
 cases x with
 | non=>cases r;rfl
 | bl _=>cases r;rfl
 | int _=>obtain ⟨t,rfl⟩:=r;rfl
 | str _=>obtain ⟨t,rfl⟩:=r;rfl
 | byt _=>obtain ⟨t,rfl⟩:=r;rfl
 | flt _=>obtain ⟨t,rfl⟩:=r;rfl
 | ref _=>cases r;rfl
 | ty _=>cases r;rfl
theorem bE.inj {x y:V}{u:Value}(r:bE x u)(q:bE y u):x=y:=BA (r.abs.symm.trans q.abs)
theorem a8.inj:∀ {xs ys:List V} {us:List Value},a8 xs us→a8 ys us→xs=ys
 | _,_,_,.nil,.nil=>rfl
 | _,_,_,.cons r t,.cons r' t'=>by rw [r.inj r',a8.inj t t']
section
variable {X:Cx} {Hz:List (Addr × Obj)} {σ:St} {H:Hp} {s:Shared} {a:Addr} {xs ys:List V}
theorem SqL.of {K:PySem.W.Frag}(h:H a=some (.lst xs)):SqL K H a xs:=.inl (.inl h)
theorem SqT.of {K:PySem.W.Frag}(h:H a=some (.tup xs)):SqT K H a xs:=.inl (.inl h)
theorem Inv.list (I:Inv X Hz σ H s)(h:SqL X.K H a xs):∃ HE:List Value,a8 xs HE∧PlainL s.heap a HE.toArray∧xs.length≤sizeLine:=by
 rcases h with h | ⟨o,HE,n,hk,hc,hd,hs,hz,r⟩
 ·obtain ⟨z,HE,n,r,e⟩:=h.ok I.hok
  exact ⟨HE,r,⟨_,n,e,rfl,rfl,rfl⟩,z⟩
 ·refine ⟨HE.toList,r,⟨o,n,I.kIn a o hk,hc,hd,by simpa using hs⟩,?_⟩
  have e:=r.length
  simp only [Bx] at e
  omega
theorem Inv.tuple (I:Inv X Hz σ H s)(h:SqT X.K H a xs):∃ HE:List Value,a8 xs HE∧IsTup s.heap a HE.toArray∧xs.length≤sizeLine:=by
 rcases h with h | ⟨o,HE,n,hk,hc,hs,hz,r⟩
 ·obtain ⟨z,HE,r,p,_⟩:=h.ok I.hok
  exact ⟨HE,r,p,z⟩
 ·refine ⟨HE.toList,r,⟨o,I.kIn a o hk,hc,n,by simpa using hs⟩,?_⟩
  have e:=r.length
  simp only [Bx] at e
  omega
theorem Inv.list_inj (I:Inv X Hz σ H s)(h:SqL X.K H a xs)(h':SqL X.K H a ys):xs=ys:=by
 obtain ⟨HE,r,⟨o,n,e,_,_,d⟩,_⟩:=I.list h
 obtain ⟨its',r',⟨o',n',e',_,_,d'⟩,_⟩:=I.list h'
 rw [e] at e';cases e'
 rw [d] at d'
 injection d' with d1 _
 have:HE=its':=by simpa using BP Array.toList d1
 subst this
 exact r.inj r'
theorem Inv.tuple_inj (I:Inv X Hz σ H s)(h:SqT X.K H a xs)(h':SqT X.K H a ys):xs=ys:=by
 obtain ⟨HE,r,⟨o,e,_,n,d⟩,_⟩:=I.tuple h
 obtain ⟨its',r',⟨o',e',_,n',d'⟩,_⟩:=I.tuple h'
 rw [e] at e';cases e'
 rw [d] at d'
 injection d' with d1 _
 have:HE=its':=by simpa using BP Array.toList d1
 subst this
 exact r.inj r'
end
abbrev Cx.wish (X:Cx)(E:Value→Shared→Prop):Cx:={ X with xe:=E }
abbrev Cx.nox (X:Cx):Cx:=X.wish fun _ _=>False
theorem Cx.Ok.wish {X:Cx}(ok:X.Ok)(E:Value→Shared→Prop):(X.wish E).Ok :=
 ⟨ok.mod,ok.kind,ok.glob,ok.blt,ok.above,ok.inj,ok.has,ok.cab,ok.hd,ok.frames,ok.stk,ok.exf,ok.bs,ok.bsz,ok.noex,ok.exfs,ok.funs,ok.frf⟩
theorem Cx.Ok.unwish {X:Cx}{E:Value→Shared→Prop}(ok:(X.wish E).Ok):X.Ok :=
 ⟨ok.mod,ok.kind,ok.glob,ok.blt,ok.above,ok.inj,ok.has,ok.cab,ok.hd,ok.frames,ok.stk,ok.exf,ok.bs,ok.bsz,ok.noex,ok.exfs,ok.funs,ok.frf⟩
section
variable {X:Cx} {Hz:List (Addr × Obj)} {σ:St} {H:Hp} {s:Shared} {E:Value→Shared→Prop}
theorem Inv.wish (I:Inv X Hz σ H s)(E:Value→Shared→Prop):Inv (X.wish E) Hz σ H s:=⟨I.ok.wish E,I.os,I.bare,I.base,I.loc,I.cell,I.free,I.freeC,I.pin,I.hok,I.len⟩
theorem Inv.unwish (I:Inv (X.wish E) Hz σ H s):Inv X Hz σ H s:=⟨I.ok.unwish,I.os,I.bare,I.base,I.loc,I.cell,I.free,I.freeC,I.pin,I.hok,I.len⟩
theorem SP.unwish {D:gI}{f:Flow}{s':Shared}(h:SP (X.wish E) Hz D f s'):SP X Hz D f s':=by
 cases f with
 | next=>obtain ⟨σ',H',I,q⟩:=h;exact ⟨σ',H',I.unwish,q⟩
 | brk=>obtain ⟨σ',H',I,q⟩:=h;exact ⟨σ',H',I.unwish,q⟩
 | cont=>obtain ⟨σ',H',I,q⟩:=h;exact ⟨σ',H',I.unwish,q⟩
 | ret u=>obtain ⟨v,σ',H',I,r,q⟩:=h;exact ⟨v,σ',H',I.unwish,r,q⟩
theorem PSs.nox {st:List Stmt}{t:TS}(h:PSs X.nox st t):PSs X st t:=fun Hz s σ H D I hw =>
 Dh (h Hz s σ H D (I.wish _) hw) (fun _ _ q=>q.unwish) fun _ _ z=>False.elim z
end
section
variable {X:Cx} {st:Stmt} {rest:List Stmt} {t u:TS} {e:Expr} {te:TE} {pos:Pos}
def yR:TS:=fun D σ H=>D.nx σ H
def yS (t u:TS):TS:=fun D σ H=>t { D with nx:=u D } σ H
theorem bB:PSs X [] yR:=fun _ _ σ H _ I h=>Fn ⟨σ,H,I,h⟩
theorem ak (h1:PS X st t)(h2:PSs X rest u):PSs X (st::rest) (yS t u):=by
 intro Hz s σ H D I h
 refine wpAny_execs_cons (thn (h1 Hz s σ H { D with nx:=u D } I h) fun f s1 q=>?_)
 cases f with
 | next =>
  obtain ⟨σ',H',I',q⟩:=q
  exact h2 Hz s1 σ' H' D I' q
 | ret v=>exact q
 | brk=>exact q
 | cont=>exact q
theorem aq (h1:PS X st t):PSs X [st] t:=by
 intro Hz s σ H D I h
 refine wpAny_execs_cons (thn (h1 Hz s σ H D I h) fun f s1 q=>?_)
 cases f with
 | next=>exact Fn q
 | ret v=>exact q
 | brk=>exact q
 | cont=>exact q
theorem Inv.quiet {Hz:List (Addr × Obj)}{σ:St}{H:Hp}{s:Shared}(I:Inv X Hz σ H s):interactive X.env=false:=by simp [interactive,I.ok.kind]
def qC (D:gI)(σ:St):V→Hp→Prop:=fun _ H1=>D.nx σ H1
def yT (te:TE):TS:=fun D σ H=>te σ H (qC D σ)
theorem bF (he:PE X e te)(hs:swapsWith e none pos.line X.env=pure false:=by rfl):PS X (.Expr e pos) (yT te):=by
 intro Hz s σ H D I h
 exact wpAny_Expr_any (thn (he Hz s σ H _ I h) fun v s1 zq15=>(by obtain ⟨x,H1,I1,r1,q1⟩:=zq15;exact ⟨σ,H1,I1,q1⟩)) I.quiet hs
def AO (te:TE):TS:=fun D σ H=>te σ H D.rt
theorem aO (he:PE X e te):PS X (.Return (some e) pos) (AO te):=by
 intro Hz s σ H D I h
 exact wpAny_Return_some (thn (he Hz s σ H _ I h) fun v s1 zq16=>(by obtain ⟨x,H1,I1,r1,q1⟩:=zq16;exact ⟨x,σ,H1,I1,r1,q1⟩))
def d7 (t:TS)(u:TS)(D:gI)(σ:St):Bool→Hp→Prop:=fun b H1=>if b=true then t D σ H1 else u D σ H1
def AQ (c:TT)(t u:TS):TS:=fun D σ H=>c σ H (d7 t u D σ)
theorem dj {c:Expr}{a b:List Stmt}{tc:TT}(hc:PT X c tc)(ha:PSs X a t)(hb:PSs X b u):PS X (.If c a b pos) (AQ tc t u):=by
 intro Hz s σ H D I h
 refine wpAny_If (thn (hc Hz s σ H _ I h) fun d s1 zq17=>?_)
 obtain ⟨H1,I1,q1⟩:=zq17
 cases d with
 | true=>exact ha Hz s1 σ H1 D I1 q1
 | false=>exact hb Hz s1 σ H1 D I1 q1
end
abbrev TG:=V→St→Hp→(St→Hp→Prop)→Prop
abbrev TGs:=List V→St→Hp→(St→Hp→Prop)→Prop
def PG (X:Cx)(target:Expr)(t:TG):Prop :=
 ∀ (Hz:List (Addr × Obj)) (s:Shared) (σ:St) (H:Hp) (v:V) (u:Value) (Q:St→Hp→Prop),Inv X Hz σ H s→bE v u→t v σ H Q →
  wpAny (model X.prog X.w) X.A (assign target X.env u) (fun _ s'=>∃ σ' H',Inv X Hz σ' H' s'∧Q σ' H') X.xe s
def PGs (X:Cx)(ts:List Expr)(t:TGs):Prop :=
 ∀ (Hz:List (Addr × Obj)) (s:Shared) (σ:St) (H:Hp) (vs:List V) (us:List Value) (Q:St→Hp→Prop),Inv X Hz σ H s→a8 vs us→t vs σ H Q →
  wpAny (model X.prog X.w) X.A (assignInOrder ((assignEach ts X.env).map (·.2)) us) (fun _ s'=>∃ σ' H',Inv X Hz σ' H' s'∧Q σ' H') X.xe s
abbrev yU:=V→V→V→Hp→(Hp→Prop)→Prop
def Av (X:Cx)(t:yU):Prop :=
 ∀ (Hz:List (Addr × Obj)) (s:Shared) (σ:St) (H:Hp) (o i v:V) (ov iv u:Value) (Q:Hp→Prop),Inv X Hz σ H s→bE o ov→bE i iv→bE v u→t o i v H Q →
  wpAny (model X.prog X.w) X.A (setItem ov iv u) (fun _ s'=>∃ H',Inv X Hz σ H' s'∧Q H') X.xe s
abbrev TIp:=V→V→Hp→VK→Prop
def PIp (X:Cx)(op:Operator)(t:TIp):Prop :=
 ∀ (Hz:List (Addr × Obj)) (s:Shared) (σ:St) (H:Hp) (x y:V) (v u:Value) (Q:VK),Inv X Hz σ H s→bE x v→bE y u→t x y H Q →
  wpAny (model X.prog X.w) X.A (inplaceOp op v u) (EP X Hz σ Q) X.xe s
section
variable {X:Cx} {pos:Pos}
def ma (i:Nat):TG:=fun v σ H Q=>Q (σ.set i (some v)) H
theorem aG {i:Nat}{x:Str}(hN:X.N.Nodup)(hi:X.N[i]? = some x)(hx:Loc X.env.scope x)(hf:X.fn x=true ∨ X.env.scope.names.lookup x=some .local:=by first | exact .inl rfl | exact .inr rfl | assumption):PG X (.Name x pos) (ma i):=by
 intro Hz s σ H v u Q I r h
 exact wpAny_assign_Name (gH I hN hi hx r (fun s' I'=>⟨_,H,I',h⟩) hf)
def AR:TGs:=fun vs σ H Q=>vs=[]∧Q σ H
def yV (t:TG)(u:TGs):TGs:=fun vs σ H Q=>∃ v r,vs=v::r∧t v σ H fun σ' H'=>u r σ' H' Q
theorem fi:PGs X [] AR:=by
 intro Hz s σ H vs us Q I r h
 obtain ⟨e,h⟩:=h
 subst e
 cases r
 exact assignInOrder_nil ⟨σ,H,I,h⟩
theorem bG {e:Expr}{es:List Expr}{t:TG}{u:TGs}(h1:PG X e t)(h2:PGs X es u)
  (hs:(assignEach (e::es) X.env).map (·.2)=assign e X.env::(assignEach es X.env).map (·.2):=by rfl):PGs X (e::es) (yV t u):=by
 intro Hz s σ H vs us Q I r h
 obtain ⟨v,vr,e1,h⟩:=h
 subst e1
 cases r with
 | cons r rr =>
  rw [hs]
  refine assignInOrder_cons (thn (h1 Hz s σ H _ _ _ I r h) fun _ s1 zq18=>?_)
  obtain ⟨σ1,H1,I1,q1⟩:=zq18
  exact h2 Hz s1 σ1 H1 _ _ Q I1 rr q1
def Aw (K:PySem.W.Frag)(n:Nat)(t:TGs):TG:=fun v σ H Q=>∃ a xs,v = .ref a∧SqT K H a xs∧xs.length=n∧t xs σ H Q
theorem kr {es:List Expr}{k:Nat}{t:TGs}{n:Nat}(hc:X.calm=true)(h:PGs X es t)
  (hn:(assignEach es X.env).length=n:=by rfl) (hst:(assignEach es X.env).findIdx? (·.1)=none:=by rfl):PG X (.Tuple es k pos) (Aw X.K n t):=by
 intro Hz s σ H v u Q I r hw
 obtain ⟨a,xs,e1,hq,hl,hw⟩:=hw
 subst e1
 cases r
 obtain ⟨HE,rv,ht,hz⟩:=I.tuple hq
 refine assign_Tuple_tuple (I.ok.hd hc) ht (by simp [hn,← hl,rv.length]) hst fun h' hx=>?_
 have I1:Inv X Hz σ H { s with heap:=h' }:=I.kept (t':=s.toks) fun b o e=>hx b o (Cu (BS e)) e
 exact h Hz _ σ H xs _ Q I1 (by simpa using rv) hw
def AS (to ti:TE)(t:yU):TG:=fun v σ H Q=>to σ H fun o H1=>ti σ H1 fun i H2=>t o i v H2 fun H3=>Q σ H3
theorem ku {o i:Expr}{to ti:TE}{t:yU}(ho:PE X o to)(hi:PE X i ti)(hs:Av X t)
  (ha:∀ v,assign (.Subscript o i pos) X.env v=(do
   let ov ← holding [v] (eval o X.env)
   let iv ← holding [v,ov] (eval i X.env)
   standAt pos
   holding [v,ov,iv] (setItem ov iv v)
   release [v,ov,iv] []):=by intro _;rfl):PG X (.Subscript o i pos) (AS to ti t):=by
 intro Hz s σ H v u Q I r h
 rw [ha]
 refine Bp (Cw (thn (ho Hz s σ H _ I h) fun ov s1 zq19=>?_))
 obtain ⟨x,H1,I1,r1,q1⟩:=zq19
 refine Bp (Cw (thn (hi Hz s1 σ H1 _ I1 q1) fun iv s2 zq20=>?_))
 obtain ⟨y,H2,I2,r2,q2⟩:=zq20
 refine Bp (Gf (Bp (Cw (thn (hs Hz s2 σ H2 x y v ov iv u _ I2 r1 r2 r q2) fun _ s3 zq21=>?_))))
 obtain ⟨H3,I3,q3⟩:=zq21
 exact wpAny_release ⟨σ,H3,I3,q3⟩
def fj (g:TG)(D:gI)(σ:St):V→Hp→Prop:=fun x H1=>g x σ H1 D.nx
def yW (te:TE)(g:TG):TS:=fun D σ H=>te σ H (fj g D σ)
theorem iS {tg e:Expr}{te:TE}{g:TG}(he:PE X e te)(hg:PG X tg g)(hs:swapsWithSole [tg] e pos.line X.env=pure false:=by rfl)(hw:swappedStores [tg] e X.env=pure none:=by rfl)
  (h1:(assignEach [tg] X.env).map (·.2)=[assign tg X.env]:=by rfl):PS X (.Assign [tg] e pos) (yW te g):=by
 intro Hz s σ H D I h
 refine wpAny_Assign_stores (thn (he Hz s σ H _ I h) fun v s1 zq22=>?_) hs hw
 obtain ⟨x,H1,I1,r1,q1⟩:=zq22
 rw [h1]
 exact thn (hg Hz s1 σ H1 x v _ I1 r1 q1) fun _ s2 q=>q
theorem aE {i:Nat}{x:Str}{e:Expr}{te:TE}{pos':Pos}(hN:X.N.Nodup)(hi:X.N[i]? = some x)(hx:Loc X.env.scope x)(he:PE X e te)(hs:swapsWith e (some (.Name x pos')) pos.line X.env=pure false:=by rfl)(hf:X.fn x=true ∨ X.env.scope.names.lookup x=some .local:=by first | exact .inl rfl | exact .inr rfl | assumption) :
  PS X (.Assign [.Name x pos'] e pos) (yW te (ma i)):=by
 intro Hz s σ H D I h
 refine wpAny_Assign_Name (thn (he Hz s σ H _ I h) fun v s1 zq23=>?_) hs
 obtain ⟨y,H1,I1,r1,q1⟩:=zq23
 exact gH I1 hN hi hx r1 (fun s2 I2=>⟨_,H1,I2,q1⟩) hf
inductive Ax (i:Nat)(te:TE)(ti:TIp)(D:gI)(σ:St)(H:Hp):Prop
 | mk:∀ x,(σ[i]? = some (some x))→(te σ H fun y H1=>ti x y H1 fun z H2=>D.nx (σ.set i (some z)) H2)→Ax i te ti D σ H
theorem wA {i:Nat}{x:Str}{e:Expr}{te:TE}{op:Operator}{ti:TIp}{pos':Pos}(hN:X.N.Nodup)(hi:X.N[i]? = some x)(hx:Loc X.env.scope x)(he:PE X e te)(ho:PIp X op ti)(hf:X.fn x=true ∨ X.env.scope.names.lookup x=some .local:=by first | exact .inl rfl | exact .inr rfl | assumption) :
  PS X (.AugAssign (.Name x pos') op e pos) (Ax i te ti):=by
 intro Hz s σ H D I h
 obtain ⟨v,e1,h⟩:=h
 obtain ⟨m,hn,hl⟩:=I.loc
 have vis:Vis X.env.scope x:=by rcases hx with k | k;exact .inl k;exact .inr (.inl k)
 obtain ⟨u,r,l⟩:=hl i x v hi e1 vis
 refine wpAny_AugAssign_Name ?_
 have go:wpAny (model X.prog X.w) X.A (eval e X.env) (fun w s₂=>wpAny (model X.prog X.w) X.A (inplaceOp op u w) (fun r s₃=>wpAny (model X.prog X.w) X.A (storeName X.env x r) (fun _=>SP X Hz D .next) X.xe s₃) X.xe s₂) X.xe s:=by
  refine thn (he Hz s σ H _ I h) fun w s1 zq25=>?_
  obtain ⟨y,H1,I1,r1,q1⟩:=zq25
  refine thn (ho Hz s1 σ H1 v y u w _ I1 r r1 q1) fun z s2 zq26=>?_
  obtain ⟨zv,H2,I2,r2,q2⟩:=zq26
  exact gH I2 hN hi hx r2 (fun s3 I3=>⟨_,H2,I3,q2⟩) hf
 rcases l with ⟨hk,hm⟩ | ⟨hk,c,hc,hcell⟩
 ·exact wpAny_loadName_local I.ok.kind hk hn hm go
 ·rcases hk with hk | hk
  ·exact wpAny_loadName_cell I.ok.kind hk hc hcell go
  ·rcases hx with k | k
   ·have:X.env.scope.names.lookup x=some .free:=hk
    rw [k] at this;cases this
   ·have:X.env.scope.names.lookup x=some .free:=hk
    rw [k] at this;cases this
def ipI (f:Int→Int→Int):TIp:=fun x y H Q=>∃ i j,x = .int i∧y = .int j∧Q (.int (f i j)) H
theorem wB:PIp X .Add (ipI fun i j=>i+j):=by
 intro Hz s σ H x y v u Q I r1 r2 h
 obtain ⟨i,j,e1,e2,q⟩:=h
 subst e1;subst e2
 obtain ⟨t,rfl⟩:=r1
 obtain ⟨t',rfl⟩:=r2
 exact iadd_int ⟨.int _,H,I.tok _,⟨_,rfl⟩,q⟩
def wC (c:TT)(tb:TS):TS:=fun D σ H=>∃ W:Nat→St→Hp→Prop,(∃ m,W m σ H)∧∀ m σ H,W m σ H →
 c σ H fun b H1=>if b=true then ∃ N:St→Hp→Prop,(∀ σ' H',N σ' H'→∃ m',m' < m∧W m' σ' H')∧tb { D with nx:=N,ct:=N,bk:=D.nx } σ H1 else D.nx σ H1
theorem ky {c:Expr}{body:List Stmt}{tc:TT}{tb:TS}(hp:PassesOwn (model X.prog X.w) X.A X.env X.xe)(hc:PT X c tc)(hb:PSs X body tb):PS X (.While c body [] pos) (wC tc tb):=by
 intro Hz s σ H D I h
 obtain ⟨W,⟨m0,w0⟩,turn⟩:=h
 refine wpAny_While (codeAny_whileLoop (fun n s'=>∃ σ' H',Inv X Hz σ' H' s'∧W n σ' H') ?_ m0 ⟨σ,H,I,w0⟩)
 rintro n s1 ⟨σ1,H1,I1,w1⟩
 refine DU hp (thn (hc Hz s1 σ1 H1 _ I1 (turn n σ1 H1 w1)) fun b s2 zq33=>?_)
 obtain ⟨H2,I2,q2⟩:=zq33
 cases b with
 | true =>
  obtain ⟨N,hN,q2⟩:=q2
  rw [if_pos rfl]
  refine DU hp (thn (hb Hz s2 σ1 H2 _ I2 q2) fun f s3 q3=>?_)
  cases f with
  | next =>
   obtain ⟨σ3,H3,I3,n3⟩:=q3
   obtain ⟨m',hm,w3⟩:=hN σ3 H3 n3
   exact ⟨m',hm,σ3,H3,I3,w3⟩
  | cont =>
   obtain ⟨σ3,H3,I3,n3⟩:=q3
   obtain ⟨m',hm,w3⟩:=hN σ3 H3 n3
   exact ⟨m',hm,σ3,H3,I3,w3⟩
  | brk=>exact q3
  | ret v=>exact q3
 | false =>
  rw [if_neg Ca]
  exact Fn ⟨σ1,H2,I2,q2⟩
end
structure It where
 go:Nat→Hp→Prop
 yld:Nat→Hp→V→Hp→Prop
 stop:Nat→Hp→Prop
def nj (X:Cx)(Hz:List (Addr × Obj))(H:Hp)(b:Addr):Prop :=
 H b=none∧b≠X.env.locals∧b∉X.fs∧(b∈X.ex ∨ X.s₀.heap.objs.size≤b)∧(∀ x c,X.env.cells.lookup x=some c→c≠b)∧∀ p∈X.pn++Hz,p.1≠b
theorem Inv.fpOk {X:Cx}{Hz:List (Addr × Obj)}{σ:St}{H H':Hp}{s:Shared}{b:Addr}(I:Inv X Hz σ H s)(hb:s.heap.objs.size≤b)(hn:H' b=none):nj X Hz H' b:=by
 refine ⟨hn,G3 (B_ I.lt hb),I.nofs hb,.inr (Cr I.sz hb),fun x c e z=>?_,fun p hp z=>?_⟩
 ·obtain ⟨v,q⟩:=I.cell x c e
  exact absurd (B_ q.lt (by rw [z];exact hb)) (CW _)
 ·exact absurd (B_ (BS (I.pin p hp).1) (by rw [z];exact hb)) (CW _)
structure wb (P:Program) (w:World) (K:PySem.W.Frag) (tg:Expr) (J:It) (fp:List Addr) (it:Addr) (tn:Nat→Heap→Prop):Prop where
 mem:it∈fp
 obj:∀ i h,tn i h→∀ b∈fp,∃ o,h.get? b=some o∧∀ v,o.data ≠ .cell v
 keep:∀ i h h',tn i h→(∀ b∈fp,∀ o,h.get? b=some o→h'.get? b=some o)→tn i h'
 item:∀ (X:Cx),X.prog=P→X.w=w→X.K=K→X.calm=true→∀ (i:Nat) (Hz:List (Addr × Obj)) (s:Shared) (σ:St) (H:Hp) (E:Value→Shared→Prop),Inv X Hz σ H s→(∀ b∈fp,nj X Hz H b)→tn i s.heap→J.go i H →
  wpAny (model P w) X.A (pyNext (.ref it)) (fun r s1=>∃ u,r=some u ∧
   wpAny (model P w) X.A (letOwnedTupleGo tg (.ref it) u) (fun _ s2=>∃ x H',Inv X Hz σ H' s2∧bE x u∧J.yld i H x H'∧tn (i+1) s2.heap∧∀ b∈fp,H' b=none) E s1) E s
 done:∀ (X:Cx),X.prog=P→X.w=w→X.K=K→X.calm=true→∀ (i:Nat) (Hz:List (Addr × Obj)) (s:Shared) (σ:St) (H:Hp) (E:Value→Shared→Prop),Inv X Hz σ H s→(∀ b∈fp,nj X Hz H b)→tn i s.heap→J.stop i H →
  wpAny (model P w) X.A (pyNext (.ref it)) (fun r s1=>r=none∧Inv X Hz σ H s1) E s
 self:∀ (A:Around) (i:Nat) (s:Shared) (Q:Value→Shared→Prop) (E:Value→Shared→Prop),tn i s.heap→Q (.ref it) s→wpAny (model P w) A (pyIter (.ref it)) Q E s
abbrev TI:=St→Hp→(It→Hp→Prop)→Prop
def PIE (X:Cx)(Hz:List (Addr × Obj))(σ:St)(tg:Expr)(R:It→Hp→Prop)(itv:Value)(s2:Shared):Prop :=
 ∃ (it:Addr) (fp:List Addr) (tn:Nat→Heap→Prop) (J:It) (H':Hp),itv = .ref it∧Inv X Hz σ H' s2∧wb X.prog X.w X.K tg J fp it tn∧tn 0 s2.heap∧(∀ b∈fp,nj X Hz H' b)∧R J H'
def PI (X:Cx)(tg iter:Expr)(wi:TI):Prop :=
 ∀ (Hz:List (Addr × Obj)) (s:Shared) (σ:St) (H:Hp) (R:It→Hp→Prop),Inv X Hz σ H s→wi σ H R →
  wpAny (model X.prog X.w) X.A (eval iter X.env) (fun v s1=>wpAny (model X.prog X.w) X.A (pyIter v) (PIE X Hz σ tg R) X.xe s1) X.xe s
theorem qD {M:Model}{A:Around}{E:Value→Shared→Prop}{s:Shared}{tg:Expr}{it:Addr}{u:Value}{o:Obj}{n:String}{vs:Array Value}{Q:Unit→Shared→Prop}(ho:s.heap.get? it=some o)(hc:o.cls = .type n)(hd:o.data = .fields vs)
  (hn:["enumerate","zip","dict_itemiterator","dict_reverseitemiterator","odict_iterator","itertools.zip_longest","itertools.pairwise"].contains n=false) (hQ:Q () s):wpAny M A (letOwnedTupleGo tg (.ref it) u) Q E s:=by
 unfold letOwnedTupleGo
 cases tg <;> first
  | exact Br hQ
  | (cases u <;> first
    | exact Br hQ
    | (
      refine Bp (wpAny_load ho ?_)
      rw [hc,hd]
      show wpAny M A (if (["enumerate","zip","dict_itemiterator","dict_reverseitemiterator","odict_iterator","itertools.zip_longest","itertools.pairwise"].contains n && vs[0]? == some (rawInt _))=true then _ else _) Q E s
      rw [if_neg (by intro h;rw [hn,CM] at h;cases h)]
      exact Br hQ))
def Itl (K:PySem.W.Frag)(a:Addr):It :=
 ⟨fun i H=>∃ xs x,SqL K H a xs∧xs[i]? = some x,fun i H x H'=>H'=H∧∀ xs,SqL K H a xs→xs[i]? = some x,fun i H=>∃ xs,SqL K H a xs∧xs.length≤i⟩
def Itt (K:PySem.W.Frag)(a:Addr):It :=
 ⟨fun i H=>∃ xs x,SqT K H a xs∧xs[i]? = some x,fun i H x H'=>H'=H∧∀ xs,SqT K H a xs→xs[i]? = some x,fun i H=>∃ xs,SqT K H a xs∧xs.length≤i⟩
def Itr (lo:Int)(n:Nat):It:=⟨fun i _=>i < n,fun i H x H'=>H'=H∧x = .int (lo+i),fun i _=>n≤i⟩
theorem nq {P:Program}{w:World}{K:PySem.W.Frag}{tg:Expr}(a it:Addr):wb P w K tg (Itl K a) [it] it (fun i h=>h.IsListIter it a i) where
 mem:=by simp
 obj:=fun i h st b hb=>by
  have e:b=it:=by simpa using hb
  subst e
  obtain ⟨o,e,c,d⟩:=st
  exact ⟨o,e,fun v z=>by rw [d] at z;cases z⟩
 keep:=fun i h h' st k=>st.at fun o e=>k it (by simp) o e
 item:=by
  intro X hP hw hK hc i Hz s σ H E I hf st hg
  subst hP hw hK
  obtain ⟨xs,x,hq,hx⟩:=hg
  obtain ⟨HE,rv,p,hz⟩:=I.list hq
  obtain ⟨u,hu,ru⟩:=rv.get hx
  obtain ⟨f0,f1,f2,f3,f4,f5⟩:=hf it (by simp)
  refine wpAny_pyNext_list_item st p.isList (x:=u) (by simpa using hu) fun h' HF sb=>?_
  have I1:Inv X Hz σ H { s with heap:=h' }:=I.turned (t':=s.toks) (fun b o hb e=>(sb.2 b hb).trans e) f0 f1 f3 f4 f5
  obtain ⟨o,e,c,d⟩:=id HF
  exact ⟨u,rfl,qD (s:={ s with heap:=h' }) e c d (by decide) ⟨x,H,I1,ru,⟨rfl,fun ys hy=>by rw [I.list_inj hy hq];exact hx⟩,HF,fun b hb=>(hf b hb).1⟩⟩
 done:=by
  intro X hP hw hK hc i Hz s σ H E I hf st hg
  subst hP hw hK
  obtain ⟨xs,hq,hx⟩:=hg
  obtain ⟨HE,rv,p,hz⟩:=I.list hq
  obtain ⟨f0,f1,f2,f3,f4,f5⟩:=hf it (by simp)
  have hl:=rv.length
  exact wpAny_pyNext_list_end (I.ok.hd hc) st p.isList (by simp;omega) fun h' eb=>⟨rfl,I.turned (t':=s.toks) (fun b o hb e=>eb b o hb e) f0 f1 f3 f4 f5⟩
 self:=fun _ _ _ _ _ st h=>wpAny_pyIter_listiter st h
theorem me {P:Program}{w:World}{K:PySem.W.Frag}{tg:Expr}(a it:Addr):wb P w K tg (Itt K a) [it] it (fun i h=>h.IsTupleIter it a i) where
 mem:=by simp
 obj:=fun i h st b hb=>by
  have e:b=it:=by simpa using hb
  subst e
  obtain ⟨o,e,c,d⟩:=st
  exact ⟨o,e,fun v z=>by rw [d] at z;cases z⟩
 keep:=fun i h h' st k=>st.at fun o e=>k it (by simp) o e
 item:=by
  intro X hP hw hK hc i Hz s σ H E I hf st hg
  subst hP hw hK
  obtain ⟨xs,x,hq,hx⟩:=hg
  obtain ⟨HE,rv,p,hz⟩:=I.tuple hq
  obtain ⟨u,hu,ru⟩:=rv.get hx
  obtain ⟨f0,f1,f2,f3,f4,f5⟩:=hf it (by simp)
  refine wpAny_pyNext_tuple_item st (show s.heap.IsTuple a HE.toArray from p) (x:=u) (by simpa using hu) fun h' HF sb=>?_
  have I1:Inv X Hz σ H { s with heap:=h' }:=I.turned (t':=s.toks) (fun b o hb e=>(sb.2 b hb).trans e) f0 f1 f3 f4 f5
  obtain ⟨o,e,c,d⟩:=id HF
  exact ⟨u,rfl,qD (s:={ s with heap:=h' }) e c d (by decide) ⟨x,H,I1,ru,⟨rfl,fun ys hy=>by rw [I.tuple_inj hy hq];exact hx⟩,HF,fun b hb=>(hf b hb).1⟩⟩
 done:=by
  intro X hP hw hK hc i Hz s σ H E I hf st hg
  subst hP hw hK
  obtain ⟨xs,hq,hx⟩:=hg
  obtain ⟨HE,rv,p,hz⟩:=I.tuple hq
  obtain ⟨f0,f1,f2,f3,f4,f5⟩:=hf it (by simp)
  have hl:=rv.length
  exact wpAny_pyNext_tuple_end (I.ok.hd hc) st (show s.heap.IsTuple a HE.toArray from p) (by simp;omega) fun h' eb=>⟨rfl,I.turned (t':=s.toks) (fun b o hb e=>eb b o hb e) f0 f1 f3 f4 f5⟩
 self:=fun _ _ _ _ _ st h=>wpAny_pyIter_tupleiter st h
theorem mf {P:Program}{w:World}{K:PySem.W.Frag}{tg:Expr}(it:Addr)(lo:Int)(n:Nat):wb P w K tg (Itr lo n) [it] it (fun i h=>IsRangeIter h it (lo+(i:Nat)*1) ((n:Int) - (i:Nat)) 1) where
 mem:=by simp
 obj:=fun i h st b hb=>by
  have e:b=it:=by simpa using hb
  subst e
  exact ⟨_,st,fun v z=>by
   have z':Data.fields _=Data.cell v:=z
   cases z'⟩
 keep:=fun i h h' st k=>k it (by simp) _ st
 item:=by
  intro X hP hw hK hc i Hz s σ H E I hf st hg
  subst hP hw hK
  obtain ⟨f0,f1,f2,f3,f4,f5⟩:=hf it (by simp)
  have W:=Walks.range (prog:=X.prog) (w:=X.w) (I.ok.hd hc) it lo 1 n
  refine W.item i s _ _ hg st fun v h' tk hv HF kk=>?_
  obtain ⟨t,rfl⟩:=hv
  have I1:Inv X Hz σ H { s with heap:=h',toks:=tk }:=I.turned (fun b o hb e=>kk b o (by simpa using hb) e) f0 f1 f3 f4 f5
  refine ⟨_,rfl,qD (s:={ s with heap:=h',toks:=tk }) (n:="range_iterator") HF rfl rfl (by decide) ⟨.int (lo+i),H,I1,⟨t,?_⟩,⟨rfl,rfl⟩,HF,fun b hb=>(hf b hb).1⟩⟩
  rw [Int.mul_one]
 done:=by
  intro X hP hw hK hc i Hz s σ H E I hf st hg
  subst hP hw hK
  obtain ⟨f0,f1,f2,f3,f4,f5⟩:=hf it (by simp)
  exact wpAny_pyNext_range_end (I.ok.hd hc) st (by have:n≤i:=hg;omega) fun h' eb=>⟨rfl,I.turned (t':=s.toks) (fun b o hb e=>eb b o hb e) f0 f1 f3 f4 f5⟩
 self:=fun _ _ _ _ _ st h=>wpAny_pyIter_rangeiter st h
section
variable {X:Cx} {tg:Expr}
def yX (K:PySem.W.Frag)(tl:TE):TI:=fun σ H R=>tl σ H fun x H1=>∃ a,x = .ref a∧(∃ xs,SqL K H1 a xs)∧R (Itl K a) H1
def AU (K:PySem.W.Frag)(tl:TE):TI:=fun σ H R=>tl σ H fun x H1=>∃ a,x = .ref a∧(∃ xs,SqT K H1 a xs)∧R (Itt K a) H1
theorem d8 {l:Expr}{tl:TE}(hl:PE X l tl):PI X tg l (yX X.K tl):=by
 intro Hz s σ H R I h
 refine thn (hl Hz s σ H _ I h) fun v s1 zq34=>?_
 obtain ⟨x,H1,I1,r1,q1⟩:=zq34
 obtain ⟨a,e,⟨xs,hq⟩,q⟩:=q1
 subst e
 cases r1
 obtain ⟨HE,rv,p,hz⟩:=I1.list hq
 refine ES p.isList ?_
 refine ⟨s1.heap.objs.size,[s1.heap.objs.size],_,_,H1,rfl,I1.kept (t':=s1.toks) fun b o e=>Bz _ e,nq a _,⟨_,BI _ rfl,rfl,rfl⟩,fun b hb=>?_,q⟩
 have e:b=s1.heap.objs.size:=by simpa using hb
 subst e
 exact I1.fpOk (BB _) (I1.hok.fresh (BB _))
theorem sP {l:Expr}{tl:TE}(hl:PE X l tl):PI X tg l (AU X.K tl):=by
 intro Hz s σ H R I h
 refine thn (hl Hz s σ H _ I h) fun v s1 zq35=>?_
 obtain ⟨x,H1,I1,r1,q1⟩:=zq35
 obtain ⟨a,e,⟨xs,hq⟩,q⟩:=q1
 subst e
 cases r1
 obtain ⟨HE,rv,p,hz⟩:=I1.tuple hq
 refine wpAny_pyIter_tuple (show s1.heap.IsTuple a HE.toArray from p) ?_
 refine ⟨s1.heap.objs.size,[s1.heap.objs.size],_,_,H1,rfl,I1.kept (t':=s1.toks) fun b o e=>Bz _ e,me a _,⟨_,BI _ rfl,rfl,rfl⟩,fun b hb=>?_,q⟩
 have e:b=s1.heap.objs.size:=by simpa using hb
 subst e
 exact I1.fpOk (BB _) (I1.hok.fresh (BB _))
theorem kz {Hz:List (Addr × Obj)}{σ:St}{H:Hp}{s:Shared}{R:It→Hp→Prop}{E:Value→Shared→Prop}{lo hi:Int}{t u v:Tok}{tk:Nat}(I:Inv X Hz σ H s)(h1:-(2 ^ 62)≤lo)(h2:lo < 2 ^ 62)(h3:-(2 ^ 62)≤hi)(h4:hi < 2 ^ 62)
  (q:R (Itr lo (hi - lo).toNat) H):wpAny (model X.prog X.w) X.A (pyIter (.ref s.heap.objs.size)) (PIE X Hz σ tg R) E { s with heap:=s.heap.push { cls:=.type "range",data:=.fields #[.int lo t,.int hi u,.int 1 v] },toks:=tk }:=by
 refine wpAny_pyIter_range (IsRange.new ..) (small_one h1 h2 h3 h4) ?_
 have I1:Inv X Hz σ H { s with heap:=s.heap.push { cls:=.type "range",data:=.fields #[.int lo t,.int hi u,.int 1 v] },toks:=tk }:=I.kept fun b o e=>Bz _ e
 refine ⟨(s.heap.push { cls:=.type "range",data:=.fields #[.int lo t,.int hi u,.int 1 v] }).objs.size,[(s.heap.push { cls:=.type "range",data:=.fields #[.int lo t,.int hi u,.int 1 v] }).objs.size],_,_,H,rfl,
  I1.kept (t':=tk) fun b o e=>Bz _ e,mf _ lo (hi - lo).toNat,?_,fun b hb=>?_,q⟩
 ·have e1:lo+((0:Nat):Int)*1=lo:=by simp
  have e2:(((hi - lo).toNat:Nat):Int) - ((0:Nat):Int)=Builtin.Range.rangeSize lo hi 1:=by rw [rangeSize_one];split <;> omega
  show IsRangeIter _ _ (lo+((0:Nat):Int)*1) ((((hi - lo).toNat:Nat):Int) - ((0:Nat):Int)) 1
  rw [e1,e2]
  exact BI _ rfl
 ·have e:b=(s.heap.push { cls:=.type "range",data:=.fields #[.int lo t,.int hi u,.int 1 v] }).objs.size:=by simpa using hb
  subst e
  exact I1.fpOk (BB _) (I1.hok.fresh (BB _))
def yY (ta:TA):TI:=fun σ H R=>ta σ H fun vs H1=>∃ j:Int,vs=[.int j]∧-(2 ^ 62)≤j∧j < 2 ^ 62∧R (Itr 0 j.toNat) H1
def yZ (ta:TA):TI:=fun σ H R=>ta σ H fun vs H1=>∃ i j:Int,vs=[.int i,.int j]∧(-(2 ^ 62)≤i∧i < 2 ^ 62∧-(2 ^ 62)≤j∧j < 2 ^ 62)∧R (Itr i (j - i).toNat) H1
theorem a_ {a:Expr}{ta:TA}{p pos:Pos}(hg:Gl X "range")(hm:X.mg "range" = none)(ha:PA X [a] ta)(hs:starEach [a] X.env=[(false,eval a X.env)]:=by rfl):PI X tg (.Call (.Name "range" p) [a] [] pos) (yY ta):=by
 intro Hz s σ H R I h
 refine Call_ (iR I hg hm boot_range (DC (thn (ha pos Hz s σ H _ I h) fun us s1 zq36=>?_) hs rfl))
 obtain ⟨vs,H1,I1,r1,q1⟩:=zq36
 obtain ⟨j,e,q1,q2,q⟩:=q1
 subst e
 cases r1 with
 | cons r rr =>
  cases rr
  obtain ⟨t,rfl⟩:=r
  exact call_range_1 (kz I1 (by omega) (by omega) q1 q2 (by simpa using q))
theorem iT {a b:Expr}{ta:TA}{p pos:Pos}(hg:Gl X "range")(hm:X.mg "range" = none)(ha:PA X [a,b] ta)(hs:starEach [a,b] X.env=[(false,eval a X.env),(false,eval b X.env)]:=by rfl)(hs2:starEach [b] X.env=[(false,eval b X.env)]:=by rfl) :
  PI X tg (.Call (.Name "range" p) [a,b] [] pos) (yZ ta):=by
 intro Hz s σ H R I h
 refine Call_ (iR I hg hm boot_range (DC (thn (ha pos Hz s σ H _ I h) fun us s1 zq37=>?_) (by rw [hs,hs2]) (by rw [hs2];rfl)))
 obtain ⟨vs,H1,I1,r1,q1⟩:=zq37
 obtain ⟨i,j,e,⟨q1,q2,q3,q4⟩,q⟩:=q1
 subst e
 cases r1 with
 | cons r rr =>
  cases rr with
  | cons r' rr =>
   cases rr
   obtain ⟨t,rfl⟩:=r
   obtain ⟨t',rfl⟩:=r'
   exact call_range_2 (kz I1 q1 q2 q3 q4 q)
def AV (wi:TI)(g:TG)(tb:TS):TS:=fun D σ H=>wi σ H fun J H1=>∃ W:Nat→Nat→St→Hp→Prop,(∃ m,W 0 m σ H1)∧∀ i m σ H,W i m σ H →
 (J.stop i H∧D.nx σ H) ∨ (J.go i H∧∃ N:St→Hp→Prop,(∀ σ' H',N σ' H'→∃ m',m' < m∧W (i+1) m' σ' H')∧∀ x H',J.yld i H x H'→g x σ H' fun σ2 H2=>tb { D with nx:=N,ct:=N,bk:=D.nx } σ2 H2)
def iU (fp:List Addr)(h:Heap):List (Addr × Obj):=fp.filterMap fun b=>(h.get? b).map fun o=>(b,o)
theorem cZ {fp:List Addr}{h:Heap}{b:Addr}{o:Obj}(hb:b∈fp)(e:h.get? b=some o):(b,o)∈iU fp h:=Fx.mpr ⟨b,hb,by rw [e]; rfl⟩
theorem nu {fp:List Addr}{h:Heap}{p:Addr × Obj}(hp:p∈iU fp h):p.1∈fp∧h.get? p.1=some p.2:=by
 obtain ⟨b,hb,e⟩:=Fx.mp hp
 cases q:h.get? b with
 | none=>rw [q] at e;cases e
 | some o =>
  rw [q] at e
  have e':(b,o)=p:=BA e
  subst e'
  exact ⟨hb,q⟩
theorem Inv.pinned {Hz:List (Addr × Obj)}{σ:St}{H:Hp}{s:Shared}{fp:List Addr}(I:Inv X Hz σ H s)(hf:∀ b∈fp,nj X Hz H b)(ho:∀ b∈fp,∃ o,s.heap.get? b=some o∧∀ v,o.data ≠ .cell v):Inv X (Hz++iU fp s.heap) σ H s :=
 I.pins_of fun p hp=>(B0.mp hp).elim (fun z=>I.pin p (BO _ z)) fun z=>by
  obtain ⟨hb,e⟩:=nu z
  obtain ⟨f0,f1,f2,_⟩:=hf p.1 hb
  obtain ⟨o,e',d⟩:=ho p.1 hb
  rw [e] at e';cases e'
  exact ⟨e,f0,f1,f2,d⟩
theorem Inv.unpinned {Hz pl:List (Addr × Obj)}{σ:St}{H:Hp}{s:Shared}(I:Inv X (Hz++pl) σ H s):Inv X Hz σ H s:=I.pins_of fun p hp=>I.pin p (BO _ (Cb _ hp))
theorem bI {iter:Expr}{body:List Stmt}{wi:TI}{g:TG}{tb:TS}{pos:Pos}(hp:PassesOwn (model X.prog X.w) X.A X.env X.xe)(hc:X.calm=true)(hi:PI X tg iter wi)(hg:PG X tg g)(hb:PSs X body tb)
  (hs:∀ x,foldedSetIterable iter X.env x=pure x:=by intro _;rfl):PS X (.For tg iter body [] pos) (AV wi g tb):=by
 intro Hz s σ H D I h
 refine wpAny_For (thn (hi Hz s σ H _ I h) fun v s1 h1=>thn h1 fun itv s2 h2=>?_) hs
 obtain ⟨it,fp,tn,J,H2,e,I2,T,HX,f2,W,⟨m0,w0⟩,turn⟩:=h2
 subst e
 -- what stays true of the iterator's objects through the loop
 have stat:∀ {H':Hp},(∀ b∈fp,H' b=none)→∀ b∈fp,nj X Hz H' b:=fun hn b hb=>⟨hn b hb,(f2 b hb).2⟩
 refine codeAny_forLoop_any (fun n s'=>∃ i σ' H',Inv X Hz σ' H' s'∧tn i s'.heap∧(∀ b∈fp,H' b=none)∧W i n σ' H') ?_ m0 ⟨0,σ,H2,I2,HX,fun b hb=>(f2 b hb).1,w0⟩
 rintro n s3 ⟨i,σ3,H3,I3,st3,fr3,w3⟩
 rcases turn i n σ3 H3 w3 with ⟨stop,qn⟩ | ⟨go,N,hN,step⟩
 ·refine DU hp (thn (T.done X rfl rfl rfl hc i Hz s3 σ3 H3 X.xe I3 (stat fr3) st3 stop) fun r s4 zq38=>?_)
  obtain ⟨hr,I4⟩:=zq38
  subst hr
  exact Fn ⟨σ3,H3,I4,qn⟩
 ·refine DU hp (thn (T.item X rfl rfl rfl hc i Hz s3 σ3 H3 X.xe I3 (stat fr3) st3 go) fun r s4 zq39=>?_)
  obtain ⟨u,hr,h4⟩:=zq39
  subst hr
  refine DU hp (thn h4 fun _ s5 zq40=>?_)
  obtain ⟨x,H5,I5,r5,y5,st5,fr5⟩:=zq40
  have I5':=I5.pinned (stat fr5) (T.obj _ _ st5)
  refine DU hp (thn (hg _ s5 σ3 H5 x u _ I5' r5 (step x H5 y5)) fun _ s6 zq41=>?_)
  obtain ⟨σ6,H6,I6,q6⟩:=zq41
  refine DU hp (thn (hb _ s6 σ6 H6 _ I6 q6) fun f s7 q7=>?_)
  have again:∀ {σ7:St} {H7:Hp},Inv X (Hz++iU fp s5.heap) σ7 H7 s7→N σ7 H7→∃ m,m < n∧∃ i σ' H',Inv X Hz σ' H' s7∧tn i s7.heap∧(∀ b∈fp,H' b=none)∧W i m σ' H':=fun {σ7 H7} I7 n7=>by
   obtain ⟨m',hm,w7⟩:=hN σ7 H7 n7
   refine ⟨m',hm,i+1,σ7,H7,I7.unpinned,T.keep _ _ _ st5 fun b hb o e=>(I7.pin (b,o) (BO _ (BO _ (cZ hb e)))).1,fun b hb=>?_,w7⟩
   obtain ⟨o,e,d⟩:=T.obj _ _ st5 b hb
   exact (I7.pin (b,o) (BO _ (BO _ (cZ hb e)))).2.1
  cases f with
  | next=>obtain ⟨σ7,H7,I7,n7⟩:=q7;exact again I7 n7
  | cont=>obtain ⟨σ7,H7,I7,n7⟩:=q7;exact again I7 n7
  | brk=>obtain ⟨σ7,H7,I7,q7⟩:=q7;exact ⟨σ7,H7,I7.unpinned,q7⟩
  | ret v=>obtain ⟨x7,σ7,H7,I7,r7,q7⟩:=q7;exact ⟨x7,σ7,H7,I7.unpinned,r7,q7⟩
end
theorem kC {K:PySem.W.Frag}{a:Addr}{xs:List V}{g:TG}{tb:TS}{D:gI}{σ:St}{H:Hp}(Pv:Nat→St→Hp→Prop)(h0:Pv 0 σ H)(hl:∀ i σ H,i≤xs.length→Pv i σ H→SqL K H a xs)
  (hs:∀ i x σ H,xs[i]? = some x→Pv i σ H→g x σ H fun σ2 H2=>tb { D with nx:=Pv (i+1),ct:=Pv (i+1),bk:=D.nx } σ2 H2) (hd:∀ σ H,Pv xs.length σ H→D.nx σ H) :
  ∃ W:Nat→Nat→St→Hp→Prop,(∃ m,W 0 m σ H)∧∀ i m σ H,W i m σ H →
   ((Itl K a).stop i H∧D.nx σ H) ∨ ((Itl K a).go i H∧∃ N:St→Hp→Prop,(∀ σ' H',N σ' H'→∃ m',m' < m∧W (i+1) m' σ' H')∧∀ x H',(Itl K a).yld i H x H'→g x σ H' fun σ2 H2=>tb { D with nx:=N,ct:=N,bk:=D.nx } σ2 H2):=by
 refine ⟨fun i m σ H=>m=xs.length - i∧i≤xs.length∧Pv i σ H,⟨xs.length,by simp,Cc _,h0⟩,?_⟩
 rintro i m σ H ⟨rfl,hi,p⟩
 have q:=hl i σ H hi p
 by_cases HK:i < xs.length
 ·refine .inr ⟨⟨xs,xs[i],q,by simp [HK]⟩,Pv (i+1),fun σ' H' p'=>⟨xs.length - (i+1),by omega,rfl,HK,p'⟩,fun x H' y=>?_⟩
  obtain ⟨e,y⟩:=y
  subst e
  exact hs i x σ _ (y xs q) p
 ·have e:i=xs.length:=by omega
  subst e
  exact .inl ⟨⟨xs,q,BB _⟩,hd σ H p⟩
theorem t_ {K:PySem.W.Frag}{a:Addr}{xs:List V}{g:TG}{tb:TS}{D:gI}{σ:St}{H:Hp}(Pv:Nat→St→Hp→Prop)(h0:Pv 0 σ H)(hl:∀ i σ H,i≤xs.length→Pv i σ H→SqT K H a xs)
  (hs:∀ i x σ H,xs[i]? = some x→Pv i σ H→g x σ H fun σ2 H2=>tb { D with nx:=Pv (i+1),ct:=Pv (i+1),bk:=D.nx } σ2 H2) (hd:∀ σ H,Pv xs.length σ H→D.nx σ H) :
  ∃ W:Nat→Nat→St→Hp→Prop,(∃ m,W 0 m σ H)∧∀ i m σ H,W i m σ H →
   ((Itt K a).stop i H∧D.nx σ H) ∨ ((Itt K a).go i H∧∃ N:St→Hp→Prop,(∀ σ' H',N σ' H'→∃ m',m' < m∧W (i+1) m' σ' H')∧∀ x H',(Itt K a).yld i H x H'→g x σ H' fun σ2 H2=>tb { D with nx:=N,ct:=N,bk:=D.nx } σ2 H2):=by
 refine ⟨fun i m σ H=>m=xs.length - i∧i≤xs.length∧Pv i σ H,⟨xs.length,by simp,Cc _,h0⟩,?_⟩
 rintro i m σ H ⟨rfl,hi,p⟩
 have q:=hl i σ H hi p
 by_cases HK:i < xs.length
 ·refine .inr ⟨⟨xs,xs[i],q,by simp [HK]⟩,Pv (i+1),fun σ' H' p'=>⟨xs.length - (i+1),by omega,rfl,HK,p'⟩,fun x H' y=>?_⟩
  obtain ⟨e,y⟩:=y
  subst e
  exact hs i x σ _ (y xs q) p
 ·have e:i=xs.length:=by omega
  subst e
  exact .inl ⟨⟨xs,q,BB _⟩,hd σ H p⟩
theorem bq {lo:Int}{n:Nat}{g:TG}{tb:TS}{D:gI}{σ:St}{H:Hp}(Pv:Nat→St→Hp→Prop)(h0:Pv 0 σ H)
  (hs:∀ i σ H,i < n→Pv i σ H→g (.int (lo+i)) σ H fun σ2 H2=>tb { D with nx:=Pv (i+1),ct:=Pv (i+1),bk:=D.nx } σ2 H2) (hd:∀ σ H,Pv n σ H→D.nx σ H) :
  ∃ W:Nat→Nat→St→Hp→Prop,(∃ m,W 0 m σ H)∧∀ i m σ H,W i m σ H →
   ((Itr lo n).stop i H∧D.nx σ H) ∨ ((Itr lo n).go i H∧∃ N:St→Hp→Prop,(∀ σ' H',N σ' H'→∃ m',m' < m∧W (i+1) m' σ' H')∧∀ x H',(Itr lo n).yld i H x H'→g x σ H' fun σ2 H2=>tb { D with nx:=N,ct:=N,bk:=D.nx } σ2 H2):=by
 refine ⟨fun i m σ H=>m=n - i∧i≤n∧Pv i σ H,⟨n,by simp,Cc _,h0⟩,?_⟩
 rintro i m σ H ⟨rfl,hi,p⟩
 by_cases HK:i < n
 ·refine .inr ⟨HK,Pv (i+1),fun σ' H' p'=>⟨n - (i+1),by omega,rfl,HK,p'⟩,fun x H' y=>?_⟩
  obtain ⟨e,y⟩:=y
  subst e y
  exact hs i σ _ HK p
 ·have e:i=n:=by omega
  subst e
  exact .inl ⟨BB _,hd σ H p⟩
abbrev R2:=V→V→Hp→VK→Prop
def OpR (X:Cx)(f:Value→Value→Sem Value)(r:R2):Prop :=
 ∀ (Hz:List (Addr × Obj)) (s:Shared) (σ:St) (H:Hp) (x y:V) (v u:Value) (Q:VK),Inv X Hz σ H s→bE x v→bE y u→r x y H Q →
  wpAny (model X.prog X.w) X.A (f v u) (EP X Hz σ Q) X.xe s
def UnR (X:Cx)(f:Value→Sem Value)(r:V→Hp→VK→Prop):Prop :=
 ∀ (Hz:List (Addr × Obj)) (s:Shared) (σ:St) (H:Hp) (x:V) (v:Value) (Q:VK),Inv X Hz σ H s→bE x v→r x H Q →
  wpAny (model X.prog X.w) X.A (f v) (EP X Hz σ Q) X.xe s
def dE (X:Cx)(f:Value)(r:List V→Hp→VK→Prop):Prop :=
 ∀ (Hz:List (Addr × Obj)) (s:Shared) (σ:St) (H:Hp) (xs:List V) (us:List Value) (Q:VK),Inv X Hz σ H s→a8 xs us→r xs H Q →
  wpAny (model X.prog X.w) X.A (call f us) (EP X Hz σ Q) X.xe s
def AW (X:Cx)(r:V→Hp→(Bool→Hp→Prop)→Prop):Prop :=
 ∀ (Hz:List (Addr × Obj)) (s:Shared) (σ:St) (H:Hp) (x:V) (v:Value) (Q:Bool→Hp→Prop),Inv X Hz σ H s→bE x v→r x H Q →
  wpAny (model X.prog X.w) X.A (truthy v) (TP X Hz σ Q) X.xe s
def wD (r:R2)(Q:VK)(x:V):V→Hp→Prop:=fun y H2=>r x y H2 Q
def wF (r:R2)(tb:TE)(σ:St)(Q:VK):V→Hp→Prop:=fun x H1=>tb σ H1 (wD r Q x)
def tOp (r:R2)(ta tb:TE):TE:=fun σ H Q=>ta σ H (wF r tb σ Q)
def wG (r:V→Hp→VK→Prop)(Q:VK):V→Hp→Prop:=fun x H1=>r x H1 Q
def tUn (r:V→Hp→VK→Prop)(ta:TE):TE:=fun σ H Q=>ta σ H (wG r Q)
inductive rI (C:Int→Int→Prop)(g:Int→Int→V)(x:V)(y:V)(H:Hp)(Q:VK):Prop
 | mk:∀ i j,(x = .int i)→(y = .int j)→(C i j)→(Q (g i j) H)→rI C g x y H Q
inductive rI0 (g:Int→Int→V)(x:V)(y:V)(H:Hp)(Q:VK):Prop
 | mk:∀ i j,(x = .int i)→(y = .int j)→(Q (g i j) H)→rI0 g x y H Q
inductive rU (g:Int→V)(x:V)(H:Hp)(Q:VK):Prop
 | mk:∀ i,(x = .int i)→(Q (g i) H)→rU g x H Q
section
variable {X:Cx} {a b c:Expr} {ta tb tc:TE} {pos:Pos}
theorem y6 (ha:PE X a ta)(hb:PE X b tb){Hz:List (Addr × Obj)}{s:Shared}{σ:St}{H:Hp}{R:V→V→Hp→Prop}(I:Inv X Hz σ H s)
  (h:ta σ H fun x H1=>tb σ H1 fun y H2=>R x y H2) {Q:Value→Shared→Prop} {f:Value→Value→Sem Value}
  (hf:∀ v u s2 x y H2,Inv X Hz σ H2 s2→bE x v→bE y u→R x y H2→wpAny (model X.prog X.w) X.A (f v u) Q X.xe s2) :
  wpAny (model X.prog X.w) X.A (eval a X.env) (fun v s₁=>wpAny (model X.prog X.w) X.A (eval b X.env) (fun u s₂=>wpAny (model X.prog X.w) X.A (f v u) Q X.xe s₂) X.xe s₁) X.xe s:=by
 refine thn (ha Hz s σ H _ I h) fun v s1 zq42=>?_
 obtain ⟨x,H1,I1,r1,q1⟩:=zq42
 refine thn (hb Hz s1 σ H1 _ I1 q1) fun u s2 zq43=>?_
 obtain ⟨y,H2,I2,r2,q2⟩:=zq43
 exact hf v u s2 x y H2 I2 r1 r2 q2
theorem aQ {op:Operator}{r:R2}(ho:OpR X (binaryOp op) r)(ha:PE X a ta)(hb:PE X b tb):PE X (.BinOp a op b pos) (tOp r ta tb):=by
 intro Hz s σ H Q I h
 exact wpAny_BinOp (y6 ha hb I h fun v u s2 x y H2 I2 rx ry q=>ho Hz s2 σ H2 x y v u Q I2 rx ry q)
theorem gJ {op:UnaryOp}{r:V→Hp→VK→Prop}(ho:UnR X (unaryOp op) r)(ha:PE X a ta):PE X (.UnaryOp op a pos) (tUn r ta):=by
 intro Hz s σ H Q I h
 exact UnaryOp_ (thn (ha Hz s σ H _ I h) fun v s1 zq44=>(by obtain ⟨x,H1,I1,r1,q1⟩:=zq44;exact ho Hz s1 σ H1 x v Q I1 r1 q1))
theorem opI {f:Value→Value→Sem Value}{C:Int→Int→Prop}{g:Int→Int→Int}
  (rule:∀ (i j:Int) (t u:Tok) (s:Shared) (Q:Value→Shared→Prop) (E:Value→Shared→Prop),C i j→Q (.int (g i j) s.toks) { s with toks:=s.toks+1 }→wpAny (model X.prog X.w) X.A (f (.int i t) (.int j u)) Q E s) :
  OpR X f (rI C fun i j=>.int (g i j)):=by
 intro Hz s σ H x y v u Q I rx ry h
 obtain ⟨i,j,rfl,rfl,hc,q⟩:=h
 obtain ⟨t,rfl⟩:=rx
 obtain ⟨t',rfl⟩:=ry
 exact rule i j t t' s _ _ hc ⟨.int (g i j),H,I.tok _,⟨_,rfl⟩,q⟩
theorem Ay {f:Value→Value→Sem Value}{g:Int→Int→Int}
  (rule:∀ (i j:Int) (t u:Tok) (s:Shared) (Q:Value→Shared→Prop) (E:Value→Shared→Prop),Q (.int (g i j) s.toks) { s with toks:=s.toks+1 }→wpAny (model X.prog X.w) X.A (f (.int i t) (.int j u)) Q E s) :
  OpR X f (rI0 fun i j=>.int (g i j)):=by
 intro Hz s σ H x y v u Q I rx ry h
 obtain ⟨i,j,rfl,rfl,q⟩:=h
 obtain ⟨t,rfl⟩:=rx
 obtain ⟨t',rfl⟩:=ry
 exact rule i j t t' s _ _ ⟨.int (g i j),H,I.tok _,⟨_,rfl⟩,q⟩
theorem y7 {f:Value→Value→Sem Value}{g:Int→Int→Bool}
  (rule:∀ (i j:Int) (t u:Tok) (s:Shared) (Q:Value→Shared→Prop) (E:Value→Shared→Prop),Q (.bool (g i j)) s→wpAny (model X.prog X.w) X.A (f (.int i t) (.int j u)) Q E s) :
  OpR X f (rI0 fun i j=>.bl (g i j)):=by
 intro Hz s σ H x y v u Q I rx ry h
 obtain ⟨i,j,rfl,rfl,q⟩:=h
 obtain ⟨t,rfl⟩:=rx
 obtain ⟨t',rfl⟩:=ry
 exact rule i j t t' s _ _ ⟨.bl (g i j),H,I,rfl,q⟩
def AX (i j:Int):Prop:=0 < j∧j < 1073741824
def AY (i j:Int):Prop:=0≤j∧j≤1000000∧i.natAbs < 2 ^ 64
def yL (i j:Int):Prop:=(-(2 ^ 64) < i∧i < 2 ^ 64) ∨ (-(2 ^ 64) < j∧j < 2 ^ 64)
theorem yL.ok {i j:Int}(h:yL i j):IntMulOk i j:=by
 rcases h with ⟨h1,h2⟩ | ⟨h1,h2⟩
 ·exact .of_left (intBits_le_64 h1 h2)
 ·exact .of_right (intBits_le_64 h1 h2)
theorem cf:OpR X (binaryOp .Add) (rI0 fun i j=>.int (i+j)):=Ay fun _ _ _ _ _ _ _ q=>add_int q
theorem kD:OpR X (binaryOp .Sub) (rI0 fun i j=>.int (i - j)):=Ay fun _ _ _ _ _ _ _ q=>sub_int q
theorem f_:OpR X (binaryOp .Mult) (rI yL fun i j=>.int (i*j)):=opI fun _ _ _ _ _ _ _ hc q=>mul_int q hc.ok
theorem dk:OpR X (binaryOp .FloorDiv) (rI AX fun i j=>.int (i / j)):=opI fun i j _ _ _ _ _ hc q=>by
 have h1:(0:Int) < j:=hc.1
 have h2:j < 1073741824:=hc.2
 exact floordiv_int (by omega) (by rw [Int.fdiv_eq_ediv_of_nonneg i (by omega)];exact q) (.inl (PyProof.noPylong_small (by omega)))
theorem cQ:OpR X (binaryOp .Mod) (rI (fun _ j=>0 < j) fun i j=>.int (i % j)):=opI fun i j _ _ _ _ _ hc q=>by
 have h1:(0:Int) < j:=hc
 exact mod_int' (by omega) (by rw [Int.fmod_eq_emod_of_nonneg i (by omega)];exact q)
theorem wH:OpR X (binaryOp .Pow) (rI AY fun i j=>.int (i ^ j.toNat)):=opI fun _ _ _ _ _ _ _ hc q=>pow_int_small hc.1 hc.2.1 hc.2.2 q
theorem unI {f:Value→Sem Value}{g:Int→Int}
  (rule:∀ (i:Int) (t:Tok) (s:Shared) (Q:Value→Shared→Prop) (E:Value→Shared→Prop),Q (.int (g i) s.toks) { s with toks:=s.toks+1 }→wpAny (model X.prog X.w) X.A (f (.int i t)) Q E s) :
  UnR X f (rU fun i=>.int (g i)):=by
 intro Hz s σ H x v Q I rx h
 obtain ⟨i,rfl,q⟩:=h
 obtain ⟨t,rfl⟩:=rx
 exact rule i t s _ _ ⟨.int (g i),H,I.tok _,⟨_,rfl⟩,q⟩
theorem dF:UnR X (unaryOp .USub) (rU fun i=>.int (-i)):=unI fun _ _ _ _ _ q=>neg_int q
end
def Az:V→V→Bool
 | .non,.non=>true | .non,.int _=>true | .int _,.non=>true | .non,.bl _=>true | .bl _,.non=>true | .non,.str _=>true | .str _,.non=>true
 | .int _,.int _=>true | .bl _,.bl _=>true | .str _,.str _=>true | .byt _,.byt _=>true
 | .int _,.str _=>true | .str _,.int _=>true | .bl _,.str _=>true | .str _,.bl _=>true
 | _,_=>false
def rEq:R2:=fun x y H Q=>Az x y=true∧Q (.bl (decide (x=y))) H
def rNe:R2:=fun x y H Q=>Az x y=true∧Q (.bl (!decide (x=y))) H
theorem dec_int {i j:Int}:decide (V.int i=V.int j)=(i == j):=by
 rw [BX]
 simp
theorem sQ {i j:Bool}:decide (V.bl i=V.bl j)=(i == j):=by
 rw [BX]
 simp
theorem nv {i j:Str}:decide (V.str i=V.str j)=(i == j):=by
 rw [BX]
 simp
theorem ny {i j:Array UInt8}:decide (V.byt i=V.byt j)=(i.toList == j.toList):=by
 rw [BX]
 cases i
 cases j
 simp
section
variable {X:Cx} {a b c:Expr} {ta tb tc:TE} {pos:Pos}
theorem aS {Hz:List (Addr × Obj)}{σ:St}{H:Hp}{s:Shared}{Q:VK}{k k':Bool}(I:Inv X Hz σ H s)(q:Q (.bl k) H)(e:k=k'):EP X Hz σ Q (.bool k') s:=by
 subst e
 exact ⟨.bl k,H,I,rfl,q⟩
theorem dH:OpR X (compareOp .Eq) rEq:=by
 intro Hz s σ H x y v u Q I rx ry h
 obtain ⟨hs,q⟩:=h
 cases x with
 | non =>
  cases rx
  cases y with
  | non=>cases ry;exact PySem.EqNone.eq_none_none (aS I q (by simp))
  | bl j=>cases ry;exact PySem.EqNone.eq_none_bool (aS I q (by simp))
  | int j=>obtain ⟨t',rfl⟩:=ry;exact PySem.EqNone.eq_none_int (aS I q (by simp))
  | str j=>obtain ⟨t',rfl⟩:=ry;exact PySem.EqNone.eq_none_str (aS I q (by simp))
  | _=>exact absurd (show false=true from hs) Ca
 | bl i =>
  cases rx
  cases y with
  | non=>cases ry;exact PySem.EqNone.eq_bool_none (aS I q (by simp))
  | bl j=>cases ry;exact eq_bool (aS I q sQ)
  | str j=>obtain ⟨t',rfl⟩:=ry;exact PySem.EqMixed.eq_bool_str (aS I q (by simp))
  | _=>exact absurd (show false=true from hs) Ca
 | int i =>
  obtain ⟨t,rfl⟩:=rx
  cases y with
  | non=>cases ry;exact PySem.EqNone.eq_int_none (aS I q (by simp))
  | int j=>obtain ⟨t',rfl⟩:=ry;exact eq_int (aS I q dec_int)
  | str j=>obtain ⟨t',rfl⟩:=ry;exact PySem.EqMixed.eq_int_str (aS I q (by simp))
  | _=>exact absurd (show false=true from hs) Ca
 | str i =>
  obtain ⟨t,rfl⟩:=rx
  cases y with
  | non=>cases ry;exact PySem.EqNone.eq_str_none (aS I q (by simp))
  | bl j=>cases ry;exact PySem.EqMixed.eq_str_bool (aS I q (by simp))
  | int j=>obtain ⟨t',rfl⟩:=ry;exact PySem.EqMixed.eq_str_int (aS I q (by simp))
  | str j=>obtain ⟨t',rfl⟩:=ry;exact eq_str (aS I q nv)
  | _=>exact absurd (show false=true from hs) Ca
 | byt i =>
  obtain ⟨t,rfl⟩:=rx
  cases y with
  | byt j=>obtain ⟨t',rfl⟩:=ry;exact PySem.W.eq_bytes (aS I q ny)
  | _=>exact absurd (show false=true from hs) Ca
 | _=>cases y <;> exact absurd (show false=true from hs) Ca
theorem wI:OpR X (compareOp .NotEq) rNe:=by
 intro Hz s σ H x y v u Q I rx ry h
 obtain ⟨hs,q⟩:=h
 cases x with
 | non =>
  cases rx
  cases y with
  | non=>cases ry;exact PySem.EqNone.ne_none_none (aS I q (by simp))
  | bl j=>cases ry;exact PySem.EqNone.ne_none_bool (aS I q (by simp))
  | int j=>obtain ⟨t',rfl⟩:=ry;exact PySem.EqNone.ne_none_int (aS I q (by simp))
  | str j=>obtain ⟨t',rfl⟩:=ry;exact PySem.EqNone.ne_none_str (aS I q (by simp))
  | _=>exact absurd (show false=true from hs) Ca
 | bl i =>
  cases rx
  cases y with
  | non=>cases ry;exact PySem.EqNone.ne_bool_none (aS I q (by simp))
  | bl j=>cases ry;exact ne_bool (aS I q (BP not sQ))
  | str j=>obtain ⟨t',rfl⟩:=ry;exact PySem.EqMixed.ne_bool_str (aS I q (by simp))
  | _=>exact absurd (show false=true from hs) Ca
 | int i =>
  obtain ⟨t,rfl⟩:=rx
  cases y with
  | non=>cases ry;exact PySem.EqNone.ne_int_none (aS I q (by simp))
  | int j=>obtain ⟨t',rfl⟩:=ry;exact ne_int (aS I q (BP not dec_int))
  | str j=>obtain ⟨t',rfl⟩:=ry;exact PySem.EqMixed.ne_int_str (aS I q (by simp))
  | _=>exact absurd (show false=true from hs) Ca
 | str i =>
  obtain ⟨t,rfl⟩:=rx
  cases y with
  | non=>cases ry;exact PySem.EqNone.ne_str_none (aS I q (by simp))
  | bl j=>cases ry;exact PySem.EqMixed.ne_str_bool (aS I q (by simp))
  | int j=>obtain ⟨t',rfl⟩:=ry;exact PySem.EqMixed.ne_str_int (aS I q (by simp))
  | str j=>obtain ⟨t',rfl⟩:=ry;exact ne_str (aS I q (BP not nv))
  | _=>exact absurd (show false=true from hs) Ca
 | byt i =>
  obtain ⟨t,rfl⟩:=rx
  cases y with
  | byt j=>obtain ⟨t',rfl⟩:=ry;exact PySem.W.ne_bytes (aS I q (BP not ny))
  | _=>exact absurd (show false=true from hs) Ca
 | _=>cases y <;> exact absurd (show false=true from hs) Ca
theorem fV:OpR X (compareOp .Lt) (rI0 fun i j=>.bl (decide (i < j))):=y7 fun _ _ _ _ _ _ _ q=>lt_int q
theorem ua:OpR X (compareOp .Gt) (rI0 fun i j=>.bl (decide (j < i))):=y7 fun _ _ _ _ _ _ _ q=>gt_int q
theorem y8:OpR X (compareOp .GtE) (rI0 fun i j=>.bl (decide (j≤i))):=y7 fun _ _ _ _ _ _ _ q=>ge_int q
inductive fk  (x:V)(y:V)(H:Hp)(Q:VK):Prop
 | mk:∀ i j,(x = .str i)→(y = .str j)→(Q (.bl (!(Builtin.Str.occurrences j i 0 j.length 1).isEmpty)) H)→fk x y H Q
theorem iV:OpR X (compareOp .In) fk:=by
 intro Hz s σ H x y v u Q I rx ry h
 obtain ⟨i,j,rfl,rfl,q⟩:=h
 obtain ⟨t,rfl⟩:=rx
 obtain ⟨t',rfl⟩:=ry
 exact in_str (aS I q rfl)
theorem aX (b:Expr){op:CmpOp}(h:op ≠ .In:=by decide)(h2:op ≠ .NotIn:=by decide):behindInMarks op b=false:=by
 have e1:(op == CmpOp.In)=false:=by cases op <;> first | rfl | exact absurd rfl h
 have e2:(op == CmpOp.NotIn)=false:=by cases op <;> first | rfl | exact absurd rfl h2
 cases b <;> simp [behindInMarks,e1,e2]
theorem gK {op:CmpOp}{r:R2}(ho:OpR X (compareOp op) r)(ha:PE X a ta)(hb:PE X b tb)(hm:behindInMarks op b=false):PE X (.Compare a [op] [b] pos) (tOp r ta tb):=by
 intro Hz s σ H Q I h
 exact wpAny_Compare1 (y6 ha hb I h fun v u s2 x y H2 I2 rx ry q=>ho Hz s2 σ H2 x y v u Q I2 rx ry q) hm
def qE (Q:(Bool→Hp→Prop)):V→Hp→Prop:=fun x H'=>IsB x H' Q
def ub (t:TE):TT:=fun σ H Q=>t σ H (qE Q)
theorem aR {op:CmpOp}{r:R2}(ho:OpR X (compareOp op) r)(ha:PE X a ta)(hb:PE X b tb)(hm:behindInMarks op b=false):PT X (.Compare a [op] [b] pos) (ub (tOp r ta tb)):=by
 intro Hz s σ H Q I h
 refine wpAny_isTrue_Compare1 (thn (ha Hz s σ H _ I h) fun v s1 ⟨x,H1,I1,r1,q1⟩=>thn (hb Hz s1 σ H1 _ I1 q1) fun u s2 ⟨y,H2,I2,r2,q2⟩ =>
  thn (ho Hz s2 σ H2 x y v u _ I2 r1 r2 q2) fun c s3 ⟨z,H3,I3,r3,k,e,q3⟩=>?_) hm
 subst e
 cases r3
 exact Di ⟨H3,I3,q3⟩
def sR (r r':R2)(ta tb tc:TE):TE:=fun σ H Q=>ta σ H fun x H1=>tb σ H1 fun y H2=>r x y H2 fun z H3=>∃ k,z = .bl k ∧
 (if k=true then tc σ H3 fun w' H4=>r' y w' H4 Q else Q (.bl false) H3)
theorem kE {op op':CmpOp}{r r':R2}(ho:OpR X (compareOp op) r)(Iy:OpR X (compareOp op') r')(ha:PE X a ta)(hb:PE X b tb)(hc:PE X c tc)
  (hm:lastMarks [op,op'] [b,c]=false:=by with_unfolding_all rfl):PE X (.Compare a [op,op'] [b,c] pos) (sR r r' ta tb tc):=by
 intro Hz s σ H Q I h
 refine Compare_chain (thn (ha Hz s σ H _ I h) fun v s1 ⟨x,H1,I1,r1,q1⟩=>chain_link (thn (hb Hz s1 σ H1 _ I1 q1) fun u s2 ⟨y,H2,I2,r2,q2⟩ =>
  thn (ho Hz s2 σ H2 x y v u _ I2 r1 r2 q2) fun d s3 ⟨z,H3,I3,r3,k,e,q3⟩=>?_)) hm
 subst e
 cases r3
 refine Di ?_
 cases k with
 | false=>exact ite_ff ⟨.bl false,H3,I3,rfl,q3⟩
 | true=>exact ite_tt (chain_last (thn (hc Hz s3 σ H3 _ I3 q3) fun w' s4 zq45=>(by obtain ⟨z',H4,I4,r4,q4⟩:=zq45;exact Iy Hz s4 σ H4 y z' u w' Q I4 r2 r4 q4)))
theorem qF {op op':CmpOp}{r r':R2}(ho:OpR X (compareOp op) r)(Iy:OpR X (compareOp op') r')(ha:PE X a ta)(hb:PE X b tb)(hc:PE X c tc)
  (hm:lastMarks [op,op'] [b,c]=false:=by with_unfolding_all rfl):PT X (.Compare a [op,op'] [b,c] pos) (ub (sR r r' ta tb tc)):=by
 intro Hz s σ H Q I h
 refine isTrue_chain (thn (ha Hz s σ H _ I h) fun v s1 ⟨x,H1,I1,r1,q1⟩=>test_link (thn (hb Hz s1 σ H1 _ I1 q1) fun u s2 ⟨y,H2,I2,r2,q2⟩ =>
  thn (ho Hz s2 σ H2 x y v u _ I2 r1 r2 q2) fun d s3 ⟨z,H3,I3,r3,k,e,q3⟩=>?_)) hm
 subst e
 cases r3
 refine Di ?_
 cases k with
 | false =>
  obtain ⟨k',e',q'⟩:=q3
  cases e'
  exact ite_ff ⟨H3,I3,q'⟩
 | true =>
  refine ite_tt (test_last (thn (hc Hz s3 σ H3 _ I3 q3) fun w' s4 ⟨z',H4,I4,r4,q4⟩=>thn (Iy Hz s4 σ H4 y z' u w' _ I4 r2 r4 q4) fun d' s5 zq46=>?_))
  obtain ⟨z2,H5,I5,r5,k2,e2,q5⟩:=zq46
  subst e2
  cases r5
  exact Di ⟨H5,I5,q5⟩
def AZ (K:PySem.W.Frag)(x:V)(H:Hp)(k:Bool):Prop :=
 match x with
 | .non=>k=false
 | .bl b=>k=b
 | .int i=>k=(i != 0)
 | .str y=>y.length≤sizeLine∧k=((y.length:Int) != 0)
 | .byt y=>y.size≤sizeLine∧k=((y.size:Int) != 0)
 | .ref p=>(∃ xs,SqL K H p xs∧k=!xs.isEmpty) ∨ (∃ xs,SqT K H p xs∧k=!xs.isEmpty) ∨ ∃ HG,H p=some (.dK HG)∧k=!HG.isEmpty
 | _=>False
theorem mh {κ:Type}{HG:List (κ × V)}{vs:List (κ × Value)}(r:KV HG vs):(!vs.isEmpty)=!HG.isEmpty:=by
 cases r <;> rfl
theorem gc {xs:List V}{HE:List Value}(r:a8 xs HE):(!HE.toArray.isEmpty)=!xs.isEmpty:=by
 cases r <;> simp
theorem dI:(sizeLine:Nat) < 2 ^ 63:=by rw [GX]; decide
inductive uc (K:PySem.W.Frag)(x:V)(H:Hp)(Q:Bool→Hp→Prop):Prop
 | mk:∀ k,(AZ K x H k)→(Q k H)→uc K x H Q
theorem nz:AW X (uc X.K):=by
 intro Hz s σ H x v Q I rx h
 obtain ⟨k,e,q⟩:=h
 have hl:=dI
 have hs:sizeLine=16777216:=GX
 cases x with
 | non =>
  cases rx
  have e':k=false:=e
  subst e'
  exact truthy_none ⟨H,I,q⟩
 | bl b =>
  cases rx
  have e':k=b:=e
  subst e'
  exact Di ⟨H,I,q⟩
 | int i =>
  obtain ⟨t,rfl⟩:=rx
  have e':k=(i != 0):=e
  subst e'
  exact PySem.P.truthy_int ⟨H,I,q⟩
 | str y =>
  obtain ⟨t,rfl⟩:=rx
  obtain ⟨hy,e'⟩:y.length≤sizeLine∧k=((y.length:Int) != 0):=e
  subst e'
  exact PySem.P.truthy_str (by omega) ⟨H,I.tok _,q⟩
 | byt y =>
  obtain ⟨t,rfl⟩:=rx
  obtain ⟨hy,e'⟩:y.size≤sizeLine∧k=((y.size:Int) != 0):=e
  subst e'
  exact PySem.W.truthy_bytes (by omega) ⟨H,I.tok _,q⟩
 | ref p =>
  cases rx
  have e':(∃ xs,SqL X.K H p xs∧k=!xs.isEmpty) ∨ (∃ xs,SqT X.K H p xs∧k=!xs.isEmpty) ∨ ∃ HG,H p=some (.dK HG)∧k=!HG.isEmpty:=e
  rcases e' with ⟨xs,hx,e'⟩ | ⟨xs,hx,e'⟩ | ⟨HG,hx,e'⟩
  ·subst e'
   obtain ⟨HE,r,pl,hz⟩:=I.list hx
   have hlen:=r.length
   exact wpAny_truthy_list pl.isList (by simp only [BM];omega) ⟨H,I.tok _,by rw [gc r];exact q⟩
  ·subst e'
   obtain ⟨HE,r,pl,hz⟩:=I.tuple hx
   have hlen:=r.length
   exact truthy_tuple pl (by simp only [BM];omega) ⟨H,I.tok _,by rw [gc r];exact q⟩
  ·subst e'
   obtain ⟨hz,hS,vs,r,m⟩:HG.length≤sizeLine∧(p == sysModules)=false∧∃ vs,KV HG vs∧s.heap.DictOf (bu X.prog X.w) p vs:=I.hok p _ hx
   have hlen:HG.length=vs.length:=EB r
   exact wpAny_truthy_dict hS m (by omega) ⟨H,I.tok _,by rw [mh r];exact q⟩
 | _=>exact (show False from e).elim
def ud (K:PySem.W.Frag)(Q:(Bool→Hp→Prop)):V→Hp→Prop:=fun x H'=>uc K x H' Q
def A0 (K:PySem.W.Frag)(ta:TE):TT:=fun σ H Q=>ta σ H (ud K Q)
theorem gL (ha:PE X a ta)(he:∀ whole,isTrue a X.env whole=(do let v ← whole; standAt a.pos; holding [v] (truthy v))) :
  PT X a (A0 X.K ta):=by
 intro Hz s σ H Q I h
 exact isTrue_plain (thn (ha Hz s σ H _ I h) fun v s1 zq47=>(by obtain ⟨x,H1,I1,r1,q1⟩:=zq47;exact nz Hz s1 σ H1 x v Q I1 r1 q1)) (he _)
inductive eM  (x:V)(y:V)(H:Hp)(Q:VK):Prop
 | mk:∀ i j,(x = .str i)→(y = .str j)→(i.length+j.length≤sizeLine)→(Q (.str (i++j)) H)→eM x y H Q
theorem bT:OpR X (binaryOp .Add) eM:=by
 intro Hz s σ H x y v u Q I rx ry h
 obtain ⟨i,j,rfl,rfl,hz,q⟩:=h
 obtain ⟨t,rfl⟩:=rx
 obtain ⟨t',rfl⟩:=ry
 exact add_str (fun t' tk=>⟨.str (i++j),H,I.tok _,⟨_,rfl⟩,q⟩) hz
theorem dJ {x:V}{us:List Value}(r:a8 [x] us):∃ u,us=[u]∧bE x u:=by
 cases r with
 | cons r1 r2=>cases r2;exact ⟨_,rfl,r1⟩
theorem ue {x y:V}{us:List Value}(r:a8 [x,y] us):∃ u w',us=[u,w']∧bE x u∧bE y w':=by
 cases r with
 | cons r1 r2 =>
  cases r2 with
  | cons r3 r4=>cases r4;exact ⟨_,_,rfl,r1,r3⟩
end
section
variable {prog:Program} {w:World} {A:Around} {E:Value→Shared→Prop} {s:Shared} {K:PySem.W.Frag} {x dx C f:Addr} {mA:Str→Option Value} {name:Str} {v:Value}
end
theorem mZ.some_of {v:V}{o:Option Value}(r:mZ (some v) o):∃ u,o=some u∧bE v u:=by
 cases o with
 | none=>exact (show False from r).elim
 | some u=>exact ⟨u,rfl,r⟩
section
variable {P:Program} {w:World} {H H':Hp} {h h':Heap} {a C dx:Addr} {fs fs':List (Str × V)}
end
section
variable {X:Cx} {Hz:List (Addr × Obj)} {σ:St} {H:Hp} {s:Shared} {a C dx:Addr} {fs:List (Str × V)} {f:Str} {v:V} {A:Around} {E:Value→Shared→Prop}
end
section
variable {X:Cx} {o e value:Expr} {f:Str} {pos pos' tpos:Pos} {ta tv:TE}
end
section
variable {X:Cx} {Hz:List (Addr × Obj)} {σ:St} {H:Hp} {s:Shared} {A:Around} {E:Value→Shared→Prop} {Q:Value→Shared→Prop} {c:Value} {b:Bool}
end
structure gf (k:Nat) (A:Around):Prop where
 hd:A.handled=none
 dp:A.depth+3*k+5 < recursionLimit
 un:A.units+16*k+200 < cLine
 gd:A.guards=some []
theorem gf.mono {j k:Nat}{A:Around}(r:gf k A)(h:j≤k):gf j A:=⟨r.hd,by have:=r.dp; omega,by have:=r.un; omega,r.gd⟩
theorem gf.deeper {k:Nat}{A:Around}(r:gf (k+1) A)(env:Env):gf k (A.deeper env) :=
 ⟨r.hd,by have:=r.dp;show A.depth+1+3*k+5 < _;omega,by have:=r.un;show A.units+3+16*k+200 < _;omega,r.gd⟩
theorem gf.depth {k:Nat}{A:Around}(r:gf k A):A.depth < recursionLimit:=by have:=r.dp; omega
theorem gf.units {k:Nat}{A:Around}(r:gf k A):A.units+64 < cLine:=by have:=r.un; omega
def A2:TA:=fun _ H Q=>Q [] H
def qG (Q:(List V→Hp→Prop))(x:V):List V→Hp→Prop:=fun xs H2=>Q (x::xs) H2
def qH (tr:TA)(σ:St)(Q:(List V→Hp→Prop)):V→Hp→Prop:=fun x H1=>tr σ H1 (qG Q x)
def wJ (ta:TE)(tr:TA):TA:=fun σ H Q=>ta σ H (qH tr σ Q)
section
variable {X:Cx} {e:Expr} {es:List Expr} {te:TE} {t:TA} {pos:Pos}
theorem ae:PA X [] A2:=fun _ _ _ _ H Q I h=>Calls.spliced_nil ⟨[],H,I,.nil,h⟩
theorem aa (ha:PE X e te)(hr:PA X es t)(hs:starEach (e::es) X.env=(false,eval e X.env)::starEach es X.env:=by rfl):PA X (e::es) (wJ te t):=by
 intro pos Hz s σ H Q I h
 rw [hs]
 show wpAny _ _ (spliced ((false,eval e X.env)::backTo pos (starEach es X.env))) _ _ s
 refine Calls.spliced_cons (thn (ha Hz s σ H _ I h) fun u s1 zq54=>?_)
 obtain ⟨x,H1,I1,r1,q1⟩:=zq54
 exact thn (hr pos Hz s1 σ H1 _ I1 q1) fun us s2 zq55=>(by obtain ⟨xs,H2,I2,r2,q2⟩:=zq55;exact ⟨x::xs,H2,I2,.cons r1 r2,q2⟩)
def uf (Q:VK):List V→Hp→Prop:=fun xs H1=>xs.length≤sizeLine∧∀ p,H1 p=none→Q (.ref p) (upd H1 p (.tup xs))
def A3 (t:TA):TE:=fun σ H Q=>t σ H (uf Q)
def ug (Q:VK):List V→Hp→Prop:=fun xs H1=>xs.length≤sizeLine∧∀ p,H1 p=none→Q (.ref p) (upd H1 p (.lst xs))
def A4 (t:TA):TE:=fun σ H Q=>t σ H (ug Q)
theorem bj {x1}(h:PA X es t):PE X (.Tuple es x1 pos) (A3 t):=by
 intro Hz s σ H Q I hq
 refine wpAny_Tuple_spliced (thn (h pos Hz s σ H _ I hq) fun us s1 ⟨xs,H1,I1,r,z,q⟩=>⟨by rw [← r.length];exact z,?_⟩)
 have hf:H1 s1.heap.objs.size=none:=I1.hok.fresh (BB _)
 refine ⟨.ref s1.heap.objs.size,upd H1 s1.heap.objs.size (.tup xs),I1.laid (t':=s1.toks) (fun b u e=>Bz _ e) (BB _) ?_,rfl,q _ hf⟩
 exact ⟨z,us,r,⟨_,BI _ rfl,rfl,_,rfl⟩,.new _ _ rfl⟩
theorem bt (h:PA X es t):PE X (.List es pos) (A4 t):=by
 intro Hz s σ H Q I hq
 refine wpAny_List_spliced (thn (h pos Hz s σ H _ I hq) fun us s1 ⟨xs,H1,I1,r,z,q⟩=>⟨by rw [← r.length];exact z,?_⟩)
 have hf:H1 s1.heap.objs.size=none:=I1.hok.fresh (BB _)
 refine ⟨.ref s1.heap.objs.size,upd H1 s1.heap.objs.size (.lst xs),I1.laid (t':=s1.toks) (fun b u e=>Bz _ e) (BB _) ?_,rfl,q _ hf⟩
 exact ⟨z,us,0,r,BI _ rfl⟩
end
abbrev Sp:=List V→Hp→VK→XK→Prop
abbrev CXT:=List Env→Hp→Shared→XK→Value→Shared→Prop
structure yM (P:Program) (w:World) (K:PySem.W.Frag) (mg:Str→Option Value) (base:Heap) (A:Around) (outer:List Env) (s:Shared) (H:Hp):Prop where
 frames:A.frames=some outer
 mod:Mod K mg base
 bs:∀ b o,base.get? b=some o→s.heap.get? b=some o∧H b=none
 bsz:base.objs.size≤s.heap.objs.size
 funs:s.heap.FunFrames base outer
 frf:∀ b∈frs outer,H b=none
 hok:HOk P w H s.heap
 bare:AllBare s.gens
def CE (outer:List Env)(P:Program)(w:World)(H:Hp)(s:Shared)(Q:VK)(u:Value)(s':Shared):Prop :=
 ∃ v H',s'.os=s.os∧AllBare s'.gens∧Un (frs outer) [] H H' s.heap s'.heap∧HOk P w H' s'.heap∧bE v u∧Q v H'
def CR (CX:CXT)(outer:List Env)(P:Program)(w:World)(H:Hp)(s:Shared)(Q:VK)(E:XK)(r:Result)(s':Shared):Prop :=
 match r with
 | .ok (.ret u)=>CE outer P w H s Q u s'
 | .ok _=>False
 | .error e=>CX outer H s E e s'
structure qx (P:Program) (w:World) (K:PySem.W.Frag) (mg:Str→Option Value) (base:Heap) (CX:CXT) (k:Nat) (f:Addr) (fd:FuncData) (ps:List Str) (sp:Sp):Prop where
 len:∀ vs H Q E,sp vs H Q E→vs.length=ps.length
 run:∀ (A:Around) (outer:List Env) (s:Shared) (H:Hp) (args:Args) (us:List Value) (vs:List V) (Q:VK) (E:XK),gf k A→yM P w K mg base A outer s H→BindsTo s fd args (ps.zip us)→a8 vs us→sp vs H Q E →
  codeAny (model P w) A (.call (.ref f) args) (CR CX outer P w H s Q E) s
section
variable {X:Cx} {Hz:List (Addr × Obj)} {σ:St} {H:Hp} {s s':Shared}
theorem Inv.env0 (I:Inv X Hz σ H s):yM X.prog X.w X.K X.mg X.base X.A X.stack s H :=
 ⟨I.ok.frames,I.ok.mod,I.bs,Cr I.ok.bsz I.sz,I.stack,I.stkFree,I.hok,I.bare⟩
theorem Inv.after {Q:VK}{u:Value}(I:Inv X Hz σ H s)(h:CE X.stack X.prog X.w H s Q u s'):EP X Hz σ Q u s':=by
 obtain ⟨v,H',os,bare,un,hok,r,q⟩:=h
 obtain ⟨hh,g,d,t,os'⟩:=s'
 obtain rfl:os'=s.os:=os
 exact ⟨v,H',I.call (h':=hh) (g':=g) (d':=d) (t':=t) (ch:=[]) un hok bare (fun b z=>absurd z (by simp)),r,q⟩
end
def qI (sp:Sp)(dvs:List V)(E:XK)(Q:VK):List V→Hp→Prop:=fun vs H1=>sp (vs++dvs) H1 Q E
def wK (sp:Sp)(dvs:List V)(E:XK)(t:TA):TE:=fun σ H Q=>t σ H (qI sp dvs E Q)
def mi (K:PySem.W.Frag)(fd:FuncData)(ps:List Str)(ds:List Value):Prop :=
 ∀ (s:Shared) (us:List Value),K.In s.heap→(us++ds).length=ps.length→BindsTo s fd ⟨us,[]⟩ (ps.zip (us++ds))
theorem mi.all {K:PySem.W.Frag}{fd:FuncData}{ps:List Str}(h:∀ us:List Value,us.length=ps.length→bindArgs fd ⟨us,[]⟩=pure (ps.zip us)):mi K fd ps []:=fun s us _ hl=>by
 rw [CV] at hl ⊢
 exact .of_eq (h us hl)
def nA (CX:CXT)(X:Cx)(E:XK):Prop:=∀ (Hz:List (Addr × Obj)) (σ:St) (H:Hp) (s:Shared) (e:Value) (s':Shared),Inv X Hz σ H s→CX X.stack H s E e s'→X.xe e s'
section
variable {X:Cx} {CX:CXT} {k:Nat} {f C:Addr} {fd:FuncData} {ps:List Str} {sp:Sp} {dvs:List V} {ds:List Value} {E:XK} {x m:Str} {p pos apos:Pos} {e o:Expr} {es:List Expr} {ta:TE} {t:TA}
theorem wL {Hz:List (Addr × Obj)}{σ:St}{H:Hp}{s:Shared}{Q:VK}{us:List Value}{vs:List V}(F:qx X.prog X.w X.K X.mg X.base CX k f fd ps sp)(hr:gf k X.A)(hb:mi X.K fd ps ds)(hd:a8 dvs ds)(hx:nA CX X E)
  (I:Inv X Hz σ H s) (r:a8 vs us) (h:sp (vs++dvs) H Q E):wpAny (model X.prog X.w) X.A (call (.ref f) us) (EP X Hz σ Q) X.xe s:=by
 have r2:a8 (vs++dvs) (us++ds):=r.append hd
 have hl:(us++ds).length=ps.length:=by rw [← r2.length];exact F.len _ _ _ _ h
 refine wpAny_call (Fy (F.run X.A X.stack s H ⟨us,[]⟩ (us++ds) (vs++dvs) Q E hr I.env0 (hb s us I.kIn hl) r2 h) fun r s' hq=>?_)
 cases r with
 | error e=>exact hx Hz σ H s e s' I hq
 | ok fl =>
  cases fl with
  | ret u=>exact I.after hq
  | next=>exact False.elim hq
  | brk=>exact False.elim hq
  | cont=>exact False.elim hq
theorem uh (F:qx X.prog X.w X.K X.mg X.base CX k f fd ps sp)(hr:gf k X.A)(hg:Gl X x)(hm:X.mg x=some (.ref f))(hk:PySem.W.keepIn X.K (.ref f)=true)(hb:mi X.K fd ps ds)(hd:a8 dvs ds)(hx:nA CX X E)
  (ha:PA X (e::es) t) (hdb:(x == ("__debug__":Str))=false:=by decide) (he:starEach (e::es) X.env=(false,eval e X.env)::starEach es X.env:=by rfl) (hpl:(backTo pos (starEach es X.env)).any (·.1)=false:=by rfl) :
  PE X (.Call (.Name x p) (e::es) [] pos) (wK sp dvs E t):=by
 intro Hz s σ H Q I h
 refine Fz (m_ I hg hm ?_ hdb)
 refine PySem.W.callWith_K (h₀:=X.base) I.ok.mod.kin hk (thn (ha pos Hz s σ H _ I h) fun us s1 ⟨vs,H1,I1,r,q⟩=>⟨I1.kIn,?_⟩) he hpl
 exact wL F hr hb hd hx I1 r q
end
section
variable {X:Cx} {CX:CXT} {k:Nat} {f C:Addr} {fd:FuncData} {ps ks:List Str} {sp:Sp} {E:XK} {x m:Str} {p pos apos kpos:Pos} {e o:Expr} {es:List Expr} {kws:List Keyword} {te ta:TE} {t tk:TA} {nm:Option Str}
variable {g:List Value→List Value→List Value} {gV:List V→List V→List V}
end
structure aJ (N P:List Str) (sc:Scope):Prop where
 kind:sc.kind = .function
 co:sc.isCoroutine=false
 gen:sc.isGenerator=false
 nd:N.Nodup
 pre:N.take P.length=P
 par:∀ x∈P,sc.names.lookup x=some .local ∨ sc.names.lookup x=some .cell
 nofree:∀ y∈sc.names,y.2 ≠ .free
theorem iW {kindOf:Str→Option NameKind}{x:Str}:∀ {binds:List (Str × Value)} {m:Str→Option Value},(∀ v,(x,v)∉binds)→bindL kindOf binds m x=m x
 | [],_,_=>rfl
 | (n,v)::r,m,h=>by
  unfold bindL
  rw [iW fun w hw=>h w (Bw _ hw)]
  split
  ·have:x≠n:=by rintro rfl;exact h v BC
   simp [this]
  ·rfl
theorem iX {kindOf:Str→Option NameKind}{x:Str}:∀ {binds:List (Str × Value)} {m:Str→Option Value},(∀ v,(x,v)∉binds)→bindC kindOf binds m x=m x
 | [],_,_=>rfl
 | (n,v)::r,m,h=>by
  unfold bindC
  rw [iX fun w hw=>h w (Bw _ hw)]
  split
  ·rfl
  ·have:x≠n:=by rintro rfl;exact h v BC
   simp [this]
theorem iY {kindOf:Str→Option NameKind}{x:Str}{v:Value}:∀ {P:List Str} {vs:List Value} {i:Nat} {m:Str→Option Value},P.Nodup→P[i]? = some x→vs[i]? = some v→kindOf x=some .local →
  bindL kindOf (P.zip vs) m x=some v
 | [],_,_,_,_,h,_,_=>by simp at h
 | _::_,[],_,_,_,_,h,_=>by simp at h
 | p::P,w::vs,0,m,nd,h1,h2,hk=>by
  simp at h1 h2;subst h1;subst h2
  show bindL kindOf ((p,w)::P.zip vs) m p=_
  unfold bindL
  rw [iW fun v hv=>(B7.mp nd).1 (GH hv).1,if_pos hk]
  simp
 | p::P,w::vs,i+1,m,nd,h1,h2,hk=>by
  show bindL kindOf ((p,w)::P.zip vs) m x=_
  unfold bindL
  exact iY (i:=i) (B7.mp nd).2 (by simpa using h1) (by simpa using h2) hk
theorem iZ {kindOf:Str→Option NameKind}{x:Str}{v:Value}:∀ {P:List Str} {vs:List Value} {i:Nat} {m:Str→Option Value},P.Nodup→P[i]? = some x→vs[i]? = some v→kindOf x≠some .local →
  bindC kindOf (P.zip vs) m x=some v
 | [],_,_,_,_,h,_,_=>by simp at h
 | _::_,[],_,_,_,_,h,_=>by simp at h
 | p::P,w::vs,0,m,nd,h1,h2,hk=>by
  simp at h1 h2;subst h1;subst h2
  show bindC kindOf ((p,w)::P.zip vs) m p=_
  unfold bindC
  rw [iX fun v hv=>(B7.mp nd).1 (GH hv).1,if_neg hk]
  simp
 | p::P,w::vs,i+1,m,nd,h1,h2,hk=>by
  show bindC kindOf ((p,w)::P.zip vs) m x=_
  unfold bindC
  exact iZ (i:=i) (B7.mp nd).2 (by simpa using h1) (by simpa using h2) hk
def start (N:List Str)(vs:List V):St:=vs.map some++List.replicate (N.length - vs.length) none
def uk (CX:CXT)(P:Program)(w:World)(K:PySem.W.Frag)(mg:Str→Option Value)(base:Heap)(N:List Str)(qual:Str)(scope:Scope)(f:Addr)(cd:Value)(A:Around)(outer:List Env)(s:Shared)(H:Hp)(E:XK):Cx where
 prog:=P
 w:=w
 K:=K
 mg:=mg
 base:=base
 A:=A.deeper (envOfC qual scope s.heap.objs.size f cd)
 N:=N
 s₀:=s
 H₀:=H
 env:=envOfC qual scope s.heap.objs.size f cd
 outer:=outer
 stack:=envOfC qual scope s.heap.objs.size f cd::outer
 ex:=[]
 calm:=true
 fn:=fun _=>true
 pn:=[]
 xe:=fun e s'=>wpAny (model P w) (A.deeper (envOfC qual scope s.heap.objs.size f cd)) (leaving (envOfC qual scope s.heap.objs.size f cd) e) (fun _ s''=>CX outer H s E e s'') (fun e' s''=>CX outer H s E e' s'') s'
theorem kF {sc:Scope}{n:Nat}{x:Str}(h:sc.names.lookup x=some .cell):∃ c,(cellsFrom n sc.names []).lookup x=some c:=by
 have q:=GE sc.names n [] (.inl h)
 exact Option.isSome_iff_exists.mp q
theorem nC {CX:CXT}{P:Program}{w:World}{K:PySem.W.Frag}{mg:Str→Option Value}{base:Heap}{N ps:List Str}{qual:Str}{scope:Scope}{f:Addr}{cd:Value}{A:Around}{outer:List Env}{s s1:Shared}{H:Hp}{E:XK}{us:List Value}{vs:List V}
  (S:aJ N ps scope) (hd:A.handled=none) (e0:yM P w K mg base A outer s H) (hl:vs.length=ps.length) (r:a8 vs us)
  (x:InCallC s s.heap.objs.size (bindL (envOfC qual scope s.heap.objs.size f cd).kindOf (ps.zip us) fun _=>none) (cellsFrom (s.heap.objs.size+1) scope.names []) (bindC (envOfC qual scope s.heap.objs.size f cd).kindOf (ps.zip us) fun _=>none) s1) :
  Inv (uk CX P w K mg base N qual scope f cd A outer s H E) [] (start N vs) H s1:=by
 have hpl:ps.length≤N.length:=by have:=BP List.length S.pre;rw [BL] at this;omega
 obtain ⟨h1,tk,rfl,hk⟩:=x.done
 have noA:∀ b:Addr,b∉(uk CX P w K mg base N qual scope f cd A outer s H E).ex:=fun b z=>absurd (show b∈([]:List Addr) from z) (by simp)
 refine ⟨⟨e0.mod,S.kind,rfl,rfl,BB _,fun y z c h1 h2=>?_,fun y hy=>?_,fun y c _ h=>?_,fun _=>hd,Around.frames_deeper e0.frames,.inr ⟨rfl,rfl⟩,fun b z=>absurd z (noA b),e0.bs,e0.bsz,fun b _ _=>noA b,fun b z=>absurd z (noA b),e0.funs,e0.frf⟩,
  rfl,e0.bare,Un.kept hk,⟨_,x.toInCall.ns,fun i y v h1 h2 h3=>?_⟩,fun y c h=>⟨_,x.cell y c h⟩,e0.hok.fresh (BB _),fun y c h=>?_,fun p hp=>absurd (show p∈([]:List (Addr × Obj)) from hp) (by simp),e0.hok.kept hk,?_⟩
 ·exact name_of_addr x.apart (Dj h1) (Dj h2)
 ·have hy:scope.names.lookup y=some .cell ∨ scope.names.lookup y=some .free:=hy
  rcases hy with hy | hy
  ·exact kF hy
  ·exact absurd rfl (S.nofree _ (Dj hy))
 ·exact D0 (x.above y c (Dj h))
 ·have hi:i < vs.length:=by
   unfold start at h2
   by_cases hi:i < vs.length
   ·exact hi
   ·rw [BY (by simpa using hi)] at h2
    rw [List.getElem?_replicate] at h2
    split at h2 <;> cases h2
  have ha:vs[i]? = some v:=by
   unfold start at h2
   rw [B9 (by simpa using hi),BH] at h2
   cases e:vs[i]? with
   | none=>rw [e] at h2;cases h2
   | some a=>rw [e] at h2;cases h2;rfl
  obtain ⟨u,hu,rv⟩:=r.get ha
  have hp:ps[i]? = some y:=by
   rw [← S.pre,CK (by omega)];exact h1
  have ndP:ps.Nodup:=by rw [← S.pre];exact S.nd.sublist (List.take_sublist _ _)
  refine ⟨u,rv,?_⟩
  rcases S.par y (BQ hp) with k | k
  ·exact .inl ⟨k,iY ndP hp hu k⟩
  ·obtain ⟨c,e⟩:=kF (n:=s.heap.objs.size+1) k
   refine .inr ⟨.inl k,c,e,?_⟩
   have q:=x.cell y c e
   rw [iZ ndP hp hu (by show scope.names.lookup y≠_;rw [k];decide)] at q
   exact q
 ·exact e0.hok.fresh (D0 (x.above y c (Dj h)))
 ·unfold start
  show _=N.length
  rw [Bq,Bo,List.length_replicate]
  omega
theorem y9 {CX:CXT}{P:Program}{w:World}{K:PySem.W.Frag}{mg:Str→Option Value}{base:Heap}{k:Nat}{f:Addr}{name qual:Str}{params:Arguments}{body:List Stmt}{scope:Scope}{dV kV doc pm HM ct oc:Value}{an od:Option Addr}
  {osl:Array (Option Value)} {N ps:List Str} {sp:Sp} (lk:K.lookup f=some ⟨oc,od,.func (PySem.W.fnOf name qual params body scope dV kV doc pm an HM ct),osl⟩) (hcd:PySem.W.codeIn K HM qual=true) (S:aJ N ps scope)
  (len:∀ vs H Q E,sp vs H Q E→vs.length=ps.length)
  (hbody:∀ (A:Around) (outer:List Env) (s:Shared) (H:Hp) (vs:List V) (Q:VK) (E:XK),gf k (A.deeper (envOfC qual scope s.heap.objs.size f HM))→sp vs H Q E →
   ∃ t,PSs (uk CX P w K mg base N qual scope f HM A outer s H E) body t∧t { nx:=fun _ H'=>Q .non H',rt:=Q } (start N vs) H) :
  qx P w K mg base CX (k+1) f (PySem.W.fnOf name qual params body scope dV kV doc pm an HM ct) ps sp:=by
 refine ⟨len,fun A outer s H args us vs Q E hr e0 hb r hsp=>?_⟩
 have hl:=len _ _ _ _ hsp
 have KX:K.In s.heap:=e0.mod.kin.keeps fun b o e=>(e0.bs b o e).1
 have lim:s.heap.NoLimit:=e0.mod.nolimit.keeps fun b o e=>(e0.bs b o e).1
 have hkind:∀ y∈ps.zip us,scope.names.lookup y.1=some .local ∨ (scope.names.lookup y.1=some .cell∧((cellsFrom (s.heap.objs.size+1) scope.names []).lookup y.1).isSome=true):=fun ⟨n,v⟩ hy=>by
  rcases S.par n (GH hy).1 with q | q
  ·exact .inl q
  ·exact .inr ⟨q,GE _ _ _ (.inl q)⟩
 refine codeAny_call_function hr.depth (KX _ _ lk) rfl S.co S.gen rfl (PySem.W.codeRec_of KX hcd) (hb _ _ _ _ ?_)
 refine wpAny_newFunctionEnv_cells S.kind hkind fun env he s1 x=>?_
 subst he
 refine ⟨lim.keeps x.toInCall.keep,codeAny_func ?_⟩
 obtain ⟨t,ht,hq⟩:=hbody A outer s H vs Q E (hr.deeper _) hsp
 have I:Inv (uk CX P w K mg base N qual scope f HM A outer s H E) [] (start N vs) H s1:=nC S hr.hd e0 hl r x
 refine Dh (ht [] s1 (start N vs) H _ I hq) (fun fl s' hs=>?_) fun e s' hs=>hs
 have fin:∀ {σ':St} {H':Hp} {v:V} {u:Value},Inv (uk CX P w K mg base N qual scope f HM A outer s H E) [] σ' H' s'→bE v u→Q v H'→CE outer P w H s Q u s' :=
  fun {σ' H' v u} J rv q=>⟨v,H',J.os,J.bare,J.base,J.hok,rv,q⟩
 cases fl with
 | ret u =>
  obtain ⟨v,σ',H',J,rv,q⟩:=hs
  exact fin J rv q
 | next =>
  obtain ⟨σ',H',J,q⟩:=hs
  exact fin (v:=V.non) (u:=Value.none) J rfl q
 | brk =>
  obtain ⟨_,_,_,q⟩:=hs
  exact False.elim q
 | cont =>
  obtain ⟨_,_,_,q⟩:=hs
  exact False.elim q
section
variable {X:Cx} {x:Str} {p pos:Pos} {e:Expr} {es:List Expr} {t:TA} {id T:String} {r:List V→Hp→VK→Prop}
def wM (r:List V→Hp→VK→Prop)(Q:VK):List V→Hp→Prop:=fun vs H1=>r vs H1 Q
def tCB (r:List V→Hp→VK→Prop)(t:TA):TE:=fun σ H Q=>t σ H (wM r Q)
theorem aD (hc:dE X (.builtin id) r)(hg:Gl X x)(hm:X.mg x=none)(hv:bootBuiltins x=some (.builtin id))(ha:PA X (e::es) t)(hn:x ≠ "__name__":=by decide)(hdb:(x == ("__debug__":Str))=false:=by decide)
  (he:starEach (e::es) X.env=(false,eval e X.env)::starEach es X.env:=by rfl) (hpl:(backTo pos (starEach es X.env)).any (·.1)=false:=by rfl):PE X (.Call (.Name x p) (e::es) [] pos) (tCB r t):=by
 intro Hz s σ H Q I h
 refine Fz (iR I hg hm hv ?_ hn hdb)
 exact PyProof.Rows.callWith_builtin1 (thn (ha pos Hz s σ H _ I h) fun us s1 zq60=>(by obtain ⟨vs,H1,I1,r1,q1⟩:=zq60;exact hc Hz s1 σ H1 vs us Q I1 r1 q1)) he hpl
theorem cu (hc:dE X (.type T) r)(hg:Gl X x)(hm:X.mg x=none)(hv:bootBuiltins x=some (.type T))(ha:PA X (e::es) t)(hn:x ≠ "__name__":=by decide)(hdb:(x == ("__debug__":Str))=false:=by decide)
  (he:starEach (e::es) X.env=(false,eval e X.env)::starEach es X.env:=by rfl) (hpl:(backTo pos (starEach es X.env)).any (·.1)=false:=by rfl):PE X (.Call (.Name x p) (e::es) [] pos) (tCB r t):=by
 intro Hz s σ H Q I h
 refine Fz (iR I hg hm hv ?_ hn hdb)
 exact DC (thn (ha pos Hz s σ H _ I h) fun us s1 zq61=>(by obtain ⟨vs,H1,I1,r1,q1⟩:=zq61;exact hc Hz s1 σ H1 vs us Q I1 r1 q1)) he hpl
end
end L2
namespace HT
open PySem PyProof.Rows
def bR:List Int→List Int→Bool
 | [],[]=>false
 | [],_::_=>true
 | _::_,[]=>false
 | x::xs,y::ys=>if x=y then bR xs ys else decide (x < y)
theorem bU (x y:Int)(xs ys:List Int):bR (x::xs) (y::ys)=if x=y then bR xs ys else decide (x < y):=rfl
theorem cF:bR [] []=false:=rfl
theorem c8 (y:Int)(ys:List Int):bR [] (y::ys)=true:=rfl
theorem c9 (x:Int)(xs:List Int):bR (x::xs) []=false:=rfl
theorem kG (A:Around)(s:Shared)(a:Int)(t:Tok)(c:Int)(u:Tok):∃ e,SeqAt.EqAt A s (.int a t) (.int c u) e∧(e=true ↔ a=c) :=
 ⟨(a == c),SeqAt.EqAt.int_int a t c u,by simp⟩
theorem qJ (A:Around)(s:Shared)(a:Int)(t:Tok)(c:Int)(u:Tok)(prog:Program)(w:World)(E:Value→Shared→Prop)(Q:Value→Shared→Prop)(h:Q (.bool (decide (a < c))) s) :
  wpAny (model prog w) A (richCompare .Lt (.int a t) (.int c u)) Q E s :=
 (PyProof.Rows.lt_int h:wpAny (model prog w) A (compareOp .Lt (.int a t) (.int c u)) Q E s)
section
open PySem.SeqAt
open PySem.AutoSeq1 (wpAny_loadPart')
open PySem.MeetsSeq PySem.MeetsSeq2 PySem.MeetsSeq3
theorem gM (l b:Addr)(items HJ:Array Value)(n n2:Nat)(dd dd2:Option Addr)(sl sl2:Array (Option Value))(ns ms:List Int)(hi:IntsAre items.toList ns)(hj:IntsAre HJ.toList ms) :
  Meets (Builtin.«tuple.__lt__» ⟨[.ref l,.ref b],[]⟩)
   (fun _ R s=>s.heap.get? l=some { cls:=.type "tuple",dict:=dd,data:=.seq items n,slots:=sl }∧s.heap.get? b=some { cls:=.type "tuple",dict:=dd2,data:=.seq HJ n2,slots:=sl2 } ∧
    R (.ok (.ret (.bool (bR ns ms)))) s) :=
 .of_wp fun prog w A R s h=>by
  obtain ⟨hp,g,d,tk,os⟩:=s;obtain ⟨hl,hb,h⟩:=h
  have f2:=FS
  have z1:items.size=ns.length:=by rw [← hi.length];simp
  have z2:HJ.size=ms.length:=by rw [← hj.length];simp
  wp_walk using wpAny_loadPart' hl,wpAny_loadPart' hb,wpAny_forIn_list _ (fun rest b s'=>b.1=none∧s'=⟨hp,g,d,tk,os⟩∧∃ (vs ws:List Value) (ns' ms':List Int),rest=vs.zip ws ∧
   IntsAre vs ns'∧IntsAre ws ms'∧ns'.length+HJ.size=ms'.length+items.size∧R (.ok (.ret (.bool (bR ns' ms')))) ⟨hp,g,d,tk,os⟩) _
  case turn =>
   rintro ⟨y,x⟩ rest b s' ⟨hb',rfl,vs,ws,ns',ms',hz,hvi,hwi,hlen,hR⟩
   cases hvi with
   | nil=>rw [List.zip_nil_left] at hz;cases hz
   | cons a t hvi' =>
    cases hwi with
    | nil=>rw [List.zip_nil_right] at hz;cases hz
    | cons c u hwi' =>
     rw [Ds] at hz
     injection hz with hyx hrest
     injection hyx with hy hx
     subst hy hx
     rw [bU] at hR
     simp only [Cn] at hlen
     obtain ⟨e,he,hiff⟩:=kG A.in1 ⟨hp,g,d,tk,os⟩ a t c u
     refine Bp (he prog w _ _ ?_)
     cases e with
     | true =>
      rw [if_pos (hiff.mp rfl)] at hR
      wp_walk
      exact ⟨rfl,rfl,_,_,_,_,hrest,hvi',hwi',by omega,hR⟩
     | false =>
      rw [if_neg (fun q=>absurd (hiff.mpr q) Ca)] at hR
      have hri:=qJ A.in1 ⟨hp,g,d,tk,os⟩ a t c u prog w
      wp_walk using hri
      exact ⟨_,rfl,by simpa using hR⟩
  case fin =>
   rintro ⟨b1,b2⟩ s' ⟨hb',rfl,vs,ws,ns',ms',hz,hvi,hwi,hlen,hR⟩
   simp only at hb'
   subst hb'
   have hv:bR ns' ms'=decide (items.size < HJ.size):=by
    cases hvi with
    | nil =>
     cases hwi with
     | nil =>
      simp only [C_] at hlen
      rw [cF]
      exact (Bs (by omega)).symm
     | cons c u hw =>
      simp only [C_,Cn] at hlen
      rw [c8]
      exact (BD (by omega)).symm
    | cons a t hv =>
     cases hwi with
     | nil =>
      simp only [C_,Cn] at hlen
      rw [c9]
      exact (Bs (by omega)).symm
     | cons c u hw =>
      rw [Ds] at hz
      cases hz
   rw [hv] at hR
   wp_walk
   exact ⟨_,rfl,by simpa [Builtin.Tuple.tupleCompareSizes] using hR⟩
  case h =>
   exact ⟨rfl,rfl,items.toList,HJ.toList,ns,ms,rfl,hi,hj,by omega,h⟩
end
section
variable {prog:Program} {w:World} {A:Around} {E:Value→Shared→Prop} {s:Shared}
theorem gg {l b:Addr}{items HJ:Array Value}{ns ms:List Int}{Q:Value→Shared→Prop}(hl:IsTup s.heap l items)(hb:IsTup s.heap b HJ)(hi:IntsAre items.toList ns)(hj:IntsAre HJ.toList ms)
  (hu:A.units < cLine) (h:Q (.bool (bR ns ms)) s):wpAny (model prog w) A (compareOp .Lt (.ref l) (.ref b)) Q E s:=by
 obtain ⟨⟨cls,dd,data,sl⟩,ho,hc,n,hd⟩:=id hl
 obtain ⟨⟨cls2,dd2,data2,sl2⟩,ho2,hc2,n2,hd2⟩:=id hb
 simp only at hc hd hc2 hd2
 subst hc hd hc2 hd2
 exact richCompare_meets_room (op:=.Lt) ⟨_,ho,rfl⟩ ⟨_,ho2,rfl⟩ PySem.F.slot_tuple_lt PySem.F.entry_tuple_lt (PySem.F.args_tuple_lt_2 _ _) (gM l b items HJ n n2 dd dd2 sl sl2 ns ms hi hj)
  ⟨ho,ho2,show Value.bool (bR ns ms)≠Value.notImplemented∧Q (.bool (bR ns ms)) s from ⟨(fun x=>nomatch x),h⟩⟩ hu
def sIx (n d:Nat):Option Int→Nat
 | none=>d
 | some v=>if v < 0 then (v+(n:Int)).toNat else min v.toNat n
theorem gN (n d:Nat):sIx n d none=d:=rfl
theorem gO (n d k:Nat):sIx n d (some (k:Int))=min k n:=by
 show (if (k:Int) < 0 then ((k:Int)+(n:Int)).toNat else min (k:Int).toNat n)=min k n
 rw [if_neg (by omega),Ce]
theorem nD (n d:Nat)(hd:d≤n)(o:Option Int):sIx n d o≤n:=by
 cases o with
 | none=>exact hd
 | some v =>
  show (if v < 0 then (v+(n:Int)).toNat else min v.toNat n)≤n
  by_cases hv:v < 0
  ·rw [if_pos hv];omega
  ·rw [if_neg hv];exact Nat.min_le_right _ _
theorem nE (v:Int)(n d:Nat):(if v < 0 then max (v+(n:Int)) 0 else min v (n:Int))=((sIx n d (some v):Nat):Int):=by
 show (if v < 0 then max (v+(n:Int)) 0 else min v (n:Int))=(((if v < 0 then (v+(n:Int)).toNat else min v.toNat n):Nat):Int)
 by_cases hv:v < 0
 ·simp only [if_pos hv];omega
 ·simp only [if_neg hv];omega
theorem mj (lo hi:Option Int)(n:Nat):Builtin.Slice.sliceAdjust lo hi 1 (n:Int)=(((sIx n 0 lo:Nat):Int),((sIx n n hi:Nat):Int)):=by
 have h1:¬ ((1:Int) < 0):=by omega
 unfold Builtin.Slice.sliceAdjust
 simp only [h1,CU]
 refine CY ?_ ?_
 ·cases lo with
  | none=>rfl
  | some v=>exact nE v n 0
 ·cases hi with
  | none=>rfl
  | some v=>exact nE v n n
theorem ml (i j:Nat):Builtin.Slice.slicePlaces (i:Int) (j:Int) 1=j - i:=by
 unfold Builtin.Slice.slicePlaces
 have h1:(1:Int) > 0:=by omega
 simp only [h1,DH,Int.ediv_one]
 split <;> omega
theorem gh {v:Value}{o:Option Int}{Q:Option Int→Shared→Prop}(p:IsPart v o)(h:Q o s):wpAny (model prog w) A (Builtin.Slice.slicePartIndex v) Q E s:=by
 cases p with
 | none=>exact slicePart_none h
 | int i t=>exact slicePart_int h
theorem cN {sl:Addr}{vl vu:Value}{lo hi:Option Int}{n:Nat}{Q:Int × Int × Nat→Shared→Prop}(hs:s.heap.IsSliceOf sl vl vu .none)(pl:IsPart vl lo)(pu:IsPart vu hi)
  (h:Q (((sIx n 0 lo:Nat):Int),1,sIx n n hi - sIx n 0 lo) s):wpAny (model prog w) A (Builtin.Slice.sliceApplied (.ref sl) (pure (n:Int))) Q E s:=by
 obtain ⟨os,hos,hcs,hds⟩:=id hs
 unfold Builtin.Slice.sliceApplied Builtin.Slice.sliceFields
 refine Bp (Bp (Es hos hds (x:=vl) rfl (Bp (Es hos hds (x:=vu) rfl (Bp (Es hos hds (x:=.none) rfl (Br ?_)))))))
 refine Bp (slicePart_none ?_)
 show wpAny _ _ (if ((1:Int) == 0)=true then _ else _) _ _ s
 rw [if_neg (by decide)]
 refine Bp (gh pl (Bp (gh pu (Bp (Br ?_)))))
 show wpAny _ _ (match Builtin.Slice.sliceAdjust lo hi 1 (n:Int) with | (lo,hi)=>pure (lo,(1:Int),Builtin.Slice.slicePlaces lo hi 1)) _ _ s
 rw [mj lo hi n]
 show wpAny _ _ (pure (((sIx n 0 lo:Nat):Int),(1:Int),Builtin.Slice.slicePlaces ((sIx n 0 lo:Nat):Int) ((sIx n n hi:Nat):Int) 1)) _ _ s
 rw [ml]
 exact Br h
theorem qK (xs:Array Value)(i k:Nat):((List.range k).filterMap fun (m:Nat)=>xs[((i:Int)+(m:Int)*1).toNat]?).toArray=((xs.toList.drop i).take k).toArray:=by
 have e:(fun (m:Nat)=>xs[((i:Int)+(m:Int)*1).toNat]?)=fun m=>xs[i+m]?:=by
  funext m
  have:((i:Int)+(m:Int)*1).toNat=i+m:=by omega
  rw [this]
 rw [e]
 have:=pick_run xs i k
 rw [List.filterMap_map] at this
 have e2:((fun x=>xs[x]?) ∘ fun x=>i+x)=fun m=>xs[i+m]?:=rfl
 rw [e2] at this
 rw [this]
theorem d9 {t sl:Addr}{items:Array Value}{vl vu:Value}{lo hi:Option Int}{Q:Value→Shared→Prop}(ht:IsTup s.heap t items)(hs:s.heap.IsSliceOf sl vl vu .none)(pl:IsPart vl lo)(pu:IsPart vu hi)
  (hw:¬ (sIx items.size 0 lo=0∧sIx items.size items.size hi=items.size))
  (h:Q (.ref s.heap.objs.size) { s with heap:=s.heap.push { cls:=.type "tuple",data:=.seq ((items.toList.drop (sIx items.size 0 lo)).take (sIx items.size items.size hi - sIx items.size 0 lo)).toArray } })
  (hsz:items.size≤sizeLine):wpAny (model prog w) A (getItem (.ref t) (.ref sl)) Q E s:=by
 have htake:sizeOk (.seq ((items.toList.drop (sIx items.size 0 lo)).take (sIx items.size items.size hi - sIx items.size 0 lo)).toArray):=by
  show ((items.toList.drop (sIx items.size 0 lo)).take (sIx items.size items.size hi - sIx items.size 0 lo)).toArray.size≤sizeLine
  rw [BM,BL,Cq,Bx]
  omega
 have hj:sIx items.size items.size hi≤items.size:=nD _ _ (BB _) hi
 obtain ⟨os,hos,hcs,hds⟩:=id hs
 have hTs:s.TypeIs (.ref sl) "slice":=⟨os,hos,hcs⟩
 unfold getItem
 try with_reducible refine Cw ?_
 first | refine Bp (Br ?_) | skip
 refine Bp (wpAny_sequenceKey ht.typeIs (by decide) ?_)
 refine Bp (Da (name:=Str.ofString "__getitem__") ht.typeIs Dk
  (CI Dk ht.typeIs entry_tuple_getitem ?_ (args_tuple_getitem _ _)))
 show wpAny _ _ (Builtin.Tuple.tupleItemsOf (.ref t) >>= _) _ _ s
 refine Bp (tupleItemsOf_ ht ?_)
 refine Bp (FB hTs ?_)
 rw [if_pos (by decide)]
 refine Bp (cN hs pl pu ?_)
 have hno:¬ ((((sIx items.size 0 lo:Nat):Int) == 0 && (1:Int) == 1 && (sIx items.size items.size hi - sIx items.size 0 lo) == items.size)=true):=by
  intro q
  rw [BZ,BZ] at q
  have q1:((sIx items.size 0 lo:Nat):Int)=0:=eq_of_beq q.1.1
  have q2:sIx items.size items.size hi - sIx items.size 0 lo=items.size:=eq_of_beq q.2
  exact hw ⟨by omega,by omega⟩
 show wpAny _ _ (if (((sIx items.size 0 lo:Nat):Int) == 0 && (1:Int) == 1 && (sIx items.size items.size hi - sIx items.size 0 lo) == items.size)=true then _ else _) _ _ s
 rw [if_neg hno,qK]
 first
  | exact Bp (m:=Builtin.Tuple.tupleExact _) (DB (Br ⟨_,rfl,Br h⟩) htake)
  | exact Bp (m:=Builtin.Tuple.tupleExact _) (DB (Bp (Br (Br ⟨_,rfl,Br h⟩))) htake)
  | exact Bp (Bp (m:=Builtin.Tuple.tupleExact _) (DB (Br (Br ⟨_,rfl,Br h⟩)) htake))
  | exact Bp (Bp (m:=Builtin.Tuple.tupleExact _) (DB (Br ⟨_,rfl,Br h⟩) htake))
end
end HT
namespace L2
open PySem PySem.Spec PyProof.Rows
abbrev TO:=St→Hp→(Option Int→Hp→Prop)→Prop
def PO (X:Cx)(e:Option Expr)(t:TO):Prop :=
 ∀ (Hz:List (Addr × Obj)) (s:Shared) (σ:St) (H:Hp) (Q:Option Int→Hp→Prop),Inv X Hz σ H s→t σ H Q →
  wpAny (model X.prog X.w) X.A (evalPart e X.env) (fun u s'=>∃ o H',Inv X Hz σ H' s'∧IsPart u o∧Q o H') X.xe s
def um:TO:=fun _ H Q=>Q none H
inductive IsI (x:V)(H:Hp)(Q:Option Int→Hp→Prop):Prop
 | mk:∀ i,(x = .int i)→(Q (some i) H)→IsI x H Q
def qL (Q:(Option Int→Hp→Prop)):V→Hp→Prop:=fun x H1=>IsI x H1 Q
def y_ (t:TE):TO:=fun σ H Q=>t σ H (qL Q)
theorem c4 {ns:List Int}:∀ {us:List Value},a8 (ns.map V.int) us→IntsAre us ns:=by
 induction ns with
 | nil=>intro us r;rw [FC] at r;cases r;exact .nil
 | cons n ns ih =>
  intro us r
  rw [Cd] at r
  cases r with
  | cons r1 r2 =>
   obtain ⟨t,e⟩:=r1
   subst e
   exact .cons n t (ih r2)
section
variable {X:Cx} {e:Expr} {te:TE} {lo hi:Option Expr} {tl th:TO} {pos p2:Pos}
theorem bx:PO X none um:=by
 intro Hz s σ H Q I h
 rw [evalPart_none]
 exact Br ⟨none,H,I,.none,h⟩
theorem br (h:PE X e te):PO X (some e) (y_ te):=by
 intro Hz s σ H Q I hw
 rw [evalPart_some]
 refine thn (h Hz s σ H _ I hw) fun u s1 zq62=>?_
 obtain ⟨x,H1,I1,r1,q1⟩:=zq62
 obtain ⟨i,rfl,q⟩:=q1
 obtain ⟨t,rfl⟩:=r1
 exact ⟨some i,H1,I1,.int i t,q⟩
def SlR (X:Cx)(r:V→Option Int→Option Int→Hp→VK→Prop):Prop :=
 ∀ (Hz:List (Addr × Obj)) (s:Shared) (σ:St) (H:Hp) (x:V) (v vl vu:Value) (lo hi:Option Int) (sl:Addr) (Q:VK),Inv X Hz σ H s→bE x v→s.heap.IsSliceOf sl vl vu .none→IsPart vl lo→IsPart vu hi→r x lo hi H Q →
  ∃ T id,typeLookup (.type T) "__getitem__" = pure (some (.builtin id))∧s.TypeIs v T∧wpAny (model X.prog X.w) X.A (getItem v (.ref sl)) (EP X Hz σ Q) X.xe s
def wN (r:V→Option Int→Option Int→Hp→VK→Prop)(Q:VK)(x:V)(l:Option Int):Option Int→Hp→Prop:=fun u H3=>r x l u H3 Q
def wO (r:V→Option Int→Option Int→Hp→VK→Prop)(th:TO)(σ:St)(Q:VK)(x:V):Option Int→Hp→Prop:=fun l H2=>th σ H2 (wN r Q x l)
def wQ (r:V→Option Int→Option Int→Hp→VK→Prop)(tl:TO)(th:TO)(σ:St)(Q:VK):V→Hp→Prop:=fun x H1=>tl σ H1 (wO r th σ Q x)
def tSl (r:V→Option Int→Option Int→Hp→VK→Prop)(te:TE)(tl th:TO):TE:=fun σ H Q=>te σ H (wQ r tl th σ Q)
theorem aW {r:V→Option Int→Option Int→Hp→VK→Prop}(hr:SlR X r)(he:PE X e te)(hl:PO X lo tl)(hu:PO X hi th):PE X (.Subscript e (.Slice lo hi none p2) pos) (tSl r te tl th):=by
 intro Hz s σ H Q I h
 refine GT (thn (he Hz s σ H _ I h) fun v s1 zq63=>?_)
 obtain ⟨x,H1,I1,r1,q1⟩:=zq63
 refine wpAny_Slice (thn (hl Hz s1 σ H1 _ I1 q1) fun vl s2 ⟨l,H2,I2,pl,q2⟩=>thn (hu Hz s2 σ H2 _ I2 q2) fun vu s3 zq64=>?_)
 obtain ⟨u,H3,I3,pu,q3⟩:=zq64
 rw [evalPart_none]
 refine Br ?_
 have I4:Inv X Hz σ H3 { s3 with heap:=s3.heap.push { cls:=.type "slice",data:=.fields #[vl,vu,.none] } }:=I3.kept (t':=s3.toks) fun b ob q=>Bz _ q
 obtain ⟨T,id,hT,ht,hg⟩:=hr Hz { s3 with heap:=s3.heap.push { cls:=.type "slice",data:=.fields #[vl,vu,.none] } } σ H3 x v vl vu l u s3.heap.objs.size Q I4 r1 (Heap.IsSliceOf.new ..) pl pu q3
 show wpAny (model X.prog X.w) X.A (subscriptTail e (.Slice lo hi none p2) v (.ref s3.heap.objs.size)) (EP X Hz σ Q) X.xe { s3 with heap:=s3.heap.push { cls:=.type "slice",data:=.fields #[vl,vu,.none] } }
 exact tail_any (ops:=[.ref s3.heap.objs.size,v]) ht hT hg (by with_unfolding_all rfl)
def eZ (xs:List V)(lo hi:Option Int):List V:=(xs.drop (HT.sIx xs.length 0 lo)).take (HT.sIx xs.length xs.length hi - HT.sIx xs.length 0 lo)
theorem fm (xs:List V)(lo hi:Option Int):(eZ xs lo hi).length≤xs.length:=by
 unfold eZ
 rw [BL,Cq]
 omega
inductive AA (K:PySem.W.Frag)(x:V)(lo:Option Int)(hi:Option Int)(H:Hp)(Q:VK):Prop
 | mk:∀ a xs,(x = .ref a)→(SqT K H a xs)→(¬ (HT.sIx xs.length 0 lo=0∧HT.sIx xs.length xs.length hi=xs.length))→(∀ p,H p=none→Q (.ref p) (upd H p (.tup (eZ xs lo hi))))→AA K x lo hi H Q
theorem wR:SlR X (AA X.K):=by
 intro Hz s σ H x v vl vu lo hi sl Q I rx hs pl pu h
 obtain ⟨a,xs,rfl,hx,hw,q⟩:=h
 cases rx
 obtain ⟨HE,r,ht,hz⟩:=I.tuple hx
 have hlen:HE.toArray.size=xs.length:=by rw [BM];exact r.length.symm
 refine ⟨"tuple",_,Dk.lookup,ht.typeIs,?_⟩
 refine HT.d9 ht hs pl pu (by rw [hlen];exact hw) ?_ (by rw [hlen];exact hz)
 rw [hlen]
 refine ⟨.ref s.heap.objs.size,_,I.laid (t':=s.toks) (o:=.tup (eZ xs lo hi)) (fun b ob q=>Bz _ q) (BB _) ?_,rfl,q _ (I.hok.fresh (BB _))⟩
 exact ⟨Cr (fm xs lo hi) hz,_,(r.drop (HT.sIx xs.length 0 lo)).take (HT.sIx xs.length xs.length hi - HT.sIx xs.length 0 lo),IsTup.new _ _,.new _ _ rfl⟩
inductive zc (K:PySem.W.Frag)(x:V)(y:V)(H:Hp)(Q:VK):Prop
 | mk:∀ a b ns ms,(x = .ref a)→(y = .ref b)→(SqT K H a (ns.map V.int))→(SqT K H b (ms.map V.int))→(Q (.bl (HT.bR ns ms)) H)→zc K x y H Q
theorem wU (hu:X.A.units < cLine):OpR X (compareOp .Lt) (zc X.K):=by
 intro Hz s σ H x y v u Q I rx ry h
 obtain ⟨a,b,ns,ms,rfl,rfl,ha,hb,q⟩:=h
 cases rx
 cases ry
 obtain ⟨HE,r1,p1,_⟩:=I.tuple ha
 obtain ⟨its2,r2,p2,_⟩:=I.tuple hb
 have i1:IntsAre HE.toArray.toList ns:=c4 r1
 have i2:IntsAre its2.toArray.toList ms:=c4 r2
 exact HT.gg p1 p2 i1 i2 hu ⟨.bl (HT.bR ns ms),H,I,rfl,q⟩
end
def ixN (n:Nat)(i:Int):Option Nat:=if 0≤i then (if i < n then some i.toNat else none) else if -(n:Int)≤i then some (i+n).toNat else none
def atI {α:Type}(xs:List α)(i:Int):Option α:=(ixN xs.length i).bind fun j=>xs[j]?
theorem nG {n:Nat}{i:Int}{j:Nat}(h:ixN n i=some j):seqIndex? i n=some j∧j < n∧-(n:Int)≤i∧i < n:=by
 unfold ixN at h
 by_cases h0:0≤i
 ·rw [if_pos h0] at h
  by_cases h1:i < n
  ·rw [if_pos h1] at h
   have e:i.toNat=j:=BA h
   exact ⟨by rw [seqIndex_of h0 h1,e],by omega,by omega,h1⟩
  ·rw [if_neg h1] at h;cases h
 ·rw [if_neg h0] at h
  by_cases h1:-(n:Int)≤i
  ·rw [if_pos h1] at h
   have e:(i+n).toNat=j:=BA h
   exact ⟨by rw [seqIndex_neg (by omega) h1,e],by omega,h1,by omega⟩
  ·rw [if_neg h1] at h;cases h
theorem jM {α:Type}{xs:List α}{i:Int}{v:α}(h:atI xs i=some v):∃ j,seqIndex? i xs.length=some j∧xs[j]? = some v∧j < xs.length∧-(xs.length:Int)≤i∧i < xs.length:=by
 unfold atI at h
 cases e:ixN xs.length i with
 | none=>rw [e] at h;cases h
 | some j =>
  rw [e] at h
  obtain ⟨h1,h2,h3,h4⟩:=nG e
  exact ⟨j,h1,h,h2,h3,h4⟩
theorem bM {α:Type}{xs:List α}{j:Nat}{v:α}(h:xs[j]? = some v):atI xs (j:Int)=some v:=by
 have hj:j < xs.length:=(Bv.mp h).1
 have e:ixN xs.length (j:Int)=some j:=by
  unfold ixN
  rw [if_pos (by omega),if_pos (by omega)];simp
 unfold atI;rw [e];exact h
theorem kH {α:Type}(xs:List α)(v:α):atI (xs++[v]) (-1)=some v:=by
 have hl:(xs++[v]).length=xs.length+1:=by simp
 have e:ixN (xs++[v]).length (-1)=some xs.length:=by
  unfold ixN
  rw [hl,if_neg (by decide),if_pos (by omega)]
  congr 1
  omega
 unfold atI
 rw [e]
 show (xs++[v])[xs.length]? = some v
 simp
def nH (b:Expr):Prop:=∀ o i,subscripted b false o i=operate [o,i] (getItem o i)
def IxR (X:Cx)(r:R2):Prop :=
 ∀ (value slice:Expr) (Hz:List (Addr × Obj)) (s:Shared) (σ:St) (H:Hp) (x y:V) (v u:Value) (Q:VK),Inv X Hz σ H s→bE x v→bE y u→r x y H Q →
  subscripted slice false v u=operate [v,u] (getItem v u)→wpAny (model X.prog X.w) X.A (subscriptTail value slice v u) (EP X Hz σ Q) X.xe s
def MtR (X:Cx)(id:String)(r:V→List V→Hp→VK→Prop):Prop :=
 ∀ (Hz:List (Addr × Obj)) (s:Shared) (σ:St) (H:Hp) (x:V) (xs:List V) (v:Value) (us:List Value) (Q:VK),Inv X Hz σ H s→bE x v→a8 xs us→r x xs H Q →
  wpAny (model X.prog X.w) X.A (call (.builtin id) (v::us)) (EP X Hz σ Q) X.xe s
section
variable {X:Cx} {a b:Expr} {ta tb:TE} {pos:Pos}
theorem aL {r:R2}(hr:IxR X r)(ha:PE X a ta)(hb:PE X b tb)(hs:nH b):PE X (.Subscript a b pos) (tOp r ta tb):=by
 intro Hz s σ H Q I h
 exact GT (y6 ha hb I h fun v u s2 x y H2 I2 rx ry q=>hr a b Hz s2 σ H2 x y v u Q I2 rx ry q (hs _ _))
inductive zd (K:PySem.W.Frag)(x:V)(y:V)(H:Hp)(Q:VK):Prop
 | mk:∀ p xs i v,(x = .ref p)→(y = .int i)→(SqL K H p xs)→(atI xs i=some v)→(Q v H)→zd K x y H Q
inductive ze (K:PySem.W.Frag)(x:V)(y:V)(H:Hp)(Q:VK):Prop
 | mk:∀ p xs i v,(x = .ref p)→(y = .int i)→(SqT K H p xs)→(atI xs i=some v)→(Q v H)→ze K x y H Q
inductive AB (x:V)(y:V)(H:Hp)(Q:VK):Prop
 | mk:∀ z i c,(x = .str z)→(y = .int i)→(z.length≤sizeLine)→(atI z.cps.toList i=some c)→(Q (.str ⟨#[c]⟩) H)→AB x y H Q
theorem aT:IxR X (zd X.K):=by
 intro value slice Hz s σ H x y v u Q I rx ry h hs
 obtain ⟨p,xs,i,z,rfl,rfl,hq,he,q⟩:=h
 cases rx
 obtain ⟨t,rfl⟩:=ry
 obtain ⟨HE,r,pl,hz⟩:=I.list hq
 obtain ⟨j,h1,h2,h3,h4,h5⟩:=jM he
 obtain ⟨w,ew,rw'⟩:=r.get h2
 have hl:=r.length
 have hn:=dI
 have fin:EP X Hz σ Q w s:=⟨z,H,I,rw',q⟩
 by_cases h0:0≤i
 ·have hj:i.toNat=j:=by
   rw [seqIndex_of h0 h5] at h1
   exact BA h1
  exact item_listR pl.isList h0 (by omega) (by rw [hj];simpa using ew) fin hs
 ·have hj:(i+(HE.toArray.size:Int)).toNat=j:=by
   rw [seqIndex_neg (by omega) h4] at h1
   rw [BM,← hl]
   exact BA h1
  exact subscriptTail_builtinR (x:=w) pl.isList.typeIs slot_list_getitem.lookup
   (wpAny_getItem_list_neg (Q:=fun r s'=>r=w∧EP X Hz σ Q r s') pl.isList (by omega) (by rw [BM] <;> omega) (by omega) (by rw [hj];simpa using ew) ⟨rfl,fin⟩) hs
theorem aV:IxR X (ze X.K):=by
 intro value slice Hz s σ H x y v u Q I rx ry h hs
 obtain ⟨p,xs,i,z,rfl,rfl,hq,he,q⟩:=h
 cases rx
 obtain ⟨t,rfl⟩:=ry
 obtain ⟨HE,r,pl,hz⟩:=I.tuple hq
 obtain ⟨j,h1,h2,h3,h4,h5⟩:=jM he
 obtain ⟨w,ew,rw'⟩:=r.get h2
 have hl:=r.length
 have hn:=dI
 have fin:EP X Hz σ Q w s:=⟨z,H,I,rw',q⟩
 exact subscriptTail_builtinR (x:=w) pl.typeIs slot_tuple_getitem.lookup
  (getItem_tuple (j:=j) (Q:=fun r s'=>r=w∧EP X Hz σ Q r s') pl (by omega) (by omega) (by rw [BM,← hl];exact h1) (by simpa using ew) ⟨rfl,fin⟩) hs
theorem eN:IxR X AB:=by
 intro value slice Hz s σ H x y v u Q I rx ry h hs
 obtain ⟨z,i,c,rfl,rfl,hz,he,q⟩:=h
 obtain ⟨t,rfl⟩:=rx
 obtain ⟨t',rfl⟩:=ry
 obtain ⟨j,h1,h2,h3,h4,h5⟩:=jM he
 have hl:z.cps.toList.length=z.length:=by simp [Str.length]
 rw [hl] at h1 h4 h5
 have hn:=dI
 exact tail_any (Fk s z t) slot_str_getitem.lookup (getItem_str (c:=c) (by
  have e1:decide (i < -(2 ^ 63:Int))=false:=Bs (by omega)
  have e2:decide (i≥2 ^ 63)=false:=Bs (by omega)
  rw [e1,e2,GZ]) (by rw [h1];simpa using h2) ⟨.str ⟨#[c]⟩,H,I.tok _,⟨_,rfl⟩,q⟩) hs
theorem mn (HE:List Value)(n j:Nat)(u:Value):Obj.mapSeq (·.setIfInBounds j u) { cls:=.type "list",data:=.seq HE.toArray n }={ cls:=.type "list",data:=.seq (HE.set j u).toArray n }:=by
 simp [Obj.mapSeq]
theorem Inv.lst {Hz:List (Addr × Obj)}{σ:St}{H:Hp}{s:Shared}{p:Addr}{xs:List V}(I:Inv X Hz σ H s)(h:H p=some (.lst xs)) :
  ∃ (HE:List Value) (n:Nat),a8 xs HE∧s.heap.get? p=some { cls:=.type "list",data:=.seq HE.toArray n }∧xs.length≤sizeLine:=by
 obtain ⟨z,HE,n,r,e⟩:=I.hok p _ h
 exact ⟨HE,n,r,e,z⟩
theorem Inv.lstUpd {Hz:List (Addr × Obj)}{σ:St}{H:Hp}{s:Shared}{p:Addr}{xs ys:List V}{HE its':List Value}{n n':Nat}{f:Obj→Obj}(I:Inv X Hz σ H s)(h:H p=some (.lst xs))
  (ho:s.heap.get? p=some { cls:=.type "list",data:=.seq HE.toArray n }) (hf:f { cls:=.type "list",data:=.seq HE.toArray n }={ cls:=.type "list",data:=.seq its'.toArray n' }) (r:a8 ys its') (hz:ys.length≤sizeLine) (t:Nat) :
  Inv X Hz σ (upd H p (.lst ys)) { s with heap:=s.heap.update p f,toks:=t }:=by
 have e:(s.heap.update p f).get? p=some { cls:=.type "list",data:=.seq its'.toArray n' }:=by
  rw [DO f ho (by rw [hf] <;> rfl),hf]
 refine I.write (x:=p) (e:=p) (by rw [h];trivial) (.inl rfl) (fun b u hb q=>(CH _ _ (Ne.symm hb)).trans q) ⟨_,e⟩ ?_
 exact ⟨hz,its',n',r,e⟩
inductive wV (o:V)(i:V)(v:V)(H:Hp)(Q:(Hp→Prop)):Prop
 | mk:∀ p xs k j,(o = .ref p)→(i = .int k)→(H p=some (.lst xs))→(ixN xs.length k=some j)→(Q (upd H p (.lst (xs.set j v))))→wV o i v H Q
theorem e8:Av X wV:=by
 intro Hz s σ H o i v ov iv u Q I ro ri rv h
 obtain ⟨p,xs,k,j,rfl,rfl,hp,hj,q⟩:=h
 cases ro
 obtain ⟨t,rfl⟩:=ri
 obtain ⟨HE,n,r,ho,hz⟩:=I.lst hp
 obtain ⟨h1,h2,h3,h4⟩:=nG hj
 have hl:=r.length
 have hn:=dI
 have I':Inv X Hz σ (upd H p (.lst (xs.set j v))) { s with heap:=s.heap.update p (Obj.mapSeq (·.setIfInBounds j u)) } :=
  I.lstUpd hp ho (mn HE n j u) (r.set rv j) (by rw [List.length_set];exact hz) s.toks
 by_cases h0:0≤k
 ·have hk:k.toNat=j:=by
   rw [seqIndex_of h0 h4] at h1
   exact BA h1
  exact PySem.W.ki_setAt ho h0 (by omega) (by rw [BM,← hl];exact h4) (by rw [hk];exact ⟨_,I',q⟩)
 ·have hk:(k+(HE.toArray.size:Int)).toNat=j:=by
   rw [seqIndex_neg (by omega) h3] at h1
   rw [BM,← hl]
   exact BA h1
  exact PySem.W.ki_setBack ho (by omega) (by rw [BM,← hl];exact h3) (by omega) (by rw [hk];exact ⟨_,I',q⟩)
theorem i5 (lo hi:Option Int)(n:Nat):(sliceBounds lo hi none n).1=((HT.sIx n 0 lo:Nat):Int)∧(sliceBounds lo hi none n).2.1=((HT.sIx n n hi:Nat):Int)∧(sliceBounds lo hi none n).2.2=1:=by
 refine ⟨?_,?_,rfl⟩
 ·cases lo with
  | none=>simp [sliceBounds,HT.sIx]
  | some i =>
   simp only [sliceBounds,HT.sIx,Gr,show (1:Int) > 0 by decide,DH]
   by_cases h:i < 0
   ·simp only [h,DH] <;> omega
   ·simp only [h,CU] <;> omega
 ·cases hi with
  | none=>simp [sliceBounds,HT.sIx]
  | some i =>
   simp only [sliceBounds,HT.sIx,Gr,show (1:Int) > 0 by decide,DH]
   by_cases h:i < 0
   ·simp only [h,DH] <;> omega
   ·simp only [h,CU] <;> omega
theorem gP (HE:List Value)(lo hi:Option Int):slicePick HE.toArray lo hi none=((HE.drop (HT.sIx HE.length 0 lo)).take (HT.sIx HE.length HE.length hi - HT.sIx HE.length 0 lo)).toArray:=by
 obtain ⟨h1,h2,h3⟩:=i5 lo hi HE.toArray.size
 unfold slicePick
 rw [h1,h2,h3]
 simp only [sliceRange_one,pick_run,BM] <;> rfl
inductive AC (K:PySem.W.Frag)(x:V)(lo:Option Int)(hi:Option Int)(H:Hp)(Q:VK):Prop
 | mk:∀ a xs,(x = .ref a)→(SqL K H a xs)→(∀ p,H p=none→Q (.ref p) (upd H p (.lst (eZ xs lo hi))))→AC K x lo hi H Q
theorem fo:SlR X (AC X.K):=by
 intro Hz s σ H x v vl vu lo hi sl Q I rx hs pl pu h
 obtain ⟨a,xs,rfl,hx,q⟩:=h
 cases rx
 obtain ⟨HE,r,ht,hz⟩:=I.list hx
 have hlen:=r.length
 refine ⟨"list",_,slot_list_getitem.lookup,ht.isList.typeIs,?_⟩
 refine wpAny_getItem_list_slice ht.isList hs pl pu .none (by simp) ?_ (by rw [BM] <;> omega)
 rw [gP,← hlen]
 refine ⟨.ref s.heap.objs.size,_,I.laid (t':=s.toks) (o:=.lst (eZ xs lo hi)) (fun b ob q=>Bz _ q) (BB _) ?_,rfl,q _ (I.hok.fresh (BB _))⟩
 exact ⟨Cr (fm xs lo hi) hz,_,0,(r.drop (HT.sIx xs.length 0 lo)).take (HT.sIx xs.length xs.length hi - HT.sIx xs.length 0 lo),BI _ rfl⟩
inductive c_ (K:PySem.W.Frag)(xs:List V)(H:Hp)(Q:VK):Prop
 | mk:∀ p ys,(xs=[.ref p])→((SqL K H p ys ∨ SqT K H p ys))→(Q (.int ys.length) H)→c_ K xs H Q
theorem aH:dE X (.builtin "len") (c_ X.K):=by
 intro Hz s σ H xs us Q I r h
 obtain ⟨p,ys,rfl,hq,q⟩:=h
 obtain ⟨u,rfl,rx⟩:=dJ r
 cases rx
 have hn:=dI
 rcases hq with hq | hq
 ·obtain ⟨HE,r',pl,hz⟩:=I.list hq
  have hlen:=r'.length
  exact Calls.call_len_list pl.isList (by simp only [BM] <;> omega) ⟨.int ys.length,H,I.tok _,⟨s.toks+1,by rw [BM,hlen]⟩,q⟩
 ·obtain ⟨HE,r',pl,hz⟩:=I.tuple hq
  have hlen:=r'.length
  exact len_tuple pl (by simp only [BM] <;> omega) ⟨.int ys.length,H,I.tok _,⟨s.toks+1,by rw [BM,hlen]⟩,q⟩
inductive de  (xs:List V)(H:Hp)(Q:VK):Prop
 | mk:∀ z,(xs=[.str z])→(z.length≤sizeLine)→(Q (.int z.length) H)→de xs H Q
theorem aM:dE X (.builtin "len") de:=by
 intro Hz s σ H xs us Q I r h
 obtain ⟨z,rfl,hz,q⟩:=h
 obtain ⟨u,rfl,t,rfl⟩:=dJ r
 have hn:=dI
 exact len_str (by omega) ⟨.int z.length,H,I.tok _,⟨_,rfl⟩,q⟩
inductive dh (K:PySem.W.Frag)(xs:List V)(H:Hp)(Q:VK):Prop
 | mk:∀ p ys,(xs=[.ref p])→((SqL K H p ys ∨ SqT K H p ys))→(∀ l,H l=none→Q (.ref l) (upd H l (.lst ys)))→dh K xs H Q
theorem eO:dE X (.type "list") (dh X.K):=by
 intro Hz s σ H xs us Q I r h
 obtain ⟨p,ys,rfl,hq,q⟩:=h
 obtain ⟨u,rfl,rx⟩:=dJ r
 cases rx
 have fin:∀ (HE:List Value),a8 ys HE→ys.length≤sizeLine→∀ (h':Heap) (c':Nat),(∀ b o',s.heap.get? b=some o'→h'.get? b=some o') →
   h'.get? s.heap.objs.size=some { cls:=.type "list",dict:=none,data:=.seq HE.toArray c',slots:=#[] }→EP X Hz σ Q (.ref s.heap.objs.size) { s with heap:=h' }:=fun HE r' hz h' c' kp e =>
  ⟨.ref s.heap.objs.size,_,I.laid (t':=s.toks) kp (BB _) (show bW X.prog X.w _ h' _ (.lst ys) from ⟨hz,HE,c',r',e⟩),rfl,q _ (I.hok.fresh (BB _))⟩
 rcases hq with hq | hq
 ·obtain ⟨HE,r',pl,hz⟩:=I.list hq
  have hlen:=r'.length
  obtain ⟨o,ho,hc,n,hd⟩:=pl.isList
  exact call_list_seq p (.inl rfl) ho hc hd (fun h' c' kp e=>fin HE r' hz h' c' kp e) (by simp only [BM] <;> omega)
 ·obtain ⟨HE,r',pl,hz⟩:=I.tuple hq
  have hlen:=r'.length
  obtain ⟨o,ho,hc,n,hd⟩:=pl
  exact call_list_seq p (.inr rfl) ho hc hd (fun h' c' kp e=>fin HE r' hz h' c' kp e) (by simp only [BM] <;> omega)
inductive bX (K:PySem.W.Frag)(xs:List V)(H:Hp)(Q:VK):Prop
 | mk:∀ p ys,(xs=[.ref p])→(((SqL K H p ys∧∀ l,H l=none→Q (.ref l) (upd H l (.tup ys))) ∨ (SqT K H p ys∧Q (.ref p) H)))→bX K xs H Q
theorem cH:dE X (.type "tuple") (bX X.K):=by
 intro Hz s σ H xs us Q I r h
 obtain ⟨p,ys,rfl,h⟩:=h
 obtain ⟨u,rfl,rx⟩:=dJ r
 cases rx
 rcases h with ⟨hq,q⟩ | ⟨hq,q⟩
 ·obtain ⟨HE,r',pl,hz⟩:=I.list hq
  have hlen:=r'.length
  refine call_tuple_list pl.isList (fun h' kp=>?_) (by simp only [BM] <;> omega)
  have I1:Inv X Hz σ H { s with heap:=h' }:=I.kept (t':=s.toks) kp
  have I2:Inv X Hz σ (upd H h'.objs.size (.tup ys)) { s with heap:=h'.push { cls:=.type "tuple",data:=.seq HE.toArray } } :=
   I1.laid (t':=s.toks) (fun b o e=>Bz _ e) (BB _) (show bW X.prog X.w _ _ _ (.tup ys) from ⟨hz,HE,r',IsTup.new _ _,.new _ _ rfl⟩)
  exact ⟨.ref h'.objs.size,_,I2,rfl,q _ (I1.hok.fresh (BB _))⟩
 ·obtain ⟨HE,r',pl,hz⟩:=I.tuple hq
  exact call_tuple_same pl ⟨.ref p,H,I,rfl,q⟩
def tyV (K:PySem.W.Frag)(T:String)(x:V)(H:Hp):Prop:=match x with
 | .str _=>T = "str"
 | .int _=>T = "int"
 | .ref p=>(T = "list"∧∃ xs,SqL K H p xs) ∨ (T = "tuple"∧((∃ o,K.lookup p=some o∧o.cls = .type "tuple"∧o.dict=none) ∨ ∃ xs,H p=some (.tup xs))) ∨
   (T = "dict"∧((∃ HG,H p=some (.dK HG)) ∨ ∃ HG,H p=some (.dT HG))) ∨ (T = "set"∧∃ S n,H p=some (.set S n))
 | _=>False
theorem sS {Hz:List (Addr × Obj)}{σ:St}{H:Hp}{s:Shared}{T:String}{x:V}{v:Value}(I:Inv X Hz σ H s)(r:bE x v)(ty:tyV X.K T x H) :
  s.TypeIs v T∧∀ a,v = .ref a→∃ ob,s.heap.get? a=some ob∧ob.dict=none:=by
 cases x with
 | str z =>
  obtain ⟨t,rfl⟩:=r
  cases (show T = "str" from ty)
  exact ⟨Fk s z t,fun _ e=>nomatch e⟩
 | int i =>
  obtain ⟨t,rfl⟩:=r
  cases (show T = "int" from ty)
  exact ⟨typeIs_int s i t,fun _ e=>nomatch e⟩
 | ref p =>
  cases r
  rcases ty with ⟨rfl,xs,hq⟩ | ⟨rfl,⟨o,hk,hc,hd⟩ | ⟨xs,hk⟩⟩ | ⟨rfl,hk⟩ | ⟨rfl,S,n,hk⟩
  ·obtain ⟨HE,_,pl,_⟩:=I.list hq
   refine ⟨pl.isList.typeIs,fun a e=>?_⟩
   cases e
   obtain ⟨o,n,e,c,hd,_⟩:=pl
   exact ⟨o,e,hd⟩
  ·refine ⟨⟨o,I.kIn p o hk,hc⟩,fun a e=>?_⟩
   cases e
   exact ⟨o,I.kIn _ o hk,hd⟩
  ·obtain ⟨_,_,_,⟨o,e,hc,_⟩,hn⟩:=I.hok p _ hk
   refine ⟨⟨o,e,hc⟩,fun a e=>?_⟩
   cases e
   exact hn
  ·have z:∃ o,s.heap.get? p=some o∧o.ExactDict:=by
    rcases hk with ⟨HG,hk⟩ | ⟨HG,hk⟩
    ·obtain ⟨_,_,_,_,o,_,_,e,ex,_⟩:=I.hok p _ hk
     exact ⟨o,e,ex⟩
    ·obtain ⟨_,_,_,_,o,_,_,e,ex,_⟩:=I.hok p _ hk
     exact ⟨o,e,ex⟩
   obtain ⟨o,e,ex⟩:=z
   refine ⟨⟨o,e,ex.1⟩,fun a e2=>?_⟩
   cases e2
   exact ⟨o,e,ex.2.1⟩
  ·obtain ⟨o,_,_,_,e,ex,_⟩:=I.hok p _ hk
   refine ⟨⟨o,e,ex.1⟩,fun a e2=>?_⟩
   cases e2
   exact ⟨o,e,ex.2.1⟩
 | _=>exact False.elim ty
def uo (K:PySem.W.Frag)(T:String)(r:V→List V→Hp→VK→Prop)(Q:VK):V→Hp→Prop:=fun x H1=>tyV K T x H1∧r x [] H1 Q
def AD (K:PySem.W.Frag)(T:String)(r:V→List V→Hp→VK→Prop)(to:TE):TE:=fun σ H Q=>to σ H (uo K T r Q)
def wW (r:V→List V→Hp→VK→Prop)(Q:VK)(x:V):List V→Hp→Prop:=fun xs H2=>r x xs H2 Q
def wX (K:PySem.W.Frag)(T:String)(r:V→List V→Hp→VK→Prop)(t:TA)(σ:St)(Q:VK):V→Hp→Prop:=fun x H1=>tyV K T x H1∧t σ H1 (wW r Q x)
def tBM (K:PySem.W.Frag)(T:String)(r:V→List V→Hp→VK→Prop)(to:TE)(t:TA):TE:=fun σ H Q=>to σ H (wX K T r t σ Q)
variable {o e:Expr} {es:List Expr} {to:TE} {t:TA} {name:Str} {apos HV:Pos} {T id:String} {r:V→List V→Hp→VK→Prop}
theorem i6 (pa:PlainAttrs T)(slot:Slot T name id)(hty:typeOf (.builtin id)=pure (.type "method_descriptor"))(hm:MtR X id r)(ho:PE X o to)
  (Io:attributeBase o name X.env (eval o X.env)=eval o X.env:=by rfl) (Im:(apos.endLine == HV.line)=true:=by rfl):PE X (.Call (.Attribute o name apos) [] [] HV) (AD X.K T r to):=by
 intro Hz s σ H Q I h
 refine wpAny_Call_method0_late Io Im (thn (ho Hz s σ H _ I h) fun v s1 zq65=>?_)
 obtain ⟨x,H1,I1,r1,ty,q1⟩:=zq65
 obtain ⟨h1,h2⟩:=sS I1 r1 ty
 exact ⟨T,id,pa,slot,hty,h1,h2,Calls.callWith_builtin rfl (PySem.evalArgs_none (hm Hz s1 σ H1 x [] v [] Q I1 r1 .nil q1))⟩
theorem bY (pa:PlainAttrs T)(slot:Slot T name id)(hty:typeOf (.builtin id)=pure (.type "method_descriptor"))(hm:MtR X id r)(ho:PE X o to)(ha:PA X (e::es) t)
  (Io:attributeBase o name X.env (eval o X.env)=eval o X.env:=by rfl)
  (hfew:((backTo HV (starEach (e::es) X.env)).all (fun x=>!x.1) && (backToKw HV (keywordEach [] X.env)).all (fun x=>x.1.isSome)
   && decide ((e::es).length+([]:List Keyword).length+(if ([]:List Keyword).isEmpty then 0 else 1) < 30))=true:=by rfl)
  (Im:(apos.endLine == HV.line)=true:=by rfl) (hs:starEach (e::es) X.env=(false,eval e X.env)::starEach es X.env:=by rfl) (hplain:(backTo HV (starEach es X.env)).any (·.1)=false:=by rfl) :
  PE X (.Call (.Attribute o name apos) (e::es) [] HV) (tBM X.K T r to t):=by
 intro Hz s σ H Q I h
 refine wpAny_Call_method_late Io hfew Im rfl (thn (ho Hz s σ H _ I h) fun v s1 zq66=>?_)
 obtain ⟨x,H1,I1,r1,ty,q1⟩:=zq66
 obtain ⟨h1,h2⟩:=sS I1 r1 ty
 refine ⟨T,id,pa,slot,hty,h1,h2,?_⟩
 have hA:=ha HV Hz s1 σ H1 _ I1 q1
 rw [hs] at hA ⊢
 refine Calls.callWith_builtin (by show (false || (backTo HV (starEach es X.env)).any (·.1))=false;rw [hplain] <;> rfl) (Calls.evalArgs_plain ?_)
 exact thn hA fun us s2 zq67=>(by obtain ⟨vs,H2,I2,r2,q2⟩:=zq67;exact hm Hz s2 σ H2 x vs v us Q I2 r1 r2 q2)
/- xs.append(e),list.index on a module's tuple .. are MtR facts of 06m -/
end
def MtM (X:Cx)(id:String)(r:V→List V→Hp→VK→Prop):Prop :=
 ∀ (Hz:List (Addr × Obj)) (s:Shared) (σ:St) (H:Hp) (x:V) (xs:List V) (v:Value) (us:List Value) (Q:VK),Inv X Hz σ H s→bE x v→a8 xs us→r x xs H Q →
  wpAny (model X.prog X.w) X.A (call (.builtin id) (v::us)) (EP X Hz σ Q) X.xe s
theorem a8.one:∀ {x:V} {us:List Value},a8 [x] us→∃ u,us=[u]∧bE x u
 | _,_,.cons r .nil=>⟨_,rfl,r⟩
theorem a8.zero:∀ {us:List Value},a8 [] us→us=[]
 | _,.nil=>rfl
theorem a8.dropLast {xs:List V}{us:List Value}(h:a8 xs us):a8 xs.dropLast us.dropLast:=by
 induction h with
 | nil=>exact .nil
 | cons r t ih =>
  cases t with
  | nil=>exact .nil
  | cons q t'=>exact .cons r ih
theorem a8.reverse {xs:List V}{us:List Value}(h:a8 xs us):a8 xs.reverse us.reverse:=by
 induction h with
 | nil=>exact .nil
 | cons r t ih=>rw [FT,FT];exact a8.append ih (.cons r .nil)
theorem mq {α:Type}(l:List α):l.eraseIdx (l.length - 1)=l.dropLast:=by
 induction l with
 | nil=>rfl
 | cons a r ih =>
  cases r with
  | nil=>rfl
  | cons b r =>
   have e:(a::b::r).length - 1=((b::r).length - 1)+1:=by
    have h1:(a::b::r).length=r.length+2:=rfl
    have h2:(b::r).length=r.length+1:=rfl
    omega
   rw [e,List.eraseIdx_cons_succ,ih]
   all_goals rfl
section
variable {X:Cx} {Hz:List (Addr × Obj)} {σ:St} {H:Hp} {s:Shared} {l b:Addr} {xs ys zs:List V}
theorem Inv.lset {HE its':List Value}{n:Nat}{f:Array Value→Array Value}{t':Nat}(I:Inv X Hz σ H s)(hH:H l=some (.lst xs))
  (e:s.heap.get? l=some { cls:=.type "list",data:=.seq HE.toArray n }) (hf:f HE.toArray=its'.toArray) (hv:a8 ys its') (hz:ys.length≤sizeLine) :
  Inv X Hz σ (upd H l (.lst ys)) { s with heap:=s.heap.update l (Obj.mapSeq f),toks:=t' }:=by
 have q:=PySem.IsL.update e f
 rw [hf] at q
 refine I.write (x:=l) (e:=l) (by rw [hH];exact trivial) (.inl rfl) (fun b' u hb hu=>(CH s.heap (Obj.mapSeq f) (Ne.symm hb)).trans hu) ⟨_,q⟩ ?_
 exact ⟨hz,its',_,hv,q⟩
theorem Inv.lstM (I:Inv X Hz σ H s)(hH:H l=some (.lst xs)):xs.length≤sizeLine∧∃ (HE:List Value) (n:Nat),a8 xs HE∧xs.length=HE.length∧s.heap.get? l=some { cls:=.type "list",data:=.seq HE.toArray n }:=by
 obtain ⟨z,HE,n,r,e⟩:=I.hok l _ hH
 exact ⟨z,HE,n,r,r.length,e⟩
theorem qM {n:Nat}(h:n≤sizeLine):Builtin.List.listTooLong n=false:=by
 unfold Builtin.List.listTooLong
 exact Bs (by omega)
end
section
variable {X:Cx}
inductive nI (x:V)(vs:List V)(H:Hp)(Q:VK):Prop
 | mk:∀ l xs y,(x = .ref l)→(vs=[y])→(H l=some (.lst xs))→(xs.length < sizeLine)→(Q .non (upd H l (.lst (xs++[y]))))→nI x vs H Q
theorem fq:MtM X "list.append" nI:=by
 intro Hz s σ H x vs v us Q I rx rv h
 obtain ⟨l,xs,y,rfl,rfl,hH,hz,q⟩:=h
 cases rx
 obtain ⟨u,rfl,ru⟩:=rv.one
 obtain ⟨z,HE,n,r,hl,e⟩:=I.lstM hH
 refine Fl F.slot_list_append ⟨_,e,rfl⟩ F.entry_list_append (F.args_list_append_2 _ _) (PySem.list_append l HE.toArray n u (by rw [BM];omega)) ⟨e,?_⟩
 refine ⟨.non,_,I.lset (its':=HE++[u]) hH e (by simp) (r.append (.cons ru .nil)) ?_,rfl,q⟩
 rw [Bq,D9]
 omega
inductive nJ (x:V)(vs:List V)(H:Hp)(Q:VK):Prop
 | mk:∀ l b xs zs,(x = .ref l)→(vs=[.ref b])→(H l=some (.lst xs))→(H b=some (.lst zs))→(xs.length+zs.length≤sizeLine)→(Q .non (upd H l (.lst (xs++zs))))→nJ x vs H Q
theorem cv:MtM X "list.extend" nJ:=by
 intro Hz s σ H x vs v us Q I rx rv h
 obtain ⟨l,b,xs,zs,rfl,rfl,hH,hB,hz,q⟩:=h
 cases rx
 obtain ⟨u,rfl,ru⟩:=rv.one
 cases ru
 obtain ⟨z,HE,n,r,hl,e⟩:=I.lstM hH
 obtain ⟨z2,its2,n2,r2,hl2,e2⟩:=I.lstM hB
 have hsz:HE.toArray.size+its2.toArray.size≤sizeLine:=by rw [BM,BM];omega
 have hlong:¬ (!HE.toArray.isEmpty && Builtin.List.listTooLong (HE.toArray.size+its2.toArray.size))=true:=by
  rw [qM hsz,FI]
  exact Ca
 refine Fl F.slot_list_extend ⟨_,e,rfl⟩ F.entry_list_extend (F.args_list_extend_2 _ _)
  (AutoSeq1.list_extend_list_list_0 l HE.toArray n b its2.toArray n2 hlong (by rw [BM];omega) (by omega)) ⟨e,e2,?_⟩
 refine ⟨.non,_,I.lset (its':=HE++its2) hH e (by simp) (r.append r2) ?_,rfl,q⟩
 rw [Bq]
 omega
inductive AE (x:V)(vs:List V)(H:Hp)(Q:VK):Prop
 | mk:∀ l xs y,(x = .ref l)→(vs=[])→(H l=some (.lst xs))→(xs[xs.length - 1]? = some y)→(Q y (upd H l (.lst xs.dropLast)))→AE x vs H Q
theorem wY:MtM X "list.pop" AE:=by
 intro Hz s σ H x vs v us Q I rx rv h
 obtain ⟨l,xs,y,rfl,rfl,hH,hy,q⟩:=h
 cases rx
 have hus:=rv.zero
 subst hus
 obtain ⟨z,HE,n,r,hl,e⟩:=I.lstM hH
 obtain ⟨u,hu,ru⟩:=r.get hy
 have hy':HE.toArray[HE.toArray.size - 1]? = some u:=by
  show HE.toArray[HE.length - 1]? = some u
  rw [← Cj,← hl]
  exact hu
 refine Fl F.slot_list_pop ⟨_,e,rfl⟩ F.entry_list_pop (F.args_list_pop_1 _) (MeetsSeq.list_pop_last l HE.toArray n u hy' (by rw [BM];omega)) ⟨e,?_⟩
 refine ⟨y,_,I.lset (its':=HE.dropLast) hH e ?_ r.dropLast ?_,ru,q⟩
 ·show HE.toArray.eraseIdxIfInBounds (HE.toArray.size - 1)=HE.dropLast.toArray
  rw [BM,List.eraseIdxIfInBounds_toArray,mq]
 ·rw [List.length_dropLast]
  omega
inductive kI (x:V)(vs:List V)(H:Hp)(Q:VK):Prop
 | mk:∀ l xs,(x = .ref l)→(vs=[])→(H l=some (.lst xs))→(Q .non (upd H l (.lst xs.reverse)))→kI x vs H Q
theorem mw:MtM X "list.reverse" kI:=by
 intro Hz s σ H x vs v us Q I rx rv h
 obtain ⟨l,xs,rfl,rfl,hH,q⟩:=h
 cases rx
 have hus:=rv.zero
 subst hus
 obtain ⟨z,HE,n,r,hl,e⟩:=I.lstM hH
 refine Fl F.slot_list_reverse ⟨_,e,rfl⟩ F.entry_list_reverse (F.args_list_reverse_1 _) (AutoSeq1.list_reverse_list_0 l HE.toArray n (by rw [BM];omega)) ⟨e,?_⟩
 refine ⟨.non,_,I.lset (its':=HE.reverse) hH e (by simp) r.reverse ?_,rfl,q⟩
 rw [Et]
 omega
end
section
variable {prog:Program} {w:World} {A:Around} {E:Value→Shared→Prop} {s:Shared}
end
section
variable {X:Cx}
end
section
variable {κ:Type} [DecidableEq κ]
def kJ (HG:List (κ × V))(k:κ):Option V:=(HG.find? fun kv=>decide (kv.1=k)).map (·.2)
def jN (HG:List (κ × V))(k:κ)(v:V):List (κ × V) :=
 if (HG.any fun kv=>decide (kv.1=k))=true then HG.map (fun kv=>if kv.1=k then (kv.1,v) else kv) else HG++[(k,v)]
theorem gQ {p:κ × V}{r:List (κ × V)}{k:κ}(e:p.1=k):kJ (p::r) k=some p.2:=by simp [kJ,D_,e]
theorem gT {p:κ × V}{r:List (κ × V)}{k:κ}(e:¬ p.1=k):kJ (p::r) k=kJ r k:=by simp [kJ,D_,e]
theorem kK (k:κ):∀ HG:List (κ × V),(HG.any fun kv=>decide (kv.1=k))=(kJ HG k).isSome
 | []=>rfl
 | p::r=>by
  rw [G0]
  by_cases e:p.1=k
  ·simp only [gQ e,BD e,Bool.true_or,Option.isSome_some]
  ·rw [gT e,Bs e,Bool.false_or];exact kK k r
theorem dq (HG:List (κ × V))(k:κ)(v:V):(jN HG k v).length≤HG.length+1:=by
 unfold jN
 split
 ·rw [Bo];omega
 ·rw [Bq,Cn,C_];omega
theorem mZ.isSome_eq {o:Option V}{u:Option Value}(r:mZ o u):o.isSome=u.isSome:=by
 cases o with
 | none=>cases u with
  | none=>rfl
  | some _=>exact (show False from r).elim
 | some _=>cases u with
  | none=>exact (show False from r).elim
  | some _=>rfl
theorem KV.val {HG:List (κ × V)}{vs:List (κ × Value)}(r:KV HG vs)(k:κ):mZ (kJ HG k) (valueAt vs k):=by
 unfold KV at r
 induction r with
 | nil=>exact True.intro
 | @cons p q ps qs h t ih =>
  obtain ⟨h1,h2⟩:=h
  by_cases e:p.1=k
  ·have e':q.1=k:=h1.symm.trans e
   have b:valueAt (q::qs) k=some q.2:=by simp [valueAt,D_,e']
   rw [gQ e,b];exact h2
  ·have e':¬ q.1=k:=fun z=>e (h1.trans z)
   have b:valueAt (q::qs) k=valueAt qs k:=by simp [valueAt,D_,e']
   rw [gT e,b];exact ih
theorem KV.any {HG:List (κ × V)}{vs:List (κ × Value)}(r:KV HG vs)(k:κ):(HG.any fun kv=>decide (kv.1=k))=vs.any fun kv=>decide (kv.1=k):=by
 unfold KV at r
 induction r with
 | nil=>rfl
 | cons h t ih=>rw [G0,G0,ih,h.1]
theorem KV.repl {HG:List (κ × V)}{vs:List (κ × Value)}(r:KV HG vs)(k:κ){y:V}{u:Value}(ry:bE y u) :
  KV (HG.map fun kv=>if kv.1=k then (kv.1,y) else kv) (vs.map fun kv=>if kv.1=k then (kv.1,u) else kv):=by
 unfold KV at r ⊢
 induction r with
 | nil=>exact .nil
 | @cons p q ps qs h t ih =>
  rw [Cd,Cd]
  refine .cons ?_ ih
  obtain ⟨h1,h2⟩:=h
  by_cases e:p.1=k
  ·rw [if_pos e,if_pos (h1.symm.trans e)];exact ⟨h1,ry⟩
  ·rw [if_neg e,if_neg (fun z=>e (h1.trans z))];exact ⟨h1,h2⟩
theorem KV.put {HG:List (κ × V)}{vs:List (κ × Value)}(r:KV HG vs)(k:κ){y:V}{u:Value}(ry:bE y u):KV (jN HG k y) (stored vs k u):=by
 unfold jN stored
 rw [r.any k]
 by_cases e:(vs.any fun kv=>decide (kv.1=k))=true
 ·rw [if_pos e,if_pos e];exact r.repl k ry
 ·rw [if_neg e,if_neg e];exact Paired.snoc r ⟨rfl,ry⟩
theorem KV.length {HG:List (κ × V)}{vs:List (κ × Value)}(r:KV HG vs):HG.length=vs.length:=EB r
end
theorem uq {P:Program}{w:World}{k:Key}{u:Value}(r:bE (kV k) u):(bu P w).is k u=true:=by
 cases k with
 | inl i=>obtain ⟨t,e⟩:=(show ∃ t,u=Value.int i t from r);subst e;exact jI P w i t
 | inr x=>obtain ⟨t,e⟩:=(show ∃ t,u=Value.str x t from r);subst e;exact jJ P w x t
theorem i7 {P:Program}{w:World}:∀ {ks:List Key} {us:List Value},a8 (ks.map kV) us→ItemsAre (bu P w) ks us
 | [],_,r=>by rw [FC] at r;cases r;exact .nil
 | k::ks,_,r=>by
  rw [Cd] at r
  cases r with
  | cons h t=>exact .cons (uq h) (i7 t)
abbrev KT (H:Hp):List (List Key × V)→List (List Key × Addr × Value)→Prop:=Paired fun p q=>p.1=q.1∧H q.2.1=some (.tup (p.1.map kV))∧bE p.2 q.2.2
theorem KT.val {H:Hp}{HG:List (List Key × V)}{xs:List (List Key × Addr × Value)}(r:KT H HG xs)(k:List Key):mZ (kJ HG k) ((atKey xs k).map (·.2)):=by
 induction r with
 | nil=>exact True.intro
 | @cons p q ps qs h t ih =>
  obtain ⟨h1,_,h2⟩:=h
  by_cases e:p.1=k
  ·have e':q.1=k:=h1.symm.trans e
   have b:atKey (q::qs) k=some q.2:=by simp [atKey,D_,e']
   rw [gQ e,b];exact h2
  ·have e':¬ q.1=k:=fun z=>e (h1.trans z)
   have b:atKey (q::qs) k=atKey qs k:=by simp [atKey,D_,e']
   rw [gT e,b];exact ih
theorem KT.repl {H:Hp}{HG:List (List Key × V)}{xs:List (List Key × Addr × Value)}(r:KT H HG xs)(k:List Key){y:V}{u:Value}(ry:bE y u) :
  KT H (HG.map fun kv=>if kv.1=k then (kv.1,y) else kv) (xs.map (putAt k u)):=by
 induction r with
 | nil=>exact .nil
 | @cons p q ps qs h t ih =>
  rw [Cd,Cd]
  refine .cons ?_ ih
  obtain ⟨h1,h2,h3⟩:=h
  unfold putAt
  by_cases e:p.1=k
  ·rw [if_pos e,if_pos (h1.symm.trans e)];exact ⟨h1,h2,ry⟩
  ·rw [if_neg e,if_neg (fun z=>e (h1.trans z))];exact ⟨h1,h2,h3⟩
theorem KT.put {H:Hp}{HG:List (List Key × V)}{xs:List (List Key × Addr × Value)}(r:KT H HG xs)(k:List Key){b:Addr}{y:V}{u:Value}(hb:H b=some (.tup (k.map kV)))(ry:bE y u) :
  KT H (jN HG k y) (storedH xs k b u):=by
 have e:(HG.any fun kv=>decide (kv.1=k))=(atKey xs k).isSome:=by
  rw [kK,(r.val k).isSome_eq,Option.isSome_map]
 unfold jN storedH
 rw [e]
 by_cases q:(atKey xs k).isSome=true
 ·rw [if_pos q,if_pos q];exact r.repl k ry
 ·rw [if_neg q,if_neg q];exact Paired.snoc r ⟨rfl,hb,ry⟩
theorem KT.keeps {H H':Hp}{HG:List (List Key × V)}{xs:List (List Key × Addr × Value)}(r:KT H HG xs)(ht:∀ b ys,H b=some (.tup ys)→H' b=some (.tup ys)):KT H' HG xs :=
 Paired.mapP r fun _ _ z=>⟨z.1,ht _ _ z.2.1,z.2.2⟩
section
variable {P:Program} {w:World} {H:Hp} {h:Heap} {a:Addr}
theorem wZ {u:HO}(ok:HOk P w H h)(e:Rd H a u):bW P w H h a u:=e.ok ok
theorem ur {HG:List (Key × V)}(ok:HOk P w H h)(e:Rd H a (.dK HG)):HG.length≤sizeLine∧(a == sysModules)=false∧∃ vs,KV HG vs∧h.DictOf (bu P w) a vs :=
 show bW P w H h a (.dK HG) from wZ ok e
theorem zf {HG:List (Key × V)}(ok:HOk P w H h)(e:H a=some (.dK HG)):HG.length≤sizeLine∧(a == sysModules)=false∧∃ vs,KV HG vs∧h.DictOf (bu P w) a vs:=ur ok (.inl e)
theorem nK {ks:List Key}(ok:HOk P w H h)(e:H a=some (.tup (ks.map kV))):(tupleKind (bu P w)).is h ks a:=by
 obtain ⟨_,HE,r,⟨o,h1,h2,n,h3⟩,_⟩:=(show bW P w H h a (.tup (ks.map kV)) from ok a _ e)
 exact ⟨o,HE.toArray,n,h1,h2,h3,by simpa using i7 r⟩
theorem uu {HG:List (List Key × V)}(ok:HOk P w H h)(e:Rd H a (.dT HG)):HG.length≤sizeLine∧(a == sysModules)=false ∧
  ∃ xs,KT H HG xs∧h.DictOfH (tupleKind (bu P w)) a xs:=by
 obtain ⟨z,y,xs,r,o,es,ep,h1,h2,h3,h4,h5⟩:=(show bW P w H h a (.dT HG) from wZ ok e)
 refine ⟨z,y,xs,r,o,es,ep,h1,h2,h3,h4,fun x hx=>?_,h5⟩
 have all:∀ {l:List (List Key × V)} {m:List (List Key × Addr × Value)},KT H l m→∀ x∈m,(tupleKind (bu P w)).is h x.1 x.2.1:=by
  intro l m q
  induction q with
  | nil=>intro x hx;exact nomatch hx
  | @cons p q ps qs hq t ih =>
   intro x hx
   rcases BU.mp hx with e | hx
   ·subst e
    exact nK ok (by rw [← hq.1];exact hq.2.1)
   ·exact ih x hx
 exact all r x hx
theorem zg {HG:List (List Key × V)}(ok:HOk P w H h)(e:H a=some (.dT HG)):HG.length≤sizeLine∧(a == sysModules)=false ∧
  ∃ xs,KT H HG xs∧h.DictOfH (tupleKind (bu P w)) a xs:=uu ok (.inl e)
end
def uv (H:Hp)(a:Addr)(y:V)(r:Option V):Prop :=
 (∃ HG k,Rd H a (.dK HG)∧y=kV k∧r=kJ HG k) ∨ ∃ HG k b,Rd H a (.dT HG)∧y = .ref b∧H b=some (.tup (k.map kV))∧r=kJ HG k
def qN (H:Hp)(a:Addr)(y v:V)(H':Hp):Prop :=
 (∃ HG k,H a=some (.dK HG)∧y=kV k∧HG.length < sizeLine∧H'=upd H a (.dK (jN HG k v))) ∨
 ∃ HG k b,H a=some (.dT HG)∧y = .ref b∧H b=some (.tup (k.map kV))∧HG.length < sizeLine∧H'=upd H a (.dT (jN HG k v))
theorem uv.k {H:Hp}{a:Addr}{HG:List (Key × V)}{k:Key}(e:H a=some (.dK HG)):uv H a (kV k) (kJ HG k):=.inl ⟨HG,k,.inl e,rfl,rfl⟩
theorem qN.k {H:Hp}{a:Addr}{HG:List (Key × V)}{k:Key}{v:V}(e:H a=some (.dK HG))(hl:HG.length < sizeLine):qN H a (kV k) v (upd H a (.dK (jN HG k v))):=.inl ⟨HG,k,e,rfl,hl,rfl⟩
theorem qN.t {H:Hp}{a b:Addr}{HG:List (List Key × V)}{k:List Key}{v:V}(e:H a=some (.dT HG))(eb:H b=some (.tup (k.map kV)))(hl:HG.length < sizeLine) :
  qN H a (.ref b) v (upd H a (.dT (jN HG k v))):=.inr ⟨HG,k,b,e,rfl,eb,hl,rfl⟩
section
variable {X:Cx} {Hz:List (Addr × Obj)} {σ:St} {H:Hp} {s:Shared} {a:Addr} {y v:V} {u r:Value} {o:Option V} {A:Around} {E:Value→Shared→Prop}
theorem Inv.big (I:Inv X Hz σ H s):sysModules < s.heap.objs.size:=by
 have h:mainGlobals < s.heap.objs.size:=(I.mod.glob.keeps I.bk).lt
 exact G4 (by decide) h
theorem nM {Q:Value→Shared→Prop}(hu:A.units+1 < cLine)(I:Inv X Hz σ H s)(g:uv H a y (some v))(ry:bE y u)(h:∀ w' s',Inv X Hz σ H s'→bE v w'→Q w' s') :
  wpAny (model X.prog X.w) A (getItem (.ref a) u) Q E s:=by
 rcases g with ⟨HG,k,e,ey,l⟩ | ⟨HG,k,b,e,ey,eb,l⟩
 ·subst ey
  obtain ⟨z,hd,vs,rel,dd⟩:=ur I.hok e
  obtain ⟨w',hw,rw'⟩:=mZ.some_of (v:=v) (o:=valueAt vs k) (by rw [l];exact rel.val k)
  exact wpAny_getItem_of (uq ry) dd.mapOf hw (h w' _ (I.tok _) rw')
 ·subst ey
  cases (show u=Value.ref b from ry)
  obtain ⟨z,hd,xs,rel,dd⟩:=uu I.hok e
  obtain ⟨w',hw,rw'⟩:=mZ.some_of (v:=v) (o:=(atKey xs k).map (·.2)) (by rw [l];exact rel.val k)
  obtain ⟨p,hp,hp2⟩:=Option.map_eq_some_iff.mp hw
  refine wpAny_getItem_heap (tupleKind_room_in1 hu) (nK I.hok eb) dd hp ?_
  rw [hp2]
  exact h w' _ (I.tok _) rw'
theorem jO {h':Heap}{t':Nat}{ob:HO}(I:Inv X Hz σ H s)(mu:Mut (H a))(hs:Heap.SameBut a s.heap h')(he:∃ q,h'.get? a=some q)(new:bW X.prog X.w (upd H a ob) h' a ob) :
  Inv X Hz σ (upd H a ob) { s with heap:=h',toks:=t' } :=
 I.write (x:=a) (e:=a) mu (.inl rfl) (fun b q hb z=>(hs.2 b hb).trans z) he new
theorem w5 {P:Program}{w:World}{H':Hp}{h':Heap}{HG:List (Key × V)}{vs:List (Key × Value)}(z:HG.length≤sizeLine)(hd:(a == sysModules)=false)(rel:KV HG vs)(dd:h'.DictOf (bu P w) a vs) :
  bW P w H' h' a (.dK HG):=⟨z,hd,vs,rel,dd⟩
theorem nN {H':Hp}{Q:Unit→Shared→Prop}(hu:A.units+1 < cLine)(I:Inv X Hz σ H s)(g:qN H a y v H')(ry:bE y u)(rv:bE v r)(h:∀ s',Inv X Hz σ H' s'→Q () s') :
  wpAny (model X.prog X.w) A (setItem (.ref a) u r) Q E s:=by
 rcases g with ⟨HG,k,e,ey,l,eH⟩ | ⟨HG,k,b,e,ey,eb,l,eH⟩
 ·subst ey eH
  obtain ⟨z,hd,vs,rel,dd⟩:=zf I.hok e
  have hz:vs.length≤sizeLine:=by rw [← rel.length];exact z
  have hl:(jN HG k v).length≤sizeLine:=by have:=dq HG k v;omega
  refine wpAny_setItem_pairs (hsz:=hz) (uq ry) dd fun h' dd' hs=>h _ ?_
  have he:∃ q,h'.get? a=some q:=let ⟨q,_,_,hq,_⟩:=dd';⟨q,hq⟩
  exact jO I (by rw [e];exact True.intro) hs he (w5 hl hd (rel.put k rv) dd')
 ·subst ey eH
  cases (show u=Value.ref b from ry)
  obtain ⟨z,hd,xs,rel,dd⟩:=zg I.hok e
  have hz:xs.length≤sizeLine:=by rw [← EB rel];exact z
  have hl:(jN HG k v).length≤sizeLine:=by have:=dq HG k v;omega
  refine wpAny_setItem_heap (hsz:=hz) (tupleKind_room_in1 hu) (nK I.hok eb) dd fun h' dd' hs=>h _ ?_
  obtain ⟨q,es,ep,hq,h2,h3,h4,_,h5⟩:=dd'
  refine jO I (by rw [e];exact True.intro) hs ⟨q,hq⟩ ⟨hl,hd,_,(rel.put k eb rv).keeps fun c ys ec=>?_,q,es,ep,hq,h2,h3,h4,h5⟩
  rw [aF (eW ec e (fun z=>nomatch z))]
  exact ec
end
section
variable {X:Cx} {Hz:List (Addr × Obj)} {σ:St} {H:Hp} {s:Shared} {a:Addr} {HG:List (Key × V)} {k:Key} {u:Value} {A:Around} {E:Value→Shared→Prop}
end
def AF (i:Expr):Prop:=∀ ov iv,subscripted i false ov iv=operate [ov,iv] (getItem ov iv)
theorem uw {prog:Program}{w:World}{A:Around}{E:Value→Shared→Prop}{s:Shared}{env:Env}{value slice:Expr}{pos:Pos}{T id:String}{Q:Value→Shared→Prop}
  (hl:typeLookup (.type T) "__getitem__" = pure (some (.builtin id))) (hs:AF slice)
  (h:wpAny (model prog w) A (eval value env) (fun o s₁=>wpAny (model prog w) A (eval slice env) (fun i s₂=>s₂.TypeIs o T∧wpAny (model prog w) A (getItem o i) Q E s₂) E s₁) E s) :
  wpAny (model prog w) A (eval (.Subscript value slice pos) env) Q E s:=by
 refine GT (Dh h (fun o s₁ h₁=>Dh h₁ (fun i s₂ h₂=>?_) fun _ _ x=>x) fun _ _ x=>x)
 obtain ⟨hT,h₂⟩:=h₂
 unfold subscriptTail
 refine Bp ?_
 rw [getitemInPython_of_ne hT.not_modules]
 refine Bp (DV hT hl ?_)
 have fin:wpAny (model prog w) A (subscripted slice false o i) (fun r s₃=>wpAny (model prog w) A (letTemporaryGo value o r >>= fun _=>pure r) Q E s₃) E s₂:=by
  rw [hs o i]
  exact wpAny_operating (Dh h₂ (fun r s₃ h₃=>Bp (wpAny_letTemporaryGo (Br h₃))) fun _ _ x=>x)
 first
  | exact Br (Bp fin)
  | exact Bp (Br (Bp fin))
  | exact Bp fin
theorem jP {X:Cx}{Hz:List (Addr × Obj)}{σ:St}{H:Hp}{s:Shared}{a:Addr}{y:V}{o:Option V}(I:Inv X Hz σ H s)(g:uv H a y o):s.TypeIs (.ref a) "dict":=by
 rcases g with ⟨HG,k,e,_,_⟩ | ⟨HG,k,b,e,_,_,_⟩
 ·obtain ⟨_,_,vs,_,dd⟩:=ur I.hok e
  exact dd.typeIs
 ·obtain ⟨_,_,xs,_,dd⟩:=uu I.hok e
  exact dd.typeIs
def zh (td ty:TE):TE:=fun σ H Q=>td σ H fun x H1=>ty σ H1 fun y H2=>∃ a v,x = .ref a∧uv H2 a y (some v)∧Q v H2
def zi (td ty tv:TE):TS:=fun D σ H=>tv σ H fun v H1=>td σ H1 fun x H2=>ty σ H2 fun y H3=>∃ a H4,x = .ref a∧qN H3 a y v H4∧D.nx σ H4
section
variable {X:Cx} {o i e value:Expr} {pos pos' tpos:Pos} {td ty tv:TE}
theorem ux (hu:X.A.units+1 < cLine)(ho:PE X o td)(hi:PE X i ty)(hs:AF i):PE X (.Subscript o i pos) (zh td ty):=by
 intro Hz s σ H Q I h
 refine uw PySem.F.slot_dict_getitem.lookup hs (thn (ho Hz s σ H _ I h) fun u s1 ⟨x,H1,I1,rx,q1⟩=>thn (hi Hz s1 σ H1 _ I1 q1) fun iv s2 zq68=>?_)
 obtain ⟨y,H2,I2,ry,a,v,ex,g,q2⟩:=zq68
 subst ex
 obtain rfl:u=Value.ref a:=rx
 exact ⟨jP I2 g,nM hu I2 g ry fun w' s3 I3 rw'=>⟨v,H2,I3,rw',q2⟩⟩
theorem uy (hu:X.A.units+1 < cLine)(ho:PE X o td)(hi:PE X i ty)(hv:PE X value tv)(hs:swapsWith value (some (.Subscript o i pos')) pos.line X.env=pure false) :
  PS X (.Assign [.Subscript o i pos'] value pos) (zi td ty tv):=by
 intro Hz s σ H D I h
 refine wpAny_Assign_Subscript (thn (hv Hz s σ H _ I h) fun r s1 ⟨v,H1,I1,rv,q1⟩=>thn (ho Hz s1 σ H1 _ I1 q1) fun u s2 ⟨x,H2,I2,rx,q2⟩=>thn (hi Hz s2 σ H2 _ I2 q2) fun iv s3 zq71=>?_) hs
 obtain ⟨y,H3,I3,ry,a,H4,ex,g,q3⟩:=zq71
 subst ex
 obtain rfl:u=Value.ref a:=rx
 exact nN hu I3 g ry rv fun s4 I4=>⟨σ,H4,I4,q3⟩
end
theorem qO {P:Program}{w:World}{H:Hp}(h:Heap)(hb:sysModules < h.objs.size):bW P w H (h.push { cls:=.type "dict",data:=.dict #[] }) h.objs.size (.dT []) :=
 ⟨Cc _,D1.mpr (Ne.symm (Cu hb)),[],.nil,_,#[],0,BI _ rfl,⟨rfl,rfl,rfl⟩,rfl,rfl,CG⟩
def w6:TE:=fun _ H Q=>∀ p,H p=none→Q (.ref p) (upd H p (.dT []))
section
variable {X:Cx} {pos:Pos}
theorem qP:PE X (.Dict [] [] pos) w6:=fun Hz s σ H Q I h =>
 wpAny_Dict_empty ⟨.ref s.heap.objs.size,_,I.laid (a:=s.heap.objs.size) (o:=.dT []) (t':=s.toks) (fun _ _ q=>Bz _ q) (BB _) (qO s.heap I.big),rfl,h _ (I.hok.fresh (BB _))⟩
end
section
variable {X:Cx} {Hz:List (Addr × Obj)} {σ:St} {H:Hp} {s:Shared} {a:Addr} {y d:V} {u r:Value} {o:Option V} {A:Around} {E:Value→Shared→Prop}
end
section
variable {X:Cx} {o e f:Expr} {apos HV:Pos} {td ty tx:TE}
end
section
variable {X:Cx} {Hz:List (Addr × Obj)} {σ:St} {H:Hp} {s:Shared} {a:Addr} {HG:List (Key × V)} {A:Around} {E:Value→Shared→Prop}
end
section
variable {X:Cx} {Hz:List (Addr × Obj)} {σ:St} {H:Hp} {s:Shared} {a:Addr} {y:V} {u:Value} {A:Around} {E:Value→Shared→Prop}
end
end L2
namespace Att
open PySem PySem.W PySem.Calls PyProof.Rows
theorem ft {P:Params}{h:Heap}:∀ (ns:List Int) (vs:List Value),WellAll P h vs (ns.map WData.int)→IntsAre vs ns:=by
 intro ns
 induction ns with
 | nil =>
  intro vs w
  rw [FC] at w
  cases w
  exact .nil
 | cons n ns ih =>
  intro vs w
  rw [Cd] at w
  cases w with
  | cons a b =>
   cases a
   exact .cons _ _ (ih _ b)
theorem nO {l:OpenLaw}{n:Nat}(hn:l.most=some n){P:Params}{h:Heap}{args:List WData}{vals:List Value}
  (hpre:l.row.toRowW.claim.pre args=true) (hwl:WellAll P h vals args) :
  ∃ a vs ns,vals=[Value.ref a]∧args=[WData.list (ns.map WData.int)]∧h.get? a=some { cls:=.type "list",data:=.seq vs.toArray }∧IntsAre vs ns∧ns.length≤n:=by
 have hsh:WShape.hasAll [] args [.list .int]=true:=(pre_splitW hpre).1
 have hc:l.pre.holds [] { args:=args }=true:=(pre_splitW hpre).2
 obtain ⟨d,r,rfl,h1,h2⟩:=hasAllW_cons hsh
 obtain rfl:=hasAllW_nil h2
 obtain ⟨xs,rfl,h3⟩:=hasW_list h1
 obtain ⟨ns,rfl⟩:=items_int h3
 have hlen:ns.length≤n:=by
  unfold OpenLaw.pre at hc
  have h4:(WTm.not (.lt (.lit (.int (n:Int))) (.len (.arg 0)))).holds [] { args:=[.list (ns.map .int)] }=true:=by
   have h4:=(holds_andW hc).1
   rw [hn] at h4
   exact h4
  have h5:=condW_of h4 (w_not (w_lt w_lit (w_len_list (w_arg rfl))))
  rw [Bo] at h5
  refine Nat.le_of_not_lt fun q=>?_
  have q':(n:Int) < ((ns.length:Nat):Int):=by omega
  first
   | (rw [BD q'] at h5;exact absurd h5 (by decide))
   | (simp at h5;omega)
 cases hwl with
 | cons w1 w2 =>
  cases w2
  cases w1 with
  | list ho hall=>exact ⟨_,_,ns,rfl,rfl,ho,ft ns _ hall,hlen⟩
theorem nP (l:OpenLaw)(args:List WData):l.row.toRowW.claim.post args (.bool true) args=true :=
 postW_of (r:=l.row.toRowW) (X:=(true == true))
  (show WShape.has [] (.bool true) .bool=true by first | rfl | decide | simp [WShape.has,WShape.arms,WShape.armsAll])
  (show (WTm.eq .res (.lit (.bool true))).value [] { args:=args,res:=some (.bool true),after:=args }=some (.bool (true == true)) from w_eq_bool (w_res rfl) w_lit) rfl
theorem attach_call {l:OpenLaw}{n:Nat}{q:Program}{loose:List Str}{XP:(Str→Option Value)→Heap→Prop}{YP:World→Heap→Prop}{d:DefRec}
  (hn:l.most=some n) (hdf:d.params.defaults=[])
  (call:∀ (w:World) (s₀ s₁:Shared) (mg mb:Str→Option Value) (fa:Addr) (o:Obj) (pm cd doc:Value) (a:Addr) (vs:List Value) (ns:List Int),
   Ground q loose [] XP w s₀ mg mb s₁.heap→YP w s₁.heap →
   s₁.heap.get? fa=some o→o.data = .func (docDef d.name d.params d.body d.scope pm cd doc)→s₁.heap.CodeRec cd d.name→mg d.name=some (.ref fa) →
   s₁.heap.get? a=some { cls:=.type "list",data:=.seq vs.toArray }→IntsAre vs ns→ns.length≤n→s₁.gens=#[] →
   codeAny (model l.prog w) callerA (.call (.ref fa) ⟨[.ref a],[]⟩) (fun r s'=>r = .ok (.ret (.bool true))∧OldK s₁.heap s'.heap∧s'.os=s₁.os∧AllBare s'.gens) s₁) :
  WalkO q loose XP YP l.row.toRowW d [] (fun f vs=>PySem.call f vs):=by
 intro w s₀ s₁ mg mb G Y fa o pm cd doc dV kV ho hd hcd hD hmg hg args vals as hpre hlay hrd hwl hlo
 obtain rfl:dV = .none:=Dflts.none hD hdf
 obtain rfl:kV = .none:=Dflts.noKw hD
 obtain ⟨a,vs,ns,rfl,rfl,hobj,hints,hlen⟩:=nO hn hpre hwl
 refine enter_call (Fy (call w s₀ s₁ mg mb fa o pm cd doc a vs ns G Y ho (fd_plain hd) hcd hmg hobj hints hlen hg) fun r s' hq=>?_)
 obtain ⟨rfl,h2,h3,h4⟩:=hq
 exact ⟨.inl ⟨.bool true,.bool true,[],rfl,fun _=>rfl,.bool true,nP l _,fun _=>⟨List.Pairwise.nil,fun _ hm=>(nomatch hm)⟩⟩,h2,h3,h4⟩
section
variable {prog:Program} {w:World} {A:Around} {E:Value→Shared→Prop} {s:Shared} {K:Frag}
end
end Att
namespace L2
open PySem PySem.Spec PyProof.Rows
theorem i8:∀ {vs:List Value} {ns:List Int},IntsAre vs ns→a8 (ns.map V.int) vs
 | _,_,.nil=>.nil
 | _,_,.cons n t h=>.cons ⟨t,rfl⟩ (i8 h)
def zj (H:Hp):Prop:=∀ b,H b=none ∨ ∃ o xs,H b=some (.frz o (.lst xs))
theorem qQ {P:Program}{w:World}{K:PySem.W.Frag}{mg mb:Str→Option Value}{CX:CXT}{k:Nat}{fa a:Addr}{fd:FuncData}{x:Str}{sp:Sp}{s₁:Shared}{vs:List Value}{ns:List Int}
  (KX:K.In s₁.heap) (hns:s₁.heap.Ns mainGlobals mg) (hb:s₁.heap.Ns builtinsNs mb) (hbb:∀ x:Str,x ≠ "__name__"→mb x=bootBuiltins x) (hlim:s₁.heap.NoLimit) (hg:s₁.gens=#[])
  (ha:s₁.heap.get? a=some { cls:=.type "list",data:=.seq vs.toArray }) (hi:IntsAre vs ns) (hl:ns.length≤sizeLine) (hr:gf k callerA)
  (F:∀ base:Heap,K.In base→base.Ns mainGlobals mg→qx P w K mg base CX k fa fd [x] sp) (hbind:∀ (s:Shared) (u:Value),BindsTo s fd ⟨[u],[]⟩ [(x,u)])
  (hsp:∀ H:Hp,zj H→SqL K H a (ns.map V.int)→sp [.ref a] H (fun v _=>v = .bl true) fun _ _ _=>False)
  (hCX:∀ H e s',CX [] H s₁ (fun _ _ _=>False) e s'→False) :
  codeAny (model P w) callerA (.call (.ref fa) ⟨[.ref a],[]⟩) (fun r s'=>r = .ok (.ret (.bool true))∧OldK s₁.heap s'.heap∧s'.os=s₁.os∧AllBare s'.gens) s₁:=by
 have rv:=i8 hi
 have lenV:=hi.length
 -- from an abstract heap in which nothing but the script may be tracked
 have core:∀ H:Hp,zj H→SqL K H a (ns.map V.int)→HOk P w H s₁.heap→(∀ b,H b≠none→b=a)→(H a≠none→K.lookup a=none) →
   codeAny (model P w) callerA (.call (.ref fa) ⟨[.ref a],[]⟩) (fun r s'=>r = .ok (.ret (.bool true))∧OldK s₁.heap s'.heap∧s'.os=s₁.os∧AllBare s'.gens) s₁:=by
  intro H hO hS hok hA hK
  have base_of:∀ {b:Addr} {o:Obj},s₁.heap.get? b=some o→H b=none→(qA s₁.heap H).get? b=some o:=fun e n=>qB e n
  have noA:∀ {b:Addr} {o:Obj} {es:Array DictEntry} {ep:Nat},s₁.heap.get? b=some o→o.data = .dict es ep→H b=none:=fun {b o es ep} e d=>by
   cases q:H b with
   | none=>rfl
   | some u =>
    have e':b=a:=hA b (by rw [q];simp)
    subst e'
    rw [ha] at e;cases e
    have d':Data.seq vs.toArray _=Data.dict es ep:=d
    cases d'
  have nsK:∀ {b:Addr} {m:Str→Option Value},s₁.heap.Ns b m→(qA s₁.heap H).Ns b m:=fun {b m} ⟨o,es,ep,e,d,r⟩=>⟨o,es,ep,base_of e (noA e d),d,r⟩
  have hKb:K.In (qA s₁.heap H):=fun b o e=>base_of (KX b o e) (by
   cases q:H b with
   | none=>rfl
   | some u =>
    have e':b=a:=hA b (by rw [q];simp)
    subst e'
    rw [hK (by rw [q];simp)] at e;cases e)
  have hM:Mod K mg (qA s₁.heap H):=⟨hKb,nsK hns,⟨mb,nsK hb,hbb⟩,let ⟨mc,h1,h2⟩:=hlim;⟨mc,nsK h1,h2⟩⟩
  have e0:yM P w K mg (qA s₁.heap H) callerA [] s₁ H:=⟨rfl,hM,fun b o e=>tY e,Nat.le_of_eq (m8 _ _),trivial,fun b hb=>absurd (show b∈([]:List Addr) from hb) (by simp),hok,.of_eq hg⟩
  refine Fy ((F _ hKb (nsK hns)).run callerA [] s₁ H ⟨[.ref a],[]⟩ [.ref a] [.ref a] _ _ hr e0 (hbind s₁ (.ref a)) (.cons rfl .nil) (hsp H hO hS)) fun r s' h=>?_
  cases r with
  | error e=>exact (hCX H e s' h).elim
  | ok fl =>
   cases fl with
   | next=>exact False.elim h
   | brk=>exact False.elim h
   | cont=>exact False.elim h
   | ret u =>
    obtain ⟨v,H',os,bare,un,hok',r',q⟩:=h
    have q':v = .bl true:=q
    subst q'
    obtain rfl:u=Value.bool true:=r'
    refine ⟨rfl,OldK.of_keep fun b o e=>?_,os,bare⟩
    cases q:H b with
    | none=>exact un.keep b o e q (by intro z;exact absurd (show b∈([]:List Addr) from z) (by simp)) (by simp)
    | some u =>
     rcases hO b with z | ⟨ob,xs,z⟩
     ·rw [q] at z;cases z
     ·have z2:=un.frzs b ob _ z
      obtain ⟨e1,_⟩:=hok b _ z
      obtain ⟨e2,_⟩:=hok' b _ z2
      rw [e] at e1;cases e1
      exact e2
 cases hk:K.lookup a with
 | some o =>
  -- the script is one of the module's own objects
  have e:=KX a o hk
  rw [ha] at e
  cases e
  refine core (fun _=>none) (fun _=>.inl rfl) (.inr ⟨_,vs.toArray,_,hk,rfl,rfl,rfl,by rw [BM,lenV];exact hl,by simpa using rv⟩) (fun b u z=>by have z':(none:Option HO)=some u:=z;cases z') (fun b z=>absurd rfl z) fun z=>absurd rfl z
 | none =>
  refine core (fun b=>if b=a then some (.frz { cls:=.type "list",data:=.seq vs.toArray } (.lst (ns.map V.int))) else none) (fun b=>?_) (.inl (.inr ⟨{ cls:=.type "list",data:=.seq vs.toArray },if_pos rfl⟩)) (fun b u z=>?_) (fun b z=>?_) fun _=>hk
  ·by_cases hb:b=a
   ·exact .inr ⟨_,_,if_pos hb⟩
   ·exact .inl (if_neg hb)
  ·by_cases hb:b=a
   ·have z':=(if_pos hb).symm.trans z
    cases z'
    subst hb
    exact ⟨ha,by rw [Bo];exact hl,vs,_,rv,ha⟩
   ·have z':=(if_neg hb).symm.trans z
    cases z'
  ·by_cases hb:b=a
   ·exact hb
   ·exact absurd (if_neg hb) z
theorem nQ {l:PySem.W.OpenLaw}{n k:Nat}{q:Program}{loose:List Str}{XP:(Str→Option Value)→Heap→Prop}{YP:World→Heap→Prop}{d:DefRec}{K:Params→PySem.W.Frag}{CX:World→CXT}{sp:World→Sp}{x:Str}
  (hn:l.most=some n) (hn2:n≤sizeLine) (hdf:d.params.defaults=[]) (hr:gf k callerA)
  (hY:∀ (w:World) (h:Heap),YP w h→(K w.params).In h)
  (F:∀ (w:World) (mg:Str→Option Value) (fa:Addr) (h:Heap),(K w.params).In h→h.Ns mainGlobals mg→mg d.name=some (.ref fa) →
   ∃ fd:FuncData,(∀ (s:Shared) (u:Value),BindsTo s fd ⟨[u],[]⟩ [(x,u)]) ∧
    ∀ base:Heap,(K w.params).In base→base.Ns mainGlobals mg→qx l.prog w (K w.params) mg base (CX w) k fa fd [x] (sp w))
  (hsp:∀ (w:World) (H:Hp) (a:Addr) (ns:List Int),ns.length≤n→zj H→SqL (K w.params) H a (ns.map V.int)→sp w [.ref a] H (fun v _=>v = .bl true) fun _ _ _=>False)
  (hCX:∀ (w:World) (H:Hp) (s:Shared) (e:Value) (s':Shared),CX w [] H s (fun _ _ _=>False) e s'→False) :
  PySem.W.WalkO q loose XP YP l.row.toRowW d [] (fun f vs=>PySem.call f vs):=by
 refine Att.attach_call hn hdf fun w s₀ s₁ mg mb fa o pm cd doc a vs ns G Y ho hd hcd hmg hobj hints hlen hg=>?_
 have KX:=hY w _ Y
 obtain ⟨fd,hb,hF⟩:=F w mg fa _ KX G.T.g hmg
 exact qQ KX G.T.g G.T.b G.T.builtins G.T.nolimit hg hobj hints (Cr hlen hn2) hr hF hb (fun H hO hS=>hsp w H a ns hlen hO hS) fun H e s'=>hCX w H s₁ e s'
end L2
/- THE LAST THEOREM (shape;LID,My.* are yours):
  My.Adr: a structure of the addresses that your layer names (classes,functions);My.Txt K t: a structure (Prop) of the equations over K;
  My.txt_mk:{K} {implicit addresses ..} (e1:nsIn K mainGlobals "law" = some (some (.ref f))) (e2:K.lookup f=some ⟨oc,od,.func (fnOf "law" "law" params body scope dV kV doc pm an HM ct),sl⟩) (e3:codeIn K HM "law" = true) ..:∃ t,My.Txt K t
set_option maxRecDepth 100000 in
set_option maxHeartbeats 0 in
theorem PySem.Challenge.cw_LID_holds : PySem.Challenge.rw_LID.Holds := by
 w_on;o_law;k_head;(case hw=>w_witness2)
 k_fill
 refine L2.nQ (l:=PySem.Challenge.rw_LID) (n:=63) (k:=40) (x:="script") (CX:=fun w=>..) (sp:=fun _=>My.sp_law) rfl (by decide) rfl ⟨rfl,by decide,by decide⟩ (fun w h Y=>PySem.W.kIn_of Y) ?F ?S ?C
 case F =>
  intro w mg fa h KX G hmg
  have T:∃ t,My.Txt (L2.KOf KX) t:=by
   dsimp only [L2.KOf]                          -- K must stand as «<heap const> w.params» for k_is
   refine' My.txt_mk ?e1 ?e2 ?e3 ..
   (case e1=>PySem.W.k_is)                    -- in the order: a name -> HE address -> HE object -> HE parts
   (case e2=>PySem.W.k_is)
   ..
  obtain ⟨t,T⟩:=T
  have e0:=hmg.symm.trans (Gg KX G T.law)
  cases e0                                       -- fa is the law's own address
  exact ⟨_,fun s u=>.of_eq rfl,fun base kb nb=>My.law_fn T kb nb⟩     -- if «.of_eq rfl» comes too early: refine' ⟨_,?b,fun base kb nb=>My.law_fn T kb nb⟩;exact fun s u=>.of_eq rfl
 case S=>exact fun w H a ns hl hO hS=>..
 case C=>exact ..
(the tactic k_is has no namespace: write k_is) -/
namespace L2
open PySem PySem.Spec PyProof.Rows
def ck (s:Stmt):Arguments:=match s with
 | .FunctionDef _ a _ _ _ _ _ _ _ _=>a
 | _=>{ posonlyargs:=[],args:=[],vararg:=none,kwonlyargs:=[],kw_defaults:=[],kwarg:=none,defaults:=[] }
def bN (s:Stmt):List Stmt:=match s with
 | .FunctionDef _ _ b _ _ _ _ _ _ _=>b
 | _=>[]
def av (s:Stmt):Scope:=match s with
 | .FunctionDef _ _ _ _ _ _ sc _ _ _=>sc
 | _=>{ kind:=.function,names:=[],isGenerator:=false,isCoroutine:=false }
abbrev CX0:CXT:=fun _ _ _ _ _ _=>False
abbrev E0:XK:=fun _ _ _=>False
theorem zk {X:Cx}:nA CX0 X E0:=fun _ _ _ _ _ _ _ h=>h.elim
structure Fun (K:PySem.W.Frag) (x qual:Str) (st:Stmt) (f:Addr) (fd:FuncData):Prop where
 ex:∃ (oc:Value) (od:Option Addr) (kV doc pm:Value) (an:Option Addr) (HM ct:Value) (osl:Array (Option Value)),
  fd=PySem.W.fnOf x qual (ck st) (bN st) (av st) .none kV doc pm an HM ct∧K.lookup f=some ⟨oc,od,.func fd,osl⟩∧PySem.W.codeIn K HM qual=true
 kp:PySem.W.keepIn K (.ref f)=true
section
variable {P:Program} {w:World} {K:PySem.W.Frag} {mg:Str→Option Value} {base:Heap}
theorem Fun.ok {x qual:Str}{st:Stmt}{f:Addr}{fd:FuncData}{N ps:List Str}{k:Nat}{sp:Sp}(F:Fun K x qual st f fd)(S:aJ N ps (av st))(len:∀ vs H Q E,sp vs H Q E→vs.length=ps.length)
  (hbody:∀ (HM:Value) (A:Around) (outer:List Env) (s:Shared) (H:Hp) (vs:List V) (Q:VK) (E:XK),gf k (A.deeper (envOfC qual (av st) s.heap.objs.size f HM))→sp vs H Q E →
   ∃ t,PSs (uk CX0 P w K mg base N qual (av st) f HM A outer s H E).nox (bN st) t∧t { nx:=fun _ H'=>Q .non H',rt:=Q } (start N vs) H):qx P w K mg base CX0 (k+1) f fd ps sp:=by
 obtain ⟨oc,od,kV,doc,pm,an,HM,ct,osl,rfl,lk,hcd⟩:=F.ex
 refine y9 lk hcd S len fun A outer s H vs Q E hr hsp=>?_
 obtain ⟨t,h,q⟩:=hbody HM A outer s H vs Q E hr hsp
 exact ⟨t,h.nox,q⟩
theorem Fun.binds {x qual:Str}{st:Stmt}{f:Addr}{fd:FuncData}{ps:List Str}(F:Fun K x qual st f fd)
  (h:∀ (kV doc pm:Value) (an:Option Addr) (HM ct:Value) (us:List Value),us.length=ps.length→bindArgs (PySem.W.fnOf x qual (ck st) (bN st) (av st) .none kV doc pm an HM ct) ⟨us,[]⟩=pure (ps.zip us)):mi K fd ps []:=by
 obtain ⟨oc,od,kV,doc,pm,an,HM,ct,osl,rfl,lk,hcd⟩:=F.ex
 exact .all (h kV doc pm an HM ct)
theorem sT {x qual:Str}{st:Stmt}{f:Addr}{oc:Value}{od an:Option Addr}{osl:Array (Option Value)}{kV doc pm HM ct:Value}(l:K.lookup f=some ⟨oc,od,.func (PySem.W.fnOf x qual (ck st) (bN st) (av st) .none kV doc pm an HM ct),osl⟩)
  (c:PySem.W.codeIn K HM qual=true) (k:PySem.W.keepIn K (.ref f)=true):Fun K x qual st f (PySem.W.fnOf x qual (ck st) (bN st) (av st) .none kV doc pm an HM ct):=⟨⟨oc,od,kV,doc,pm,an,HM,ct,osl,rfl,l,c⟩,k⟩
end
theorem w_ {A:Around}{k:Nat}(hr:gf k A):A.units+1 < cLine:=Nat.lt_of_le_of_lt (Nat.add_le_add_left (by decide:1≤64) _) hr.units
section
variable {X:Cx}
theorem pv (i:Nat){x:Str}{pos:Pos}(hN:X.N[i]? = some x:=by rfl)(hv:Vis X.env.scope x:=by first | exact Or.inl rfl | exact Or.inr (Or.inl rfl) | exact Or.inr (Or.inr rfl))(hd:(x == ("__debug__":Str))=false:=by decide)
  (hcd:(x == ("__classdict__":Str))=false:=by decide):PE X (.Name x pos) (yQ i):=wu hN hv hd hcd
end
theorem sU {A B:Prop}(h:B):if false=true then A else B:=by
 rw [if_neg Ca]
 exact h
theorem zm {A B:Prop}(h:A):if true=true then A else B:=by
 rw [if_pos rfl]
 exact h
theorem jH {c A B:Prop}[Decidable c](h1:c→A)(h2:¬ c→B):if c then A else B:=by
 by_cases h:c
 ·rw [if_pos h]
  exact h1 h
 ·rw [if_neg h]
  exact h2 h
def az (H H':Hp):Prop:=∀ b o,H b=some o→H' b=some o
theorem az.refl (H:Hp):az H H:=fun _ _ h=>h
theorem az.trans {H H1 H2:Hp}(a:az H H1)(b:az H1 H2):az H H2:=fun c o h=>b c o (a c o h)
theorem az.free {H H':Hp}(e:az H H'){l:Addr}(h:H' l=Option.none):H l=Option.none:=by
 cases q:H l with
 | none=>rfl
 | some o =>
  rw [e l o q] at h
  cases h
section
variable {κ:Type} [DecidableEq κ]
end
def kL (cells:List (Str × Addr)):List (Str × NameKind)→List (Str × Addr)→List (Str × Addr)
 | [],acc=>acc
 | (x,k)::r,acc=>if k == NameKind.free then kL cells r ((x,(cells.lookup x).getD 0)::acc) else kL cells r acc
theorem gU {cells:List (Str × Addr)}{p:Str × Addr}:∀ {names:List (Str × NameKind)} {acc:List (Str × Addr)},p∈kL cells names acc→p∈acc ∨ ((p.1,NameKind.free)∈names∧p.2=(cells.lookup p.1).getD 0)
 | [],_,h=>.inl h
 | (x,k)::r,acc,h=>by
  unfold kL at h
  by_cases hk:(k == NameKind.free)=true
  ·rw [if_pos hk] at h
   have ek:k=NameKind.free:=by simpa using hk
   subst ek
   rcases gU h with h | ⟨h,e⟩
   ·rcases BU.mp h with h | h
    ·subst h
     exact .inr ⟨BC,rfl⟩
    ·exact .inl h
   ·exact .inr ⟨Bw _ h,e⟩
  ·rw [if_neg hk] at h
   rcases gU h with h | ⟨h,e⟩
   ·exact .inl h
   ·exact .inr ⟨Bw _ h,e⟩
theorem gX {cells:List (Str × Addr)}{p:Str × Addr}:∀ {names:List (Str × NameKind)} {acc:List (Str × Addr)},p∈acc→p∈kL cells names acc
 | [],_,h=>h
 | (x,k)::r,acc,h=>by
  unfold kL
  split
  ·exact gX (Bw _ h)
  ·exact gX h
theorem gY {cells:List (Str × Addr)}{x:Str}:∀ {names:List (Str × NameKind)} {acc:List (Str × Addr)},(x,NameKind.free)∈names→(x,(cells.lookup x).getD 0)∈kL cells names acc
 | [],_,h=>by simp at h
 | (y,k)::r,acc,h=>by
  unfold kL
  rcases BU.mp h with h | h
  ·have e1:x=y:=BP Prod.fst h
   have e2:NameKind.free=k:=BP Prod.snd h
   subst e1 e2
   rw [if_pos (by simp)]
   exact gX BC
  ·split
   ·exact gY h
   ·exact gY h
theorem dM {x:Str}{c:Addr}:∀ {l:List (Str × Addr)},(x,c)∈l→∃ d,l.lookup x=some d
 | [],h=>by simp at h
 | (y,d)::r,h=>by
  rw [E8]
  by_cases e:(x == y)=true
  ·rw [e];exact ⟨d,rfl⟩
  ·have e':(x == y)=false:=by simpa using e
   rw [e']
   rcases BU.mp h with h | h
   ·have:x=y:=BP Prod.fst h
    exact absurd (by simpa using this) e
   ·exact dM h
theorem gZ {env:Env}{scope:Scope}(h:∀ y∈scope.names,y.2=NameKind.free→∃ c,env.cells.lookup y.1=some c):closureFor scope env=pure (kL env.cells scope.names []):=by
 have all:∀ (names:List (Str × NameKind)) (acc:List (Str × Addr)),(∀ y∈names,y.2=NameKind.free→∃ c,env.cells.lookup y.1=some c) →
   (forIn names acc (fun (p:Str × NameKind) (r:List (Str × Addr))=>(if (p.2 == NameKind.free)=true then (do let a ← cellOf env p.1;pure (ForInStep.yield ((p.1,a)::r))) else pure (ForInStep.yield r):Sem (ForInStep (List (Str × Addr))))))=(pure (kL env.cells names acc):Sem (List (Str × Addr))):=by
  intro names
  induction names with
  | nil=>intro acc _;rfl
  | cons p r ih =>
   intro acc hh
   obtain ⟨x,k⟩:=p
   have hr:∀ y∈r,y.2=NameKind.free→∃ c,env.cells.lookup y.1=some c:=fun y hy=>hh y (Bw _ hy)
   rw [EC]
   unfold kL
   by_cases hk:(k == NameKind.free)=true
   ·obtain ⟨c,hc⟩:=hh (x,k) BC (by simpa using hk)
    have hc:env.cells.lookup x=some c:=hc
    have ec:cellOf env x=pure c:=by
     unfold cellOf
     rw [hc]
    simp only [hk,DH,ec,pure_bind,hc,Option.getD_some]
    exact ih _ hr
   ·simp only [hk,CU,pure_bind]
    exact ih _ hr
 have e:=all scope.names [] h
 unfold closureFor
 simp only [bind_pure]
 exact e
def xf (scope sc:Scope)(NB own:List Str)(cap:List Nat)(N:List Str):Bool :=
 (scope.kind == .function) && (sc.kind == .function) &&
 (scope.names.all fun y=>match y.2 with
  | .cell=>false
  | .free=>sc.names.lookup y.1 == some NameKind.cell
  | .local=>scope.names.lookup y.1 == some NameKind.local
  | _=>true) &&
 (own.all fun x=>scope.names.lookup x == some NameKind.local && scope.names.all fun y=>!(y.1 == x) || y.2 == NameKind.local) &&
 (NB == own++cap.map fun i=>N.getD i "") && (cap.all fun i=>decide (i < N.length) && scope.names.lookup (N.getD i "") == some NameKind.free)
structure Blk (X:Cx) (scope:Scope) (NB own:List Str) (cap:List Nat):Prop where
 kind:scope.kind = .function
 outk:X.env.scope.kind = .function
 nocell:∀ y∈scope.names,y.2 ≠ .cell
 free:∀ y∈scope.names,y.2 = .free→X.env.kindOf y.1=some .cell
 names:∀ y∈scope.names,y.2 = .local→scope.names.lookup y.1=some .local
 owns:∀ x∈own,∀ y∈scope.names,y.1=x→y.2 = .local
 nb:NB=own++cap.map fun i=>X.N.getD i ""
 caps:∀ i∈cap,i < X.N.length∧scope.names.lookup (X.N.getD i "")=some .free
theorem cR {X:Cx}{scope sc:Scope}{NB own:List Str}{cap:List Nat}(hs:X.env.scope=sc)(h:xf scope sc NB own cap X.N=true):Blk X scope NB own cap:=by
 unfold xf at h
 simp only [BZ] at h
 obtain ⟨⟨⟨⟨⟨h1,h2⟩,h3⟩,h4⟩,h5⟩,h6⟩:=h
 rw [En] at h3 h4 h6
 subst hs
 refine ⟨by simpa using h1,by simpa using h2,fun y hy e=>?_,fun y hy e=>?_,fun y hy e=>?_,fun x hx y hy e=>?_,by simpa using h5,fun i hi=>?_⟩
 ·have:=h3 y hy
  rw [e] at this
  exact absurd this (by simp)
 ·have:=h3 y hy
  rw [e] at this
  show X.env.scope.names.lookup y.1=some .cell
  simpa using this
 ·have:=h3 y hy
  rw [e] at this
  simpa using this
 ·have:=h4 x hx
  simp only [BZ,En] at this
  have q:=this.2 y hy
  subst e
  simpa using q
 ·have:=h6 i hi
  simp only [BZ] at this
  exact ⟨CZ this.1,by simpa using this.2⟩
def cxB (X:Cx)(NB own:List Str)(scope:Scope)(C:Addr)(fp:List Addr)(s₀:Shared)(H₀:Hp):Cx where
 prog:=X.prog
 w:=X.w
 K:=X.K
 mg:=X.mg
 base:=X.base
 A:=X.A
 N:=NB
 s₀:=s₀
 H₀:=H₀
 env:=compEnvC scope (kL X.env.cells scope.names []) C X.env
 outer:=X.stack
 stack:=X.stack
 ex:=fp
 fn:=fun x=>own.contains x
 calm:=X.calm
 pn:=[]
 xe:=fun _ _=>False
theorem cS {env:Env}{x:Str}{k:NameKind}(hk:k = .cell ∨ k = .free):∀ {names:List (Str × NameKind)},(∀ y∈names,y.2 ≠ .cell) →
  (names.map fun (n,k)=>if (k == NameKind.free && env.scope.kind == .function && env.kindOf n == some .cell) then (n,NameKind.cell) else (n,k)).lookup x=some k→(x,NameKind.free)∈names
 | [],_,h=>by simp at h
 | (n,q)::r,hn,h=>by
  have ih:=@cS env x k hk r fun y hy=>hn y (Bw _ hy)
  rw [Cd,E8] at h
  have key:(if (q == NameKind.free && env.scope.kind == .function && env.kindOf n == some .cell)=true then (n,NameKind.cell) else (n,q)).1=n:=by split <;> rfl
  by_cases e:(x == n)=true
  ·have en:x=n:=by simpa using e
   subst en
   by_cases hq:q = .free
   ·subst hq;exact BC
   ·have hqf:(q == NameKind.free)=false:=by simpa using hq
    simp only [hqf,CM,BR,CU,Gu] at h
    have h':q=k:=BA h
    rcases hk with z | z
    ·exact absurd (h'.trans z) (hn (x,q) BC)
    ·exact absurd (h'.trans z) hq
  ·have e':(x == n)=false:=by simpa using e
   refine Bw _ (ih ?_)
   have e2:(x == (if (q == NameKind.free && env.scope.kind == .function && env.kindOf n == some .cell)=true then (n,NameKind.cell) else (n,q)).1)=false:=by rw [key];exact e'
   rw [e2] at h
   exact h
theorem fv {env:Env}{x:Str}(hk:env.scope.kind = .function)(hc:env.kindOf x=some .cell):∀ {names:List (Str × NameKind)},names.lookup x=some .free →
  (names.map fun (n,k)=>if (k == NameKind.free && env.scope.kind == .function && env.kindOf n == some .cell) then (n,NameKind.cell) else (n,k)).lookup x=some .cell
 | [],h=>by simp at h
 | (n,q)::r,h=>by
  have ih:=@fv env x hk hc r
  rw [E8] at h
  rw [Cd,E8]
  by_cases e:(x == n)=true
  ·have en:x=n:=by simpa using e
   subst en
   rw [e] at h
   have hq:q = .free:=BA h
   subst hq
   simp [hk,hc]
  ·have e':(x == n)=false:=by simpa using e
   rw [e'] at h
   have key:(if (q == NameKind.free && env.scope.kind == .function && env.kindOf n == some .cell)=true then (n,NameKind.cell) else (n,q)).1=n:=by split <;> rfl
   have e2:(x == (if (q == NameKind.free && env.scope.kind == .function && env.kindOf n == some .cell)=true then (n,NameKind.cell) else (n,q)).1)=false:=by rw [key];exact e'
   rw [e2]
   exact ih h
def stB (own:List Str)(cap:List Nat)(σ:St):St:=(own.map fun _=>none)++cap.map fun i=>(σ[i]?).getD none
section
variable {X:Cx} {Hz:List (Addr × Obj)} {σ:St} {H:Hp} {s:Shared} {scope:Scope} {NB own:List Str} {cap:List Nat} {fp:List Addr} {C:Addr}
theorem Blk.cells (B:Blk X scope NB own cap)(ok:X.Ok){x:Str}{c:Addr}(h:(kL X.env.cells scope.names []).lookup x=some c):X.env.cells.lookup x=some c∧(x,NameKind.free)∈scope.names:=by
 rcases gU (Dj h) with q | ⟨q,e⟩
 ·simp at q
 ·obtain ⟨d,hd⟩:=ok.has x (.inl (B.free (x,.free) q rfl))
  have e:c=(X.env.cells.lookup x).getD 0:=e
  rw [hd] at e
  refine ⟨?_,q⟩
  rw [hd,e];rfl
theorem Blk.cell (B:Blk X scope NB own cap)(ok:X.Ok){x:Str}(h:(x,NameKind.free)∈scope.names):∃ c,(kL X.env.cells scope.names []).lookup x=some c:=dM (gY h)
theorem Blk.start (B:Blk X scope NB own cap)(I:Inv X Hz σ H s)(hf:∀ b∈fp,nj X Hz H b)(hfs:∀ b∈fp,∃ o,s.heap.get? b=some o){h':Heap}{tk:Nat}{m:Str→Option Value}(hC:s.heap.objs.size≤C)
  (k:∀ b o,s.heap.get? b=some o→h'.get? b=some o) (hn:h'.Ns C m) :
  Inv (cxB X NB own scope C fp s H) [] (stB own cap σ) H { s with heap:=h',toks:=tk }:=by
 have hlen:NB.length=own.length+cap.length:=by rw [B.nb];simp
 have okB:(cxB X NB own scope C fp s H).Ok:=by
  refine ⟨I.ok.mod,B.kind,I.ok.glob,I.ok.blt,hC,fun x y c h1 h2=>I.ok.inj x y c (B.cells I.ok h1).1 (B.cells I.ok h2).1,fun x hx=>?_,fun x c h1 h2=>?_,I.ok.hd,I.ok.frames,.inl rfl,fun b hb=>⟨?_,fun x c h=>?_⟩,I.bs,Cr I.ok.bsz I.sz,fun b o e hb=>?_,fun b hb z=>?_,I.stack,I.stkFree⟩
  ·have:(x,NameKind.free)∈scope.names:=by
    rcases hx with z | z
    ·exact cS (.inl rfl) B.nocell z
    ·exact cS (.inr rfl) B.nocell z
   exact B.cell I.ok this
  ·have hx:x∈own:=by simpa [cxB] using h1
   have q:=B.owns x hx _ (B.cells I.ok h2).2 rfl
   exact absurd q (by simp)
  ·obtain ⟨o,e⟩:=hfs b hb
   exact Cu (B_ (BS e) hC)
  ·exact (hf b hb).2.2.2.2.1 x c (B.cells I.ok h).1
  ·have hb:b∈fp:=hb
   rcases (hf b hb).2.2.2.1 with z | z
   ·exact I.ok.noex b o e z
   ·exact absurd (B_ (BS e) (Cr I.ok.bsz z)) (CW _)
  ·rcases BU.mp (I.stkSub b z) with z | z
   ·exact (hf b hb).2.1 z
   ·exact (hf b hb).2.2.1 z
 refine ⟨okB,rfl,I.bare,Un.kept k,⟨m,hn,fun i x v e1 e2 e3=>?_⟩,fun x c h=>?_,I.hok.fresh hC,fun x c h=>I.freeC x c (B.cells I.ok h).1,fun p hp=>absurd (show p∈([]:List (Addr × Obj)) from hp) (by simp),I.hok.kept k,?_⟩
 ·have e1:NB[i]? = some x:=e1
  have hi:¬ i < own.length:=fun hi=>by
   unfold stB at e2
   rw [B9 (by simpa using hi),BH] at e2
   cases q:own[i]? <;> rw [q] at e2 <;> cases e2
  unfold stB at e2
  rw [BY (by simpa using hi),BH] at e2
  rw [B.nb,BY (by omega),BH] at e1
  simp only [Bo] at e2
  cases q:cap[i - own.length]? with
  | none=>rw [q] at e1;cases e1
  | some j =>
   rw [q] at e1 e2
   have ex:X.N.getD j "" = x:=BA e1
   have ev:(σ[j]?).getD none=some v:=BA e2
   obtain ⟨hj,hjf⟩:=B.caps j (BQ q)
   rw [ex] at hjf
   have hN:X.N[j]? = some x:=by rw [← ex,By,fu hj];rfl
   have hσ:σ[j]? = some (some v):=by
    cases z:σ[j]? with
    | none=>rw [z] at ev;cases ev
    | some u=>rw [z] at ev;exact BP some ev
   have H_:(x,NameKind.free)∈scope.names:=Dj hjf
   have hkc:=B.free _ H_ rfl
   obtain ⟨m0,hn0,hl⟩:=I.loc
   obtain ⟨u,r,l⟩:=hl j x v hN hσ (.inr (.inl hkc))
   refine ⟨u,r,.inr ⟨.inl (fv B.outk hkc hjf),?_⟩⟩
   obtain ⟨c,hc⟩:=B.cell I.ok H_
   refine ⟨c,hc,?_⟩
   rcases l with ⟨z,_⟩ | ⟨_,c',hc',⟨oc,hoc,hd⟩⟩
   ·rw [show X.env.kindOf x=some .cell from hkc] at z;cases z
   ·have:=(B.cells I.ok hc).1
    rw [hc'] at this
    have:c'=c:=BA this
    subst this
    exact ⟨oc,k _ _ hoc,hd⟩
 ·obtain ⟨v,oc,hoc,hd⟩:=I.cell x c (B.cells I.ok h).1
  exact ⟨v,oc,k _ _ hoc,hd⟩
 ·show (stB own cap σ).length=NB.length
  unfold stB
  rw [hlen];simp
theorem Blk.done (B:Blk X scope NB own cap)(I:Inv X Hz σ H s)(hf:∀ b∈fp,nj X Hz H b){σB:St}{H':Hp}{s':Shared}{h'':Heap}{D:Addr}{ys:List V}{HE:List Value}{n:Nat}(hC:s.heap.objs.size≤C)(hD:s.heap.objs.size≤D)(hDC:D≠C)
  (J:Inv (cxB X NB own scope C fp s H) [] σB H' s') (hn:H' D=none) (e:s'.heap.get? D=some { cls:=.type "list",data:=.seq HE.toArray n }) (hv:a8 ys HE) (hz:ys.length≤sizeLine)
  (sb:Heap.SameBut C s'.heap h''):Inv X Hz σ (upd H' D (.lst ys)) { s' with heap:=h'' }:=by
 have un:Un (frs X.stack) fp H H' s.heap s'.heap:=J.base
 have neC:∀ {b o},s.heap.get? b=some o→b≠C:=fun q=>Cu (B_ (BS q) hC)
 have neD:∀ {b o},s.heap.get? b=some o→b≠D:=fun q=>Cu (B_ (BS q) hD)
 have hCn:H' C=none:=J.free
 refine I.call' (s':={ s' with heap:=h'' }) (ch:=fp) J.os ⟨fun b o q n hb hx=>?_,fun b o q n hb hx=>?_,fun b o q n hx=>?_,fun b o q hx=>?_,fun b xs q=>?_,fun b o u q=>?_,fun b ps q=>?_⟩ (fun b u q=>?_) J.bare fun b hb=>?_
 ·exact (sb.2 b (neC q)).trans (un.keep b o q n hb hx)
 ·obtain ⟨sl,r⟩:=un.slot b o q n hb hx
  exact ⟨sl,(sb.2 b (neC q)).trans r⟩
 ·rw [aF (neD q)]
  exact un.free b o q n hx
 ·obtain ⟨o',r⟩:=un.there b o q hx
  exact ⟨o',(sb.2 b (neC q)).trans r⟩
 ·have r:=un.tups b xs q
  rw [aF (au r hn)]
  exact r
 ·have r:=un.frzs b o u q
  rw [aF (au r hn)]
  exact r
 ·obtain ⟨more,r⟩:=un.tbls b ps q
  exact ⟨more,by rw [aF (au r hn)];exact r⟩
 ·by_cases hb:b=D
  ·subst hb
   rw [af] at q
   cases q
   exact ⟨hz,HE,n,hv,(sb.2 b hDC).trans e⟩
  ·rw [aF hb] at q
   refine (J.hok b u q).stay (fun c v hc r=>(sb.2 c ?_).trans r) (fun c r=>?_) fun c xs r=>?_
   ·rcases hc with z | z
    ·rw [z];exact au q hCn
    ·exact au z hCn
   ·rw [aF (au r hn)];exact r
   ·rw [aF (au r hn)];exact r
 ·obtain ⟨_,f1,_,f3,f4,f5⟩:=hf b hb
  exact ⟨f3,f1,f4,f5⟩
end
def PIf (X:Cx)(ifs:List Expr)(t:TT):Prop :=
 ∀ (Hz:List (Addr × Obj)) (s:Shared) (σ:St) (H:Hp) (Q:Bool→Hp→Prop),Inv X Hz σ H s→t σ H Q →
  wpAny (model X.prog X.w) X.A (forIn ifs true fun c r=>if r=true then do let ok ← isTrue c X.env (eval c X.env);pure (ForInStep.yield ok) else pure (ForInStep.yield r)) (TP X Hz σ Q) X.xe s
def A5:TT:=fun _ H Q=>Q true H
theorem cg {X:Cx}:PIf X [] A5:=fun _ _ _ H _ I h=>wpAny_tests_nil ⟨H,I,h⟩
theorem g_ {X:Cx}{c:Expr}{t:TT}(h:PT X c t):PIf X [c] t:=fun Hz s σ H Q I q=>wpAny_tests_one (h Hz s σ H Q I q)
section
variable {prog:Program} {w:World} {A:Around} {R:Result→Shared→Prop} {s:Shared}
abbrev noE:Value→Shared→Prop:=fun _ _=>False
theorem nS {elt tg iter:Expr}{ifs:List Expr}{scope:Scope}{pos:Pos}{it acc:Value}{env:Env}(I:Nat→Shared→Prop)
  (turn:∀ n s,I n s→wpAny (model prog w) A (pyNext it) (fun r s₁=>match r with
   | none=>R (.ok .next) s₁
   | some v=>wpAny (model prog w) A (letOwnedTupleGo tg it v) (fun _ s₀=>wpAny (model prog w) A (assign tg env v) (fun _ s₂ =>
     wpAny (model prog w) A (forIn ifs true fun c r=>if r=true then do let ok ← isTrue c env (eval c env);pure (ForInStep.yield ok) else pure (ForInStep.yield r)) (fun ok s₃ =>
      if ok=true then wpAny (model prog w) A (eval elt env) (fun x s₄=>wpAny (model prog w) A (call (.builtin "list.append") [acc,x]) (fun _ s₅=>∃ m,m < n∧I m s₅) noE s₄) noE s₃
      else ∃ m,m < n∧I m s₃) noE s₂) noE s₀) noE s₁) noE s)
  (n:Nat) (h:I n s):codeAny (model prog w) A (.compLoop (.ListComp elt [⟨tg,iter,ifs,0⟩] scope pos) 0 it acc env) R s:=by
 refine codeAny_loop rfl I (fun n s hI=>?_) n h
 show wpAny _ A ((compTurn (.ListComp elt [⟨tg,iter,ifs,0⟩] scope pos) 0 it acc env).onRaise (fun x=>do noteFrame x env;theTreesLotGoes x)) _ _ s
 refine wpAny_noted ?_
 rw [compTurn_list]
 refine Bp (Gf (Bp (Dh (turn n s hI) (fun r s₁ h₁=>?_) fun _ _ z=>False.elim z)))
 cases r with
 | none=>exact Br h₁
 | some v =>
  refine Bp (Dh h₁ (fun _ s₀ h₀=>Bp (Dh h₀ (fun _ s₂ h₂=>Bp (Dh h₂ (fun ok s₃ h₃=>?_) fun _ _ z=>False.elim z)) fun _ _ z=>False.elim z)) fun _ _ z=>False.elim z)
  cases ok with
  | false=>exact Br ⟨rfl,h₃⟩
  | true=>exact Bp (Bp (Dh h₃ (fun x s₄ h₄=>Bp (Dh h₄ (fun _ s₅ h₅=>Br (Br ⟨rfl,h₅⟩)) fun _ _ z=>False.elim z)) fun _ _ z=>False.elim z))
end
def qR (own:List Str)(cap:List Nat)(g:TG)(ti:TT)(te:TE)(Q:VK)(σ:St)(J:It)(H1:Hp):Prop:=∃ W:Nat→Nat→List V→St→Hp→Prop,(∃ m,W 0 m [] (stB own cap σ) H1)∧∀ i m ys σ H,W i m ys σ H →
 (J.stop i H∧ys.length≤sizeLine∧∀ D,H D=none→Q (.ref D) (upd H D (.lst ys))) ∨
 (J.go i H∧ys.length < sizeLine∧∀ x H',J.yld i H x H'→g x σ H' fun σ2 H2=>ti σ2 H2 fun b H3=>if b=true then te σ2 H3 fun y H4=>∃ m',m' < m∧W (i+1) m' (ys++[y]) σ2 H4 else ∃ m',m' < m∧W (i+1) m' ys σ2 H3)
def uz (own:List Str)(cap:List Nat)(wi:TI)(g:TG)(ti:TT)(te:TE):TE:=fun σ H Q=>wi σ H fun J H1=>qR own cap g ti te Q σ J H1
theorem kM {X:Cx}{pos2:Pos}{use:Option (Value→Sem Unit)}{QQ:Value→Shared→Prop}{Hz:List (Addr × Obj)}{s:Shared}{σ:St}{H:Hp}{Q:VK}{elt iter tg:Expr}{ifs:List Expr}{scope:Scope}{pos:Pos}{NB own:List Str}{cap:List Nat}{wi:TI}{g:TG}{ti:TT}{te:TE}(B:Blk X scope NB own cap)(hc:X.calm=true)(hi:PI X tg iter wi)
  (hg:∀ C fp s₀ H₀,PG (cxB X NB own scope C fp s₀ H₀) tg g) (ht:∀ C fp s₀ H₀,PIf (cxB X NB own scope C fp s₀ H₀) ifs ti) (he:∀ C fp s₀ H₀,PE (cxB X NB own scope C fp s₀ H₀) elt te)
  (hs:∀ x,foldedSetIterable iter X.env x=pure x) (I0:Inv X Hz σ H s) (h:uz own cap wi g ti te σ H Q)
  (fin:∀ (fp:List Addr) (C:Addr) (s2 s4:Shared) (H2 H3:Hp) (σ3:St) (HE:List Value) (ys:List V) (k:Nat),Inv X Hz σ H2 s2→(∀ b∈fp,nj X Hz H2 b)→s2.heap.objs.size≤C→s2.heap.objs.size≠C→Inv (cxB X NB own scope C fp s2 H2) [] σ3 H3 s4→H3 s2.heap.objs.size=none→s4.heap.get? s2.heap.objs.size=some { cls:=.type "list",data:=.seq HE.toArray k }→a8 ys HE→ys.length≤sizeLine→Q (.ref s2.heap.objs.size) (upd H3 s2.heap.objs.size (.lst ys)) →
   compPost (model X.prog X.w) X.A X.xe use QQ (.ref s2.heap.objs.size) C (.ok .next) s4):wpAny (model X.prog X.w) X.A (comprehension (.ListComp elt [⟨tg,iter,ifs,0⟩] scope pos) scope X.env pos2 (newList []) false (eval iter X.env) use) QQ X.xe s:=by
 have hclos:=gZ (env:=X.env) (scope:=scope) fun y hy e=>I0.ok.has y.1 (.inl (B.free y hy e))
 refine wpAny_comprehension_free (use:=use) rfl hs hclos B.kind B.names (thn (hi Hz s σ H _ I0 h) fun v s1 h1=>thn h1 fun itv s2 h2=>?_)
 obtain ⟨it,fp,tn,J,H2,rfl,I,T,HX,f2,W,⟨m0,w0⟩,turn⟩:=h2
 refine Ef ?_
 refine wpAny_newFunctionEnv B.nocell (by intro y hy;simp at hy) (fun h₁ hns₁ hsb₁=>?_) B.kind
 dsimp only at hns₁ hsb₁ ⊢
 generalize hP:s2.heap.push { cls:=.type "list",dict:=none,data:=.seq ([]:List Value).toArray }=P at hns₁ hsb₁ ⊢
 have hC:P.objs.size=s2.heap.objs.size+1:=by rw [← hP,FJ]
 have hDC:s2.heap.objs.size≠P.objs.size:=by rw [hC];exact Cu (Eo _)
 have Ii:s2.heap.objs.size≤P.objs.size:=by rw [hC];exact ET _
 have old:∀ b o,s2.heap.get? b=some o→h₁.get? b=some o:=fun b o e=>by
  refine (hsb₁.2 b ?_).trans (Bz _ (hP ▸ Bz _ e))
  exact Cu (B_ (BS e) Ii)
 have hD:h₁.get? s2.heap.objs.size=some { cls:=.type "list",data:=.seq ([]:List Value).toArray 0 }:=by
  refine (hsb₁.2 _ hDC).trans (Bz _ ?_)
  rw [← hP]
  exact BI _ rfl
 have hfs:∀ b∈fp,∃ o,s2.heap.get? b=some o:=fun b hb=>let ⟨o,e,_⟩:=T.obj _ _ HX b hb;⟨o,e⟩
 have st4:tn 0 h₁:=T.keep _ _ _ HX fun b _ o e=>old b o e
 generalize htk:s2.toks+([]:List (Str × Value)).length=tk4
 have I4:=B.start (C:=P.objs.size) (tk:=tk4) I f2 hfs Ii old hns₁
 have fOk:∀ {H':Hp} {b:Addr} {ob:Obj},b∈fp→H' b=none→nj (cxB X NB own scope P.objs.size fp s2 H2) [(s2.heap.objs.size,ob)] H' b:=fun {H' b ob} hb hn=>by
  obtain ⟨o,e⟩:=hfs b hb
  refine ⟨hn,(I4.ok.exf b hb).1,I4.ok.exfs b hb,.inl hb,(I4.ok.exf b hb).2,fun p hp=>?_⟩
  have ep:p=(s2.heap.objs.size,ob):=Bu.mp (show p∈[(s2.heap.objs.size,ob)] from hp)
  rw [ep]
  exact fun z=>absurd (BS e) (by rw [← z];exact CW _)
 have dnf:s2.heap.objs.size∉frs X.stack:=fun z=>by
  rcases BU.mp (I.stkSub _ z) with z | z
  ·exact absurd I.lt (by rw [← z];exact CW _)
  ·exact I.nofs (BB _) z
 have I3D:∀ {σ3:St} {H3:Hp} {s3:Shared} {HE:List Value} {k:Nat},Inv (cxB X NB own scope P.objs.size fp s2 H2) [] σ3 H3 s3→s3.heap.get? s2.heap.objs.size=some { cls:=.type "list",data:=.seq HE.toArray k }→H3 s2.heap.objs.size=none →
   Inv (cxB X NB own scope P.objs.size fp s2 H2) [(s2.heap.objs.size,{ cls:=.type "list",data:=.seq HE.toArray k })] σ3 H3 s3:=fun I3 e n=>I3.pins_of fun p hp=>by
  have ep:=Bu.mp hp
  subst ep
  exact ⟨e,n,hDC,dnf,fun v z=>by cases z⟩
 have ndf:s2.heap.objs.size∉fp:=fun z=>by
  obtain ⟨o,e⟩:=hfs _ z
  exact absurd (BS e) (CW _)
 have nCD:∀ x c,(cxB X NB own scope P.objs.size fp s2 H2).env.cells.lookup x=some c→c≠s2.heap.objs.size:=fun x c e z=>by
  obtain ⟨v,o,ho,_⟩:=I.cell x c (B.cells I.ok e).1
  rw [z] at ho
  exact absurd (BS ho) (CW _)
 have loop:∀ s₃:Shared,s₃ = { s2 with heap:=h₁,toks:=tk4 }→codeAny (model X.prog X.w) X.A (.compLoop (.ListComp elt [⟨tg,iter,ifs,0⟩] scope pos) 0 (.ref it) (.ref s2.heap.objs.size) (cxB X NB own scope P.objs.size fp s2 H2).env)
   (compPost (model X.prog X.w) X.A X.xe use QQ (.ref s2.heap.objs.size) P.objs.size) s₃:=by
  rintro s₃ rfl
  refine nS (fun n s'=>∃ i σB H' ys HE k,Inv (cxB X NB own scope P.objs.size fp s2 H2) [] σB H' s'∧tn i s'.heap∧(∀ b∈fp,H' b=none)∧s'.heap.get? s2.heap.objs.size=some { cls:=.type "list",data:=.seq (HE:List Value).toArray k }∧a8 ys HE∧H' s2.heap.objs.size=none∧W i n ys σB H') ?_ m0
   ⟨0,stB own cap σ,H2,[],[],0,I4,st4,fun b hb=>(f2 b hb).1,hD,.nil,I.hok.fresh (BB _),w0⟩
  rintro n s3 ⟨i,σ3,H3,ys,HE,k,I3,st3,fr3,hD3,rv,hn3,w3⟩
  rcases turn i n ys σ3 H3 w3 with ⟨stop,hz,q⟩ | ⟨go,hz,step⟩
  ·refine thn (T.done (cxB X NB own scope P.objs.size fp s2 H2) rfl rfl rfl hc i _ s3 σ3 H3 noE (I3D I3 hD3 hn3) (fun b hb=>fOk hb (fr3 b hb)) st3 stop) fun r s4 zq1=>?_
   obtain ⟨hr,I4'⟩:=zq1
   subst hr
   have hD4:s4.heap.get? s2.heap.objs.size=some { cls:=.type "list",data:=.seq (HE:List Value).toArray k }:=(I4'.pin (s2.heap.objs.size,_) (BO _ (Bu.mpr rfl))).1
   have I5:Inv (cxB X NB own scope P.objs.size fp s2 H2) [] σ3 H3 s4:=I4'.pins_of fun p hp=>absurd (show p∈([]:List (Addr × Obj)) from hp) (by simp)
   exact fin fp _ s2 s4 H2 H3 σ3 HE ys k I f2 Ii hDC I5 hn3 hD4 rv hz (q _ hn3)
  ·refine thn (T.item (cxB X NB own scope P.objs.size fp s2 H2) rfl rfl rfl hc i _ s3 σ3 H3 noE (I3D I3 hD3 hn3) (fun b hb=>fOk hb (fr3 b hb)) st3 go) fun r s4 zq2=>?_
   obtain ⟨u,hr,h4⟩:=zq2
   subst hr
   refine thn h4 fun _ s5 zq3=>?_
   obtain ⟨x,H5,I5,r5,y5,st5,fr5⟩:=zq3
   have I5':=I5.pinned (fun b hb=>fOk hb (fr5 b hb)) (T.obj _ _ st5)
   refine thn (hg _ fp s2 H2 _ s5 σ3 H5 x u _ I5' r5 (step x H5 y5)) fun _ s6 zq4=>?_
   obtain ⟨σ6,H6,I6,q6⟩:=zq4
   refine thn (ht _ fp s2 H2 _ s6 σ6 H6 _ I6 q6) fun b s7 zq5=>?_
   obtain ⟨H7,I7,q7⟩:=zq5
   have pinned:∀ {σ8:St} {H8:Hp} {s8:Shared},Inv (cxB X NB own scope P.objs.size fp s2 H2) ([(s2.heap.objs.size,{ cls:=.type "list",data:=.seq (HE:List Value).toArray k })]++iU fp s5.heap) σ8 H8 s8 →
     tn (i+1) s8.heap∧(∀ b∈fp,H8 b=none)∧s8.heap.get? s2.heap.objs.size=some { cls:=.type "list",data:=.seq (HE:List Value).toArray k }∧H8 s2.heap.objs.size=none:=fun {σ8 H8 s8} I8=>by
    refine ⟨T.keep _ _ _ st5 fun b hb o e=>(I8.pin (b,o) (BO _ (BO _ (cZ hb e)))).1,fun b hb=>?_,?_,?_⟩
    ·obtain ⟨o,e,d⟩:=T.obj _ _ st5 b hb
     exact (I8.pin (b,o) (BO _ (BO _ (cZ hb e)))).2.1
    ·exact (I8.pin (s2.heap.objs.size,_) (BO _ (Cb _ (Bu.mpr rfl)))).1
    ·exact (I8.pin (s2.heap.objs.size,_) (BO _ (Cb _ (Bu.mpr rfl)))).2.1
   have nopin:∀ {pp:List (Addr × Obj)} {σ8:St} {H8:Hp} {s8:Shared},Inv (cxB X NB own scope P.objs.size fp s2 H2) pp σ8 H8 s8→Inv (cxB X NB own scope P.objs.size fp s2 H2) [] σ8 H8 s8:=fun I8=>I8.pins_of fun p hp=>absurd (show p∈([]:List (Addr × Obj)) from hp) (by simp)
   cases b with
   | false =>
    rw [if_neg Ca] at q7 ⊢
    obtain ⟨m',hm,w7⟩:=q7
    obtain ⟨p1,p2,p3,p4⟩:=pinned I7
    exact ⟨m',hm,i+1,σ6,H7,ys,HE,k,nopin I7,p1,p2,p3,rv,p4,w7⟩
   | true =>
    rw [if_pos rfl] at q7 ⊢
    refine thn (he _ fp s2 H2 _ s7 σ6 H7 _ I7 q7) fun yv s8 zq6=>?_
    obtain ⟨y,H8,I8,r8,m',hm,w8⟩:=zq6
    obtain ⟨p1,p2,p3,p4⟩:=pinned I8
    refine Fl F.slot_list_append ⟨_,p3,rfl⟩ F.entry_list_append (F.args_list_append_2 _ _) (PySem.list_append s2.heap.objs.size HE.toArray k yv (by rw [BM,← rv.length];omega)) ⟨p3,?_⟩
    have q:=PySem.IsL.update p3 fun a=>a.push yv
    have ea:HE.toArray.push yv=(HE++[yv]).toArray:=by simp
    rw [ea] at q
    have I9:Inv (cxB X NB own scope P.objs.size fp s2 H2) [] σ6 H8 { s8 with heap:=s8.heap.update s2.heap.objs.size (Obj.mapSeq fun a=>a.push yv),toks:=s8.toks } :=
     (nopin I8).turned (it:=s2.heap.objs.size) (fun b o hb e=>(CH s8.heap _ (Ne.symm hb)).trans e) p4 hDC (.inr (BB _)) (fun x c e=>nCD x c e) fun p hp=>absurd (show p∈([]:List (Addr × Obj)) from hp) (by simp)
    refine ⟨m',hm,i+1,σ6,H8,ys++[y],HE++[yv],_,I9,?_,p2,q,rv.append (.cons r8 .nil),p4,w8⟩
    refine T.keep _ _ _ p1 fun b hb o e=>(CH s8.heap _ ?_).trans e
    intro z
    rw [z] at ndf
    exact ndf hb
 exact codeAny_compStart_list (loop _ rfl) (T.self X.A 0 _ _ _ st4 (loop _ rfl))
theorem cI {X:Cx}{elt iter tg:Expr}{ifs:List Expr}{scope:Scope}{pos:Pos}{NB own:List Str}{cap:List Nat}{wi:TI}{g:TG}{ti:TT}{te:TE}(B:Blk X scope NB own cap)(hc:X.calm=true)(hi:PI X tg iter wi)
  (hg:∀ C fp s₀ H₀,PG (cxB X NB own scope C fp s₀ H₀) tg g) (ht:∀ C fp s₀ H₀,PIf (cxB X NB own scope C fp s₀ H₀) ifs ti) (he:∀ C fp s₀ H₀,PE (cxB X NB own scope C fp s₀ H₀) elt te)
  (hs:∀ x,foldedSetIterable iter X.env x=pure x:=by intro _;rfl):PE X (.ListComp elt [⟨tg,iter,ifs,0⟩] scope pos) (uz own cap wi g ti te):=by
 intro Hz s σ H Q I0 h
 rw [eval_ListComp]
 refine kM (use:=none) (QQ:=EP X Hz σ Q) B hc hi hg ht he hs I0 h fun fp C s2 s4 H2 H3 σ3 HE ys k I f2 Ii hDC I5 hn3 hD4 rv hz q=>?_
 obtain ⟨mC,hnC,_⟩:=I5.loc
 exact ⟨mC,hnC,fun h'' sb=>⟨.ref s2.heap.objs.size,_,B.done I f2 Ii (BB _) hDC I5 hn3 hD4 rv hz sb,rfl,q⟩⟩
theorem cT {own:List Str}{cap:List Nat}{J:It}{g:TG}{ti:TT}{te:TE}{σ:St}{H:Hp}{Q:VK}(n:Nat)(Pv:Nat→List V→St→Hp→Prop)(h0:Pv 0 [] (stB own cap σ) H)(hz:∀ i ys σ H,i≤n→Pv i ys σ H→ys.length≤i)(hn:n≤sizeLine)
  (hgo:∀ i ys σ H,i < n→Pv i ys σ H→J.go i H) (hst:∀ ys σ H,Pv n ys σ H→J.stop n H)
  (hs:∀ i ys σ H x H' (N:List V→St→Hp→Prop),i < n→Pv i ys σ H→J.yld i H x H'→(∀ ys' σ' H'',Pv (i+1) ys' σ' H''→N ys' σ' H'')→g x σ H' fun σ2 H2=>ti σ2 H2 fun b H3=>if b=true then te σ2 H3 fun y H4=>N (ys++[y]) σ2 H4 else N ys σ2 H3)
  (hd:∀ ys σ H D,Pv n ys σ H→H D=none→Q (.ref D) (upd H D (.lst ys))) :
  qR own cap g ti te Q σ J H:=by
 refine ⟨fun i m ys σ H=>m=n - i∧i≤n∧Pv i ys σ H,⟨n,by simp,Cc _,h0⟩,?_⟩
 rintro i m ys σ H ⟨rfl,hi,p⟩
 have hl:=hz i ys σ H hi p
 by_cases HK:i < n
 ·refine .inr ⟨hgo i ys σ H HK p,by omega,fun x H' y=>?_⟩
  exact hs i ys σ H x H' (fun ys' σ' H''=>∃ m',m' < n - i∧m'=n - (i+1)∧i+1≤n∧Pv (i+1) ys' σ' H'') HK p y fun ys' σ' H'' q=>⟨n - (i+1),by omega,rfl,HK,q⟩
 ·have e:i=n:=by omega
  subst e
  exact .inl ⟨hst ys σ H p,by omega,fun D hD=>hd ys σ H D p hD⟩
def Its (z:Str):It:=⟨fun i _=>i < z.cps.size,fun i H x H'=>H'=H∧∃ c,z.cps[i]? = some c∧x = .str ⟨#[c]⟩,fun i _=>i=z.cps.size⟩
theorem cJ {P:Program}{w:World}{K:PySem.W.Frag}{tg:Expr}{it n:Nat}{Pv:Nat→Value→Prop}{st:Nat→Heap→Prop}{J:It}{T:String}{fl:Nat→Array Value}
  (W:∀ A:Around,A.handled=none→Walks P w A it [it] [it] n Pv st) (hst:∀ i h,st i h→∃ o,h.get? it=some o∧o.cls = .type T∧o.data = .fields (fl i))
  (hT:["enumerate","zip","dict_itemiterator","dict_reverseitemiterator","odict_iterator","itertools.zip_longest","itertools.pairwise"].contains T=false)
  (hgo:∀ i H,J.go i H→i < n) (hstop:∀ i H,J.stop i H→i=n) (hy:∀ i H u,J.go i H→Pv i u→∃ x,bE x u∧J.yld i H x H)
  (hself:∀ (A:Around) (i:Nat) (s:Shared) (Q:Value→Shared→Prop) (E:Value→Shared→Prop),st i s.heap→Q (.ref it) s→wpAny (model P w) A (pyIter (.ref it)) Q E s):wb P w K tg J [it] it st where
 mem:=by simp
 obj:=fun i h s b hb=>by
  have e:b=it:=by simpa using hb
  subst e
  obtain ⟨o,e,c,d⟩:=hst i h s
  exact ⟨o,e,fun v z=>by rw [d] at z;cases z⟩
 keep:=fun i h h' s k=>(W {} rfl).frame i h h' s k
 item:=by
  intro X hP hw hK hc i Hz s σ H E I hf s0 hg
  subst hP hw hK
  obtain ⟨f0,f1,f2,f3,f4,f5⟩:=hf it (by simp)
  refine (W X.A (I.ok.hd hc)).item i s _ _ (hgo i H hg) s0 fun v h' tk hv HF kk=>?_
  have I1:Inv X Hz σ H { s with heap:=h',toks:=tk }:=I.turned (fun b o hb e=>kk b o (by simpa using hb) e) f0 f1 f3 f4 f5
  obtain ⟨o,e,c,d⟩:=hst _ _ HF
  obtain ⟨x,rx,yx⟩:=hy i H v hg hv
  exact ⟨v,rfl,qD (s:={ s with heap:=h',toks:=tk }) e c d hT ⟨x,H,I1,rx,yx,HF,fun b hb=>(hf b hb).1⟩⟩
 done:=by
  intro X hP hw hK hc i Hz s σ H E I hf s0 hg
  subst hP hw hK
  obtain ⟨f0,f1,f2,f3,f4,f5⟩:=hf it (by simp)
  have e:=hstop i H hg
  subst e
  exact (W X.A (I.ok.hd hc)).done s _ _ s0 fun h' tk kk=>⟨rfl,I.turned (fun b o hb e=>kk b o (by simpa using hb) e) f0 f1 f3 f4 f5⟩
 self:=hself
section
variable {X:Cx} {tg:Expr}
def A6 (tl:TE):TI:=fun σ H R=>tl σ H fun x H1=>∃ z,x = .str z∧R (Its z) H1
theorem nT {z:Str}{i:Nat}{H:Hp}{u:Value}(h:SignAt z i u):∃ x,bE x u∧(Its z).yld i H x H:=by
 obtain ⟨c,t,e,rfl⟩:=h
 exact ⟨.str ⟨#[c]⟩,⟨t,rfl⟩,rfl,c,e,rfl⟩
theorem kN {l:Expr}{tl:TE}(hl:PE X l tl):PI X tg l (A6 tl):=by
 intro Hz s σ H R I h
 refine thn (hl Hz s σ H _ I h) fun v s1 zq1=>?_
 obtain ⟨x,H1,I1,r1,q1⟩:=zq1
 obtain ⟨z,rfl,q⟩:=q1
 obtain ⟨t,rfl⟩:=r1
 have fp:∀ b∈[s1.heap.objs.size],nj X Hz H1 b:=fun b hb=>by
  have e:b=s1.heap.objs.size:=by simpa using hb
  subst e
  exact I1.fpOk (BB _) (I1.hok.fresh (BB _))
 cases ha:z.cps.all (· < 128)
 ·refine wpAny_pyIter_wide ha ⟨s1.heap.objs.size,[s1.heap.objs.size],_,Its z,H1,rfl,I1.kept (t':=s1.toks) fun b o e=>Bz _ e,
   cJ (T:="str_iterator") (fl:=fun i=>#[.str z t,.int i 0]) (fun A hh=>Walks.strWide hh _ z t) (fun i h st=>st) (by decide) (fun i H g=>g) (fun i H g=>g) (fun i H u _ hu=>nT hu) (fun A i s Q E st h=>wpAny_pyIter_striter_wide st h),⟨_,BI _ rfl,rfl,rfl⟩,fp,q⟩
 ·refine wpAny_pyIter_ascii ha ⟨s1.heap.objs.size,[s1.heap.objs.size],_,Its z,H1,rfl,I1.kept (t':=s1.toks) fun b o e=>Bz _ e,
   cJ (T:="str_ascii_iterator") (fl:=fun i=>#[.str z t,.int i 0]) (fun A hh=>Walks.strAscii hh _ z t) (fun i h st=>st) (by decide) (fun i H g=>g) (fun i H g=>g) (fun i H u _ hu=>nT hu) (fun A i s Q E st h=>wpAny_pyIter_striter_ascii st h),⟨_,BI _ rfl,rfl,rfl⟩,fp,q⟩
inductive AG (x:V)(lo:Option Int)(hi:Option Int)(H:Hp)(Q:VK):Prop
 | mk:∀ z,(x = .str z)→(z.length≤sizeLine)→(Q (.str (Txt.slice z lo hi)) H)→AG x lo hi H Q
theorem dN:SlR X AG:=by
 intro Hz s σ H x v vl vu lo hi sl Q I rx hs pl pu h
 obtain ⟨z,rfl,hz,q⟩:=h
 obtain ⟨t,rfl⟩:=rx
 have fin:∀ (lo hi:Option Int),Q (.str (Txt.slice z lo hi)) H→∀ t' k,EP X Hz σ Q (.str (Txt.slice z lo hi) t') { s with toks:=k }:=fun lo hi q t' k=>⟨.str _,H,I.tok _,⟨_,rfl⟩,q⟩
 refine ⟨"str",_,F.slot_str_getitem.lookup,Fk _ _ _,?_⟩
 cases pl with
 | none =>
  cases pu with
  | none=>exact Dy (l:=none) (u:=none) (st:=none) hs rfl (ED ⟨Cr (E1 z _ _) hz,fun t' k=>fin _ _ q t' k⟩)
  | int j uj=>exact Dy (l:=none) (u:=some (j,uj)) (st:=none) hs rfl (ED ⟨Cr (E1 z _ _) hz,fun t' k=>fin _ _ q t' k⟩)
 | int i ui =>
  cases pu with
  | none=>exact Dy (l:=some (i,ui)) (u:=none) (st:=none) hs rfl (ED ⟨Cr (E1 z _ _) hz,fun t' k=>fin _ _ q t' k⟩)
  | int j uj=>exact Dy (l:=some (i,ui)) (u:=some (j,uj)) (st:=none) hs rfl (ED ⟨Cr (E1 z _ _) hz,fun t' k=>fin _ _ q t' k⟩)
inductive sV (x:V)(vs:List V)(H:Hp)(Q:VK):Prop
 | mk:∀ z,(x = .str z)→(vs=[])→(z.length≤5592405)→(Q (.str (Txt.upper z)) H)→sV x vs H Q
inductive sW (x:V)(vs:List V)(H:Hp)(Q:VK):Prop
 | mk:∀ z,(x = .str z)→(vs=[])→(z.length≤5592405)→(Q (.str (Txt.lower z)) H)→sW x vs H Q
theorem qS:MtR X "str.upper" sV:=by
 intro Hz s σ H x vs v us Q I rx rv h
 obtain ⟨z,rfl,rfl,hz,q⟩:=h
 obtain ⟨t,rfl⟩:=rx
 cases rv
 exact SCL.upper hz fun _=>⟨.str _,H,I.tok _,⟨_,rfl⟩,q⟩
theorem hE:MtR X "str.lower" sW:=by
 intro Hz s σ H x vs v us Q I rx rv h
 obtain ⟨z,rfl,rfl,hz,q⟩:=h
 obtain ⟨t,rfl⟩:=rx
 cases rv
 exact SCL.lower hz fun _=>⟨.str _,H,I.tok _,⟨_,rfl⟩,q⟩
theorem gi:∀ {ys:List Str} {us:List Value},a8 (ys.map V.str) us→StrsAre us ys
 | [],_,r=>by
  rw [FC] at r
  cases r
  exact .nil
 | y::ys,us,r=>by
  rw [Cd] at r
  cases r with
  | cons r1 r2 =>
   obtain ⟨t,e⟩:=r1
   subst e
   exact .cons y t (gi r2)
inductive xg (K:PySem.W.Frag)(x:V)(vs:List V)(H:Hp)(Q:VK):Prop
 | mk:∀ z p ys,(x = .str z)→(vs=[.ref p])→(SqL K H p (ys.map V.str))→((ys.map (·.length)).sum+ys.length*z.length≤16777216)→(Q (.str (Txt.join z ys)) H)→xg K x vs H Q
theorem fw:MtR X "str.join" (xg X.K):=by
 intro Hz s σ H x vs v us Q I rx rv h
 obtain ⟨z,p,ys,rfl,rfl,hq,hz,q⟩:=h
 obtain ⟨t,rfl⟩:=rx
 obtain ⟨u,rfl,ru⟩:=dJ rv
 cases ru
 obtain ⟨HE,r,pl,_⟩:=I.list hq
 exact join_list pl.isList (by simpa using gi r) hz fun t' k=>⟨.str _,H,I.tok _,⟨_,rfl⟩,q⟩
inductive eP  (x:V)(y:V)(H:Hp)(Q:VK):Prop
 | mk:∀ z n,(x = .str z)→(y = .int n)→(MulOk z n)→(Q (.str (Txt.mul z n)) H)→eP x y H Q
theorem gj:OpR X (binaryOp .Mult) eP:=by
 intro Hz s σ H x y v u Q I rx ry h
 obtain ⟨z,n,rfl,rfl,hz,q⟩:=h
 obtain ⟨t,rfl⟩:=rx
 obtain ⟨t',rfl⟩:=ry
 exact SB.mul hz fun t' k=>⟨.str _,H,I.tok _,⟨_,rfl⟩,q⟩
end
theorem nU {z:Str}{g:TG}{tb:TS}{D:gI}{σ:St}{H:Hp}(Pv:Nat→St→Hp→Prop)(h0:Pv 0 σ H)
  (hs:∀ i c σ H,z.cps[i]? = some c→Pv i σ H→g (.str ⟨#[c]⟩) σ H fun σ2 H2=>tb { D with nx:=Pv (i+1),ct:=Pv (i+1),bk:=D.nx } σ2 H2) (hd:∀ σ H,Pv z.cps.size σ H→D.nx σ H) :
  ∃ W:Nat→Nat→St→Hp→Prop,(∃ m,W 0 m σ H)∧∀ i m σ H,W i m σ H →
   ((Its z).stop i H∧D.nx σ H) ∨ ((Its z).go i H∧∃ N:St→Hp→Prop,(∀ σ' H',N σ' H'→∃ m',m' < m∧W (i+1) m' σ' H')∧∀ x H',(Its z).yld i H x H'→g x σ H' fun σ2 H2=>tb { D with nx:=N,ct:=N,bk:=D.nx } σ2 H2):=by
 refine ⟨fun i m σ H=>m=z.cps.size - i∧i≤z.cps.size∧Pv i σ H,⟨z.cps.size,by simp,Cc _,h0⟩,?_⟩
 rintro i m σ H ⟨rfl,hi,p⟩
 by_cases HK:i < z.cps.size
 ·refine .inr ⟨HK,Pv (i+1),fun σ' H' p'=>⟨z.cps.size - (i+1),by omega,rfl,HK,p'⟩,fun x H' y=>?_⟩
  obtain ⟨e,c,hc,ex⟩:=y
  subst e ex
  exact hs i c σ _ hc p
 ·have e:i=z.cps.size:=by omega
  subst e
  exact .inl ⟨rfl,hd σ H p⟩
end L2
namespace PySem
open Sem (wp)
open Builtin Builtin.SmallTypes
namespace F
theorem lookup_str_reversed:typeLookup (.type "str") "__reversed__" = pure none:=by rw [Fo,Ea]; kernel_rfl
theorem hJ:Slot "reversed" "__init__" "object.__init__" :=
 .of (owner:="object") (n:="__init__") (by rw [Fo,Ea];kernel_rfl) (by decide +kernel) (by decide +kernel) (by decide +kernel)
  (by first | exact .inl (by decide +kernel) | exact .inr (by decide +kernel)) (by rw [FK];kernel_rfl)
theorem called_rvs:TypeCalled "reversed" "reversed.__new__" "object.__init__" :=
 ⟨by decide +kernel,create_reversed,⟨_,_,mro_reversed⟩,made_reversed,plain_reversed_new,sub_reversed_self,hJ⟩
end F
set_option maxHeartbeats 1000000 in
theorem nV (x:Str)(t:Tok):Meets (Builtin.«reversed.__new__» ⟨[.type "reversed",.str x t],[]⟩) (fun _ R s=>¬ (x.length:Int)≥2 ^ 63 ∧
   ∀ tk,R (.ok (.ret (.ref s.heap.objs.size))) { s with heap:=s.heap.push { cls:=.type "reversed",data:=.fields #[.str x t,rawInt ((x.length:Int) - 1)] },toks:=tk }) :=
 .of_wp fun prog w A R s h=>by
  obtain ⟨hx,h⟩:=h
  unfold Builtin.«reversed.__new__»
  refine Bp (EU (newClass_reversed _) ?_)
  try dsimp only
  refine Bp (EU (a:=()) (by first | rfl | kernel_rfl) ?_)
  refine Bp (EU (a:=()) (by first | rfl | kernel_rfl) ?_)
  try dsimp only
  refine Bp (DV (Fk s x t) F.lookup_str_reversed ?_)
  try dsimp only
  refine Bp ?_
  have hl:=F.slot_str_getitem.lookup
  have hT:=Fk s x t
  have hD:isSubtype (.type "str") (.type "dict")=pure false:=by rw [FK];kernel_rfl
  repeat (any_goals (first | assumption | refine PySem.P.len_str hx ?_ | wp_step))
  exact ⟨_,rfl,h _⟩
def Heap.IsRvs (h:Heap)(a:Addr)(x:Str)(t:Tok)(i:Int):Prop:=∃ o,h.get? a=some o∧o.cls = .type "reversed"∧o.data = .fields #[.str x t,rawInt i]
theorem Heap.IsRvs.typeIs {s:Shared}{a:Addr}{x:Str}{t:Tok}{i:Int}(y:s.heap.IsRvs a x t i):s.TypeIs (.ref a) "reversed":=let ⟨o,ho,hc,_⟩:=y; ⟨o,ho,hc⟩
namespace F
theorem slot_rvs_next:Slot "reversed" "__next__" "reversed.__next__" :=
 .of (owner:="reversed") (n:="__next__") (by rw [Fo,Ea];kernel_rfl) (by decide +kernel) (by decide +kernel) (by decide +kernel)
  (by first | exact .inl (by decide +kernel) | exact .inr (by decide +kernel)) (by rw [FK];kernel_rfl)
theorem entry_rvs_next:entryFor table "reversed.__next__" = some Builtin.«reversed.__next__»:=entryFor_of_tree (by kernel_rfl)
theorem args_rvs_next (a:Value):argsOk "reversed.__next__" ⟨[a],[]⟩:=by unfold argsOk; kernel_rfl
theorem slot_rvs_iter:Slot "reversed" "__iter__" "reversed.__iter__" :=
 .of (owner:="reversed") (n:="__iter__") (by rw [Fo,Ea];kernel_rfl) (by decide +kernel) (by decide +kernel) (by decide +kernel)
  (by first | exact .inl (by decide +kernel) | exact .inr (by decide +kernel)) (by rw [FK];kernel_rfl)
theorem args_rvs_iter (a:Value):argsOk "reversed.__iter__" ⟨[a],[]⟩:=by unfold argsOk; kernel_rfl
theorem entry_rvs_iter:entryFor table "reversed.__iter__" = some Builtin.«dict_keyiterator.__iter__» :=
 entryFor_alias (id':="dict_keyiterator.__iter__") (by kernel_rfl) rfl (by decide +kernel) (by kernel_rfl)
end F
section
variable {prog:Program} {w:World} {A:Around} {E:Value→Shared→Prop} {s:Shared} {x:Str} {t:Tok}
theorem i9 {Q:Value→Shared→Prop}(hx:¬ (x.length:Int)≥2 ^ 63)
  (h:∀ tk,Q (.ref s.heap.objs.size) { s with heap:=s.heap.push { cls:=.type "reversed",data:=.fields #[.str x t,rawInt ((x.length:Int) - 1)] },toks:=tk }):wpAny (model prog w) A (call (.type "reversed") [.str x t]) Q E s :=
 callType_new F.called_rvs (by decide) (F.typeCall_reversed_1 _) (F.newCall_reversed_1 _) (fun obj=>F.args_object_init_2 obj _) F.entry_reversed_new (nV x t) ⟨hx,fun tk=>⟨⟨_,BI _ rfl,rfl⟩,h tk⟩⟩
theorem hU {it:Addr}{i:Int}{Q:Value→Shared→Prop}(hit:s.heap.IsRvs it x t i)(h:Q (.ref it) s):wpAny (model prog w) A (pyIter (.ref it)) Q E s:=by
 refine wpAny_pyIter_slot hit.typeIs F.slot_rvs_iter (CI F.slot_rvs_iter hit.typeIs F.entry_rvs_iter ?_ (F.args_rvs_iter _))
 show wpAny _ _ (ret (.ref it)) _ _ s
 exact Br ⟨_,rfl,"reversed",_,hit.typeIs,F.slot_rvs_next.lookup,h⟩
theorem hV {it:Addr}{i:Nat}{c:Nat}{Q:Option Value→Shared→Prop}(hit:s.heap.IsRvs it x t (i:Int))(hx:x.cps[i]? = some c)(h63:(i:Int) < 2 ^ 63)
  (hQ:∀ h' tk u,h'.IsRvs it x t ((i:Int) - 1)→Heap.SameBut it s.heap h'→Q (some (.str ⟨#[c]⟩ u)) { s with heap:=h',toks:=tk }):wpAny (model prog w) A (pyNext (.ref it)) Q E s:=by
 obtain ⟨o,ho,hc,hd⟩:=id hit
 unfold pyNext
 refine Bp (EE (Da (name:=Str.ofString "__next__") hit.typeIs F.slot_rvs_next
  (CI F.slot_rvs_next hit.typeIs F.entry_rvs_next ?_ (F.args_rvs_next _))))
 unfold Builtin.«reversed.__next__»
 refine Bp (EU (a:=(Value.ref it,[])) rfl ?_)
 try dsimp only
 refine Bp (Es ho hd (x:=.str x t) rfl ?_)
 refine Bp (Es ho hd (x:=rawInt (i:Int)) rfl ?_)
 show wpAny _ _ (if (i:Int) < 0 then _ else _) _ _ s
 rw [if_neg (by omega)]
 refine Bp (DV (Fk s x t) F.slot_str_getitem.lookup ?_)
 show wpAny _ _ (if (some (Value.builtin "str.__getitem__")).isNone=true then _ else _) _ _ s
 rw [if_neg (by decide)]
 refine Bp (wpAny_mkInt ?_)
 have HK:i < x.length:=by
  have:=DJ.mp hx
  exact this.1
 refine Bp (EE (PySem.P.getItem_str (c:=c) ?_ ?_ ?_))
 ·have e1:decide ((i:Int) < -(2 ^ 63:Int))=false:=Bs (by omega)
  have e2:decide ((i:Int)≥2 ^ 63)=false:=Bs (by omega)
  rw [e1,e2,GZ]
 ·rw [PySem.StrLaws.seqIndex_nonneg (by omega) (by omega)]
  simpa using hx
 try dsimp only
 refine Bp (Es ho hd (x:=rawInt (i:Int)) rfl ?_)
 show wpAny _ _ (setField (.ref it) 1 (rawInt ((i:Int) - 1)) >>= _) _ _ _
 refine Bp (EZ ho hd (by simp) ?_)
 refine Br ⟨_,rfl,Br (hQ _ _ _ ?_ (D2 ..))⟩
 exact ⟨_,DO _ ho (E2 (DP hd _)),(Obj.cls_mapFields ..).trans hc,by
  rw [DP hd];simp⟩
theorem i_ {it:Addr}{Q:Option Value→Shared→Prop}(hh:A.handled=none)(hit:s.heap.IsRvs it x t (-1))
  (hQ:∀ h',(∀ b o,b≠it→s.heap.get? b=some o→h'.get? b=some o)→Q none { s with heap:=h' }):wpAny (model prog w) A (pyNext (.ref it)) Q E s:=by
 obtain ⟨o,ho,hc,hd⟩:=id hit
 unfold pyNext
 refine Bp (EE (Da (name:=Str.ofString "__next__") hit.typeIs F.slot_rvs_next
  (CI F.slot_rvs_next hit.typeIs F.entry_rvs_next ?_ (F.args_rvs_next _))))
 unfold Builtin.«reversed.__next__»
 refine Bp (EU (a:=(Value.ref it,[])) rfl ?_)
 try dsimp only
 refine Bp (Es ho hd (x:=.str x t) rfl ?_)
 refine Bp (Es ho hd (x:=rawInt (-1)) rfl ?_)
 show wpAny _ _ (if (-1:Int) < 0 then _ else _) _ _ s
 rw [if_pos (by decide)]
 refine Bp (DM ?_)
 refine Bp ?_
 show wpAny _ _ (setField (.ref it) 1 (rawInt (-1)) >>= fun _=>setField (.ref it) 0 .none) _ _ s
 refine Bp (EZ ho hd (by simp) ?_)
 have ho2:=DO (Obj.mapFields fun a=>a.setIfInBounds 1 (rawInt (-1))) ho (E2 (DP hd _))
 have hd2:=DP hd fun a=>a.setIfInBounds 1 (rawInt (-1))
 refine EZ ho2 hd2 (by simp) ?_
 generalize hh2:(s.heap.update it _).update it _=h2
 have kk:∀ b o,b≠it→s.heap.get? b=some o→h2.get? b=some o:=fun b o hb e=>by
  rw [← hh2]
  exact (CH _ _ (Ne.symm hb)).trans ((CH _ _ (Ne.symm hb)).trans e)
 have hz:A.in1.handled=none:=hh
 have sub:=isSubtype_stop
 repeat (any_goals (first | assumption | wp_step))
 unfold raiseNew
 refine Bp (wpAny_handled ?_)
 rw [hz]
 refine Bp (Br (wpAny_throw ?_))
 refine Bp (Gv (T:="StopIteration") (b:=true) ?_ sub (Br (hQ _ fun b o hb e=>?_)))
 ·exact ⟨_,BI _ rfl,rfl⟩
 exact Bz _ (Bz _ (kk b o hb e))
theorem nX (hh:A.handled=none)(it:Addr)(x:Str)(t:Tok)(h63:(x.cps.size:Int) < 2 ^ 63) :
  Walks prog w A it [it] [it] x.cps.size (fun i v=>∃ c u,x.cps[x.cps.size - 1 - i]? = some c∧v = .str ⟨#[c]⟩ u) (fun i h=>i≤x.cps.size∧h.IsRvs it x t ((x.cps.size:Int) - 1 - (i:Int))) where
 sub:=fun _ hb=>hb
 frame:=fun _ _ _ st hk=>let ⟨l,o,ho,r⟩:=st;⟨l,o,hk it (by simp) o ho,r⟩
 item:=fun i s Q E hi y hQ=>by
  have e:(x.cps.size:Int) - 1 - (i:Int)=((x.cps.size - 1 - i:Nat):Int):=by omega
  have hit:=y.2
  rw [e] at hit
  have hx:x.cps[x.cps.size - 1 - i]? = some (x.cps[x.cps.size - 1 - i]'(by omega)):=Ek (by omega)
  refine hV hit hx (by omega) fun h' tk u hit' hs'=>?_
  have e2:((x.cps.size - 1 - i:Nat):Int) - 1=(x.cps.size:Int) - 1 - ((i+1:Nat):Int):=by omega
  rw [e2] at hit'
  exact hQ _ h' tk ⟨_,u,hx,rfl⟩ ⟨hi,hit'⟩ fun b o hb eo=>hs'.extBut b o (fun h=>hb (by simp [h])) eo
 done:=fun s Q E y hQ=>by
  have e:(x.cps.size:Int) - 1 - (x.cps.size:Int) = -1:=by omega
  have hit:=y.2
  rw [e] at hit
  exact i_ hh hit fun h' he'=>hQ h' s.toks fun b o hb eo=>he' b o (fun h=>hb (by simp [h])) eo
 self:=fun _ _ _ _ y hQ=>hU y.2 hQ
end
end PySem
namespace L2
open PySem PySem.Spec PyProof.Rows
def zo (z:Str):It:=⟨fun i _=>i < z.cps.size,fun i H x H'=>H'=H∧∃ c,z.cps[z.cps.size - 1 - i]? = some c∧x = .str ⟨#[c]⟩,fun i _=>i=z.cps.size⟩
section
variable {X:Cx} {tg:Expr}
def zp (ta:TA):TI:=fun σ H R=>ta σ H fun vs H1=>∃ z,vs=[.str z]∧z.length≤sizeLine∧R (zo z) H1
theorem uA {a:Expr}{ta:TA}{p pos:Pos}(hg:Gl X "reversed")(hm:X.mg "reversed" = none)(hb:bootBuiltins "reversed" = some (.type "reversed"))(ha:PA X [a] ta)(hs:starEach [a] X.env=[(false,eval a X.env)]:=by rfl) :
  PI X tg (.Call (.Name "reversed" p) [a] [] pos) (zp ta):=by
 intro Hz s σ H R I h
 refine Call_ (iR I hg hm hb (DC (thn (ha pos Hz s σ H _ I h) fun us s1 zq1=>?_) hs rfl))
 obtain ⟨vs,H1,I1,r1,q1⟩:=zq1
 obtain ⟨z,rfl,hz,q⟩:=q1
 obtain ⟨u,rfl,t,rfl⟩:=dJ r1
 have hn:=dI
 have hsz:z.cps.size=z.length:=rfl
 refine i9 (by omega) fun tk=>?_
 have hit:Heap.IsRvs (s1.heap.push { cls:=.type "reversed",data:=.fields #[.str z t,rawInt ((z.length:Int) - 1)] }) s1.heap.objs.size z t ((z.length:Int) - 1):=⟨_,BI _ rfl,rfl,rfl⟩
 refine hU (s:={ s1 with heap:=s1.heap.push { cls:=.type "reversed",data:=.fields #[.str z t,rawInt ((z.length:Int) - 1)] },toks:=tk }) hit ?_
 refine ⟨s1.heap.objs.size,[s1.heap.objs.size],_,zo z,H1,rfl,I1.kept (t':=tk) fun b o e=>Bz _ e,
  cJ (T:="reversed") (fl:=fun i=>#[.str z t,rawInt ((z.cps.size:Int) - 1 - (i:Int))]) (fun A hh=>nX hh _ z t (by omega)) (fun i h st=>st.2) (by decide) (fun i H g=>g) (fun i H g=>g)
   (fun i H u _ ⟨c,t',e,eu⟩=>⟨.str ⟨#[c]⟩,⟨t',eu⟩,rfl,c,e,rfl⟩) (fun A i s Q E st h=>hU st.2 h),⟨Cc _,by simpa [hsz] using hit⟩,fun b hb=>?_,q⟩
 have e:b=s1.heap.objs.size:=by simpa using hb
 subst e
 exact I1.fpOk (BB _) (I1.hok.fresh (BB _))
structure DTx (K:PySem.W.Frag) (w:World) (a:Addr):Prop where
 ob:∃ (es:Array DictEntry) (n:Nat),K.lookup a=some ⟨.type "dict",none,.dict es n,#[]⟩∧PySem.W.KeysLit w.params es.toList
theorem qT {a:Addr}(D:DTx X.K X.w a):IxR X (fun x y H Q=>∃ z z' t,x = .ref a∧y = .str z∧PySem.W.nsIn X.K a z=some (some (.str z' t))∧Q (.str z') H):=by
 intro value slice Hz s σ H x y v u Q I rx ry h hs
 obtain ⟨z,z',t',rfl,rfl,e,q⟩:=h
 cases rx
 obtain ⟨t,rfl⟩:=ry
 obtain ⟨es,n,hl,hk⟩:=D.ob
 obtain ⟨m,F⟩:=I.fr
 exact PySem.W.topItem_K F I.ok.mod.kin hl hk e ⟨.str z',H,I.tok _,⟨_,rfl⟩,q⟩ hs
def qU (K:PySem.W.Frag)(a:Addr)(Q:VK):V→Hp→Prop:=fun y H1=>∃ z z' t,y = .str z∧PySem.W.nsIn K a z=some (some (.str z' t))∧Q (.str z') H1
def zq (K:PySem.W.Frag)(a:Addr)(ti:TE):TE:=fun σ H Q=>ti σ H (qU K a Q)
theorem uB {K:PySem.W.Frag}{w:World}{a:Addr}{x:Str}{i:Expr}{ti:TE}{p pos:Pos}(D:DTx K w a)(hK:X.K=K)(hw:X.w=w)(hg:Gl X x)(hm:X.mg x=some (.ref a))(hi:PE X i ti)(hs:nH i)
  (hd:(x == ("__debug__":Str))=false:=by decide):PE X (.Subscript (.Name x p) i pos) (zq K a ti):=by
 subst hK hw
 intro Hz s σ H Q I h
 refine GT (m_ I hg hm (thn (hi Hz s σ H _ I h) fun u s2 zq2=>?_) hd)
 obtain ⟨y,H2,I2,ry,z,z',t',e1,e2,q⟩:=zq2
 exact qT D _ _ Hz s2 σ H2 (.ref a) y (.ref a) u Q I2 rfl ry ⟨z,z',t',rfl,e1,e2,q⟩ (hs _ _)
end
end L2
namespace Wd
abbrev L:=Fin 12
def inv (x:L):L:=if h:x.val < 6 then ⟨x.val+6,by omega⟩ else ⟨x.val - 6,by omega⟩
theorem aU:∀ x:L,inv (inv x)=x:=by decide
theorem ja:∀ x:L,inv x≠x:=by decide
def bk (w:List L):List L:=(w.map inv).reverse
theorem zr (w:List L):bk (bk w)=w:=by
 unfold bk
 rw [E9,List.reverse_reverse,Dd]
 have:(inv ∘ inv)=id:=funext fun x=>aU x
 rw [this,List.map_id]
theorem aK (w:List L):(bk w).length=w.length:=by simp [bk]
theorem gk (x:L):bk [x]=[inv x]:=rfl
def push (st:List L)(x:L):List L:=match st with
 | []=>[x]
 | y::r=>if y=inv x then r else x::y::r
def Rd:List L→Prop
 | []=>True
 | [_]=>True
 | x::y::r=>y≠inv x∧Rd (y::r)
theorem Rd.tail:∀ {x:L} {r:List L},Rd (x::r)→Rd r
 | _,[],_=>trivial
 | _,_::_,h=>h.2
def rep:Nat→List L→List L
 | 0,_=>[]
 | n+1,w=>rep n w++w
theorem h_ (w:List L):∀ n,rep n w++w=w++rep n w
 | 0=>by simp [rep]
 | n+1=>by
  show (rep n w++w)++w=w++(rep n w++w)
  rw [← BF,← h_ w n]
theorem bV (w:List L):∀ n,(rep n w).length=n*w.length
 | 0=>by simp [rep]
 | n+1=>by
  show (rep n w++w).length=_
  rw [Bq,bV w n,E3]
def pw (w:List L)(n:Int):List L:=rep n.natAbs (if n < 0 then bk w else w)
end Wd
namespace L2
open PySem PySem.Spec PyProof.Rows Wd
def cp (x:L):Nat:=if x.val < 6 then 97+x.val else 59+x.val
theorem uC:∀ x:L,cp x < 128:=by decide
theorem xh:∀ x y:L,cp x=cp y→x=y:=by decide
def toS (w:List L):Str:=⟨(w.map cp).toArray⟩
def tx (w:List L):V:=.str (toS w)
theorem cK (w:List L):(toS w).cps.toList=w.map cp:=by simp [toS]
theorem ah (w:List L):(toS w).length=w.length:=by simp [toS,Str.length]
theorem bH (w:List L):(toS w).cps.size=w.length:=by simp [toS]
theorem gp (u v:List L):toS u++toS v=toS (u++v):=by
 apply Str.ext'
 rw [Str.cps_append]
 simp [toS]
theorem d_:∀ {u v:List L},u.map cp=v.map cp→u=v
 | [],[],_=>rfl
 | [],_::_,h=>by simp at h
 | _::_,[],h=>by simp at h
 | x::u,y::v,h=>by
  simp only [Cd,Fp] at h
  rw [xh x y h.1,d_ h.2]
theorem jQ {u v:List L}(h:toS u=toS v):u=v:=by
 have:(toS u).cps.toList=(toS v).cps.toList:=by rw [h]
 rw [cK,cK] at this
 exact d_ this
theorem kO {u v:List L}(h:tx u=tx v):u=v:=jQ (V.str.inj h)
theorem sX (u v:List L):decide (tx u=tx v)=decide (u=v):=by
 by_cases h:u=v
 ·subst h;simp
 ·rw [Bs h,Bs fun e=>h (kO e)]
theorem uD:toS [0,1,2,3,4,5]=("abcdef":Str):=by decide +kernel
theorem big:toS [6,7,8,9,10,11]=("ABCDEF":Str):=by decide +kernel
theorem eB {w:List L}{i c:Nat}(h:(toS w).cps[i]? = some c):∃ x,w[i]? = some x∧(⟨#[c]⟩:Str)=toS [x]:=by
 have h:((w.map cp).toArray)[i]? = some c:=h
 rw [List.getElem?_toArray,BH] at h
 cases e:w[i]? with
 | none=>rw [e] at h;cases h
 | some x =>
  rw [e] at h
  have:cp x=c:=BA h
  exact ⟨x,rfl,by rw [← this];rfl⟩
theorem du {w:List L}{k:Nat}{x:L}{i:Int}(hk:i=(k:Int))(h:w[k]? = some x):atI (toS w).cps.toList i=some (cp x):=by
 subst hk
 rw [cK]
 obtain ⟨hl,e⟩:=Bv.mp h
 unfold atI ixN
 rw [if_pos (by omega),if_pos (by rw [Bo];omega)]
 show (w.map cp)[((k:Nat):Int).toNat]? = _
 rw [Ce,BH,h]
 rfl
def qV (w:List L)(lo hi:Option Int):List L:=(w.drop (HT.sIx w.length 0 lo)).take (HT.sIx w.length w.length hi - HT.sIx w.length 0 lo)
theorem uE (lo hi:Option Int)(n:Nat):Builtin.Str.strSliceIndices lo hi 1 n=(List.range (HT.sIx n n hi - HT.sIx n 0 lo)).map (fun k=>HT.sIx n 0 lo+k):=by
 have cl:∀ v:Int,max (0:Int) (min (if v < 0 then v+(n:Int) else v) (n:Int))=(((if v < 0 then (v+(n:Int)).toNat else min v.toNat n):Nat):Int):=fun v=>by
  by_cases hv:v < 0
  ·simp only [if_pos hv];omega
  ·simp only [if_neg hv];omega
 have fin:∀ a b:Nat,sliceRange (a:Int) (b:Int) 1=(List.range (b - a)).map (fun k=>a+k):=fun a b=>by
  unfold sliceRange
  simp only [show ((1:Int) > 0)=True from by simp,DH]
  by_cases HK:(a:Int) < b
  ·have e3:(((b:Int) - a+1 - 1) / 1).toNat=b - a:=by first | omega | (simp;done) | (simp;omega)
   simp only [HK,DH,e3]
   exact List.map_congr_left fun k _=>by omega
  ·have:b - a=0:=by omega
   simp [HK,this]
 unfold Builtin.Str.strSliceIndices
 simp only [show ((1:Int) > 0)=True from by simp,DH]
 cases lo with
 | none =>
  cases hi with
  | none=>exact fin 0 n
  | some j=>simp only [cl];exact fin 0 _
 | some i =>
  cases hi with
  | none=>simp only [cl];exact fin _ n
  | some j=>simp only [cl];exact fin _ _
theorem bC (w:List L)(lo hi:Option Int):Txt.slice (toS w) lo hi=toS (qV w lo hi):=by
 have h1:=HT.nD w.length 0 (Cc _) lo
 have h2:=HT.nD w.length w.length (BB _) hi
 unfold Txt.slice
 rw [uE,ah]
 split
 ·rename_i h
  have hl:HT.sIx w.length w.length hi - HT.sIx w.length 0 lo=w.length:=by simpa using h
  have e:qV w lo hi=w:=by
   unfold qV
   rw [hl]
   have ha:HT.sIx w.length 0 lo=0 ∨ w.length=0:=by omega
   rcases ha with ha | ha
   ·rw [ha,El,C7]
   ·have:w=[]:=Dv ha
    subst this
    simp
  rw [e]
 ·apply Str.ext'
  show (List.filterMap _ _).toArray=_
  have e:=StrLaws.picks (w.map cp) (HT.sIx w.length w.length hi - HT.sIx w.length 0 lo) (HT.sIx w.length 0 lo)
  by_cases hle:HT.sIx w.length 0 lo≤HT.sIx w.length w.length hi
  ·have e:=e (by rw [Bo];omega)
   have e2:(fun k:Nat=>(toS w).cps[k]?)=fun k:Nat=>(w.map cp)[k]?:=funext fun k=>by simp [toS]
   rw [e2,e]
   simp [toS,qV,Gh,EF]
  ·have z:HT.sIx w.length w.length hi - HT.sIx w.length 0 lo=0:=by omega
   rw [z]
   simp [toS,qV,z]
theorem fx (w:List L){n:Int}(h:0≤n):qV w none (some n)=w.take n.toNat:=by
 obtain ⟨k,rfl⟩:=CB h
 unfold qV
 rw [HT.gN,HT.gO,El,G5,Ce]
 by_cases hk:k≤w.length
 ·rw [Nat.min_eq_left hk]
 ·rw [Nat.min_eq_right (by omega),C7,B6 (by omega)]
theorem kP (w:List L){n:Int}(h:0≤n):qV w (some n) none=w.drop n.toNat:=by
 obtain ⟨k,rfl⟩:=CB h
 unfold qV
 rw [HT.gN,HT.gO,Ce]
 by_cases hk:k≤w.length
 ·rw [Nat.min_eq_left hk,B6 (by rw [Cq];omega)]
 ·rw [Nat.min_eq_right (by omega),Gw,List.drop_eq_nil_of_le (by omega)]
  simp
theorem nY (w:List L):Txt.upper (toS w)=⟨((w.map cp).map up1).toArray⟩:=by
 rw [upper_ascii fun c hc=>by rw [cK] at hc;obtain ⟨x,_,rfl⟩:=B2.mp hc;exact uC x]
 simp [toS]
theorem n_ (w:List L):Txt.lower (toS w)=⟨((w.map cp).map lo1).toArray⟩:=by
 rw [lower_ascii fun c hc=>by rw [cK] at hc;obtain ⟨x,_,rfl⟩:=B2.mp hc;exact uC x]
 simp [toS]
theorem zu:∀ x:L,x.val < 6→up1 (cp x)=cp (inv x):=by decide
theorem zw:∀ x:L,¬ x.val < 6→lo1 (cp x)=cp (inv x):=by decide
theorem oa {x:L}(h:x.val < 6):Txt.upper (toS [x])=toS [inv x]:=by
 rw [nY]
 show (⟨#[up1 (cp x)]⟩:Str)=⟨#[cp (inv x)]⟩
 rw [zu x h]
theorem og {x:L}(h:¬ x.val < 6):Txt.lower (toS [x])=toS [inv x]:=by
 rw [n_]
 show (⟨#[lo1 (cp x)]⟩:Str)=⟨#[cp (inv x)]⟩
 rw [zw x h]
theorem qW:∀ w:List L,Txt.join ("":Str) (w.map fun x=>toS [x])=toS w:=by
 intro w
 have e0:("":Str)=Str.empty:=by decide +kernel
 unfold Txt.join
 rw [StrLaws.glued_eq_join,e0]
 induction w with
 | nil=>rfl
 | cons x r ih =>
  cases r with
  | nil=>rfl
  | cons y r =>
   show toS [x]++Str.empty++Str.join Str.empty ((y::r).map fun x=>toS [x])=_
   rw [ih,Str.append_empty,gp]
   rfl
theorem uF (w:List L):((w.map fun x=>toS [x]).map (·.length)).sum=w.length:=by
 induction w with
 | nil=>rfl
 | cons x r ih =>
  simp only [Cd,List.sum_cons,Cn]
  rw [ih,ah]
  simp only [D9]
  omega
theorem eQ (w:List L):∀ (n:Nat) (acc:Array Nat),(List.replicate n (toS w).cps).foldl (· ++ ·) acc=acc++((rep n w).map cp).toArray
 | 0,acc=>by simp [rep]
 | n+1,acc=>by
  rw [List.replicate_succ,List.foldl_cons,eQ w n]
  show _=acc++((rep n w++w).map cp).toArray
  rw [h_]
  simp [toS]
theorem oh:∀ n,rep n ([]:List L)=[]
 | 0=>rfl
 | n+1=>by show rep n []++[]=[];rw [oh n];rfl
theorem oi (w:List L)(n:Int):Txt.mul (toS w) n=toS (rep n.toNat w):=by
 unfold Txt.mul
 by_cases h1:n < 1
 ·rw [if_pos h1]
  have:n.toNat=0:=by omega
  rw [this]
  rfl
 ·rw [if_neg h1]
  split
  ·rename_i h
   rw [ah] at h
   simp only [Bool.or_eq_true,GU] at h
   rcases h with h | h
   ·subst h
    show toS w=toS (rep 1 w)
    show toS w=toS ([]++w)
    rfl
   ·have:w=[]:=Dv h
    subst this
    rw [oh]
  ·apply Str.ext'
   show (List.replicate n.toNat (toS w).cps).foldl (· ++ ·) #[]=_
   rw [eQ]
   simp [toS]
theorem jb (w:List L){n:Int}(h1:-1000000≤n)(h2:n≤1000)(hw:w.length≤10000):MulOk (toS w) n:=by
 refine ⟨?_,fun hn _=>?_,fun hn _=>?_⟩
 ·have e1:decide (n < -(2 ^ 63:Int))=false:=Bs (by omega)
  have e2:decide (n≥2 ^ 63)=false:=Bs (by omega)
  rw [e1,e2,GZ]
 ·rw [ah]
  have hn1:1≤n:=by omega
  have q:(9223372036854775:Int)≤(2 ^ 63 - 1) / n:=by
   rw [Int.le_ediv_iff_mul_le (by omega)]
   omega
  omega
 ·rw [ah]
  unfold Builtin.Str.tooLong
  have e:sizeLine=16777216:=GX
  obtain ⟨k,rfl⟩:=CB (show 0≤n by omega)
  have hk:k≤1000:=by omega
  rw [Ce]
  have q:w.length*k≤10000*1000:=FL hw hk
  exact Bs (by omega)
structure Fnc (P:Program) (w:World) (K:PySem.W.Frag) (mg:Str→Option Value) (base:Heap) (x:Str) (ps:List Str) (k:Nat) (sp:Sp):Prop where
 ex:∃ (f:Addr) (fd:FuncData),mg x=some (.ref f)∧PySem.W.keepIn K (.ref f)=true∧mi K fd ps []∧qx P w K mg base CX0 k f fd ps sp
theorem aI {X:Cx}{x:Str}{ps:List Str}{k j:Nat}{sp:Sp}{e:Expr}{es:List Expr}{t:TA}{p pos:Pos}(F:Fnc X.prog X.w X.K X.mg X.base x ps j sp)(hr:gf k X.A)(hj:j≤k)(hg:Gl X x)(ha:PA X (e::es) t)
  (hdb:(x == ("__debug__":Str))=false:=by decide) (he:starEach (e::es) X.env=(false,eval e X.env)::starEach es X.env:=by rfl) (hpl:(backTo pos (starEach es X.env)).any (·.1)=false:=by rfl) :
  PE X (.Call (.Name x p) (e::es) [] pos) (wK sp [] E0 t):=by
 obtain ⟨f,fd,hm,hk,hb,F⟩:=F.ex
 exact uh F (hr.mono hj) hg hm hk hb .nil zk ha hdb he hpl
structure Df (K:PySem.W.Frag) (mg:Str→Option Value) (x:Str) (st:Stmt):Prop where
 ex:∃ (f:Addr) (fd:FuncData),mg x=some (.ref f)∧Fun K x x st f fd
theorem Df.ok {P:Program}{w:World}{K:PySem.W.Frag}{mg:Str→Option Value}{base:Heap}{x:Str}{st:Stmt}{N ps:List Str}{k:Nat}{sp:Sp}(D:Df K mg x st)(S:aJ N ps (av st))
  (hb:∀ (kV doc pm:Value) (an:Option Addr) (HM ct:Value) (us:List Value),us.length=ps.length→bindArgs (PySem.W.fnOf x x (ck st) (bN st) (av st) .none kV doc pm an HM ct) ⟨us,[]⟩=pure (ps.zip us))
  (len:∀ vs H Q E,sp vs H Q E→vs.length=ps.length)
  (hbody:∀ (f:Addr) (HM:Value) (A:Around) (outer:List Env) (s:Shared) (H:Hp) (vs:List V) (Q:VK) (E:XK),gf k (A.deeper (envOfC x (av st) s.heap.objs.size f HM))→sp vs H Q E →
   ∃ t,PSs (uk CX0 P w K mg base N x (av st) f HM A outer s H E).nox (bN st) t∧t { nx:=fun _ H'=>Q .non H',rt:=Q } (start N vs) H):Fnc P w K mg base x ps (k+1) sp:=by
 obtain ⟨f,fd,hm,F⟩:=D.ex
 exact ⟨f,fd,hm,F.kp,F.binds hb,F.ok S len fun HM A outer s H vs Q E hr h=>hbody f HM A outer s H vs Q E hr h⟩
def bD (d:Addr)(H H':Hp):Prop:=∀ b o,b≠d→H b=some o→H' b=some o
theorem bD.trans {d:Addr}{H H1 H2:Hp}(a:bD d H H1)(b:bD d H1 H2):bD d H H2:=fun c o n h=>b c o n (a c o n h)
theorem az.b {d:Addr}{H H':Hp}(a:az H H'):bD d H H':=fun b o _ h=>a b o h
theorem az.new {H:Hp}{a:Addr}{o:HO}(h:H a=none):az H (upd H a o):=fun b u e=>by rw [aF (au e h)]; exact e
theorem bD.upd {d:Addr}{H:Hp}{o:HO}:bD d H (upd H d o):=fun b u n e=>by rw [aF n]; exact e
theorem az.then {H H1:Hp}{a:Addr}{o:HO}(s:az H H1)(h:H1 a=none):az H (L2.upd H1 a o):=s.trans (az.new h)
def kS (x:Str):Key:=.inr x
theorem uG {ns:List Int}(h:ns≠[])(i:Int):∃ n:Int,atI (ns.map V.int) (i % ((ns.map V.int).length:Int))=some (.int n):=by
 have hl:0 < ns.length:=Ct.mpr h
 rw [Bo]
 have h0:=BV i (show (ns.length:Int)≠0 by omega)
 have h1:=BJ i (show (0:Int) < ns.length by omega)
 obtain ⟨k,hk⟩:=CB h0
 rw [hk] at h1 ⊢
 have hk':k < ns.length:=by omega
 refine ⟨ns[k],?_⟩
 unfold atI ixN
 rw [if_pos (by omega),if_pos (by rw [Bo];omega)]
 show (ns.map V.int)[((k:Nat):Int).toNat]? = _
 rw [Ce,BH,fu hk']
 rfl
mutual
inductive Dt (H:Hp):V→PyData→Prop where
 | non:Dt H .non .none
 | bl (b:Bool):Dt H (.bl b) (.bool b)
 | int (i:Int):Dt H (.int i) (.int i)
 | str (x:Str):Dt H (.str x) (.str x)
 | lst {a:Addr} {xs:List V} {ds:List PyData}:H a=some (.lst xs)→Dts H xs ds→Dt H (.ref a) (.list ds)
 | tup {a:Addr} {xs:List V} {ds:List PyData}:H a=some (.tup xs)→Dts H xs ds→Dt H (.ref a) (.tuple ds)
inductive Dts (H:Hp):List V→List PyData→Prop where
 | nil:Dts H [] []
 | cons {v:V} {d:PyData} {vs:List V} {ds:List PyData}:Dt H v d→Dts H vs ds→Dts H (v::vs) (d::ds)
end
section
variable {P:Program} {w:World} {H:Hp} {h:Heap}
mutual
theorem Dt.reads (ok:HOk P w H h):∀ {v:V} {d:PyData},Dt H v d→∀ {u:Value},bE v u→∃ as,Reads h u d as
 | _,_,.non,u,r=>by cases r;exact ⟨_,.none⟩
 | _,_,.bl b,u,r=>by cases r;exact ⟨_,.bool b⟩
 | _,_,.int i,u,r=>by obtain ⟨t,rfl⟩:=r;exact ⟨_,.int i t⟩
 | _,_,.str x,u,r=>by obtain ⟨t,rfl⟩:=r;exact ⟨_,.str x t⟩
 | _,_,.lst e q,u,r=>by
  cases r
  obtain ⟨_,HE,n,rv,g⟩:=ok _ _ e
  obtain ⟨as,ra⟩:=Dts.reads ok q rv
  exact ⟨_,.list g rfl rfl (by simpa using ra)⟩
 | _,_,.tup e q,u,r=>by
  cases r
  obtain ⟨_,HE,rv,⟨ob,g,c,n,d⟩,_⟩:=ok _ _ e
  obtain ⟨as,ra⟩:=Dts.reads ok q rv
  exact ⟨_,.tuple g c d (by simpa using ra)⟩
theorem Dts.reads (ok:HOk P w H h):∀ {vs:List V} {ds:List PyData},Dts H vs ds→∀ {us:List Value},a8 vs us→∃ as,ReadsAll h us ds as
 | _,_,.nil,_,r=>by cases r;exact ⟨_,.nil⟩
 | _,_,.cons q qs,_,r=>by
  cases r with
  | cons r rs =>
   obtain ⟨as,a1⟩:=Dt.reads ok q r
   obtain ⟨bs,a2⟩:=Dts.reads ok qs rs
   exact ⟨_,.cons a1 a2⟩
end
end
section
variable {X:Cx}
end
end L2
namespace Kx
open PySem PySem.Spec PyProof.Rows L2 Wd
theorem sY:bootBuiltins "list" = some (.type "list"):=by kernel_rfl
theorem zx:bootBuiltins "max" = some (.builtin "max"):=by kernel_rfl
theorem zy:bootBuiltins "min" = some (.builtin "min"):=by kernel_rfl
theorem e_:bootBuiltins "sorted" = some (.builtin "sorted"):=by kernel_rfl
theorem jR:bootBuiltins "tuple" = some (.type "tuple"):=by kernel_rfl
theorem mx:bootBuiltins "reversed" = some (.type "reversed"):=by kernel_rfl
structure Bt (K:PySem.W.Frag) (w:World) (mg:Str→Option Value) (aB:Addr):Prop where
 len:mg "len" = none
 repr:mg "repr" = none
 abs:mg "abs" = none
 max:mg "max" = none
 int:mg "int" = none
 list:mg "list" = none
 range:mg "range" = none
 reversed:mg "reversed" = none
 min:mg "min" = none
 sorted:mg "sorted" = none
 tuple:mg "tuple" = none
 isinstance:mg "isinstance" = none
 all:mg "all" = none
 str:mg "str" = none
 zip:mg "zip" = none
 mgB:mg "BACKS" = some (.ref aB)
 dB:DTx K w aB
 gB:∀ x:L,∃ t,PySem.W.nsIn K aB (toS [x])=some (some (.str (toS [inv x]) t))
theorem dg {H:Hp}{d:Addr}{HG:List (Key × V)}{k:Str}{v:V}(h:H d=some (.dK HG))(e:kJ HG (kS k)=some v):uv H d (.str k) (some v):=by
 have q:=uv.k (k:=kS k) h
 rw [e] at q
 exact q
theorem dp {H:Hp}{d:Addr}{HG kvs':List (Key × V)}{k:Str}{v:V}(h:H d=some (.dK HG))(hl:HG.length < sizeLine)(e:jN HG (kS k) v=kvs'):qN H d (.str k) v (upd H d (.dK kvs')):=by
 have q:=qN.k (k:=kS k) (v:=v) h hl
 rw [e] at q
 exact q
theorem zA {ns:List Int}(h:ns.length≤63):eZ (ns.map V.int) none (some 63)=ns.map V.int:=by
 unfold eZ
 have e:HT.sIx (ns.map V.int).length (ns.map V.int).length (some 63)=(ns.map V.int).length:=by
  have:=HT.gO (ns.map V.int).length (ns.map V.int).length 63
  rw [show ((63:Nat):Int)=63 from rfl] at this
  rw [this,Bo]
  omega
 rw [e,HT.gN,El,G5,C7]
def bJ (w:List L):List V:=w.map fun x=>tx [x]
theorem c5 (w:List L):bJ w=(w.map fun x=>toS [x]).map V.str:=by unfold bJ; rw [Dd]; rfl
theorem cw (w:List L)(x:L):bJ w++[tx [x]]=bJ (w++[x]):=by unfold bJ; rw [BK]; rfl
theorem a9 (w:List L):(bJ w).length=w.length:=by unfold bJ; rw [Bo]
theorem cC (w:List L):V.str (Txt.join ("":Str) (w.map fun x=>toS [x]))=tx w:=BP V.str (qW w)
theorem cD (w:List L)(h:w.length≤1000000):((w.map fun x=>toS [x]).map (·.length)).sum+(w.map fun x=>toS [x]).length*("":Str).length≤16777216:=by
 have e:("":Str).length=0:=by decide +kernel
 rw [e,uF]
 omega
theorem ba:sizeLine=16777216:=GX
inductive qX (vs:List V)(H:Hp)(Q:VK)(HS:XK):Prop
 | mk:∀ w,(vs=[tx w])→(w.length≤5000)→(∀ H',az H H'→Q (tx (bk w)) H')→qX vs H Q HS
theorem gq (u v:List L):V.str (toS u++toS v)=tx (u++v):=BP V.str (gp u v)
def sg (m:Int):List L:=([0,1,2,3,4,5]:List L).take m.toNat++([6,7,8,9,10,11]:List L).take m.toNat
theorem oj {m:Int}(h1:1≤m)(h2:m≤6):(sg m).length=2*m.toNat:=by
 unfold sg
 rw [Bq,BL,BL]
 simp only [Cn,C_]
 omega
theorem qY {m:Int}(h1:1≤m):V.str (Txt.slice ("abcdef":Str) none (some m)++Txt.slice ("ABCDEF":Str) none (some m))=tx (sg m):=by
 rw [← uD,← big,bC,bC,fx _ (by omega),fx _ (by omega),gq]
 rfl
theorem om:("abcdef":Str).length=6:=by decide +kernel
theorem oo:("ABCDEF":Str).length=6:=by decide +kernel
theorem oq (u:List L){i:Nat}{y:L}(hi:i < u.length)(h:u[u.length - 1 - i]? = some y):(bk u)[i]? = some (inv y):=by
 unfold bk
 rw [Eb (by rw [Bo];exact hi),Bo,BH,h]
 rfl
theorem cE {u:List L}{i:Nat}{x:L}(h:u[i]? = some x):u.take (i+1)=u.take i++[x]:=by
 obtain ⟨hl,e⟩:=Bv.mp h
 rw [Dl,h]
 rfl
theorem ou {c:Bool}{A B:Prop}(hc:c=true)(h:A):if c=true then A else B:=by rw [if_pos hc]; exact h
theorem ow {c:Bool}{A B:Prop}(hc:c=false)(h:B):if c=true then A else B:=by rw [hc]; exact sU h
theorem sm6:∀ j:Fin 6,([0,1,2,3,4,5]:List L)[j.val]? = some ⟨j.val,G4 j.isLt (by decide)⟩:=by decide
end Kx
namespace L2
open PySem PySem.Spec PyProof.Rows Wd
section
variable {X:Cx} {tg:Expr}
end
section
variable {X:Cx} {o e:Expr} {es:List Expr} {to:TE} {t:TA} {name:Str} {apos HV:Pos} {T id:String} {r:V→List V→Hp→VK→Prop} {K:PySem.W.Frag}
theorem ox (hK:X.K=K)(pa:PlainAttrs T)(slot:Slot T name id)(hty:typeOf (.builtin id)=pure (.type "method_descriptor"))(hm:MtR X id r)(ho:PE X o to)
  (Io:attributeBase o name X.env (eval o X.env)=eval o X.env:=by rfl) (Im:(apos.endLine == HV.line)=true:=by rfl):PE X (.Call (.Attribute o name apos) [] [] HV) (AD K T r to):=by
 subst hK
 exact i6 pa slot hty hm ho Io Im
theorem xi (hK:X.K=K)(pa:PlainAttrs T)(slot:Slot T name id)(hty:typeOf (.builtin id)=pure (.type "method_descriptor"))(hm:MtR X id r)(ho:PE X o to)(ha:PA X (e::es) t)
  (Io:attributeBase o name X.env (eval o X.env)=eval o X.env:=by rfl)
  (hfew:((backTo HV (starEach (e::es) X.env)).all (fun x=>!x.1) && (backToKw HV (keywordEach [] X.env)).all (fun x=>x.1.isSome)
   && decide ((e::es).length+([]:List Keyword).length+(if ([]:List Keyword).isEmpty then 0 else 1) < 30))=true:=by rfl)
  (Im:(apos.endLine == HV.line)=true:=by rfl) (hs:starEach (e::es) X.env=(false,eval e X.env)::starEach es X.env:=by rfl) (hplain:(backTo HV (starEach es X.env)).any (·.1)=false:=by rfl) :
  PE X (.Call (.Attribute o name apos) (e::es) [] HV) (tBM K T r to t):=by
 subst hK
 exact bY pa slot hty hm ho ha Io hfew Im hs hplain
end
section
variable {X:Cx}
inductive sZ (x:V)(vs:List V)(H:Hp)(Q:VK):Prop
 | mk:∀ z y i rest,(x = .str z)→(vs=[.str y])→(Builtin.Str.occurrences z y 0 z.length 1=i::rest)→(Q (.int (i:Nat)) H)→sZ x vs H Q
theorem dO:MtR X "str.index" sZ:=by
 intro Hz s σ H x vs v us Q I rx rv h
 obtain ⟨z,y,i,rest,rfl,rfl,ho,q⟩:=h
 obtain ⟨t,rfl⟩:=rx
 obtain ⟨u1,rfl,⟨t1,rfl⟩⟩:=dJ rv
 exact SC.index ho ⟨.int _,H,I.tok _,⟨_,rfl⟩,q⟩
def A7 (z:Str):List V:=z.cps.toList.map fun c=>.str ⟨#[c]⟩
end
end L2
namespace PySem
open Sem (wp)
section
variable {prog:Program} {w:World} {A:Around} {E:Value→Shared→Prop} {s:Shared} {z TI TO i1 i2:Addr} {x y:Str} {t u:Tok} {k c d:Nat} {a b:Value}
end
end PySem
namespace PySem
end PySem
namespace L2
open PySem PySem.Spec PyProof.Rows
section
variable {X:Cx}
theorem uH {K:PySem.W.Frag}{es:List Expr}{k:Nat}{t:TGs}{n:Nat}{pos:Pos}(hK:X.K=K)(hc:X.calm=true)(h:PGs X es t)
  (hn:(assignEach es X.env).length=n:=by rfl) (hst:(assignEach es X.env).findIdx? (·.1)=none:=by rfl):PG X (.Tuple es k pos) (Aw K n t):=by
 subst hK
 exact kr hc h hn hst
end
end L2
namespace L2
open PySem PySem.Spec PyProof.Rows Wd
def oy:Expr→Bool
 | .Starred _ _=>false
 | _=>true
theorem uI {e:Expr}(h:oy e=true)(es:List Expr)(env:Env):starEach (e::es) env=(false,eval e env)::starEach es env:=by
 cases e <;> first | rfl | cases h
theorem qy {X:Cx}{e:Expr}{es:List Expr}{te:TE}{t:TA}(ha:PE X e te)(hr:PA X es t)(h:oy e=true:=by rfl):PA X (e::es) (wJ te t):=aa ha hr (uI h _ _)
def uJ:List Str:=([0,1,2,3,4,5,6,7,8,9,10,11]:List L).map fun x=>toS [x]
end L2
namespace Kx
open PySem PySem.Spec PyProof.Rows L2 Wd
theorem asc (u:List L):(toS u).cps.all (· < 128)=true:=by
 rw [← Array.all_toList,cK,En]
 intro c hc
 obtain ⟨x,_,rfl⟩:=B2.mp hc
 exact BD (uC x)
end Kx
namespace L2
open PySem PySem.Spec PyProof.Rows Wd
section
variable {X:Cx}
end
end L2
namespace Kx
open PySem PySem.Spec PyProof.Rows L2 Wd
theorem s12:toS [0,1,2,3,4,5,6,7,8,9,10,11]=("abcdefABCDEF":Str):=by decide +kernel
end Kx
namespace L2
open PySem PySem.Spec PyProof.Rows Wd
theorem qZ {K:PySem.W.Frag}{a:Addr}{xs:List V}{own:List Str}{cap:List Nat}{g:TG}{ti:TT}{te:TE}{σ:St}{H:Hp}{Q:VK}(Pv:Nat→List V→St→Hp→Prop)(h0:Pv 0 [] (stB own cap σ) H)(hz:∀ i ys σ H,i≤xs.length→Pv i ys σ H→ys.length≤i)(hn:xs.length≤sizeLine)
  (hl:∀ i ys σ H,Pv i ys σ H→SqT K H a xs)
  (hs:∀ i ys σ H x (N:List V→St→Hp→Prop),xs[i]? = some x→Pv i ys σ H→(∀ ys' σ' H'',Pv (i+1) ys' σ' H''→N ys' σ' H'')→g x σ H fun σ2 H2=>ti σ2 H2 fun b H3=>if b=true then te σ2 H3 fun y H4=>N (ys++[y]) σ2 H4 else N ys σ2 H3)
  (hd:∀ ys σ H D,Pv xs.length ys σ H→H D=none→Q (.ref D) (upd H D (.lst ys))) :
  qR own cap g ti te Q σ (Itt K a) H:=by
 refine cT (J:=Itt K a) xs.length Pv h0 hz hn (fun i ys σ H hi p=>⟨xs,xs[i],hl i ys σ H p,fu hi⟩) (fun ys σ H p=>⟨xs,hl _ ys σ H p,BB _⟩) ?_ hd
 rintro i ys σ H x H' N hi p ⟨rfl,hx⟩ hN
 exact hs i ys σ _ x N (hx xs (hl i ys σ _ p)) p hN
theorem dP {K:PySem.W.Frag}{a:Addr}{xs:List V}{own:List Str}{cap:List Nat}{g:TG}{ti:TT}{te:TE}{σ:St}{H:Hp}{Q:VK}(Pv:Nat→List V→St→Hp→Prop)(h0:Pv 0 [] (stB own cap σ) H)(hz:∀ i ys σ H,i≤xs.length→Pv i ys σ H→ys.length≤i)(hn:xs.length≤sizeLine)
  (hl:∀ i ys σ H,Pv i ys σ H→SqL K H a xs)
  (hs:∀ i ys σ H x (N:List V→St→Hp→Prop),xs[i]? = some x→Pv i ys σ H→(∀ ys' σ' H'',Pv (i+1) ys' σ' H''→N ys' σ' H'')→g x σ H fun σ2 H2=>ti σ2 H2 fun b H3=>if b=true then te σ2 H3 fun y H4=>N (ys++[y]) σ2 H4 else N ys σ2 H3)
  (hd:∀ ys σ H D,Pv xs.length ys σ H→H D=none→Q (.ref D) (upd H D (.lst ys))) :
  qR own cap g ti te Q σ (Itl K a) H:=by
 refine cT (J:=Itl K a) xs.length Pv h0 hz hn (fun i ys σ H hi p=>⟨xs,xs[i],hl i ys σ H p,fu hi⟩) (fun ys σ H p=>⟨xs,hl _ ys σ H p,BB _⟩) ?_ hd
 rintro i ys σ H x H' N hi p ⟨rfl,hx⟩ hN
 exact hs i ys σ _ x N (hx xs (hl i ys σ _ p)) p hN
theorem zB {X:Cx}{a:Expr}{ta:TE}(ha:PE X a ta)(he:∀ whole,isTrue a X.env whole=(do let v ← whole; standAt a.pos; holding [v] (truthy v))):PT X a (ub ta):=by
 intro Hz s σ H Q I h
 refine isTrue_plain (thn (ha Hz s σ H _ I h) fun v s1 ⟨x,H1,I1,r1,q1⟩=>nz Hz s1 σ H1 x v Q I1 r1 ?_) (he _)
 obtain ⟨k,e,q⟩:=q1
 subst e
 exact ⟨k,rfl,q⟩
theorem none_of {H H1:Hp}{a:Addr}(s:az H H1)(h:H1 a=none):H a=none:=by
 cases e:H a with
 | none=>rfl
 | some o=>rw [s _ _ e] at h;cases h
end L2
namespace L2
open PySem PySem.Spec PyProof.Rows
theorem oz {X:Cx}{i:Nat}{y:Str}{py spos:Pos}{elt iter tg:Expr}{ifs:List Expr}{scope:Scope}{pos:Pos}{NB own:List Str}{cap:List Nat}{wi:TI}{g:TG}{ti:TT}{te:TE}(hN:X.N.Nodup)(hi0:X.N[i]? = some y)(hx:Loc X.env.scope y)(B:Blk X scope NB own cap)(hc:X.calm=true)(hi:PI X tg iter wi)
  (hg:∀ C fp s₀ H₀,PG (cxB X NB own scope C fp s₀ H₀) tg g) (ht:∀ C fp s₀ H₀,PIf (cxB X NB own scope C fp s₀ H₀) ifs ti) (he:∀ C fp s₀ H₀,PE (cxB X NB own scope C fp s₀ H₀) elt te)
  (hs:∀ x,foldedSetIterable iter X.env x=pure x:=by intro _;rfl) (hsw:swapsWith (.ListComp elt [⟨tg,iter,ifs,0⟩] scope pos) (some (.Name y py)) spos.line X.env=pure true:=by rfl) (hf:X.fn y=true ∨ X.env.scope.names.lookup y=some .local:=by first | exact .inl rfl | exact .inr rfl | assumption):PS X (.Assign [.Name y py] (.ListComp elt [⟨tg,iter,ifs,0⟩] scope pos) spos) (yW (uz own cap wi g ti te) (ma i)):=by
 intro Hz s σ H DD I0 h
 rw [exec_Assign_Name_used _ _ _ _ hsw]
 refine Bp (Gf (Bp ?_))
 show wpAny _ X.A (do let _ ← comprehension (.ListComp elt [⟨tg,iter,ifs,0⟩] scope pos) scope X.env _ (newList []) false (eval iter X.env) (some (assign (.Name y py) X.env))) _ _ s
 refine Bp (Dh (kM (use:=some (assign (.Name y py) X.env)) (QQ:=fun _ s'=>SP X Hz DD .next s') (pos:=pos) B hc hi hg ht he hs I0 h fun fp C s2 s4 H2 H3 σ3 HE ys k I f2 Ii hDC I5 hn3 hD4 rv hz q=>?_) (fun _ s' hq=>Br (Br hq)) fun _ _ e=>e)
 obtain ⟨mC,hnC,_⟩:=I5.loc
 have I6:Inv X Hz σ (upd H3 s2.heap.objs.size (.lst ys)) s4:=B.done (h'':=s4.heap) I f2 Ii (BB _) hDC I5 hn3 hD4 rv hz ⟨rfl,fun _ _=>rfl⟩
 obtain ⟨oC,es,ep,hoC,hdC,rC⟩:=hnC
 have hCn:(upd H3 s2.heap.objs.size (.lst ys)) C=none:=by rw [aF hDC.symm];exact I5.free
 have nL:C≠X.env.locals:=fun z=>absurd I.lt (by rw [← z];exact Nat.not_lt.mpr Ii)
 have I7:Inv X (Hz++[(C,oC)]) σ (upd H3 s2.heap.objs.size (.lst ys)) s4:=I6.pins_of fun p hp=>by
  rcases B0.mp hp with z | z
  ·exact I6.pin p (BO _ z)
  ·have ep:=Bu.mp z
   subst ep
   exact ⟨hoC,hCn,nL,I.nofs Ii,fun v z=>by rw [hdC] at z;cases z⟩
 refine thn (aG (pos:=py) hN hi0 hx hf (Hz++[(C,oC)]) s4 σ _ (.ref s2.heap.objs.size) (.ref s2.heap.objs.size) (fun σ' H'=>DD.nx σ' H'∧H'=upd H3 s2.heap.objs.size (.lst ys)) I7 rfl ⟨q,rfl⟩) fun _ s5 zq2=>?_
 obtain ⟨σ5,H5,I8,q5,e5⟩:=zq2
 subst e5
 have pC:=(I8.pin (C,oC) (BO _ (BO _ (Bu.mpr rfl)))).1
 refine ⟨mC,⟨oC,es,ep,pC,hdC,rC⟩,fun h'' sb=>⟨σ5,_,?_,q5⟩⟩
 have I9:Inv X Hz σ5 (upd H3 s2.heap.objs.size (.lst ys)) s5:=I8.pins_of fun p hp=>I8.pin p (BO _ (Cb _ hp))
 refine I9.turned (t':=s5.toks) (it:=C) (fun b o hb e=>(sb.2 b hb).trans e) hCn nL (.inr (Cr I.sz Ii)) (fun x c e z=>?_) fun p hp z=>?_
 ·obtain ⟨v,o,ho,_⟩:=I.cell x c e
  exact absurd (BS ho) (by rw [z];exact Nat.not_lt.mpr Ii)
 ·exact absurd (BS (I.pin p hp).1) (by rw [z];exact Nat.not_lt.mpr Ii)
end L2
namespace L2
open PySem PySem.Spec PyProof.Rows Wd
section
variable {X:Cx}
inductive oA (x:V)(vs:List V)(H:Hp)(Q:VK):Prop
 | mk:∀ l xs i y,(x = .ref l)→(vs=[.int i,y])→(H l=some (.lst xs))→(0≤i)→(i≤xs.length)→(xs.length < sizeLine)→(Q .non (upd H l (.lst (xs.take i.toNat++y::xs.drop i.toNat))))→oA x vs H Q
theorem jc:MtM X "list.insert" oA:=by
 intro Hz s σ H x vs v us Q I rx rv h
 obtain ⟨l,xs,i,y,rfl,rfl,hH,h0,h1,hz,q⟩:=h
 cases rx
 obtain ⟨u1,u2,rfl,⟨t1,rfl⟩,r2⟩:=ue rv
 obtain ⟨z,HE,n,r,hl,e⟩:=I.lstM hH
 have hn:=dI
 have hfit:Builtin.List.listFitsIndex i=true:=by
  unfold Builtin.List.listFitsIndex
  rw [BZ,Cf,Cf]
  constructor <;> omega
 refine Fl Eu ⟨_,e,rfl⟩ PySem.F.entry_list_insert (PySem.F.args_list_insert_3 _ _ _) (PySem.AutoSeq1.list_insert_list_int_val_1 l HE.toArray n i t1 u2 (by simp [hfit]) (by rw [BM];omega)) ⟨e,?_⟩
 refine ⟨.non,_,I.lset (its':=HE.take i.toNat++u2::HE.drop i.toNat) hH e ?_ ((r.take _).append (.cons r2 (r.drop _))) ?_,rfl,q⟩
 ·have hm:min i.toNat HE.length=i.toNat:=by omega
  simp only [BM,if_neg (show ¬ i < 0 by omega),hm]
  apply Gx.mp
  simp
  exact B6 (by rw [Cq];exact BB _)
 ·rw [Bq,Cn,BL,Cq]
  omega
def xj (z:Str):Str:=Txt.sliceBy z none none (-1,0)
def zC (te ts:TE):TE:=fun σ H Q=>te σ H fun x H1=>ts σ H1 fun k H2=>∃ z,x = .str z∧k = .int (-1)∧z.length≤sizeLine∧Q (.str (xj z)) H2
theorem uK {e st:Expr}{te ts:TE}{pos p2:Pos}(he:PE X e te)(hs:PE X st ts):PE X (.Subscript e (.Slice none none (some st) p2) pos) (zC te ts):=by
 intro Hz s σ H Q I h
 refine GT (thn (he Hz s σ H _ I h) fun v s1 zq1=>?_)
 obtain ⟨x,H1,I1,r1,q1⟩:=zq1
 refine wpAny_Slice ?_
 rw [evalPart_none]
 refine Br ?_
 refine Br ?_
 rw [evalPart_some]
 refine thn (hs Hz s1 σ H1 _ I1 q1) fun vs s3 zq2=>?_
 obtain ⟨k,H3,I3,r3,z,ez,ek,hz,q3⟩:=zq2
 subst ez ek
 obtain ⟨t,rfl⟩:=r1
 obtain ⟨tk,rfl⟩:=r3
 have I4:Inv X Hz σ H3 { s3 with heap:=s3.heap.push { cls:=.type "slice",data:=.fields #[.none,.none,.int (-1) tk] } }:=I3.kept (t':=s3.toks) fun b ob q=>Bz _ q
 show wpAny (model X.prog X.w) X.A (subscriptTail e (.Slice none none (some st) p2) (.str z t) (.ref s3.heap.objs.size)) (EP X Hz σ Q) X.xe { s3 with heap:=s3.heap.push { cls:=.type "slice",data:=.fields #[.none,.none,.int (-1) tk] } }
 refine tail_any (ops:=[.ref s3.heap.objs.size,.str z t]) (Fk _ _ _) F.slot_str_getitem.lookup ?_ (by with_unfolding_all rfl)
 exact Dy (l:=none) (u:=none) (st:=some (-1,tk)) ⟨_,BI _ rfl,rfl,rfl⟩ rfl (ED ⟨Cr (Txt.sliceBy_le z none none (-1,tk) (by show (-1:Int)≠0;decide)) hz,fun t' k=>⟨.str _,H3,I4.tok _,⟨_,rfl⟩,q3⟩⟩)
theorem q9 (u:List L):xj (toS u)=toS u.reverse:=by
 have h:(xj (toS u)).cps.toList=(toS u.reverse).cps.toList:=by
  unfold xj
  rw [step_rev_list,cK,ah]
  apply FU
  intro i
  rw [BH]
  by_cases hi:i < u.length
  ·rw [List.getElem?_range hi,BH,Eb hi]
   have e:(toS u).cps.getD (u.length - 1 - i) 0=cp u[u.length - 1 - i]:=by
    simp [toS,Array.getD,show u.length - 1 - i < u.length by omega]
   rw [fu (show u.length - 1 - i < u.length by omega)]
   exact BP some e
  ·rw [Do (by simpa using hi),Do (by simp;omega)]
   rfl
 cases hr:xj (toS u) with
 | mk c=>
  rw [hr] at h
  have:c=(toS u.reverse).cps:=Gx.mp h
  rw [this]
end
end L2
namespace L2
open PySem PySem.Spec PyProof.Rows
section
variable {X:Cx}
theorem gs {i j:Int}{HE:List Value}(r:a8 [.int i,.int j] HE):∃ t u,HE=[.int i t,.int j u]:=by
 obtain ⟨u1,u2,rfl,⟨t1,rfl⟩,⟨t2,rfl⟩⟩:=ue r
 exact ⟨t1,t2,rfl⟩
def nAt (i j:Int)(k:Nat):Int:=if k=0 then i else j
end
end L2
namespace Wd
structure Srf (u:List L):Prop where
 ne:u≠[]
 nd:u.Nodup
 iv:∀ x∈u,inv x∈u
 le:u.length≤12
def fam (k:Nat):List L:=(List.range k).flatMap fun j=>if h:j < 6 then [⟨j,by omega⟩,⟨j+6,by omega⟩] else []
theorem jd:∀ k:Fin 7,(fam k.val).Nodup∧(∀ x∈fam k.val,inv x∈fam k.val)∧(fam k.val).length=2*k.val:=by decide
theorem q_ {k:Nat}(h:k < 6):fam (k+1)=fam k++[⟨k,by omega⟩,⟨k+6,by omega⟩]:=by
 unfold fam
 rw [Dp,Dm]
 simp [h]
theorem xk {k:Nat}{u:List L}(h1:1≤k)(h6:k≤6)(p:u.Perm (fam k)):Srf u:=by
 obtain ⟨a,b,c⟩:=jd ⟨k,by omega⟩
 have hl:=p.length_eq
 have c:(fam k).length=2*k:=c
 refine ⟨fun e=>?_,(p.nodup_iff).mpr a,fun x hx=>p.mem_iff.mpr (b x (p.mem_iff.mp hx)),by omega⟩
 subst e
 rw [c] at hl
 simp at hl
 omega
theorem rf {u v:List L}(x:L)(i:Nat)(p:u.Perm v):(u.take i++x::u.drop i).Perm (v++[x]):=by
 refine Gy.trans ?_
 rw [B3]
 exact ((List.Perm.cons x p).trans (List.perm_append_singleton x v).symm)
end Wd
namespace Kx
open PySem PySem.Spec PyProof.Rows L2 Wd
theorem oB (u:List L)(x:L)(i:Nat):StrLaws.At (toS u) (toS [x]) (toS u).length i ↔ u[i]? = some x:=by
 unfold StrLaws.At
 rw [ah,ah,StrLaws.subAt_eq,ah,cK,cK,GU,← EF,← Gh]
 simp only [D9]
 constructor
 ·rintro ⟨h1,h2⟩
  have h2:=d_ h2
  have:(u.drop i).take 1=[u[i]]:=by rw [Cv (by omega)];rfl
  rw [this] at h2
  rw [fu (by omega)]
  exact BP some (Dn h2).1
 ·intro h
  obtain ⟨hl,e⟩:=Bv.mp h
  refine ⟨by omega,?_⟩
  rw [Cv hl,e]
  rfl
theorem kQ {u:List L}{x:L}(h:x∈u):∃ rest,Builtin.Str.occurrences (toS u) (toS [x]) 0 (toS u).length 1=u.idxOf x::rest:=by
 have HK:=Ci h
 have hx:u[u.idxOf x]? = some x:=by rw [fu HK];exact BP some (Dc HK)
 rcases StrLaws.occ_head (toS u) (toS [x]) 1 (BB 1) with ⟨h0,hn⟩ | ⟨i,r,h0,hi,hn⟩
 ·exact absurd ((oB u x _).mpr hx) (hn _)
 ·refine ⟨r,?_⟩
  rw [h0]
  have hi:=(oB u x i).mp hi
  have:i=u.idxOf x:=by
   rcases Nat.lt_trichotomy i (u.idxOf x) with h1 | h1 | h1
   ·have q:=List.not_of_lt_findIdx (p:=(· == x)) h1
    obtain ⟨hl,e⟩:=Bv.mp hi
    exact absurd (GU.mpr e) (by simpa using q)
   ·exact h1
   ·exact absurd ((oB u x _).mpr hx) (hn _ h1)
  rw [this]
theorem s_ (x:L):(!(Builtin.Str.occurrences ("ABCDEF":Str) (toS [x]) 0 ("ABCDEF":Str).length 1).isEmpty)=decide (¬ x.val < 6):=by
 have q:∀ x:L,decide (cp x∈("ABCDEF":Str).cps.toList)=decide (¬ x.val < 6):=by decide +kernel
 have h:=StrLaws.found_one ("ABCDEF":Str) (cp x)
 rw [q] at h
 exact h
structure Tp (H:Hp) (d c:Addr):Prop where
 ex:∃ (i l t:Int) (ns:List Int),H d=some (.lst [.ref c,.int i,.int l,.int t])∧H c=some (.lst (ns.map V.int))∧c≠d∧ns.length≤63
theorem Tp.same {H H':Hp}{d c:Addr}(F:Tp H d c)(s:az H H'):Tp H' d c:=by
 obtain ⟨i,l,t,ns,h1,h2,h3,h4⟩:=F.ex
 exact ⟨i,l,t,ns,s _ _ h1,s _ _ h2,h3,h4⟩
theorem Tp.new {H:Hp}{d c a:Addr}{o:HO}(F:Tp H d c)(h:H a=none):Tp (upd H a o) d c:=F.same (az.new h)
theorem Tp.ne {H:Hp}{d c a:Addr}(F:Tp H d c)(h:H a=none):a≠d:=by
 obtain ⟨i,l,t,ns,h1,h2,h3,h4⟩:=F.ex
 exact (au h1 h).symm
theorem Tp.nec {H:Hp}{d c a:Addr}(F:Tp H d c)(h:H a=none):a≠c:=by
 obtain ⟨i,l,t,ns,h1,h2,h3,h4⟩:=F.ex
 exact (au h2 h).symm
theorem Tp.but {H H':Hp}{d c a:Addr}(F:Tp H d c)(h1:a≠d)(h2:a≠c)(s:bD a H H'):Tp H' d c:=by
 obtain ⟨i,l,t,ns,g1,g2,g3,g4⟩:=F.ex
 exact ⟨i,l,t,ns,s _ _ h1.symm g1,s _ _ h2.symm g2,g3,g4⟩
theorem none_of {H H':Hp}{a:Addr}(s:az H H')(h:H' a=none):H a=none:=by
 cases e:H a with
 | none=>rfl
 | some o=>exact absurd (s _ _ e) (by rw [h];intro z;cases z)
inductive dz (vs:List V)(H:Hp)(Q:VK)(HS:XK):Prop
 | mk:∀ (d c:Addr) (m:Int),(vs=[.ref d,.int m])→(Tp H d c)→(0 < m)→(m < 1000000)→(∀ (r:Int) (H':Hp),0≤r→r < m→Tp H' d c→bD d H H'→Q (.int r) H')→dz vs H Q HS
inductive oD (K:PySem.W.Frag)(vs:List V)(H:Hp)(Q:VK)(HS:XK):Prop
 | mk:∀ (a:Addr) (ns:List Int),(vs=[.ref a])→(SqL K H a (ns.map V.int))→(ns.length≤63)→(∀ (d c:Addr) (H':Hp),H d=none→H c=none→Tp H' d c→az H H'→Q (.ref d) H')→oD K vs H Q HS
theorem bg6:∀ j:Fin 6,([6,7,8,9,10,11]:List L)[j.val]? = some ⟨j.val+6,by omega⟩:=by decide
theorem sm_at {i:Nat}(h:i < 6):atI ("abcdef":Str).cps.toList (i:Int)=some (cp ⟨i,by omega⟩):=by
 rw [← uD]
 exact du (k:=i) rfl (sm6 ⟨i,h⟩)
theorem zD {i:Nat}(h:i < 6):atI ("ABCDEF":Str).cps.toList (i:Int)=some (cp ⟨i+6,by omega⟩):=by
 rw [← big]
 exact du (k:=i) rfl (bg6 ⟨i,h⟩)
theorem rg (W:List L)(x:L)(n:Nat):(bJ W).take n++tx [x]::(bJ W).drop n=bJ (W.take n++x::W.drop n):=by
 unfold bJ
 simp
end Kx
namespace Wd
def rot (w:List L)(p:Nat):List L:=w.drop p++w.take p
theorem uL {w:List L}{p i:Nat}(hp:p≤w.length)(hi:i < w.length):(rot w p)[i]? = w[(i+p) % w.length]?:=by
 unfold rot
 by_cases h:i < w.length - p
 ·rw [B9 (by rw [Cq];exact h),Cs,DN (by omega),G6]
 ·rw [BY (by rw [Cq];omega),Cq,CK (by omega)]
  have:(i+p) % w.length=i - (w.length - p):=by
   rw [Nat.mod_eq_sub_mod (by omega),DN (by omega)]
   omega
  rw [this]
theorem rep_get (v:List L):∀ (k i:Nat),i < k*v.length→(rep k v)[i]? = v[i % v.length]?
 | 0,i,h=>by simp at h
 | k+1,i,h=>by
  show (rep k v++v)[i]? = _
  by_cases hi:i < k*v.length
  ·rw [B9 (by rw [bV];exact hi),rep_get v k i hi]
  ·rw [BY (by rw [bV];omega),bV]
   rw [E3] at h
   have:i % v.length=i - k*v.length:=by
    have e:i=(i - k*v.length)+v.length*k:=by rw [GI v.length k];omega
    rw [e,FM,DN (by omega)]
    rw [GI v.length k]
    omega
   rw [this]
structure SK (u:List L) (k:Nat):Prop where
 pm:u.Perm (fam k)
 lo:1≤k
 hi:k≤6
theorem SK.srf {u:List L}{k:Nat}(h:SK u k):Srf u:=xk h.lo h.hi h.pm
theorem uM {k:Nat}(h:k≤6):(fam k).length=2*k:=(jd ⟨k,by omega⟩).2.2
theorem SK.len {u:List L}{k:Nat}(h:SK u k):u.length=2*k:=by rw [h.pm.length_eq,uM h.hi]
theorem uN:∀ (k:Fin 7) (x:L),x∈fam k.val ↔ x.val % 6 < k.val:=by decide
theorem SK.mem {u:List L}{k:Nat}(h:SK u k)(x:L):x∈u ↔ x.val % 6 < k:=by
 rw [h.pm.mem_iff]
 exact uN ⟨k,by have:=h.hi;omega⟩ x
theorem eC:∀ x:L,(inv x).val % 6=x.val % 6:=by decide
theorem rh (u:List L)(p:Nat):(rot u p).Perm u:=by
 unfold rot
 refine CN.trans ?_
 rw [B3]
theorem oE {u:List L}{x:L}(h:x∈u):u[u.idxOf x]? = some x:=by
 have HK:=Ci h
 rw [fu HK]
 exact BP some (Dc HK)
theorem bo {u:List L}{x:L}(h:x∈u):u.idxOf x < u.length:=Ci h
theorem bw {u:List L}{x y:L}(hx:x∈u)(hy:y∈u)(h:u.idxOf x=u.idxOf y):x=y:=by
 have h1:=oE hx
 have h2:=oE hy
 rw [h,h2] at h1
 exact (BA h1).symm
def rfI (u:List L)(a b:L):Int:=((u.idxOf b:Int) - (u.idxOf a:Int)) % (u.length:Int)
theorem uO {n a b:Nat}(ha:a < n)(hb:b < n):((b:Int) - (a:Int)) % (n:Int)=if a≤b then (b:Int) - a else (b:Int) - a+n:=by
 split
 ·exact B5 (by omega) (by omega)
 ·have:(b:Int) - a=((b:Int) - a+n)+(n:Int)*(-1):=by omega
  rw [this,DK,B5 (by omega) (by omega)]
  omega
theorem bz {u:List L}{a b:L}(ha:a∈u)(hb:b∈u):rfI u a b=if u.idxOf a≤u.idxOf b then (u.idxOf b:Int) - (u.idxOf a:Int) else (u.idxOf b:Int) - (u.idxOf a:Int)+(u.length:Int):=uO (bo ha) (bo hb)
def ic (u:List L)(x z:L):Int:=if rfI u x z < rfI u x (inv x) then 1 else 0
def sd (u:List L)(x y:L):Int:=ic u x y - ic u x (inv y)
theorem kR {z b:L}{w:List L}(h:z≠b):(z::w).idxOf b=w.idxOf b+1:=by
 rw [EG,D1.mpr h]
 rfl
def lt6 (j:Nat):L:=if h:j < 12 then ⟨j,h⟩ else 0
theorem rj {u:List L}{g:Nat}(h:g < u.length):u[g]? = some (u.getD g 0):=by
 rw [By,fu h]
 rfl
end Wd
namespace L2
open PySem PySem.Spec PyProof.Rows
section
variable {prog:Program} {w:World} {A:Around} {E:Value→Shared→Prop} {s:Shared}
end
section
variable {X:Cx}
def A8 (ta tb:TE):TE:=fun σ H Q=>ta σ H fun x H1=>∃ z,x = .str z∧z.length≤sizeLine∧(if ((z.length:Int) != 0)=true then Q (.str z) H1 else tb σ H1 Q)
theorem xm {a b:Expr}{rest:List Expr}{ta tb:TE}{pos:Pos}(ha:PE X a ta)(hb:PE X (.BoolOp .Or (b::rest) pos) tb):PE X (.BoolOp .Or (a::b::rest) pos) (A8 ta tb):=by
 intro Hz s σ H Q I h
 refine BoolOp_or (thn (ha Hz s σ H _ I h) fun v s1 zq1=>?_)
 obtain ⟨x,H1,I1,r1,z,ez,hz,q1⟩:=zq1
 subst ez
 refine thn (nz Hz s1 σ H1 (.str z) v (fun c H'=>if c=true then Q (.str z) H' else tb σ H' Q) I1 r1 ⟨_,⟨hz,rfl⟩,q1⟩) fun c s2 zq2=>?_
 obtain ⟨H2,I2,q2⟩:=zq2
 cases c with
 | false=>exact hb Hz s2 σ H2 Q I2 (by simpa using q2)
 | true=>exact ⟨.str z,H2,I2,r1,by simpa using q2⟩
end
end L2
namespace PySem
open Sem (wp)
open AutoSeq1 (wpAny_loadPart')
section
variable {prog:Program} {w:World} {A:Around} {E:Value→Shared→Prop} {s:Shared}
end
end PySem
namespace L2
open PySem PySem.Spec PyProof.Rows Wd
section
variable {X:Cx}
end
end L2
namespace PySem
open Sem (wp)
section
variable {prog:Program} {w:World} {A:Around} {E:Value→Shared→Prop} {s:Shared} {z TI TO i1 i2:Addr} {k n1 n2:Nat} {a b:Value} {fp1 fp2:List Addr} {P1 P2:Nat→Value→Prop} {S1 S2:Nat→Heap→Prop}
end
end PySem
namespace PySem
end PySem
namespace L2
open PySem PySem.Spec PyProof.Rows Wd
section
variable {X:Cx}
end
end L2
namespace Kx
open PySem PySem.Spec PyProof.Rows L2 Wd
def jn (yl:List Nat):List (List Nat)→List Nat
 | []=>[]
 | [p]=>p
 | p::q::r=>p++yl++jn yl (q::r)
def Gd (c:Nat):Prop:=(48≤c∧c≤57) ∨ 65≤c
end Kx
namespace L2
open PySem PySem.Spec PyProof.Rows Wd
section
variable {X:Cx} {tg:Expr}
end
end L2
namespace Kx
open PySem PySem.Spec PyProof.Rows L2 Wd
def dV:V→PyData
 | .int i=>.int i
 | .str z=>.str z
 | _=>.none
end Kx
namespace L2
open PySem PySem.Spec PyProof.Rows
section
variable {X:Cx}
end
end L2
namespace Kx
open PySem PySem.Spec PyProof.Rows L2 Wd
def Bn (k:Nat):List L:=(List.range k).map lt6++bk ((List.range k).map lt6)
end Kx
namespace Tv
open PySem PyProof.Rows
theorem aA {σ:Type}{M:Model}{A:Around}{E:Value→Shared→Prop}{s:Shared}{α:Type}{c:Prop}[Decidable c]{x y:StateT σ Sem α}{Q:α→σ→Prop}{st:σ}(h:c)(p:wpS M A E s x Q st):wpS M A E s (if c then x else y) Q st:=by
 rw [if_pos h];exact p
theorem aC {σ:Type}{M:Model}{A:Around}{E:Value→Shared→Prop}{s:Shared}{α:Type}{c:Prop}[Decidable c]{x y:StateT σ Sem α}{Q:α→σ→Prop}{st:σ}(h:¬ c)(p:wpS M A E s y Q st):wpS M A E s (if c then x else y) Q st:=by
 rw [if_neg h];exact p
def kof (κ:KeyKind)(p:Keyed):κ.α:=(κ.keyOf p.1).getD κ.dflt
def Gd (κ:KeyKind)(p:Keyed):Prop:=∃ a,κ.keyOf p.1=some a
theorem Gd.eq {κ:KeyKind}{p:Keyed}(h:Gd κ p):κ.keyOf p.1=some (kof κ p):=by
 obtain ⟨a,e⟩:=h
 unfold kof
 rw [e]
 rfl
structure TB (kd:SortKind) (st:SortSt):Prop where
 kind:kindOf st=kd
 failed:failedOf st=none
def Lt1 (κ:KeyKind)(prog:Program)(w:World)(A:Around)(s:Shared)(kd:SortKind):Prop:=∀ (E:Value→Shared→Prop) (x y:Value) (a b:κ.α) (Q:Bool→Shared→Prop),κ.keyOf x=some a→κ.keyOf y=some b→Q (κ.blt a b) s→wpAny (model prog w) A (keyLt' kd x y) Q E s
def gal:Bool→Keyed→Array Keyed→Nat→Nat→Nat→StateT SortSt Sem (Option Nat):=sortPriv% PySem.Builtin.gallop
def gbd (lf:Bool)(key:Keyed)(arr:Array Keyed)(b i:Nat):StateT SortSt Sem (Option Bool):=do
 let it ← elem' arr (b+i)
 if lf then lt' it key else return (← lt' key it).map (!·)
def yN (lf:Bool)(key:Keyed)(arr:Array Keyed)(b n d0 u0:Nat):StateT SortSt Sem (Option Nat):=do
 let mut dn:=d0
 let mut up:=u0
 for _ in [0:n] do
  if dn≥up then break
  let md:=dn+(up - dn) / 2
  let some mr ← gbd lf key arr b md | return none
  if mr then dn:=md+1 else up:=md
 return some up
theorem xo (lf:Bool)(key:Keyed)(arr:Array Keyed)(b n h:Nat):gal lf key arr b n h=(do
 let mut la:=0
 let mut of:=1
 let some rt ← gbd lf key arr b h | return none
 if rt then
  for _ in [0:n] do
   if of≥n - h then break
   let some mr ← gbd lf key arr b (h+of) | return none
   if !mr then break
   la:=of
   of:=2*of+1
  yN lf key arr b n (h+la+1) (h+min of (n - h))
 else
  for _ in [0:n] do
   if of≥h+1 then break
   let some fd ← gbd lf key arr b (h - of) | return none
   if fd then break
   la:=of
   of:=2*of+1
  yN lf key arr b n (h+1 - min of (h+1)) (h - la)):=rfl
section
variable {prog:Program} {w:World} {A:Around} {E:Value→Shared→Prop} {s:Shared} {κ:KeyKind} {kd:SortKind}
theorem je {st:SortSt}{x y:Keyed}{Q:Option Bool→SortSt→Prop}(hO:Lt1 κ prog w A s kd)(hB:TB kd st)(hx:Gd κ x)(hy:Gd κ y)(h:Q (some (κ.blt (kof κ x) (kof κ y))) st):wpS (model prog w) A E s (lt' x y) Q st:=by
 rw [lt'_eq]
 refine BG (Fq ?_)
 rw [hB.kind]
 refine BG (GV (EE (hO _ x.1 y.1 _ _ _ hx.eq hy.eq ⟨rfl,?_⟩)))
 exact BN h
def bdB (κ:KeyKind)(lf:Bool)(key:κ.α)(x:κ.α):Bool:=if lf then κ.blt x key else !κ.blt key x
theorem uP {st:SortSt}{lf:Bool}{key p:Keyed}{arr:Array Keyed}{b i:Nat}{Q:Option Bool→SortSt→Prop}(hO:Lt1 κ prog w A s kd)(hB:TB kd st)(hk:Gd κ key)(e:arr[b+i]? = some p)(hp:Gd κ p)
  (h:Q (some (bdB κ lf (kof κ key) (kof κ p))) st):wpS (model prog w) A E s (gbd lf key arr b i) Q st:=by
 unfold gbd
 rw [elem'_eq,e]
 refine BG (BN ?_)
 unfold bdB at h
 cases lf with
 | true=>exact je hO hB hp hk h
 | false=>exact BG (je hO hB hk hp (BN h))
theorem jS {st:SortSt}{lf:Bool}{key:Keyed}{arr:Array Keyed}{b n h:Nat}{Q:Option Nat→SortSt→Prop}(hO:Lt1 κ prog w A s kd)(hB:TB kd st)(hk:Gd κ key)(B:Nat→Bool)(hh:h < n)
  (at_:∀ i,i < n→∃ p,arr[b+i]? = some p∧Gd κ p∧bdB κ lf (kof κ key) (kof κ p)=B i) (mono:∀ i j,i≤j→j < n→B j=true→B i=true)
  (hq:∀ k,k≤n→(∀ i,i < k→B i=true)→(∀ i,k≤i→i < n→B i=false)→Q (some k) st):wpS (model prog w) A E s (gal lf key arr b n h) Q st:=by
 have ask:∀ {i:Nat} {R:Option Bool→SortSt→Prop},i < n→R (some (B i)) st→wpS (model prog w) A E s (gbd lf key arr b i) R st:=fun {i R} hi r=>by
  obtain ⟨p,e,g,eb⟩:=at_ i hi
  exact uP hO hB hk e g (by rw [eb];exact r)
 have no:∀ i j,i≤j→j < n→B i=false→B j=false:=fun i j HP hj e=>by
  cases ej:B j with
  | false=>rfl
  | true=>rw [mono i j HP hj ej] at e;cases e
 -- the last part
 have fin:∀ dn up,dn≤up→up≤n→(∀ i,i < dn→B i=true)→(∀ i,up≤i→i < n→B i=false)→wpS (model prog w) A E s (yN lf key arr b n dn up) Q st:=by
  intro dn up h1 h2 h3 h4
  unfold yN
  refine BG (Dz (CO (I:=fun x c HF=>HF=st∧∃ dn up,c=(none,dn,up)∧dn≤up∧up≤n∧up - dn≤n - x∧(∀ i,i < dn→B i=true)∧(∀ i,up≤i→i < n→B i=false))
   (Q:=fun c HF=>HF=st∧∃ k,c=(none,k,k)∧k≤n∧(∀ i,i < k→B i=true)∧(∀ i,k≤i→i < n→B i=false)) ?step ?fin ⟨rfl,dn,up,rfl,h1,h2,by omega,h3,h4⟩) ?post)
  case post =>
   rintro c HF ⟨rfl,k,rfl,a1,a2,a3⟩
   exact BN (hq k a1 a2 a3)
  case fin =>
   rintro c HF ⟨rfl,dn,up,rfl,a1,a2,a3,a4,a5⟩
   have:dn=up:=by omega
   subst this
   exact ⟨rfl,dn,rfl,a2,a4,a5⟩
  case step =>
   rintro x c HF _ hx ⟨rfl,dn,up,rfl,a1,a2,a3,a4,a5⟩
   dsimp only
   by_cases hd:dn≥up
   ·refine aA hd ?_
    have:dn=up:=by omega
    subst this
    exact BN ⟨rfl,dn,rfl,a2,a4,a5⟩
   ·refine aC hd ?_
    refine BG (ask (by omega) ?_)
    cases eb:B (dn+(up - dn) / 2) with
    | true =>
     simp only [DH]
     exact BN ⟨rfl,dn+(up - dn) / 2+1,up,rfl,by omega,a2,by omega,fun i hi=>mono i _ (by omega) (by omega) eb,a5⟩
    | false =>
     simp only [BR,CU]
     exact BN ⟨rfl,dn,dn+(up - dn) / 2,rfl,by omega,by omega,by omega,a4,fun i hi1 hi2=>no _ i (by omega) hi2 eb⟩
 rw [xo]
 refine BG (ask hh ?_)
 cases eh:B h with
 | true =>
  dsimp only
  refine aA rfl ?_
  refine BG (Dz (CO (I:=fun x c HF=>HF=st∧∃ la of,c=(none,la,of)∧la < of∧x+1≤of∧h+la < n∧B (h+la)=true)
   (Q:=fun c HF=>HF=st∧∃ la of,c=(none,la,of)∧la < of∧h+la < n∧B (h+la)=true∧(of≥n - h ∨ (h+of < n∧B (h+of)=false))) ?step ?fin ⟨rfl,0,1,rfl,by omega,by omega,by omega,eh⟩) ?post)
  case post =>
   rintro c HF ⟨rfl,la,of,rfl,a1,a2,a3,a4⟩
   dsimp only
   refine fin (h+la+1) (h+min of (n - h)) (by omega) (by omega) (fun i hi=>mono i _ (by omega) a2 a3) fun i hi1 hi2=>?_
   rcases a4 with a4 | ⟨a4,a5⟩
   ·omega
   ·exact no _ i (by omega) hi2 a5
  case fin =>
   rintro c HF ⟨rfl,la,of,rfl,a1,a2,a3,a4⟩
   exact ⟨rfl,la,of,rfl,a1,a3,a4,.inl (by omega)⟩
  case step =>
   rintro x c HF _ hx ⟨rfl,la,of,rfl,a1,a2,a3,a4⟩
   dsimp only
   by_cases ho:of≥n - h
   ·refine aA ho ?_
    exact BN ⟨rfl,la,of,rfl,a1,a3,a4,.inl ho⟩
   ·refine aC ho ?_
    refine BG (ask (by omega) ?_)
    cases eb:B (h+of) with
    | true =>
     simp only [Eg,BR,CU]
     exact BN ⟨rfl,of,2*of+1,rfl,by omega,by omega,by omega,eb⟩
    | false =>
     simp only [Bool.not_false,DH]
     exact BN ⟨rfl,la,of,rfl,a1,a3,a4,.inr ⟨by omega,eb⟩⟩
 | false =>
  dsimp only
  refine aC Ca ?_
  refine BG (Dz (CO (I:=fun x c HF=>HF=st∧∃ la of,c=(none,la,of)∧la < of∧x+1≤of∧la≤h∧B (h - la)=false)
   (Q:=fun c HF=>HF=st∧∃ la of,c=(none,la,of)∧la < of∧la≤h∧B (h - la)=false∧(of≥h+1 ∨ (of≤h∧B (h - of)=true))) ?step ?fin ⟨rfl,0,1,rfl,by omega,by omega,by omega,eh⟩) ?post)
  case post =>
   rintro c HF ⟨rfl,la,of,rfl,a1,a2,a3,a4⟩
   dsimp only
   refine fin (h+1 - min of (h+1)) (h - la) (by omega) (by omega) (fun i hi=>?_) fun i hi1 hi2=>no _ i hi1 hi2 a3
   rcases a4 with a4 | ⟨a4,a5⟩
   ·omega
   ·exact mono i _ (by omega) (by omega) a5
  case fin =>
   rintro c HF ⟨rfl,la,of,rfl,a1,a2,a3,a4⟩
   exact ⟨rfl,la,of,rfl,a1,a3,a4,.inl (by omega)⟩
  case step =>
   rintro x c HF _ hx ⟨rfl,la,of,rfl,a1,a2,a3,a4⟩
   dsimp only
   by_cases ho:of≥h+1
   ·refine aA ho ?_
    exact BN ⟨rfl,la,of,rfl,a1,a3,a4,.inl ho⟩
   ·refine aC ho ?_
    refine BG (ask (by omega) ?_)
    cases eb:B (h - of) with
    | false =>
     simp only [BR,CU]
     exact BN ⟨rfl,of,2*of+1,rfl,by omega,by omega,by omega,eb⟩
    | true =>
     simp only [DH]
     exact BN ⟨rfl,la,of,rfl,a1,a3,a4,.inr ⟨by omega,eb⟩⟩
end
def mlo:Array Keyed→Array Keyed→StateT SortSt Sem (Array Keyed):=sortPriv% PySem.Builtin.mergeLo
def smg:Nat→StateT SortSt Sem Unit:=sortPriv% PySem.Builtin.setMinGallop
abbrev mDn (a b o:Array Keyed)(i j:Nat):Array Keyed:=o++a.extract i a.size++b.extract j b.size
abbrev mLa (a b o:Array Keyed)(i j:Nat):Array Keyed:=o++b.extract j b.size++a.extract i a.size
theorem xp (a b:Array Keyed):mlo a b=(do
 rule "list.sort.merge-lo"
 let mut o:Array Keyed:=#[← elem' b 0]
 let mut i:=0
 let mut j:=1
 if j == b.size then return mDn a b o i j
 if i+1 == a.size then return mLa a b o i j
 let mut g:=gallopOf (← get)
 for _ in [0:a.size+b.size] do
  let mut p:=0
  let mut q:=0
  for _ in [0:a.size+b.size] do
   let some w ← lt' (← elem' b j) (← elem' a i) | return mDn a b o i j
   if w then
    o:=o.push (← elem' b j)
    j:=j+1
    q:=q+1
    p:=0
    if j == b.size then return mDn a b o i j
    if q≥g then break
   else
    o:=o.push (← elem' a i)
    i:=i+1
    p:=p+1
    q:=0
    if i+1 == a.size then return mLa a b o i j
    if p≥g then break
  rule "list.sort.gallop"
  g:=g+1
  for _ in [0:a.size+b.size] do
   if g > 1 then g:=g - 1
   smg g
   let some k ← gal false (← elem' b j) a i (a.size - i) 0 | return mDn a b o i j
   p:=k
   if k > 0 then
    o:=o++a.extract i (i+k)
    i:=i+k
    if i+1 == a.size then return mLa a b o i j
    if i == a.size then return mDn a b o i j
   o:=o.push (← elem' b j)
   j:=j+1
   if j == b.size then return mDn a b o i j
   let some k ← gal true (← elem' a i) b j (b.size - j) 0 | return mDn a b o i j
   q:=k
   if k > 0 then
    o:=o++b.extract j (j+k)
    j:=j+k
    if j == b.size then return mDn a b o i j
   o:=o.push (← elem' a i)
   i:=i+1
   if i+1 == a.size then return mLa a b o i j
   if p < 7 && q < 7 then break
  g:=g+1
  smg g
 unsupported "internal:list.sort.merge-bound"):=rfl
end Tv
namespace Tv
open PySem PyProof.Rows
variable {κ:KeyKind} {kd:SortKind}
def lek (κ:KeyKind)(x y:Keyed):Prop:=κ.kle (kof κ x) (kof κ y)
theorem dQ {x y z:Keyed}(h:lek κ x y)(g:lek κ y z):lek κ x z:=D7 h g
theorem rk (x:Keyed):lek κ x x:=C5 _
def Srt (κ:KeyKind)(l:List Keyed):Prop:=l.Pairwise (lek κ)
theorem Srt.drop {l:List Keyed}(h:Srt κ l)(i:Nat):Srt κ (l.drop i):=List.Pairwise.sublist (FV i l) h
theorem Srt.take {l:List Keyed}(h:Srt κ l)(i:Nat):Srt κ (l.take i):=List.Pairwise.sublist (List.take_sublist i l) h
def Lel (κ:KeyKind)(l m:List Keyed):Prop:=∀ x∈l,∀ y∈m,lek κ x y
theorem bh {l m:List Keyed}:Srt κ (l++m) ↔ Srt κ l∧Srt κ m∧Lel κ l m:=List.pairwise_append
theorem Srt.at {l:List Keyed}(h:Srt κ l){i j:Nat}{x y:Keyed}(HP:i≤j)(hx:l[i]? = some x)(hy:l[j]? = some y):lek κ x y:=by
 by_cases e:i=j
 ·subst e
  rw [hx] at hy
  cases hy
  exact rk _
 ·obtain ⟨h1,e1⟩:=Bv.mp hx
  obtain ⟨h2,e2⟩:=Bv.mp hy
  have:=C6.mp h i j h1 h2 (by omega)
  rw [e1,e2] at this
  exact this
theorem bZ {l:List Keyed}{i:Nat}{x:Keyed}(h:l[i]? = some x):l.drop i=x::l.drop (i+1):=by
 obtain ⟨h1,e1⟩:=Bv.mp h
 rw [Cv h1,e1]
theorem bg {l:List Keyed}{i:Nat}{x:Keyed}(h:l[i]? = some x):l.take (i+1)=l.take i++[x]:=by
 rw [Dl,h]
 rfl
structure Mc (κ:KeyKind) (A B O:List Keyed) (i j:Nat):Prop where
 pm:O.Perm (A.take i++B.take j)
 so:Srt κ O
 la:Lel κ O (A.drop i)
 lb:Lel κ O (B.drop j)
 hi:i≤A.length
 hj:j≤B.length
theorem Mc.pushA {A B O:List Keyed}{i j:Nat}(M:Mc κ A B O i j)(sA:Srt κ A){x:Keyed}(h:A[i]? = some x)(hx:Lel κ [x] (B.drop j)):Mc κ A B (O++[x]) (i+1) j:=by
 have ed:=bZ h
 have sd:=sA.drop i
 rw [ed] at sd
 have sd':=Du.mp sd
 refine ⟨?_,bh.mpr ⟨M.so,Gi _ _,fun o ho y hy=>?_⟩,fun o ho y hy=>?_,fun o ho y hy=>?_,(Bv.mp h).1,M.hj⟩
 ·rw [bg h]
  refine (M.pm.append_right [x]).trans ?_
  rw [BF,BF]
  exact Dq _ CN
 ·rw [Bu] at hy
  subst hy
  exact M.la o ho _ (by rw [ed];exact BC)
 ·rcases B0.mp ho with ho | ho
  ·exact M.la o ho y (by rw [ed];exact Bw _ hy)
  ·rw [Bu] at ho
   subst ho
   exact sd'.1 y hy
 ·rcases B0.mp ho with ho | ho
  ·exact M.lb o ho y hy
  ·exact hx o ho y hy
theorem Mc.pushB {A B O:List Keyed}{i j:Nat}(M:Mc κ A B O i j)(sB:Srt κ B){x:Keyed}(h:B[j]? = some x)(hx:Lel κ [x] (A.drop i)):Mc κ A B (O++[x]) i (j+1):=by
 have ed:=bZ h
 have sd:=sB.drop j
 rw [ed] at sd
 have sd':=Du.mp sd
 refine ⟨?_,bh.mpr ⟨M.so,Gi _ _,fun o ho y hy=>?_⟩,fun o ho y hy=>?_,fun o ho y hy=>?_,M.hi,(Bv.mp h).1⟩
 ·rw [bg h]
  refine (M.pm.append_right [x]).trans ?_
  rw [BF]
 ·rw [Bu] at hy
  subst hy
  exact M.lb o ho _ (by rw [ed];exact BC)
 ·rcases B0.mp ho with ho | ho
  ·exact M.la o ho y hy
  ·exact hx o ho y hy
 ·rcases B0.mp ho with ho | ho
  ·exact M.lb o ho y (by rw [ed];exact Bw _ hy)
  ·rw [Bu] at ho
   subst ho
   exact sd'.1 y hy
theorem Mc.pushAs {A B O:List Keyed}{i j:Nat}(M:Mc κ A B O i j)(sA:Srt κ A):∀ k,i+k≤A.length→Lel κ ((A.drop i).take k) (B.drop j)→Mc κ A B (O++(A.drop i).take k) (i+k) j
 | 0,_,_=>by simpa using M
 | k+1,hk,hl=>by
  have HK:i+k < A.length:=by omega
  have e:(A.drop i)[k]? = some A[i+k]:=by rw [Cs,fu HK]
  have et:(A.drop i).take (k+1)=(A.drop i).take k++[A[i+k]]:=bg e
  rw [et] at hl ⊢
  have ih:=Mc.pushAs M sA k (by omega) fun x hx=>hl x (Cb _ hx)
  have:=ih.pushA sA (fu HK) fun x hx=>hl x (BO _ hx)
  rw [BF] at this
  exact this
theorem Mc.pushBs {A B O:List Keyed}{i j:Nat}(M:Mc κ A B O i j)(sB:Srt κ B):∀ k,j+k≤B.length→Lel κ ((B.drop j).take k) (A.drop i)→Mc κ A B (O++(B.drop j).take k) i (j+k)
 | 0,_,_=>by simpa using M
 | k+1,hk,hl=>by
  have HK:j+k < B.length:=by omega
  have e:(B.drop j)[k]? = some B[j+k]:=by rw [Cs,fu HK]
  have et:(B.drop j).take (k+1)=(B.drop j).take k++[B[j+k]]:=bg e
  rw [et] at hl ⊢
  have ih:=Mc.pushBs M sB k (by omega) fun x hx=>hl x (Cb _ hx)
  have:=ih.pushB sB (fu HK) fun x hx=>hl x (BO _ hx)
  rw [BF] at this
  exact this
def Mg (κ:KeyKind)(A B R:List Keyed):Prop:=R.Perm (A++B)∧Srt κ R
theorem Mc.perm {A B O:List Keyed}{i j:Nat}(M:Mc κ A B O i j):(O++(A.drop i++B.drop j)).Perm (A++B):=by
 have h1:(O++(A.drop i++B.drop j)).Perm ((A.take i++B.take j)++(A.drop i++B.drop j)):=M.pm.append_right _
 refine h1.trans ?_
 have h2:((A.take i++B.take j)++(A.drop i++B.drop j)).Perm ((A.take i++A.drop i)++(B.take j++B.drop j)):=by
  rw [BF,BF]
  refine Dq _ ?_
  rw [← BF,← BF]
  exact EL _ CN
 rw [B3,B3] at h2
 exact h2
theorem Mc.done {A B O:List Keyed}{i j:Nat}(M:Mc κ A B O i j)(sA:Srt κ A)(sB:Srt κ B)(h:i=A.length ∨ j=B.length):Mg κ A B (O++A.drop i++B.drop j):=by
 refine ⟨by rw [BF];exact M.perm,?_⟩
 rw [BF]
 refine bh.mpr ⟨M.so,bh.mpr ⟨sA.drop i,sB.drop j,fun x hx y hy=>?_⟩,fun o ho y hy=>?_⟩
 ·rcases h with h | h
  ·subst h;rw [Gw] at hx;cases hx
  ·subst h;rw [Gw] at hy;cases hy
 ·rcases B0.mp hy with hy | hy
  ·exact M.la o ho y hy
  ·exact M.lb o ho y hy
theorem Mc.last {A B O:List Keyed}{i j:Nat}(M:Mc κ A B O i j)(sA:Srt κ A)(sB:Srt κ B)(h:i+1=A.length)(hl:∀ z,A[A.length - 1]? = some z→Lel κ B [z]):Mg κ A B (O++B.drop j++A.drop i):=by
 have HK:i < A.length:=by omega
 have ed:A.drop i=[A[i]]:=by rw [bZ (fu HK),DE (by omega)]
 refine ⟨?_,?_⟩
 ·refine List.Perm.trans ?_ M.perm
  rw [BF]
  exact Dq _ CN
 ·rw [BF]
  refine bh.mpr ⟨M.so,bh.mpr ⟨sB.drop j,sA.drop i,fun x hx y hy=>?_⟩,fun o ho y hy=>?_⟩
  ·rw [ed] at hy
   exact hl A[i] (by rw [show A.length - 1=i by omega];exact fu HK) x (C0 hx) y hy
  ·rcases B0.mp hy with hy | hy
   ·exact M.lb o ho y hy
   ·exact M.la o ho y hy
theorem kU (a b o:Array Keyed)(i j:Nat):(mDn a b o i j).toList=o.toList++a.toList.drop i++b.toList.drop j:=by
 simp [mDn,C3,B6]
theorem kW (a b o:Array Keyed)(i j:Nat):(mLa a b o i j).toList=o.toList++b.toList.drop j++a.toList.drop i:=by
 simp [mLa,C3,B6]
theorem kX (a:Array Keyed)(i k:Nat):(a.extract i (i+k)).toList=(a.toList.drop i).take k:=by
 simp [C3,List.take_drop]
theorem kY {lf:Bool}{key x y:κ.α}(h:κ.kle x y)(hb:bdB κ lf key y=true):bdB κ lf key x=true:=by
 unfold bdB at hb ⊢
 cases lf with
 | true=>exact KeyOrd.klt_of_kle_of_klt h hb
 | false =>
  have hb:(!κ.blt key y)=true:=hb
  have hy:κ.kle y key:=by show κ.blt key y=false;simpa using hb
  have:=D7 h hy
  show (!κ.blt key x)=true
  have this:κ.blt key x=false:=this
  rw [this]
  rfl
end Tv
namespace Tv
open PySem PyProof.Rows
section
variable {prog:Program} {w:World} {A:Around} {E:Value→Shared→Prop} {s:Shared} {κ:KeyKind} {kd:SortKind}
structure Ok (kd:SortKind) (st HF:SortSt):Prop where
 tb:TB kd HF
 ar:arrOf HF=arrOf st
 pd:pendingOf HF=pendingOf st
theorem Ok.refl {st:SortSt}(h:TB kd st):Ok kd st st:=⟨h,rfl,rfl⟩
theorem ia {st HF:SortSt}{g:Nat}{Q:Unit→SortSt→Prop}(h:Ok kd st HF)(q:∀ HH,Ok kd st HH→Q () HH):wpS (model prog w) A E s (smg g) Q HF:=by
 refine Ew (q _ ⟨⟨h.tb.kind,h.tb.failed⟩,h.ar,h.pd⟩)
theorem aP {st:SortSt}{arr:Array Keyed}{i:Nat}{x:Keyed}{Q:Keyed→SortSt→Prop}(e:arr.toList[i]? = some x)(h:Q x st):wpS (model prog w) A E s (elem' arr i) Q st:=by
 have e':arr[i]? = some x:=by simpa using e
 rw [elem'_eq,e']
 exact BN h
theorem kZ {st:SortSt}{lf:Bool}{key:Keyed}{arr:Array Keyed}{i:Nat}{Q:Option Nat→SortSt→Prop}(hO:Lt1 κ prog w A s kd)(hB:TB kd st)(hk:Gd κ key)(hg:∀ x∈arr.toList,Gd κ x)(sa:Srt κ arr.toList)(hi:i < arr.size)
  (hq:∀ k,i+k≤arr.size→(∀ x∈(arr.toList.drop i).take k,bdB κ lf (kof κ key) (kof κ x)=true)→(∀ x∈arr.toList.drop (i+k),bdB κ lf (kof κ key) (kof κ x)=false)→Q (some k) st) :
  wpS (model prog w) A E s (gal lf key arr i (arr.size - i) 0) Q st:=by
 have hl:arr.toList.length=arr.size:=Bx
 refine jS hO hB hk (fun t=>match arr.toList[i+t]? with | some p=>bdB κ lf (kof κ key) (kof κ p) | none=>false) (by omega) (fun t ht=>?_) (fun t u htu hu hb=>?_) (fun k hk' h1 h2=>hq k (by omega) (fun x hx=>?_) fun x hx=>?_)
 ·have HK:i+t < arr.toList.length:=by omega
  have e:=fu HK
  refine ⟨arr.toList[i+t],by simpa using e,hg _ (Ck HK),?_⟩
  rw [e]
 ·have h1:i+t < arr.toList.length:=by omega
  have h2:i+u < arr.toList.length:=by omega
  have e1:=fu h1
  have e2:=fu h2
  rw [e2] at hb
  rw [e1]
  exact kY (sa.at (by omega) e1 e2) hb
 ·obtain ⟨t,e⟩:=C4 hx
  have ht:t < k:=by
   have:=(Bv.mp e).1
   rw [BL] at this
   omega
  rw [EH,if_pos ht,Cs] at e
  have:=h1 t ht
  rw [e] at this
  exact this
 ·obtain ⟨t,e⟩:=C4 hx
  rw [Cs] at e
  have HK:=(Bv.mp e).1
  have:=h2 (k+t) (by omega) (by omega)
  rw [show i+(k+t)=i+k+t by omega,e] at this
  exact this
theorem not_lt {x y:Keyed}(h:κ.blt (kof κ x) (kof κ y)=false):lek κ y x:=h
theorem rm {x y:Keyed}(h:κ.blt (kof κ x) (kof κ y)=true):lek κ x y:=Eh h
theorem fy {l:List Keyed}(sl:Srt κ l){i:Nat}{x y:Keyed}(e:l[i]? = some y)(h:lek κ x y):Lel κ [x] (l.drop i):=fun z hz t ht=>by
 rw [Bu] at hz
 subst hz
 rw [bZ e] at ht
 rcases BU.mp ht with rfl | ht
 ·exact h
 ·have sd:=sl.drop i
  rw [bZ e] at sd
  exact dQ h ((Du.mp sd).1 t ht)
abbrev MSt:=Option (Array Keyed) × Array Keyed × Nat × Nat × Nat × Nat × Nat
def jp3 (a b:Array Keyed)(i g p q:Nat)(o:Array Keyed)(j:Nat):StateT SortSt Sem (ForInStep MSt):=do
 let e ← elem' a i
 if (i+1+1 == a.size)=true then pure (.done (some (mLa a b (o.push e) (i+1) j),o.push e,i+1,j,g,p,q))
 else if (decide (p < 7) && decide (q < 7))=true then pure (.done (none,o.push e,i+1,j,g,p,q)) else pure (.yield (none,o.push e,i+1,j,g,p,q))
def jp2 (a b:Array Keyed)(j g p q:Nat)(o:Array Keyed)(i:Nat):StateT SortSt Sem (ForInStep MSt):=do
 let e ← elem' b j
 if (j+1 == b.size)=true then pure (.done (some (mDn a b (o.push e) i (j+1)),o.push e,i,j+1,g,p,q))
 else do
  let f ← elem' a i
  let y ← gal true f b (j+1) (b.size - (j+1)) 0
  match y with
  | some k=>if k > 0 then (if (j+1+k == b.size)=true then pure (.done (some (mDn a b (o.push e++b.extract (j+1) (j+1+k)) i (j+1+k)),o.push e++b.extract (j+1) (j+1+k),i,j+1+k,g,p,k)) else jp3 a b i g p k (o.push e++b.extract (j+1) (j+1+k)) (j+1+k)) else jp3 a b i g p k (o.push e) (j+1)
  | _=>pure (.done (some (mDn a b (o.push e) i (j+1)),o.push e,i,j+1,g,p,q))
def jp1 (a b:Array Keyed)(o:Array Keyed)(i j p q g:Nat):StateT SortSt Sem (ForInStep MSt):=do
 smg g
 let e ← elem' b j
 let y ← gal false e a i (a.size - i) 0
 match y with
 | some k=>if k > 0 then (if (i+k+1 == a.size)=true then pure (.done (some (mLa a b (o++a.extract i (i+k)) (i+k) j),o++a.extract i (i+k),i+k,j,g,k,q)) else if (i+k == a.size)=true then pure (.done (some (mDn a b (o++a.extract i (i+k)) (i+k) j),o++a.extract i (i+k),i+k,j,g,k,q)) else jp2 a b j g k q (o++a.extract i (i+k)) (i+k)) else jp2 a b j g k q o i
 | _=>pure (.done (some (mDn a b o i j),o,i,j,g,p,q))
def Pst (κ:KeyKind)(a b:Array Keyed)(x:Nat)(st:SortSt)(r:ForInStep MSt)(HF:SortSt):Prop:=match r with
 | .done c=>((∃ r z,c=(some r,z)∧Mg κ a.toList b.toList r.toList) ∨ ∃ o i j g p q,c=(none,o,i,j,g,p,q)∧Mc κ a.toList b.toList o.toList i j∧i+1 < a.size∧j < b.size∧x+2≤i+j)∧Ok kd st HF
 | .yield c=>∃ o i j g p q,c=(none,o,i,j,g,p,q)∧Mc κ a.toList b.toList o.toList i j∧i+1 < a.size∧j < b.size∧x+2≤i+j∧Ok kd st HF
structure Two (κ:KeyKind) (a b:Array Keyed):Prop where
 ga:∀ x∈a.toList,Gd κ x
 gb:∀ x∈b.toList,Gd κ x
 sa:Srt κ a.toList
 sb:Srt κ b.toList
 hl:∀ z,a.toList[a.size - 1]? = some z→Lel κ b.toList [z]
theorem Two.atA {a b:Array Keyed}(T:Two κ a b){i:Nat}(hi:i < a.size):∃ x,a.toList[i]? = some x∧Gd κ x:=⟨a.toList[i]'(by rw [Bx]; exact hi),fu (by rw [Bx]; exact hi),T.ga _ (Ck _)⟩
theorem Two.atB {a b:Array Keyed}(T:Two κ a b){i:Nat}(hi:i < b.size):∃ x,b.toList[i]? = some x∧Gd κ x:=⟨b.toList[i]'(by rw [Bx]; exact hi),fu (by rw [Bx]; exact hi),T.gb _ (Ck _)⟩
theorem Two.dn {a b:Array Keyed}(T:Two κ a b){o:Array Keyed}{i j:Nat}(M:Mc κ a.toList b.toList o.toList i j)(h:i=a.size ∨ j=b.size):Mg κ a.toList b.toList (mDn a b o i j).toList:=by
 rw [kU]
 exact M.done T.sa T.sb (by rw [Bx,Bx];exact h)
theorem Two.ls {a b:Array Keyed}(T:Two κ a b){o:Array Keyed}{i j:Nat}(M:Mc κ a.toList b.toList o.toList i j)(h:i+1=a.size):Mg κ a.toList b.toList (mLa a b o i j).toList:=by
 rw [kW]
 exact M.last T.sa T.sb (by rw [Bx];exact h) (by rw [Bx];exact T.hl)
theorem oF {st HF:SortSt}{a b o:Array Keyed}{i j g p q x:Nat}{xa:Keyed}(T:Two κ a b)(M:Mc κ a.toList b.toList o.toList i j)(hi:i+1 < a.size)(hj:j < b.size)(hx:x+2≤i+j)(ok:Ok kd st HF)(Ih:a.toList[i]? = some xa)(hle:Lel κ [xa] (b.toList.drop j)) :
  wpS (model prog w) A E s (jp3 a b i g p q o j) (Pst (kd:=kd) κ a b x st) HF:=by
 unfold jp3
 refine BG (aP Ih ?_)
 have M':Mc κ a.toList b.toList (o.push xa).toList (i+1) j:=by rw [DW];exact M.pushA T.sa Ih hle
 by_cases hia:i+1+1=a.size
 ·refine aA (by simpa using hia) ?_
  exact BN ⟨.inl ⟨_,_,rfl,T.ls M' hia⟩,ok⟩
 ·refine aC (by simpa using hia) ?_
  by_cases hpq:(decide (p < 7) && decide (q < 7))=true
  ·refine aA hpq ?_
   exact BN ⟨.inr ⟨_,_,_,_,_,_,rfl,M',by omega,hj,by omega⟩,ok⟩
  ·refine aC hpq ?_
   exact BN ⟨_,_,_,_,_,_,rfl,M',by omega,hj,by omega,ok⟩
theorem fc {x y:Keyed}:bdB κ false (kof κ x) (kof κ y)=true→lek κ y x:=fun h=>by
 unfold bdB at h
 have h:(!κ.blt (kof κ x) (kof κ y))=true:=h
 show κ.blt (kof κ x) (kof κ y)=false
 simpa using h
theorem fz {x y:Keyed}:bdB κ false (kof κ x) (kof κ y)=false→lek κ x y:=fun h=>by
 unfold bdB at h
 have h:(!κ.blt (kof κ x) (kof κ y))=false:=h
 exact rm (by simpa using h)
theorem jT {x y:Keyed}:bdB κ true (kof κ x) (kof κ y)=true→lek κ y x:=fun h=>rm h
theorem ib {x y:Keyed}:bdB κ true (kof κ x) (kof κ y)=false→lek κ x y:=fun h=>h
theorem oG {st HF:SortSt}{a b o:Array Keyed}{i j g p q x:Nat}{xb:Keyed}(hO:Lt1 κ prog w A s kd)(T:Two κ a b)(M:Mc κ a.toList b.toList o.toList i j)(hi:i+1 < a.size)(hj:j < b.size)(hx:x+2≤i+j)(ok:Ok kd st HF)(Ig:b.toList[j]? = some xb)(hle:Lel κ [xb] (a.toList.drop i)) :
  wpS (model prog w) A E s (jp2 a b j g p q o i) (Pst (kd:=kd) κ a b x st) HF:=by
 have la:a.toList.length=a.size:=Bx
 have lb:b.toList.length=b.size:=Bx
 unfold jp2
 refine BG (aP Ig ?_)
 have M':Mc κ a.toList b.toList (o.push xb).toList i (j+1):=by rw [DW];exact M.pushB T.sb Ig hle
 by_cases hjb:j+1=b.size
 ·refine aA (by simpa using hjb) ?_
  exact BN ⟨.inl ⟨_,_,rfl,T.dn M' (.inr hjb)⟩,ok⟩
 refine aC (by simpa using hjb) ?_
 obtain ⟨xa,Ih,gxa⟩:=T.atA (i:=i) (by omega)
 refine BG (aP Ih (BG (kZ hO ok.tb gxa T.gb T.sb (by omega) fun k hk t1 t2=>?_)))
 dsimp only
 have MB:Mc κ a.toList b.toList ((o.push xb).toList++(b.toList.drop (j+1)).take k) i (j+1+k):=M'.pushBs T.sb k (by omega) fun z hz=>fy T.sa Ih (jT (t1 z hz)) z (Bu.mpr rfl)
 have rest:Lel κ [xa] (b.toList.drop (j+1+k)):=fun z hz y hy=>by
  rw [Bu] at hz
  subst hz
  exact ib (t2 y hy)
 by_cases hk0:k > 0
 ·refine aA hk0 ?_
  have MB':Mc κ a.toList b.toList (o.push xb++b.extract (j+1) (j+1+k)).toList i (j+1+k):=by rw [Fs,kX];exact MB
  by_cases hje:j+1+k=b.size
  ·refine aA (by simpa using hje) ?_
   exact BN ⟨.inl ⟨_,_,rfl,T.dn MB' (.inr hje)⟩,ok⟩
  ·refine aC (by simpa using hje) ?_
   exact oF T MB' hi (by omega) (by omega) ok Ih rest
 ·refine aC hk0 ?_
  have:k=0:=by omega
  subst this
  exact oF T M' hi (by omega) (by omega) ok Ih rest
theorem oH {st HF:SortSt}{a b o:Array Keyed}{i j g p q x:Nat}(hO:Lt1 κ prog w A s kd)(T:Two κ a b)(M:Mc κ a.toList b.toList o.toList i j)(hi:i+1 < a.size)(hj:j < b.size)(hx:x+2≤i+j)(ok:Ok kd st HF) :
  wpS (model prog w) A E s (jp1 a b o i j p q g) (Pst (kd:=kd) κ a b x st) HF:=by
 have la:a.toList.length=a.size:=Bx
 have lb:b.toList.length=b.size:=Bx
 unfold jp1
 refine BG (ia ok fun st3 ok3=>?_)
 obtain ⟨xb,Ig,gxb⟩:=T.atB hj
 refine BG (aP Ig (BG (kZ hO ok3.tb gxb T.ga T.sa (by omega) fun k hk t1 t2=>?_)))
 dsimp only
 have MA:Mc κ a.toList b.toList (o.toList++(a.toList.drop i).take k) (i+k) j:=M.pushAs T.sa k (by omega) fun z hz=>fy T.sb Ig (fc (t1 z hz)) z (Bu.mpr rfl)
 have rest:Lel κ [xb] (a.toList.drop (i+k)):=fun z hz y hy=>by
  rw [Bu] at hz
  subst hz
  exact fz (t2 y hy)
 by_cases hk0:k > 0
 ·refine aA hk0 ?_
  have MA':Mc κ a.toList b.toList (o++a.extract i (i+k)).toList (i+k) j:=by rw [Fs,kX];exact MA
  by_cases h1:i+k+1=a.size
  ·refine aA (by simpa using h1) ?_
   exact BN ⟨.inl ⟨_,_,rfl,T.ls MA' h1⟩,ok3⟩
  ·refine aC (by simpa using h1) ?_
   by_cases h2:i+k=a.size
   ·refine aA (by simpa using h2) ?_
    exact BN ⟨.inl ⟨_,_,rfl,T.dn MA' (.inl h2)⟩,ok3⟩
   ·refine aC (by simpa using h2) ?_
    exact oG hO T MA' (by omega) hj (by omega) ok3 Ig rest
 ·refine aC hk0 ?_
  have:k=0:=by omega
  subst this
  exact oG hO T M hi hj hx ok3 Ig rest
abbrev TS (α:Type):=StateT SortSt Sem α
abbrev T6:=Option (Array Keyed) × Array Keyed × Nat × Nat × Nat × Nat
abbrev T5:=Option (Array Keyed) × Array Keyed × Nat × Nat × Nat
def mBe {α:Type}(c:Option (Array Keyed) × α):TS (Array Keyed):=match c.1 with
 | some r=>pure r
 | none=>unsupported "internal:list.sort.merge-bound"
def mB1 (a b:Array Keyed)(g:Nat):T6→TS (ForInStep T6):=fun (_,o,i,j,p,q)=>do
 let y ← elem' b j
 let x ← elem' a i
 let w ← lt' y x
 match w with
 | some w =>
  if w=true then do
   let e ← elem' b j
   if (j+1 == b.size)=true then pure (.done (some (mDn a b (o.push e) i (j+1)),o.push e,i,j+1,0,q+1))
   else if q+1≥g then pure (.done (none,o.push e,i,j+1,0,q+1)) else pure (.yield (none,o.push e,i,j+1,0,q+1))
  else do
   let e ← elem' a i
   if (i+1+1 == a.size)=true then pure (.done (some (mLa a b (o.push e) (i+1) j),o.push e,i+1,j,p+1,0))
   else if p+1≥g then pure (.done (none,o.push e,i+1,j,p+1,0)) else pure (.yield (none,o.push e,i+1,j,p+1,0))
 | _=>pure (.done (some (mDn a b o i j),o,i,j,p,q))
def mB3 (a b:Array Keyed):MSt→TS (ForInStep MSt):=fun (_,o,i,j,g,p,q)=>if g > 1 then jp1 a b o i j p q (g - 1) else jp1 a b o i j p q g
def mB2 (a b:Array Keyed)(g:Nat):T6→TS (ForInStep T5)
 | (some r,o,i,j,_)=>pure (.done (some r,o,i,j,g))
 | (none,o,i,j,p,q)=>do
  rule "list.sort.gallop"
  match ← forIn [0:a.size+b.size] ((none,o,i,j,g+1,p,q):MSt) fun _ d=>mB3 a b d with
  | (some r,o,i,j,g,_)=>pure (.done (some r,o,i,j,g))
  | (none,o,i,j,g,_)=>do
   smg (g+1)
   pure (.yield (none,o,i,j,g+1))
def mB0 (a b:Array Keyed):T5→TS (ForInStep T5):=fun (_,o,i,j,g)=>do
 let d ← forIn [0:a.size+b.size] ((none,o,i,j,0,0):T6) fun _ d=>mB1 a b g d
 mB2 a b g d
theorem uQ (a b:Array Keyed):mlo a b=(do
 rule "list.sort.merge-lo"
 let e ← elem' b 0
 if (1 == b.size)=true then pure (mDn a b #[e] 0 1)
 else if (0+1 == a.size)=true then pure (mLa a b #[e] 0 1)
 else do
  let st ← get
  let c ← forIn [0:a.size+b.size] ((none,#[e],0,1,gallopOf st):T5) fun _ c=>mB0 a b c
  mBe c):=by
 rw [xp]
 refine BP (bind _) (funext fun u=>BP (bind _) (funext fun e=>BP (ite _ _) (BP (ite _ _) (BP (bind _) (funext fun st=>?_)))))
 refine congr (BP bind (BP (forIn _ _) (funext fun x=>funext fun c=>?_))) (funext fun c=>?_)
 ·refine congr (BP bind (BP (forIn _ _) (funext fun y=>funext fun d=>rfl))) (funext fun d=>?_)
  rcases d with ⟨_ | r,d⟩
  ·refine BP (bind _) (funext fun u=>?_)
   refine congr (BP bind (BP (forIn _ _) (funext fun y=>funext fun d=>rfl))) (funext fun d=>?_)
   rcases d with ⟨_ | r,d⟩ <;> rfl
  ·rfl
 ·rcases c with ⟨_ | r,c⟩ <;> rfl
theorem uR {st:SortSt}{a b:Array Keyed}{Q:Array Keyed→SortSt→Prop}(hO:Lt1 κ prog w A s kd)(hB:TB kd st)(ga:∀ x∈a.toList,Gd κ x)(gb:∀ x∈b.toList,Gd κ x)(sa:Srt κ a.toList)(sb:Srt κ b.toList)(h0:0 < a.size)(h1:0 < b.size)
  (hf:∀ x y,a.toList[0]? = some x→b.toList[0]? = some y→lek κ y x) (hl:∀ z,a.toList[a.size - 1]? = some z→Lel κ b.toList [z])
  (hq:∀ r HF,Ok kd st HF→Mg κ a.toList b.toList r.toList→Q r HF):wpS (model prog w) A E s (mlo a b) Q st:=by
 have la:a.toList.length=a.size:=Bx
 have lb:b.toList.length=b.size:=Bx
 have hl:∀ z,a.toList[a.toList.length - 1]? = some z→Lel κ b.toList [z]:=by rw [la];exact hl
 have atA:∀ {i:Nat},i < a.size→∃ x,a.toList[i]? = some x∧Gd κ x:=fun {i} hi=>⟨a.toList[i]'(by omega),fu (by omega),ga _ (Ck _)⟩
 have atB:∀ {i:Nat},i < b.size→∃ x,b.toList[i]? = some x∧Gd κ x:=fun {i} hi=>⟨b.toList[i]'(by omega),fu (by omega),gb _ (Ck _)⟩
 rw [uQ]
 refine BG (GV (DM ⟨rfl,?_⟩))
 obtain ⟨y0,ey0,gy0⟩:=atB h1
 obtain ⟨x0,ex0,gx0⟩:=atA h0
 refine BG (aP ey0 ?_)
 have M0:Mc κ a.toList b.toList [y0] 0 1:=by
  have:Mc κ a.toList b.toList ([]++[y0]) 0 (0+1):=Mc.pushB (O:=[]) (i:=0) (j:=0) ⟨DT _,.nil,(fun x hx=>by cases hx),(fun x hx=>by cases hx),Cc _,Cc _⟩ sb ey0 (fy sa ex0 (hf _ _ ex0 ey0))
  exact this
 have dn:∀ {o:Array Keyed} {i j:Nat},Mc κ a.toList b.toList o.toList i j→(i=a.size ∨ j=b.size)→Mg κ a.toList b.toList (mDn a b o i j).toList:=fun M h=>by rw [kU];exact M.done sa sb (by rw [la,lb];exact h)
 have ls:∀ {o:Array Keyed} {i j:Nat},Mc κ a.toList b.toList o.toList i j→i+1=a.size→Mg κ a.toList b.toList (mLa a b o i j).toList:=fun M h=>by rw [kW];exact M.last sa sb (by rw [la];exact h) hl
 by_cases hb1:1=b.size
 ·refine aA (by simpa using hb1) ?_
  exact BN (hq _ _ (.refl hB) (dn (o:=#[y0]) M0 (.inr hb1)))
 refine aC (by simpa using hb1) ?_
 by_cases ha1:0+1=a.size
 ·refine aA (by simpa using ha1) ?_
  exact BN (hq _ _ (.refl hB) (ls (o:=#[y0]) M0 ha1))
 refine aC (by simpa using ha1) ?_
 refine BG (Fq ?_)
 refine BG (Dz (CO (I:=fun x c HF=>∃ o i j g,c=(none,o,i,j,g)∧Mc κ a.toList b.toList o.toList i j∧i+1 < a.size∧j < b.size∧x+1≤i+j∧Ok kd st HF)
  (Q:=fun c HF=>∃ r z,c=(some r,z)∧Mg κ a.toList b.toList r.toList∧Ok kd st HF) ?step ?fin ⟨#[y0],0,1,_,rfl,M0,by omega,by omega,by omega,.refl hB⟩) ?post)
 case post =>
  rintro c HF ⟨r,z,rfl,m,ok⟩
  unfold mBe
  exact BN (hq _ _ ok m)
 case fin =>
  rintro c HF ⟨o,i,j,g,rfl,M,hi,hj,hx,ok⟩
  omega
 case step =>
  rintro x c st1 _ hx ⟨o,i,j,g,rfl,M,hi,hj,HP,ok1⟩
  unfold mB0
  dsimp only
  refine BG (Dz (CO (I:=fun y c HF=>HF=st1∧∃ o i j p q,c=(none,o,i,j,p,q)∧Mc κ a.toList b.toList o.toList i j∧i+1 < a.size∧j < b.size∧x+1+y≤i+j)
   (Q:=fun c HF=>HF=st1∧((∃ r z,c=(some r,z)∧Mg κ a.toList b.toList r.toList) ∨ ∃ o i j p q,c=(none,o,i,j,p,q)∧Mc κ a.toList b.toList o.toList i j∧i+1 < a.size∧j < b.size∧x+2≤i+j)) ?step1 ?fin1 ⟨rfl,o,i,j,0,0,rfl,M,hi,hj,by omega⟩) ?post1)
  case fin1 =>
   rintro c HF ⟨rfl,o,i,j,p,q,rfl,M,hi,hj,hy⟩
   exact ⟨rfl,.inr ⟨o,i,j,p,q,rfl,M,hi,hj,by omega⟩⟩
  case step1 =>
   rintro y c HF _ hy ⟨rfl,o,i,j,p,q,rfl,M,hi,hj,HP⟩
   unfold mB1
   dsimp only
   obtain ⟨xb,Ig,gxb⟩:=atB hj
   obtain ⟨xa,Ih,gxa⟩:=atA (i:=i) (by omega)
   refine BG (aP Ig (BG (aP Ih (BG (je hO ok1.tb gxb gxa ?_)))))
   cases eb:κ.blt (kof κ xb) (kof κ xa) with
   | true =>
    simp only [DH]
    refine BG (aP Ig ?_)
    have M':Mc κ a.toList b.toList (o.push xb).toList i (j+1):=by rw [DW];exact M.pushB sb Ig (fy sa Ih (rm eb))
    by_cases hjb:j+1=b.size
    ·refine aA (by simpa using hjb) ?_
     exact BN ⟨rfl,.inl ⟨_,_,rfl,dn M' (.inr hjb)⟩⟩
    ·refine aC (by simpa using hjb) ?_
     by_cases hqg:q+1≥g
     ·refine aA hqg ?_
      exact BN ⟨rfl,.inr ⟨_,_,_,_,_,rfl,M',hi,by omega,by omega⟩⟩
     ·refine aC hqg ?_
      exact BN ⟨rfl,_,_,_,_,_,rfl,M',hi,by omega,by omega⟩
   | false =>
    simp only [BR,CU]
    refine BG (aP Ih ?_)
    have M':Mc κ a.toList b.toList (o.push xa).toList (i+1) j:=by rw [DW];exact M.pushA sa Ih (fy sb Ig (not_lt eb))
    by_cases hia:i+1+1=a.size
    ·refine aA (by simpa using hia) ?_
     exact BN ⟨rfl,.inl ⟨_,_,rfl,ls M' hia⟩⟩
    ·refine aC (by simpa using hia) ?_
     by_cases hpg:p+1≥g
     ·refine aA hpg ?_
      exact BN ⟨rfl,.inr ⟨_,_,_,_,_,rfl,M',by omega,hj,by omega⟩⟩
     ·refine aC hpg ?_
      exact BN ⟨rfl,_,_,_,_,_,rfl,M',by omega,hj,by omega⟩
  case post1 =>
   rintro c HF ⟨rfl,⟨r,z,rfl,m⟩ | ⟨o,i,j,p,q,rfl,M,hi,hj,HP⟩⟩
   ·exact BN ⟨r,_,rfl,m,ok1⟩
   unfold mB2
   dsimp only
   refine BG (GV (DM ⟨rfl,?_⟩))
   refine BG (Dz (CO (I:=fun y c HF=>∃ o i j g p q,c=(none,o,i,j,g,p,q)∧Mc κ a.toList b.toList o.toList i j∧i+1 < a.size∧j < b.size∧x+2≤i+j∧Ok kd st HF)
    (Q:=fun c HF=>((∃ r z,c=(some r,z)∧Mg κ a.toList b.toList r.toList) ∨ ∃ o i j g p q,c=(none,o,i,j,g,p,q)∧Mc κ a.toList b.toList o.toList i j∧i+1 < a.size∧j < b.size∧x+2≤i+j)∧Ok kd st HF) ?step2 ?fin2 ⟨o,i,j,_,p,q,rfl,M,hi,hj,HP,ok1⟩) ?post2)
   case fin2 =>
    rintro c HF ⟨o,i,j,g,p,q,rfl,M,hi,hj,HP,ok⟩
    exact ⟨.inr ⟨o,i,j,g,p,q,rfl,M,hi,hj,HP⟩,ok⟩
   case post2 =>
    rintro c HF ⟨⟨r,z,rfl,m⟩ | ⟨o,i,j,g,p,q,rfl,M,hi,hj,HP⟩,ok⟩
    ·exact BN ⟨r,_,rfl,m,ok⟩
    ·dsimp only
     exact BG (ia ok fun HH ok'=>BN ⟨o,i,j,_,rfl,M,hi,hj,by omega,ok'⟩)
   case step2 =>
    rintro y c HX _ hy ⟨o,i,j,g,p,q,rfl,M,hi,hj,HP,ok2⟩
    change wpS _ _ _ _ (if g > 1 then jp1 a b o i j p q (g - 1) else jp1 a b o i j p q g) _ _
    refine Dz (Q:=Pst (kd:=kd) κ a b x st) ?_ fun r HF h=>?_
    rotate_left
    ·cases r with
     | done c=>exact h
     | yield c=>exact h
    by_cases hg:g > 1
    ·refine aA hg ?_
     exact oH hO ⟨ga,gb,sa,sb,by rw [← la];exact hl⟩ M hi hj HP ok2
    ·refine aC hg ?_
     exact oH hO ⟨ga,gb,sa,sb,by rw [← la];exact hl⟩ M hi hj HP ok2
end
end Tv
namespace Tv
open PySem PyProof.Rows
def mhi:Array Keyed→Array Keyed→StateT SortSt Sem (Array Keyed):=sortPriv% PySem.Builtin.mergeHi
abbrev hDn (a b o:Array Keyed)(i j:Nat):Array Keyed:=a.extract 0 i++b.extract 0 j++o.reverse
abbrev hFb (a b o:Array Keyed)(i j:Nat):Array Keyed:=b.extract 0 j++a.extract 0 i++o.reverse
theorem xq (a b:Array Keyed):mhi a b=(do
 rule "list.sort.merge-hi"
 let mut i:=a.size - 1
 let mut j:=b.size
 let mut o:Array Keyed:=#[← elem' a i]
 if i == 0 then return hDn a b o i j
 if j == 1 then return hFb a b o i j
 let mut g:=gallopOf (← get)
 for _ in [0:a.size+b.size] do
  let mut p:=0
  let mut q:=0
  for _ in [0:a.size+b.size] do
   let some w ← lt' (← elem' b (j - 1)) (← elem' a (i - 1)) | return hDn a b o i j
   if w then
    i:=i - 1
    o:=o.push (← elem' a i)
    p:=p+1
    q:=0
    if i == 0 then return hDn a b o i j
    if p≥g then break
   else
    j:=j - 1
    o:=o.push (← elem' b j)
    q:=q+1
    p:=0
    if j == 1 then return hFb a b o i j
    if q≥g then break
  rule "list.sort.gallop"
  g:=g+1
  for _ in [0:a.size+b.size] do
   if g > 1 then g:=g - 1
   smg g
   let some t ← gal false (← elem' b (j - 1)) a 0 i (i - 1) | return hDn a b o i j
   let k:=i - t
   p:=k
   if k > 0 then
    o:=o++(a.extract t i).reverse
    i:=t
    if i == 0 then return hDn a b o i j
   j:=j - 1
   o:=o.push (← elem' b j)
   if j == 1 then return hFb a b o i j
   let some t ← gal true (← elem' a (i - 1)) b 0 j (j - 1) | return hDn a b o i j
   let k:=j - t
   q:=k
   if k > 0 then
    o:=o++(b.extract t j).reverse
    j:=t
    if j == 1 then return hFb a b o i j
    if j == 0 then return hDn a b o i j
   i:=i - 1
   o:=o.push (← elem' a i)
   if i == 0 then return hDn a b o i j
   if p < 7 && q < 7 then break
  g:=g+1
  smg g
 unsupported "internal:list.sort.merge-bound"):=rfl
variable {κ:KeyKind} {kd:SortKind}
structure Mh (κ:KeyKind) (A B R:List Keyed) (i j:Nat):Prop where
 pm:R.Perm (A.drop i++B.drop j)
 so:Srt κ R
 la:Lel κ (A.take i) R
 lb:Lel κ (B.take j) R
 hi:i≤A.length
 hj:j≤B.length
theorem Mh.pushA {A B R:List Keyed}{i j:Nat}(M:Mh κ A B R (i+1) j)(sA:Srt κ A){x:Keyed}(h:A[i]? = some x)(hx:Lel κ (B.take j) [x]):Mh κ A B (x::R) i j:=by
 have et:=bg h
 have st:=sA.take (i+1)
 rw [et] at st
 have HF:=bh.mp st
 refine ⟨?_,Du.mpr ⟨fun y hy=>M.la x (by rw [et];simp) y hy,M.so⟩,fun y hy z hz=>?_,fun y hy z hz=>?_,by have:=M.hi;omega,M.hj⟩
 ·rw [bZ h,List.cons_append]
  exact M.pm.cons x
 ·rcases BU.mp hz with rfl | hz
  ·exact HF.2.2 y hy _ (by simp)
  ·exact M.la y (by rw [et];exact Cb _ hy) z hz
 ·rcases BU.mp hz with rfl | hz
  ·exact hx y hy _ (by simp)
  ·exact M.lb y hy z hz
theorem Mh.pushB {A B R:List Keyed}{i j:Nat}(M:Mh κ A B R i (j+1))(sB:Srt κ B){x:Keyed}(h:B[j]? = some x)(hx:Lel κ (A.take i) [x]):Mh κ A B (x::R) i j:=by
 have et:=bg h
 have st:=sB.take (j+1)
 rw [et] at st
 have HF:=bh.mp st
 refine ⟨?_,Du.mpr ⟨fun y hy=>M.lb x (by rw [et];simp) y hy,M.so⟩,fun y hy z hz=>?_,fun y hy z hz=>?_,M.hi,by have:=M.hj;omega⟩
 ·rw [bZ h]
  exact (M.pm.cons x).trans Gy.symm
 ·rcases BU.mp hz with rfl | hz
  ·exact hx y hy _ (by simp)
  ·exact M.la y hy z hz
 ·rcases BU.mp hz with rfl | hz
  ·exact HF.2.2 y hy _ (by simp)
  ·exact M.lb y (by rw [et];exact Cb _ hy) z hz
theorem Mh.pushAs {A B R:List Keyed}{t j:Nat}(sA:Srt κ A):∀ k,Mh κ A B R (t+k) j→Lel κ (B.take j) ((A.drop t).take k)→Mh κ A B ((A.drop t).take k++R) t j
 | 0,M,_=>by simpa using M
 | k+1,M,hl=>by
  have HK:t+k < A.length:=by have:=M.hi;omega
  have e:(A.drop t)[k]? = some A[t+k]:=by rw [Cs,fu HK]
  have et:(A.drop t).take (k+1)=(A.drop t).take k++[A[t+k]]:=bg e
  rw [et] at hl ⊢
  have M1:Mh κ A B (A[t+k]::R) (t+k) j:=Mh.pushA M sA (fu HK) fun y hy z hz=>hl y hy z (BO _ hz)
  have:=Mh.pushAs sA k M1 fun y hy z hz=>hl y hy z (Cb _ hz)
  rw [BF]
  exact this
theorem Mh.pushBs {A B R:List Keyed}{t i:Nat}(sB:Srt κ B):∀ k,Mh κ A B R i (t+k)→Lel κ (A.take i) ((B.drop t).take k)→Mh κ A B ((B.drop t).take k++R) i t
 | 0,M,_=>by simpa using M
 | k+1,M,hl=>by
  have HK:t+k < B.length:=by have:=M.hj;omega
  have e:(B.drop t)[k]? = some B[t+k]:=by rw [Cs,fu HK]
  have et:(B.drop t).take (k+1)=(B.drop t).take k++[B[t+k]]:=bg e
  rw [et] at hl ⊢
  have M1:Mh κ A B (B[t+k]::R) i (t+k):=Mh.pushB M sB (fu HK) fun y hy z hz=>hl y hy z (BO _ hz)
  have:=Mh.pushBs sB k M1 fun y hy z hz=>hl y hy z (Cb _ hz)
  rw [BF]
  exact this
theorem Mh.perm {A B R:List Keyed}{i j:Nat}(M:Mh κ A B R i j):(A.take i++B.take j++R).Perm (A++B):=by
 have h1:(A.take i++B.take j++R).Perm (A.take i++B.take j++(A.drop i++B.drop j)):=M.pm.append_left _
 refine h1.trans ?_
 have h2:((A.take i++B.take j)++(A.drop i++B.drop j)).Perm ((A.take i++A.drop i)++(B.take j++B.drop j)):=by
  rw [BF,BF]
  refine Dq _ ?_
  rw [← BF,← BF]
  exact EL _ CN
 rw [B3,B3] at h2
 exact h2
theorem Mh.done {A B R:List Keyed}{i j:Nat}(M:Mh κ A B R i j)(sA:Srt κ A)(sB:Srt κ B)(h:i=0 ∨ j=0):Mg κ A B (A.take i++B.take j++R):=by
 refine ⟨M.perm,bh.mpr ⟨bh.mpr ⟨sA.take i,sB.take j,fun x hx y hy=>?_⟩,M.so,fun o ho y hy=>?_⟩⟩
 ·rcases h with h | h
  ·subst h;simp at hx
  ·subst h;simp at hy
 ·rcases B0.mp ho with ho | ho
  ·exact M.la o ho y hy
  ·exact M.lb o ho y hy
theorem Mh.first {A B R:List Keyed}{i j:Nat}(M:Mh κ A B R i j)(sA:Srt κ A)(sB:Srt κ B)(h:j=1)(hf:∀ z,B[0]? = some z→Lel κ [z] A):Mg κ A B (B.take j++A.take i++R):=by
 refine ⟨List.Perm.trans (EL _ CN) M.perm,bh.mpr ⟨bh.mpr ⟨sB.take j,sA.take i,fun x hx y hy=>?_⟩,M.so,fun o ho y hy=>?_⟩⟩
 ·subst h
  cases B with
  | nil=>simp at hx
  | cons z B =>
   have hx:x=z:=by simpa using hx
   subst hx
   exact hf x rfl x (by simp) y (CS hy)
 ·rcases B0.mp ho with ho | ho
  ·exact M.lb o ho y hy
  ·exact M.la o ho y hy
theorem rn (a b o:Array Keyed)(i j:Nat):(hDn a b o i j).toList=a.toList.take i++b.toList.take j++o.toList.reverse:=by
 simp [hDn,C3]
theorem rq (a b o:Array Keyed)(i j:Nat):(hFb a b o i j).toList=b.toList.take j++a.toList.take i++o.toList.reverse:=by
 simp [hFb,C3]
theorem oI (a:Array Keyed)(t i:Nat):((a.extract t i).reverse).toList.reverse=(a.toList.drop t).take (i - t):=by
 simp [C3]
section
variable {prog:Program} {w:World} {A:Around} {E:Value→Shared→Prop} {s:Shared}
theorem k6 {st:SortSt}{lf:Bool}{key:Keyed}{arr:Array Keyed}{n:Nat}{Q:Option Nat→SortSt→Prop}(hO:Lt1 κ prog w A s kd)(hB:TB kd st)(hk:Gd κ key)(hg:∀ x∈arr.toList,Gd κ x)(sa:Srt κ arr.toList)(hn:0 < n)(hna:n≤arr.size)
  (hq:∀ k,k≤n→(∀ x∈arr.toList.take k,bdB κ lf (kof κ key) (kof κ x)=true)→(∀ x∈(arr.toList.drop k).take (n - k),bdB κ lf (kof κ key) (kof κ x)=false)→Q (some k) st) :
  wpS (model prog w) A E s (gal lf key arr 0 n (n - 1)) Q st:=by
 have hl:arr.toList.length=arr.size:=Bx
 refine jS hO hB hk (fun t=>match arr.toList[t]? with | some p=>bdB κ lf (kof κ key) (kof κ p) | none=>false) (by omega) (fun t ht=>?_) (fun t u htu hu hb=>?_) (fun k hk' h1 h2=>hq k (by omega) (fun x hx=>?_) fun x hx=>?_)
 ·have HK:t < arr.toList.length:=by omega
  have e:=fu HK
  refine ⟨arr.toList[t],by rw [FD];simpa using e,hg _ (Ck HK),?_⟩
  rw [e]
 ·have h1:t < arr.toList.length:=by omega
  have h2:u < arr.toList.length:=by omega
  have e1:=fu h1
  have e2:=fu h2
  rw [e2] at hb
  rw [e1]
  exact kY (sa.at (by omega) e1 e2) hb
 ·obtain ⟨t,e⟩:=C4 hx
  have ht:t < k:=by
   have:=(Bv.mp e).1
   rw [BL] at this
   omega
  rw [EH,if_pos ht] at e
  have:=h1 t ht
  rw [e] at this
  exact this
 ·obtain ⟨t,e⟩:=C4 hx
  have ht:t < n - k:=by
   have:=(Bv.mp e).1
   rw [BL] at this
   omega
  rw [EH,if_pos ht,Cs] at e
  have:=h2 (k+t) (by omega) (by omega)
  rw [e] at this
  exact this
theorem ie {l:List Keyed}(sl:Srt κ l){i:Nat}{x y:Keyed}(e:l[i]? = some y)(h:lek κ y x):Lel κ (l.take (i+1)) [x]:=fun z hz t ht=>by
 rw [Bu] at ht
 subst ht
 rw [bg e] at hz
 rcases B0.mp hz with hz | hz
 ·have st:=sl.take (i+1)
  rw [bg e] at st
  exact dQ ((bh.mp st).2.2 z hz y (by simp)) h
 ·rw [Bu] at hz
  subst hz
  exact h
structure mT (κ:KeyKind) (a b:Array Keyed):Prop where
 ga:∀ x∈a.toList,Gd κ x
 gb:∀ x∈b.toList,Gd κ x
 sa:Srt κ a.toList
 sb:Srt κ b.toList
 hf:∀ z,b.toList[0]? = some z→Lel κ [z] a.toList
theorem mT.atA {a b:Array Keyed}(T:mT κ a b){i:Nat}(hi:i < a.size):∃ x,a.toList[i]? = some x∧Gd κ x:=⟨a.toList[i]'(by rw [Bx]; exact hi),fu (by rw [Bx]; exact hi),T.ga _ (Ck _)⟩
theorem mT.atB {a b:Array Keyed}(T:mT κ a b){i:Nat}(hi:i < b.size):∃ x,b.toList[i]? = some x∧Gd κ x:=⟨b.toList[i]'(by rw [Bx]; exact hi),fu (by rw [Bx]; exact hi),T.gb _ (Ck _)⟩
theorem mT.dn {a b:Array Keyed}(T:mT κ a b){o:Array Keyed}{i j:Nat}(M:Mh κ a.toList b.toList o.toList.reverse i j)(h:i=0 ∨ j=0):Mg κ a.toList b.toList (hDn a b o i j).toList:=by
 rw [rn]
 exact M.done T.sa T.sb h
theorem mT.fb {a b:Array Keyed}(T:mT κ a b){o:Array Keyed}{i j:Nat}(M:Mh κ a.toList b.toList o.toList.reverse i j)(h:j=1):Mg κ a.toList b.toList (hFb a b o i j).toList:=by
 rw [rq]
 exact M.first T.sa T.sb h T.hf
theorem fe (o:Array Keyed)(x:Keyed):(o.push x).toList.reverse=x::o.toList.reverse:=by simp
theorem oJ (o:Array Keyed)(a:Array Keyed)(t i:Nat):(o++(a.extract t i).reverse).toList.reverse=(a.toList.drop t).take (i - t)++o.toList.reverse:=by
 rw [Fs,List.reverse_append,oI]
abbrev HSt:=Option (Array Keyed) × Nat × Nat × Array Keyed × Nat × Nat × Nat
def hq3 (a b:Array Keyed)(i g p q j:Nat)(o:Array Keyed):StateT SortSt Sem (ForInStep HSt):=do
 let e ← elem' a (i - 1)
 if (i - 1 == 0)=true then pure (.done (some (hDn a b (o.push e) (i - 1) j),i - 1,j,o.push e,g,p,q))
 else if (decide (p < 7) && decide (q < 7))=true then pure (.done (none,i - 1,j,o.push e,g,p,q)) else pure (.yield (none,i - 1,j,o.push e,g,p,q))
def hq2 (a b:Array Keyed)(j g p q i:Nat)(o:Array Keyed):StateT SortSt Sem (ForInStep HSt):=do
 let e ← elem' b (j - 1)
 if (j - 1 == 1)=true then pure (.done (some (hFb a b (o.push e) i (j - 1)),i,j - 1,o.push e,g,p,q))
 else do
  let f ← elem' a (i - 1)
  let y ← gal true f b 0 (j - 1) (j - 1 - 1)
  match y with
  | some t=>if j - 1 - t > 0 then (if (t == 1)=true then pure (.done (some (hFb a b (o.push e++(b.extract t (j - 1)).reverse) i t),i,t,o.push e++(b.extract t (j - 1)).reverse,g,p,j - 1 - t)) else if (t == 0)=true then pure (.done (some (hDn a b (o.push e++(b.extract t (j - 1)).reverse) i t),i,t,o.push e++(b.extract t (j - 1)).reverse,g,p,j - 1 - t)) else hq3 a b i g p (j - 1 - t) t (o.push e++(b.extract t (j - 1)).reverse)) else hq3 a b i g p (j - 1 - t) (j - 1) (o.push e)
  | _=>pure (.done (some (hDn a b (o.push e) i (j - 1)),i,j - 1,o.push e,g,p,q))
def hq1 (a b:Array Keyed)(i j:Nat)(o:Array Keyed)(p q g:Nat):StateT SortSt Sem (ForInStep HSt):=do
 smg g
 let e ← elem' b (j - 1)
 let y ← gal false e a 0 i (i - 1)
 match y with
 | some t=>if i - t > 0 then (if (t == 0)=true then pure (.done (some (hDn a b (o++(a.extract t i).reverse) t j),t,j,o++(a.extract t i).reverse,g,i - t,q)) else hq2 a b j g (i - t) q t (o++(a.extract t i).reverse)) else hq2 a b j g (i - t) q i o
 | _=>pure (.done (some (hDn a b o i j),i,j,o,g,p,q))
def Hst (κ:KeyKind)(a b:Array Keyed)(x:Nat)(st:SortSt)(r:ForInStep HSt)(HF:SortSt):Prop:=match r with
 | .done c=>((∃ r z,c=(some r,z)∧Mg κ a.toList b.toList r.toList) ∨ ∃ i j o g p q,c=(none,i,j,o,g,p,q)∧Mh κ a.toList b.toList o.toList.reverse i j∧0 < i∧1 < j∧x+2+i+j≤a.size+b.size)∧Ok kd st HF
 | .yield c=>∃ i j o g p q,c=(none,i,j,o,g,p,q)∧Mh κ a.toList b.toList o.toList.reverse i j∧0 < i∧1 < j∧x+2+i+j≤a.size+b.size∧Ok kd st HF
theorem oK {st HF:SortSt}{a b o:Array Keyed}{i j g p q x:Nat}{xa:Keyed}(T:mT κ a b)(M:Mh κ a.toList b.toList o.toList.reverse i j)(hi:0 < i)(hj:1 < j)(hx:x+2+i+j≤a.size+b.size)(ok:Ok kd st HF)(Ih:a.toList[i - 1]? = some xa)(hle:Lel κ (b.toList.take j) [xa]) :
  wpS (model prog w) A E s (hq3 a b i g p q j o) (Hst (kd:=kd) κ a b x st) HF:=by
 unfold hq3
 refine BG (aP Ih ?_)
 have M':Mh κ a.toList b.toList (o.push xa).toList.reverse (i - 1) j:=by
  rw [fe]
  exact Mh.pushA (by rw [show i - 1+1=i by omega];exact M) T.sa Ih hle
 by_cases h0:i - 1=0
 ·refine aA (by simpa using h0) ?_
  exact BN ⟨.inl ⟨_,_,rfl,T.dn M' (.inl h0)⟩,ok⟩
 ·refine aC (by simpa using h0) ?_
  by_cases hpq:(decide (p < 7) && decide (q < 7))=true
  ·refine aA hpq ?_
   exact BN ⟨.inr ⟨_,_,_,_,_,_,rfl,M',by omega,hj,by omega⟩,ok⟩
  ·refine aC hpq ?_
   exact BN ⟨_,_,_,_,_,_,rfl,M',by omega,hj,by omega,ok⟩
theorem oM {st HF:SortSt}{a b o:Array Keyed}{i j g p q x:Nat}{xb:Keyed}(hO:Lt1 κ prog w A s kd)(T:mT κ a b)(M:Mh κ a.toList b.toList o.toList.reverse i j)(hi:0 < i)(hj:1 < j)(hx:x+2+i+j≤a.size+b.size)(ok:Ok kd st HF)(Ig:b.toList[j - 1]? = some xb)(hle:Lel κ (a.toList.take i) [xb]) :
  wpS (model prog w) A E s (hq2 a b j g p q i o) (Hst (kd:=kd) κ a b x st) HF:=by
 have la:a.toList.length=a.size:=Bx
 have lb:b.toList.length=b.size:=Bx
 have hia:=M.hi
 have hjb:=M.hj
 unfold hq2
 refine BG (aP Ig ?_)
 have M':Mh κ a.toList b.toList (o.push xb).toList.reverse i (j - 1):=by
  rw [fe]
  exact Mh.pushB (by rw [show j - 1+1=j by omega];exact M) T.sb Ig hle
 by_cases h1:j - 1=1
 ·refine aA (by simpa using h1) ?_
  exact BN ⟨.inl ⟨_,_,rfl,T.fb M' h1⟩,ok⟩
 refine aC (by simpa using h1) ?_
 obtain ⟨xa,Ih,gxa⟩:=T.atA (i:=i - 1) (by omega)
 refine BG (aP Ih (BG (k6 hO ok.tb gxa T.gb T.sb (by omega) (by omega) fun t ht t1 t2=>?_)))
 dsimp only
 have up:Lel κ (b.toList.take t) [xa]:=fun z hz y hy=>by
  rw [Bu] at hy
  subst hy
  exact jT (t1 z hz)
 have MB:Mh κ a.toList b.toList ((b.toList.drop t).take (j - 1 - t)++(o.push xb).toList.reverse) i t:=Mh.pushBs T.sb (j - 1 - t) (by rw [show t+(j - 1 - t)=j - 1 by omega];exact M') fun y hy z hz=>by
  have:=ie T.sa Ih (ib (t2 z hz))
  rw [show i - 1+1=i by omega] at this
  exact this y hy z (by simp)
 by_cases hk0:j - 1 - t > 0
 ·refine aA hk0 ?_
  have MB':Mh κ a.toList b.toList (o.push xb++(b.extract t (j - 1)).reverse).toList.reverse i t:=by rw [oJ];exact MB
  by_cases ht1:t=1
  ·refine aA (by simpa using ht1) ?_
   exact BN ⟨.inl ⟨_,_,rfl,T.fb MB' ht1⟩,ok⟩
  ·refine aC (by simpa using ht1) ?_
   by_cases ht0:t=0
   ·refine aA (by simpa using ht0) ?_
    exact BN ⟨.inl ⟨_,_,rfl,T.dn MB' (.inr ht0)⟩,ok⟩
   ·refine aC (by simpa using ht0) ?_
    exact oK T MB' hi (by omega) (by omega) ok Ih up
 ·refine aC hk0 ?_
  have:t=j - 1:=by omega
  subst this
  exact oK T M' hi (by omega) (by omega) ok Ih up
theorem oN {st HF:SortSt}{a b o:Array Keyed}{i j g p q x:Nat}(hO:Lt1 κ prog w A s kd)(T:mT κ a b)(M:Mh κ a.toList b.toList o.toList.reverse i j)(hi:0 < i)(hj:1 < j)(hx:x+2+i+j≤a.size+b.size)(ok:Ok kd st HF) :
  wpS (model prog w) A E s (hq1 a b i j o p q g) (Hst (kd:=kd) κ a b x st) HF:=by
 have la:a.toList.length=a.size:=Bx
 have lb:b.toList.length=b.size:=Bx
 have hia:=M.hi
 have hjb:=M.hj
 unfold hq1
 refine BG (ia ok fun st3 ok3=>?_)
 obtain ⟨xb,Ig,gxb⟩:=T.atB (i:=j - 1) (by omega)
 refine BG (aP Ig (BG (k6 hO ok3.tb gxb T.ga T.sa hi (by omega) fun t ht t1 t2=>?_)))
 dsimp only
 have up:Lel κ (a.toList.take t) [xb]:=fun z hz y hy=>by
  rw [Bu] at hy
  subst hy
  exact fc (t1 z hz)
 have MA:Mh κ a.toList b.toList ((a.toList.drop t).take (i - t)++o.toList.reverse) t j:=Mh.pushAs T.sa (i - t) (by rw [show t+(i - t)=i by omega];exact M) fun y hy z hz=>by
  have:=ie T.sb Ig (fz (t2 z hz))
  rw [show j - 1+1=j by omega] at this
  exact this y hy z (by simp)
 by_cases hk0:i - t > 0
 ·refine aA hk0 ?_
  have MA':Mh κ a.toList b.toList (o++(a.extract t i).reverse).toList.reverse t j:=by rw [oJ];exact MA
  by_cases ht0:t=0
  ·refine aA (by simpa using ht0) ?_
   exact BN ⟨.inl ⟨_,_,rfl,T.dn MA' (.inl ht0)⟩,ok3⟩
  ·refine aC (by simpa using ht0) ?_
   exact oM hO T MA' (by omega) hj (by omega) ok3 Ig up
 ·refine aC hk0 ?_
  have:t=i:=by omega
  subst this
  exact oM hO T M hi hj hx ok3 Ig up
abbrev H6:=Option (Array Keyed) × Nat × Nat × Array Keyed × Nat × Nat
abbrev H5:=Option (Array Keyed) × Nat × Nat × Array Keyed × Nat
def hB1 (a b:Array Keyed)(g:Nat):H6→TS (ForInStep H6):=fun (_,i,j,o,p,q)=>do
 let y ← elem' b (j - 1)
 let x ← elem' a (i - 1)
 let w ← lt' y x
 match w with
 | some w =>
  if w=true then do
   let e ← elem' a (i - 1)
   if (i - 1 == 0)=true then pure (.done (some (hDn a b (o.push e) (i - 1) j),i - 1,j,o.push e,p+1,0))
   else if p+1≥g then pure (.done (none,i - 1,j,o.push e,p+1,0)) else pure (.yield (none,i - 1,j,o.push e,p+1,0))
  else do
   let e ← elem' b (j - 1)
   if (j - 1 == 1)=true then pure (.done (some (hFb a b (o.push e) i (j - 1)),i,j - 1,o.push e,0,q+1))
   else if q+1≥g then pure (.done (none,i,j - 1,o.push e,0,q+1)) else pure (.yield (none,i,j - 1,o.push e,0,q+1))
 | _=>pure (.done (some (hDn a b o i j),i,j,o,p,q))
def hB3 (a b:Array Keyed):HSt→TS (ForInStep HSt):=fun (_,i,j,o,g,p,q)=>if g > 1 then hq1 a b i j o p q (g - 1) else hq1 a b i j o p q g
def hB2 (a b:Array Keyed)(g:Nat):H6→TS (ForInStep H5)
 | (some r,i,j,o,_)=>pure (.done (some r,i,j,o,g))
 | (none,i,j,o,p,q)=>do
  rule "list.sort.gallop"
  match ← forIn [0:a.size+b.size] ((none,i,j,o,g+1,p,q):HSt) fun _ d=>hB3 a b d with
  | (some r,i,j,o,g,_)=>pure (.done (some r,i,j,o,g))
  | (none,i,j,o,g,_)=>do
   smg (g+1)
   pure (.yield (none,i,j,o,g+1))
def hB0 (a b:Array Keyed):H5→TS (ForInStep H5):=fun (_,i,j,o,g)=>do
 let d ← forIn [0:a.size+b.size] ((none,i,j,o,0,0):H6) fun _ d=>hB1 a b g d
 hB2 a b g d
theorem uS (a b:Array Keyed):mhi a b=(do
 rule "list.sort.merge-hi"
 let e ← elem' a (a.size - 1)
 if (a.size - 1 == 0)=true then pure (hDn a b #[e] (a.size - 1) b.size)
 else if (b.size == 1)=true then pure (hFb a b #[e] (a.size - 1) b.size)
 else do
  let st ← get
  let c ← forIn [0:a.size+b.size] ((none,a.size - 1,b.size,#[e],gallopOf st):H5) fun _ c=>hB0 a b c
  mBe c):=by
 rw [xq]
 refine BP (bind _) (funext fun u=>BP (bind _) (funext fun e=>BP (ite _ _) (BP (ite _ _) (BP (bind _) (funext fun st=>?_)))))
 refine congr (BP bind (BP (forIn _ _) (funext fun x=>funext fun c=>?_))) (funext fun c=>?_)
 ·refine congr (BP bind (BP (forIn _ _) (funext fun y=>funext fun d=>rfl))) (funext fun d=>?_)
  rcases d with ⟨_ | r,d⟩
  ·refine BP (bind _) (funext fun u=>?_)
   refine congr (BP bind (BP (forIn _ _) (funext fun y=>funext fun d=>rfl))) (funext fun d=>?_)
   rcases d with ⟨_ | r,d⟩ <;> rfl
  ·rfl
 ·rcases c with ⟨_ | r,c⟩ <;> rfl
theorem uT {st:SortSt}{a b:Array Keyed}{Q:Array Keyed→SortSt→Prop}(hO:Lt1 κ prog w A s kd)(hB:TB kd st)(T:mT κ a b)(h0:0 < a.size)(h1:0 < b.size)
  (hl:∀ z,a.toList[a.size - 1]? = some z→Lel κ b.toList [z])
  (hq:∀ r HF,Ok kd st HF→Mg κ a.toList b.toList r.toList→Q r HF):wpS (model prog w) A E s (mhi a b) Q st:=by
 have la:a.toList.length=a.size:=Bx
 have lb:b.toList.length=b.size:=Bx
 rw [uS]
 refine BG (GV (DM ⟨rfl,?_⟩))
 obtain ⟨z0,ez0,gz0⟩:=T.atA (i:=a.size - 1) (by omega)
 refine BG (aP ez0 ?_)
 have M0:Mh κ a.toList b.toList (#[z0]:Array Keyed).toList.reverse (a.size - 1) b.size:=by
  have:Mh κ a.toList b.toList [z0] (a.size - 1) b.size:=Mh.pushA (R:=[]) (by
   rw [show a.size - 1+1=a.size by omega]
   refine ⟨?_,.nil,(fun x hx y hy=>by cases hy),(fun x hx y hy=>by cases hy),by omega,by omega⟩
   rw [DE (by omega),DE (by omega)]
   exact DT _) T.sa ez0 (by rw [B6 (by omega)];exact hl _ ez0)
  exact this
 by_cases ha1:a.size - 1=0
 ·refine aA (by simpa using ha1) ?_
  exact BN (hq _ _ (.refl hB) (T.dn M0 (.inl ha1)))
 refine aC (by simpa using ha1) ?_
 by_cases hb1:b.size=1
 ·refine aA (by simpa using hb1) ?_
  exact BN (hq _ _ (.refl hB) (T.fb M0 hb1))
 refine aC (by simpa using hb1) ?_
 refine BG (Fq ?_)
 refine BG (Dz (CO (I:=fun x c HF=>∃ i j o g,c=(none,i,j,o,g)∧Mh κ a.toList b.toList o.toList.reverse i j∧0 < i∧1 < j∧x+1+i+j≤a.size+b.size∧Ok kd st HF)
  (Q:=fun c HF=>∃ r z,c=(some r,z)∧Mg κ a.toList b.toList r.toList∧Ok kd st HF) ?step ?fin ⟨_,_,_,_,rfl,M0,by omega,by omega,by omega,.refl hB⟩) ?post)
 case post =>
  rintro c HF ⟨r,z,rfl,m,ok⟩
  unfold mBe
  exact BN (hq _ _ ok m)
 case fin =>
  rintro c HF ⟨i,j,o,g,rfl,M,hi,hj,hx,ok⟩
  omega
 case step =>
  rintro x c st1 _ hx ⟨i,j,o,g,rfl,M,hi,hj,HP,ok1⟩
  unfold hB0
  dsimp only
  refine BG (Dz (CO (I:=fun y c HF=>HF=st1∧∃ i j o p q,c=(none,i,j,o,p,q)∧Mh κ a.toList b.toList o.toList.reverse i j∧0 < i∧1 < j∧x+1+y+i+j≤a.size+b.size)
   (Q:=fun c HF=>HF=st1∧((∃ r z,c=(some r,z)∧Mg κ a.toList b.toList r.toList) ∨ ∃ i j o p q,c=(none,i,j,o,p,q)∧Mh κ a.toList b.toList o.toList.reverse i j∧0 < i∧1 < j∧x+2+i+j≤a.size+b.size)) ?step1 ?fin1 ⟨rfl,i,j,o,0,0,rfl,M,hi,hj,by omega⟩) ?post1)
  case fin1 =>
   rintro c HF ⟨rfl,i,j,o,p,q,rfl,M,hi,hj,hy⟩
   exact ⟨rfl,.inr ⟨i,j,o,p,q,rfl,M,hi,hj,by omega⟩⟩
  case step1 =>
   rintro y c HF _ hy ⟨rfl,i,j,o,p,q,rfl,M,hi,hj,HP⟩
   unfold hB1
   dsimp only
   have hia:=M.hi
   have hjb:=M.hj
   obtain ⟨xb,Ig,gxb⟩:=T.atB (i:=j - 1) (by omega)
   obtain ⟨xa,Ih,gxa⟩:=T.atA (i:=i - 1) (by omega)
   refine BG (aP Ig (BG (aP Ih (BG (je hO ok1.tb gxb gxa ?_)))))
   cases eb:κ.blt (kof κ xb) (kof κ xa) with
   | true =>
    simp only [DH]
    refine BG (aP Ih ?_)
    have M':Mh κ a.toList b.toList (o.push xa).toList.reverse (i - 1) j:=by
     rw [fe]
     refine Mh.pushA (by rw [show i - 1+1=i by omega];exact M) T.sa Ih ?_
     have:=ie T.sb Ig (rm eb)
     rwa [show j - 1+1=j by omega] at this
    by_cases hi0:i - 1=0
    ·refine aA (by simpa using hi0) ?_
     exact BN ⟨rfl,.inl ⟨_,_,rfl,T.dn M' (.inl hi0)⟩⟩
    ·refine aC (by simpa using hi0) ?_
     by_cases hpg:p+1≥g
     ·refine aA hpg ?_
      exact BN ⟨rfl,.inr ⟨_,_,_,_,_,rfl,M',by omega,hj,by omega⟩⟩
     ·refine aC hpg ?_
      exact BN ⟨rfl,_,_,_,_,_,rfl,M',by omega,hj,by omega⟩
   | false =>
    simp only [BR,CU]
    refine BG (aP Ig ?_)
    have M':Mh κ a.toList b.toList (o.push xb).toList.reverse i (j - 1):=by
     rw [fe]
     refine Mh.pushB (by rw [show j - 1+1=j by omega];exact M) T.sb Ig ?_
     have:=ie T.sa Ih (not_lt eb)
     rwa [show i - 1+1=i by omega] at this
    by_cases hj1:j - 1=1
    ·refine aA (by simpa using hj1) ?_
     exact BN ⟨rfl,.inl ⟨_,_,rfl,T.fb M' hj1⟩⟩
    ·refine aC (by simpa using hj1) ?_
     by_cases hqg:q+1≥g
     ·refine aA hqg ?_
      exact BN ⟨rfl,.inr ⟨_,_,_,_,_,rfl,M',hi,by omega,by omega⟩⟩
     ·refine aC hqg ?_
      exact BN ⟨rfl,_,_,_,_,_,rfl,M',hi,by omega,by omega⟩
  case post1 =>
   rintro c HF ⟨rfl,⟨r,z,rfl,m⟩ | ⟨i,j,o,p,q,rfl,M,hi,hj,HP⟩⟩
   ·exact BN ⟨r,_,rfl,m,ok1⟩
   unfold hB2
   dsimp only
   refine BG (GV (DM ⟨rfl,?_⟩))
   refine BG (Dz (CO (I:=fun y c HF=>∃ i j o g p q,c=(none,i,j,o,g,p,q)∧Mh κ a.toList b.toList o.toList.reverse i j∧0 < i∧1 < j∧x+2+i+j≤a.size+b.size∧Ok kd st HF)
    (Q:=fun c HF=>((∃ r z,c=(some r,z)∧Mg κ a.toList b.toList r.toList) ∨ ∃ i j o g p q,c=(none,i,j,o,g,p,q)∧Mh κ a.toList b.toList o.toList.reverse i j∧0 < i∧1 < j∧x+2+i+j≤a.size+b.size)∧Ok kd st HF) ?step2 ?fin2 ⟨i,j,o,_,p,q,rfl,M,hi,hj,HP,ok1⟩) ?post2)
   case fin2 =>
    rintro c HF ⟨i,j,o,g,p,q,rfl,M,hi,hj,HP,ok⟩
    exact ⟨.inr ⟨i,j,o,g,p,q,rfl,M,hi,hj,HP⟩,ok⟩
   case post2 =>
    rintro c HF ⟨⟨r,z,rfl,m⟩ | ⟨i,j,o,g,p,q,rfl,M,hi,hj,HP⟩,ok⟩
    ·exact BN ⟨r,_,rfl,m,ok⟩
    ·dsimp only
     exact BG (ia ok fun HH ok'=>BN ⟨i,j,o,_,rfl,M,hi,hj,by omega,ok'⟩)
   case step2 =>
    rintro y c HX _ hy ⟨i,j,o,g,p,q,rfl,M,hi,hj,HP,ok2⟩
    change wpS _ _ _ _ (if g > 1 then hq1 a b i j o p q (g - 1) else hq1 a b i j o p q g) _ _
    refine Dz (Q:=Hst (kd:=kd) κ a b x st) ?_ fun r HF h=>?_
    rotate_left
    ·cases r with
     | done c=>exact h
     | yield c=>exact h
    by_cases hg:g > 1
    ·refine aA hg ?_
     exact oN hO T M hi hj HP ok2
    ·refine aC hg ?_
     exact oN hO T M hi hj HP ok2
end
end Tv
namespace Tv
open PySem PyProof.Rows
variable {κ:KeyKind} {kd:SortKind}
def SrI (κ:KeyKind)(xs:Array Keyed)(lo hi:Nat):Prop:=∀ i j,lo≤i→i≤j→j < hi→κ.kle (KK κ xs i) (KK κ xs j)
def NiI (κ:KeyKind)(xs:Array Keyed)(lo hi:Nat):Prop:=∀ i j,lo≤i→i≤j→j < hi→κ.kle (KK κ xs j) (KK κ xs i)
structure Rp (lo hi:Nat) (xs ys:Array Keyed):Prop where
 pm:ys.Perm xs
 out:∀ k,(k < lo ∨ hi≤k)→ys[k]? = xs[k]?
theorem Rp.refl (lo hi:Nat)(xs:Array Keyed):Rp lo hi xs xs:=⟨GJ _,fun _ _=>rfl⟩
theorem Rp.trans {lo hi:Nat}{xs ys zs:Array Keyed}(h:Rp lo hi xs ys)(g:Rp lo hi ys zs):Rp lo hi xs zs:=⟨g.pm.trans h.pm,fun k hk=>(g.out k hk).trans (h.out k hk)⟩
theorem Rp.size {lo hi:Nat}{xs ys:Array Keyed}(h:Rp lo hi xs ys):ys.size=xs.size:=h.pm.size_eq
theorem Rp.mirror {lo hi i j:Nat}{xs:Array Keyed}(h1:lo≤i)(h2:j≤hi)(hj:j≤xs.size):Rp lo hi xs (mirror xs i j ((j - i) / 2)):=by
 refine ⟨mirror_perm _ _ _ _,fun k hk=>?_⟩
 rw [getElem?_mirror_all hj,if_neg (by omega)]
theorem Rp.bubble {lo hi src d:Nat}{xs:Array Keyed}(h1:lo+d≤src)(h2:src < hi)(hs:src < xs.size):Rp lo hi xs (bubble xs src d):=by
 refine ⟨bubble_perm _ _ _,fun k hk=>?_⟩
 rw [getElem?_bubble hs d (by omega),if_neg (by omega),if_neg (by omega)]
structure Rs (kd:SortKind) (κ:KeyKind) (lo hi:Nat) (st HF:SortSt):Prop where
 tb:TB kd HF
 pd:pendingOf HF=pendingOf st
 gd:∀ x∈(arrOf HF).toList,Gd κ x
 rp:Rp lo hi (arrOf st) (arrOf HF)
theorem Rs.refl {lo hi:Nat}{st:SortSt}(h:TB kd st)(g:∀ x∈(arrOf st).toList,Gd κ x):Rs kd κ lo hi st st:=⟨h,rfl,g,.refl _ _ _⟩
theorem Rs.arr {lo hi:Nat}{st HF:SortSt}(h:Rs kd κ lo hi st HF){ys:Array Keyed}(r:Rp lo hi (arrOf HF) ys):Rs kd κ lo hi st (setArr HF ys) :=
 ⟨⟨h.tb.kind,h.tb.failed⟩,h.pd,fun x hx=>h.gd x ((Dg.mp r.pm).mem_iff.mp hx),h.rp.trans r⟩
theorem xt {xs:Array Keyed}(g:∀ x∈xs.toList,Gd κ x){i:Nat}(hi:i < xs.size):∃ x p,xs[i]? = some (x,p)∧κ.keyOf x=some (KK κ xs i):=by
 have e:xs[i]? = some xs[i]:=GK xs i hi
 refine ⟨xs[i].1,xs[i].2,e,?_⟩
 have:=(g xs[i] (by simp)).eq
 rw [this]
 unfold KK kof
 rw [e]
section
variable {prog:Program} {w:World} {A:Around} {E:Value→Shared→Prop} {s:Shared}
theorem eD {st:SortSt}{i j:Nat}{Q:Option Bool→SortSt→Prop}(hO:Lt1 κ prog w A s kd)(hB:TB kd st)(g:∀ x∈(arrOf st).toList,Gd κ x)(hi:i < (arrOf st).size)(hj:j < (arrOf st).size)
  (h:Q (some (κ.blt (KK κ (arrOf st) i) (KK κ (arrOf st) j))) st):wpS (model prog w) A E s (ltAt' i j) Q st:=by
 obtain ⟨x,p,e1,k1⟩:=xt g hi
 obtain ⟨y,q,e2,k2⟩:=xt g hj
 have hx:Gd κ (x,p):=⟨_,k1⟩
 have hy:Gd κ (y,q):=⟨_,k2⟩
 rw [ltAt'_eq]
 refine BG (Fq ?_)
 show wpS _ _ _ _ (do let x ← elem' (arrOf st) i;let y ← elem' (arrOf st) j;lt' x y) Q st
 rw [elem'_eq,elem'_eq,e1,e2]
 refine BG (BN (BG (BN (je hO hB hx hy ?_))))
 have a1:kof κ (x,p)=_:=BA (hx.eq.symm.trans k1)
 have a2:kof κ (y,q)=_:=BA (hy.eq.symm.trans k2)
 rw [a1,a2]
 exact h
def zE (lo a nr:Nat):StateT SortSt Sem (Option Nat):=do
 let mut n:=a
 for _ in [a:nr] do
  let some sm ← ltAt' (lo+n) (lo+n - 1) | return none
  if sm then break
  n:=n+1
 return some n
def uU (lo a nr:Nat):StateT SortSt Sem (Option Nat):=do
 reverseSlice' lo (lo+a)
 zE lo a nr
def zF (lo a nr:Nat):StateT SortSt Sem (Option Nat):=do
 rule "list.sort.descending-run"
 let mut n:=a+1
 let mut e:=0
 for _ in [a+1:nr] do
  let some sm ← ltAt' (lo+n) (lo+n - 1) | return none
  if sm then
   if e > 0 then reverseSlice' (lo+n - (e+1)) (lo+n)
   e:=0
  else
   let some lg ← ltAt' (lo+n - 1) (lo+n) | return none
   if lg then break
   e:=e+1
  n:=n+1
 if e > 0 then reverseSlice' (lo+n - (e+1)) (lo+n)
 uU lo n nr
theorem oO {xs:Array Keyed}{lo x:Nat}(a1:SrI κ xs lo (lo+x))(h1:1≤x)(e:κ.blt (KK κ xs (lo+x)) (KK κ xs (lo+x - 1))=false):SrI κ xs lo (lo+(x+1)):=fun i j hi HP hj=>by
 by_cases q:j < lo+x
 ·exact a1 i j hi HP q
 ·have:j=lo+x:=by omega
  subst this
  by_cases q2:i=lo+x
  ·subst q2;exact C5 _
  ·exact D7 (a1 i (lo+x - 1) hi (by omega) (by omega)) e
theorem rz {st:SortSt}{lo a nr:Nat}{Q:Option Nat→SortSt→Prop}(hO:Lt1 κ prog w A s kd)(hB:TB kd st)(g:∀ x∈(arrOf st).toList,Gd κ x)(h1:1≤a)(h2:a≤nr)(h3:lo+nr≤(arrOf st).size)(hs:SrI κ (arrOf st) lo (lo+a))
  (h:∀ n,a≤n→n≤nr→SrI κ (arrOf st) lo (lo+n)→Q (some n) st):wpS (model prog w) A E s (zE lo a nr) Q st:=by
 unfold zE
 refine BG (Dz (CO (I:=fun x c HF=>HF=st∧c=(none,x)∧SrI κ (arrOf st) lo (lo+x))
  (Q:=fun c HF=>HF=st∧∃ n,c=(none,n)∧a≤n∧n≤nr∧SrI κ (arrOf st) lo (lo+n)∧(n=nr ∨ κ.klt (KK κ (arrOf st) (lo+n)) (KK κ (arrOf st) (lo+n - 1)))) ?step ?fin ⟨rfl,rfl,hs⟩) ?post)
 case fin =>
  rintro c HF ⟨rfl,rfl,a1⟩
  have e:max a nr=nr:=by omega
  rw [e] at a1 ⊢
  exact ⟨rfl,nr,rfl,by omega,BB _,a1,.inl rfl⟩
 case step =>
  rintro x c HF hx1 hx2 ⟨rfl,rfl,a1⟩
  dsimp only
  refine BG (eD hO hB g (by omega) (by omega) ?_)
  cases e:κ.blt (KK κ (arrOf HF) (lo+x)) (KK κ (arrOf HF) (lo+x - 1)) with
  | true =>
   simp only [DH]
   exact BN ⟨rfl,x,rfl,hx1,by omega,a1,.inr e⟩
  | false =>
   simp only [BR,CU]
   exact BN ⟨rfl,rfl,oO a1 (by omega) e⟩
 case post =>
  rintro c HF ⟨rfl,n,rfl,a1,a2,a3,a4⟩
  exact BN (h n a1 a2 a3)
theorem jf {st HF:SortSt}{lo a nr:Nat}{Q:Option Nat→SortSt→Prop}(hO:Lt1 κ prog w A s kd)(R:Rs kd κ lo (lo+nr) st HF)(h1:1≤a)(h2:a≤nr)(h3:lo+nr≤(arrOf st).size)(hs:NiI κ (arrOf HF) lo (lo+a))
  (h:∀ n HH,1≤n→n≤nr→Rs kd κ lo (lo+nr) st HH→SrI κ (arrOf HH) lo (lo+n)→Q (some n) HH):wpS (model prog w) A E s (uU lo a nr) Q HF:=by
 have hz:=R.rp.size
 unfold uU
 refine BG (wpS_reverse ?_)
 have R':Rs kd κ lo (lo+nr) st (setArr HF (mirror (arrOf HF) lo (lo+a) ((lo+a - lo) / 2))):=R.arr (Rp.mirror (BB _) (by omega) (by omega))
 refine rz hO R'.tb R'.gd h1 h2 (by rw [R'.rp.size];exact h3) (fun i j hi HP hj=>?_) fun n a1 a2 a3=>h n _ (by omega) a2 R' a3
 show κ.kle (KK κ (mirror (arrOf HF) lo (lo+a) ((lo+a - lo) / 2)) i) (KK κ (mirror (arrOf HF) lo (lo+a) ((lo+a - lo) / 2)) j)
 rw [KK_mirror (by omega),KK_mirror (by omega),if_pos (by omega),if_pos (by omega)]
 exact hs _ _ (by omega) (by omega) (by omega)
theorem k7 {st HF:SortSt}{lo a nr:Nat}{Q:Option Nat→SortSt→Prop}(hO:Lt1 κ prog w A s kd)(R:Rs kd κ lo (lo+nr) st HF)(h2:a+1≤nr)(h3:lo+nr≤(arrOf st).size)(hs:NiI κ (arrOf HF) lo (lo+(a+1)))
  (h:∀ n HH,1≤n→n≤nr→Rs kd κ lo (lo+nr) st HH→SrI κ (arrOf HH) lo (lo+n)→Q (some n) HH):wpS (model prog w) A E s (zF lo a nr) Q HF:=by
 unfold zF
 refine BG (GV (DM ⟨rfl,?_⟩))
 dsimp only
 refine BG (Dz (CO (I:=fun x c HH=>∃ e,c=(none,x,e)∧Rs kd κ lo (lo+nr) st HH∧NiI κ (arrOf HH) lo (lo+x)∧e+1≤x∧∀ i,lo+x - (e+1)≤i→i < lo+x→KK κ (arrOf HH) i=KK κ (arrOf HH) (lo+x - 1))
  (Q:=fun c HH=>∃ x e,c=(none,x,e)∧a+1≤x∧x≤nr∧Rs kd κ lo (lo+nr) st HH∧NiI κ (arrOf HH) lo (lo+x)∧e+1≤x∧∀ i,lo+x - (e+1)≤i→i < lo+x→KK κ (arrOf HH) i=KK κ (arrOf HH) (lo+x - 1)) ?step ?fin ⟨0,rfl,R,hs,by omega,fun i h1 h2=>by congr 1;omega⟩) ?post)
 case fin =>
  rintro c HH ⟨e,rfl,R,hs,he,hk⟩
  have ex:max (a+1) nr=nr:=by omega
  rw [ex] at hs he hk ⊢
  exact ⟨nr,e,rfl,h2,BB _,R,hs,he,hk⟩
 case post =>
  rintro c HH ⟨x,e,rfl,hx1,hx2,R,hs,he,hk⟩
  have hz:=R.rp.size
  dsimp only
  by_cases h0:e > 0
  ·refine aA h0 ?_
   refine BG (wpS_reverse ?_)
   refine jf hO (R.arr (Rp.mirror (by omega) (by omega) (by omega))) (by omega) hx2 h3 (fun i j hi HP hj=>?_) h
   show κ.kle (KK κ (mirror (arrOf HH) _ _ _) j) (KK κ (mirror (arrOf HH) _ _ _) i)
   rw [EI (by omega) hk,EI (by omega) hk]
   exact hs i j hi HP hj
  ·refine aC h0 ?_
   exact jf hO R (by omega) hx2 h3 hs h
 case step =>
  rintro x c HH hx1 hx2 ⟨e,rfl,R,hs,he,hk⟩
  have hz:=R.rp.size
  dsimp only
  refine BG (eD hO R.tb R.gd (by omega) (by omega) ?_)
  cases e1:κ.blt (KK κ (arrOf HH) (lo+x)) (KK κ (arrOf HH) (lo+x - 1)) with
  | true =>
   simp only [DH]
   have nx:∀ xs:Array Keyed,(∀ k,KK κ xs k=KK κ (arrOf HH) k)→NiI κ xs lo (lo+(x+1)):=fun xs ek i j hi HP hj=>by
    rw [ek,ek]
    by_cases q:j < lo+x
    ·exact hs i j hi HP q
    ·have:j=lo+x:=by omega
     subst this
     by_cases q2:i=lo+x
     ·subst q2;exact C5 _
     ·exact D7 (Eh e1) (hs i (lo+x - 1) hi (by omega) (by omega))
   by_cases h0:e > 0
   ·refine aA h0 ?_
    exact BG (wpS_reverse (BN ⟨0,rfl,R.arr (Rp.mirror (by omega) (by omega) (by omega)),nx _ (EI (by omega) hk),by omega,fun i h1 h2=>by congr 1;omega⟩))
   ·refine aC h0 ?_
    exact BN ⟨0,rfl,R,nx _ fun _=>rfl,by omega,fun i h1 h2=>by congr 1;omega⟩
  | false =>
   simp only [BR,CU]
   refine BG (eD hO R.tb R.gd (by omega) (by omega) ?_)
   cases e2:κ.blt (KK κ (arrOf HH) (lo+x - 1)) (KK κ (arrOf HH) (lo+x)) with
   | true =>
    simp only [DH]
    exact BN ⟨x,e,rfl,hx1,by omega,R,hs,he,hk⟩
   | false =>
    simp only [BR,CU]
    have ee:KK κ (arrOf HH) (lo+x)=KK κ (arrOf HH) (lo+x - 1):=KeyOrd.kle_antisymm e2 e1
    refine BN ⟨e+1,rfl,R,fun i j hi HP hj=>?_,by omega,fun i h1 h2=>?_⟩
    ·by_cases q:j < lo+x
     ·exact hs i j hi HP q
     ·have:j=lo+x:=by omega
      subst this
      by_cases q2:i=lo+x
      ·subst q2;exact C5 _
      ·rw [ee];exact hs i (lo+x - 1) hi (by omega) (by omega)
    ·rw [show lo+(x+1) - 1=lo+x by omega]
     by_cases q:i=lo+x
     ·subst q;rfl
     ·rw [ee];exact hk i (by omega) (by omega)
theorem rA {st:SortSt}{lo nr:Nat}{Q:Option Nat→SortSt→Prop}(hO:Lt1 κ prog w A s kd)(hB:TB kd st)(g:∀ x∈(arrOf st).toList,Gd κ x)(h1:1≤nr)(h3:lo+nr≤(arrOf st).size)
  (h:∀ n HF,1≤n→n≤nr→Rs kd κ lo (lo+nr) st HF→SrI κ (arrOf HF) lo (lo+n)→Q (some n) HF):wpS (model prog w) A E s (countRun' lo nr) Q st:=by
 have R:Rs kd κ lo (lo+nr) st st:=.refl hB g
 rw [countRun'_eq]
 change wpS _ _ _ _ (do
  let mut n:=1
  for _ in [1:nr] do
   let some sm ← ltAt' (lo+n) (lo+n - 1) | return none
   if sm then break
   n:=n+1
  if n == nr then return some n
  if n > 1 then
   let some rs ← ltAt' lo (lo+n - 1) | return none
   if rs then return some n
   reverseSlice' lo (lo+n)
  zF lo n nr) _ _
 refine BG (Dz (CO (I:=fun x c HF=>HF=st∧c=(none,x)∧SrI κ (arrOf st) lo (lo+x))
  (Q:=fun c HF=>HF=st∧∃ n,c=(none,n)∧1≤n∧n≤nr∧SrI κ (arrOf st) lo (lo+n)∧(n=nr ∨ κ.klt (KK κ (arrOf st) (lo+n)) (KK κ (arrOf st) (lo+n - 1)))) ?step ?fin ⟨rfl,rfl,fun i j hi HP hj=>by have:i=j:=(by omega);subst this;exact C5 _⟩) ?post)
 case fin =>
  rintro c HF ⟨rfl,rfl,a1⟩
  have e:max 1 nr=nr:=by omega
  rw [e] at a1 ⊢
  exact ⟨rfl,nr,rfl,by omega,BB _,a1,.inl rfl⟩
 case step =>
  rintro x c HF hx1 hx2 ⟨rfl,rfl,a1⟩
  dsimp only
  refine BG (eD hO hB g (by omega) (by omega) ?_)
  cases e:κ.blt (KK κ (arrOf HF) (lo+x)) (KK κ (arrOf HF) (lo+x - 1)) with
  | true =>
   simp only [DH]
   exact BN ⟨rfl,x,rfl,hx1,by omega,a1,.inr e⟩
  | false =>
   simp only [BR,CU]
   exact BN ⟨rfl,rfl,oO a1 (by omega) e⟩
 rintro c HF ⟨rfl,n,rfl,a1,a2,a3,a4⟩
 dsimp only
 by_cases hn:n=nr
 ·refine aA (by simpa using hn) ?_
  exact BN (h n HF a1 a2 R a3)
 ·refine aC (by simpa using hn) ?_
  have lt:κ.klt (KK κ (arrOf HF) (lo+n)) (KK κ (arrOf HF) (lo+n - 1)):=a4.resolve_left hn
  by_cases hg:n > 1
  ·refine aA hg ?_
   refine BG (eD hO hB g (by omega) (by omega) ?_)
   cases e:κ.blt (KK κ (arrOf HF) lo) (KK κ (arrOf HF) (lo+n - 1)) with
   | true =>
    simp only [DH]
    exact BN (h n HF a1 a2 R a3)
   | false =>
    simp only [BR,CU]
    refine BG (wpS_reverse ?_)
    have same:∀ i,lo≤i→i < lo+n→KK κ (arrOf HF) i=KK κ (arrOf HF) (lo+n - 1):=fun i hi1 hi2=>by
     have b1:=a3 i (lo+n - 1) hi1 (by omega) (by omega)
     have b2:=a3 lo i (BB _) hi1 hi2
     exact KeyOrd.kle_antisymm b1 (D7 e b2)
    refine k7 hO (R.arr (Rp.mirror (BB _) (by omega) (by omega))) (by omega) h3 (fun i j hi HP hj=>?_) h
    show κ.kle (KK κ (mirror (arrOf HF) _ _ _) j) (KK κ (mirror (arrOf HF) _ _ _) i)
    rw [EI (by omega) same,EI (by omega) same]
    by_cases q:j < lo+n
    ·rw [same i hi (by omega),same j (by omega) q]
     exact C5 _
    ·have:j=lo+n:=by omega
     subst this
     by_cases q2:i=lo+n
     ·subst q2;exact C5 _
     ·rw [same i hi (by omega)]
      exact Eh lt
  ·refine aC hg ?_
   have:n=1:=by omega
   subst this
   refine k7 hO R (by omega) h3 (fun i j hi HP hj=>?_) h
   by_cases q2:i=j
   ·subst q2;exact C5 _
   ·have e1:i=lo:=by omega
    have e2:j=lo+1:=by omega
    subst e1 e2
    exact Eh lt
end
end Tv
namespace Tv
open PySem PyProof.Rows
variable {κ:KeyKind} {kd:SortKind}
section
variable {prog:Program} {w:World} {A:Around} {E:Value→Shared→Prop} {s:Shared}
theorem rB {st:SortSt}{lo n ok:Nat}{Q:Bool→SortSt→Prop}(hO:Lt1 κ prog w A s kd)(hB:TB kd st)(g:∀ x∈(arrOf st).toList,Gd κ x)(hn:lo+n≤(arrOf st).size)(hok:ok≤n)(hs:SrI κ (arrOf st) lo (lo+ok))
  (h:∀ HF,Rs kd κ lo (lo+n) st HF→SrI κ (arrOf HF) lo (lo+n)→Q true HF):wpS (model prog w) A E s (binarySort' lo n ok) Q st:=by
 rw [binarySort'_eq]
 refine BG (Dz (CO (I:=fun y c HF=>c=(none,())∧Rs kd κ lo (lo+n) st HF∧SrI κ (arrOf HF) lo (lo+min y n))
  (Q:=fun c HF=>c=(none,())∧Rs kd κ lo (lo+n) st HF∧SrI κ (arrOf HF) lo (lo+n)) ?step ?fin ?init) ?post)
 case post =>
  rintro c HF ⟨rfl,R,hs'⟩
  exact BN (h HF R hs')
 case init =>
  refine ⟨rfl,.refl hB g,fun i j hi HP hj=>?_⟩
  by_cases e:i=j
  ·subst e;exact C5 _
  ·exact hs i j hi HP (by omega)
 case fin =>
  rintro c HF ⟨hc,R,hs'⟩
  rw [show min (max (max ok 1) n) n=n by omega] at hs'
  exact ⟨hc,R,hs'⟩
 case step =>
  rintro y c HF hy1 hy2 ⟨rfl,R,hs'⟩
  have hz:=R.rp.size
  rw [show min y n=y by omega] at hs'
  refine BG (Dz (CO (I:=fun x c HH=>HH=HF∧∃ l r,c=(none,l,r)∧l≤r∧r≤y∧r - l≤y - x ∧
    (∀ i,lo≤i→i < lo+l→κ.kle (KK κ (arrOf HF) i) (KK κ (arrOf HF) (lo+y)))∧(∀ i,lo+r≤i→i < lo+y→κ.klt (KK κ (arrOf HF) (lo+y)) (KK κ (arrOf HF) i)))
   (Q:=fun c HH=>HH=HF∧∃ l r,c=(none,l,r)∧l≤y ∧
    (∀ i,lo≤i→i < lo+l→κ.kle (KK κ (arrOf HF) i) (KK κ (arrOf HF) (lo+y)))∧(∀ i,lo+l≤i→i < lo+y→κ.klt (KK κ (arrOf HF) (lo+y)) (KK κ (arrOf HF) i))) ?istep ?ifin ?iinit) ?ipost)
  case iinit=>exact ⟨rfl,0,y,rfl,by omega,by omega,by omega,fun i h1 h2=>by omega,fun i h1 h2=>by omega⟩
  case ifin =>
   rintro c HH ⟨rfl,l,r,rfl,q1,q2,q3,q4,q5⟩
   have:l=r:=by omega
   subst this
   exact ⟨rfl,l,l,rfl,q2,q4,q5⟩
  case istep =>
   rintro x c HH _ hx ⟨rfl,l,r,rfl,q1,q2,q3,q4,q5⟩
   dsimp only
   by_cases hge:l≥r
   ·refine aA hge ?_
    have:l=r:=by omega
    subst this
    exact BN ⟨rfl,l,l,rfl,q2,q4,q5⟩
   ·refine aC hge ?_
    refine BG (eD hO R.tb R.gd (by omega) (by omega) ?_)
    cases e:κ.blt (KK κ (arrOf HH) (lo+y)) (KK κ (arrOf HH) (lo+(l+r) / 2)) with
    | true =>
     simp only [DH]
     refine BN ⟨rfl,l,(l+r) / 2,rfl,by omega,by omega,by omega,q4,fun i h1 h2=>?_⟩
     exact KeyOrd.klt_of_klt_of_kle e (hs' _ _ (by omega) h1 h2)
    | false =>
     simp only [BR,CU]
     refine BN ⟨rfl,(l+r) / 2+1,r,rfl,by omega,by omega,by omega,fun i h1 h2=>?_,q5⟩
     exact D7 (hs' i (lo+(l+r) / 2) h1 (by omega) (by omega)) (show κ.kle _ _ from e)
  case ipost =>
   rintro c HH ⟨rfl,l,r,rfl,hl,q4,q5⟩
   show wpS _ _ _ _ (do moveDown' (lo+y) (lo+l);pure (ForInStep.yield (none,()))) _ _
   rw [moveDown'_eq]
   have hk:lo+y < (arrOf HH).size:=by omega
   refine BG (Ew (BN ⟨rfl,R.arr (Rp.bubble (by omega) (by omega) hk),?_⟩))
   rw [show min (y+1) n=y+1 by omega]
   intro i j hi HP hj
   show κ.kle (KK κ (bubble (arrOf HH) (lo+y) (lo+y - (lo+l))) i) (KK κ (bubble (arrOf HH) (lo+y) (lo+y - (lo+l))) j)
   rw [KK_bubble hk (by omega),KK_bubble hk (by omega),show lo+y - (lo+y - (lo+l))=lo+l by omega]
   repeat' split
   all_goals first
    | (exfalso;omega)
    | exact C5 _
    | exact q4 _ (by omega) (by omega)
    | exact Eh (q5 _ (by omega) (by omega))
    | exact hs' _ _ (by omega) (by omega) (by omega)
end
theorem oP:∀ (r:List Keyed) (z b:Nat) (arr:Array Keyed) (X Y Z:List Keyed),arr.toList=X++(Y++Z)→X.length=z+b→Y.length=r.length →
  ((r.zipIdx b).foldl (fun a (p,j)=>a.setIfInBounds (z+j) p) arr).toList=X++(r++Z)
 | [],z,b,arr,X,Y,Z,e,h1,h2=>by
  rw [EJ.mp h2] at e
  exact e
 | p::r,z,b,arr,X,Y,Z,e,h1,h2=>by
  cases Y with
  | nil=>simp at h2
  | cons y Y =>
   rw [Gz,List.foldl_cons]
   have:=oP r z (b+1) (arr.setIfInBounds (z+b) p) (X++[p]) Y Z (by
    rw [Fw,e,← h1,List.set_append_right _ _ (BB _),GL]
    simp) (by simp [h1];omega) (by simpa using h2)
   rw [this]
   simp
def mAt (i:Nat):StateT SortSt Sem Bool:=do
 let u ← get
 let (some (za,la,pw),some (zb,lb,_)):=((pendingOf u)[i]?,(pendingOf u)[i+1]?) | unsupported "internal:list.sort.pending"
 set (setPending u (((pendingOf u).setIfInBounds i (za,la+lb,pw)).eraseIdxIfInBounds (i+1)))
 let some c ← gal false (← elem' (arrOf u) zb) (arrOf u) za la 0 | return false
 let (za,la):=(za+c,la - c)
 if la == 0 then return true
 let some lb ← gal true (← elem' (arrOf u) (za+la - 1)) (arrOf u) zb lb (lb - 1) | return false
 if lb == 0 then return true
 let x:=(arrOf u).extract za zb
 let y:=(arrOf u).extract zb (zb+lb)
 let out ← if la≤lb then mlo x y else mhi x y
 modify fun v=>setArr v (out.toList.zipIdx.foldl (fun a (p,j)=>a.setIfInBounds (za+j) p) (arrOf v))
 return (failedOf (← get)).isNone
theorem xu (i:Nat):mergeAt' i=mAt i:=rfl
end Tv
namespace Tv
open PySem PyProof.Rows
variable {κ:KeyKind} {kd:SortKind}
section
variable {prog:Program} {w:World} {A:Around} {E:Value→Shared→Prop} {s:Shared}
end
end Tv
namespace HT
open PySem PySem.Spec PyProof.Rows
section
variable {prog:Program} {w:World} {A:Around} {E:Value→Shared→Prop} {s:Shared}
theorem oQ {t sl:Addr}{HE:Array Value}{vl vu:Value}{lo hi:Option Int}{Q:Value→Shared→Prop}(ht:IsTup s.heap t HE)(hs:s.heap.IsSliceOf sl vl vu .none)(pl:IsPart vl lo)(pu:IsPart vu hi)
  (hw:sIx HE.size 0 lo=0∧sIx HE.size HE.size hi=HE.size) (h:Q (.ref t) s):wpAny (model prog w) A (getItem (.ref t) (.ref sl)) Q E s:=by
 obtain ⟨os,hos,hcs,hds⟩:=id hs
 have hTs:s.TypeIs (.ref sl) "slice":=⟨os,hos,hcs⟩
 unfold getItem
 try with_reducible refine Cw ?_
 first | refine Bp (Br ?_) | skip
 refine Bp (wpAny_sequenceKey ht.typeIs (by decide) ?_)
 refine Bp (Da (name:=Str.ofString "__getitem__") ht.typeIs Dk (CI Dk ht.typeIs entry_tuple_getitem ?_ (args_tuple_getitem _ _)))
 show wpAny _ _ (Builtin.Tuple.tupleItemsOf (.ref t) >>= _) _ _ s
 refine Bp (tupleItemsOf_ ht (Bp (FB hTs ?_)))
 rw [if_pos (by decide)]
 refine Bp (cN hs pl pu ?_)
 show wpAny _ _ (if (((sIx HE.size 0 lo:Nat):Int) == 0 && (1:Int) == 1 && (sIx HE.size HE.size hi - sIx HE.size 0 lo) == HE.size)=true then _ else _) _ _ s
 rw [if_pos (by rw [hw.1,hw.2];simp)]
 refine Bp ?_
 unfold Builtin.Tuple.tupleIsExact
 refine Bp (FB ht.typeIs (Br ?_))
 rw [if_pos (by decide)]
 refine Bp (DM ?_)
 first
  | exact Br ⟨_,rfl,Br h⟩
  | exact Bp (Br (Br ⟨_,rfl,Br h⟩))
end
end HT
namespace L2
open PySem PySem.Spec PyProof.Rows Wd
inductive xv (K:PySem.W.Frag)(x:V)(lo:Option Int)(hi:Option Int)(H:Hp)(Q:VK):Prop
 | mk:∀ a xs,(x = .ref a)→(SqT K H a xs)→((eZ xs lo hi=xs→Q (.ref a) H))→(∀ p,H p=none→Q (.ref p) (upd H p (.tup (eZ xs lo hi))))→xv K x lo hi H Q
theorem uV {X:Cx}:SlR X (xv X.K):=by
 intro Hz s σ H x v vl vu lo hi sl Q I rx hs pl pu h
 obtain ⟨a,xs,rfl,hx,hw,q⟩:=h
 by_cases hh:HT.sIx xs.length 0 lo=0∧HT.sIx xs.length xs.length hi=xs.length
 ·cases rx
  obtain ⟨HE,r,ht,hz⟩:=I.tuple hx
  have hlen:HE.toArray.size=xs.length:=by rw [BM];exact r.length.symm
  have e:eZ xs lo hi=xs:=by unfold eZ;rw [hh.1,hh.2,El,G5,C7]
  exact ⟨"tuple",_,Dk.lookup,ht.typeIs,HT.oQ ht hs pl pu (by rw [hlen];exact hh) ⟨.ref a,H,I,rfl,hw e⟩⟩
 ·exact wR Hz s σ H (.ref a) v vl vu lo hi sl Q I rx hs pl pu ⟨a,xs,rfl,hx,hh,q⟩
end L2
namespace PySem
open Sem (wp)
section
variable {prog:Program} {w:World} {A:Around} {E:Value→Shared→Prop} {s:Shared}
def ddp (val:Nat→Str):Nat→List Str
 | 0=>[]
 | i+1=>if val i∈ddp val i then ddp val i else ddp val i++[val i]
theorem oR (val:Nat→Str):∀ i,(ddp val i).length≤i
 | 0=>BB _
 | i+1=>by
  have ih:=oR val i
  unfold ddp
  split
  ·omega
  ·rw [Bq,D9];omega
section
variable {R:Result→Shared→Prop} {I:Addr} {fp wr:List Addr} {G:Array GenState→Array GenState→Prop} {n:Nat} {P:Nat→Value→Prop} {St:Nat→Shared→Prop}
end
abbrev sob (led:Bool):Obj:={ cls:=.type "set",dict:=none,data:=.set #[] 0 (.fresh 0 0 led) }
end
def rD (xs:Array Nat):Prop:=∀ (i j a b:Nat),i < j→xs[i]? = some a→xs[j]? = some b→a < b
theorem ig {xs:Array Nat}{j:Nat}(hr:rD xs):∀ (f lo hi:Nat),hi - lo≤f→lo≤hi→hi≤xs.size→(∀ i a,i < lo→xs[i]? = some a→a < j)→(∀ i a,hi≤i→xs[i]? = some a→j≤a) →
  SetTable.below.go xs j f lo hi≤xs.size∧(∀ i a,i < SetTable.below.go xs j f lo hi→xs[i]? = some a→a < j)∧∀ i a,SetTable.below.go xs j f lo hi≤i→xs[i]? = some a→j≤a
 | 0,lo,hi,h,h1,h2,l,u=>by
  have e:lo=hi:=by omega
  unfold SetTable.below.go
  exact ⟨by omega,l,by rw [e];exact u⟩
 | f+1,lo,hi,h,h1,h2,l,u=>by
  unfold SetTable.below.go
  by_cases HK:lo < hi
  ·rw [if_pos HK]
   have hm:(lo+hi) / 2 < xs.size:=by omega
   have em:xs[(lo+hi) / 2]? = some xs[(lo+hi) / 2]:=GK xs _ hm
   have eg:xs.getD ((lo+hi) / 2) j=xs[(lo+hi) / 2]:=by simp [Array.getD,hm]
   dsimp only
   rw [eg]
   split
   ·rename_i hx
    refine ig hr f _ _ (by omega) (by omega) h2 (fun i a hi' e=>?_) u
    by_cases q:i=(lo+hi) / 2
    ·subst q;rw [em] at e;cases e;exact hx
    ·exact G4 (hr i _ _ _ (by omega) e em) hx
   ·rename_i hx
    refine ig hr f _ _ (by omega) (by omega) (by omega) l (fun i a hi' e=>?_)
    by_cases q:i=(lo+hi) / 2
    ·subst q;rw [em] at e;cases e;omega
    ·have:=hr _ i _ _ (show (lo+hi) / 2 < i by omega) em e
     omega
  ·rw [if_neg HK]
   have e:lo=hi:=by omega
   exact ⟨by omega,l,by rw [e];exact u⟩
theorem rE {xs:Array Nat}(hr:rD xs)(j:Nat):SetTable.below xs j≤xs.size∧(∀ i a,i < SetTable.below xs j→xs[i]? = some a→a < j)∧∀ i a,SetTable.below xs j≤i→xs[i]? = some a→j≤a :=
 ig hr xs.size 0 xs.size (by omega) (Cc _) (BB _) (fun i a h=>absurd h (Nat.not_lt_zero _)) fun i a h e=>by
  have:=(DJ.mp e).1
  omega
theorem rD.put {xs:Array Nat}(hr:rD xs){j:Nat}(hn:xs[SetTable.below xs j]? ≠ some j):rD (SetTable.insertAt xs (SetTable.below xs j) j):=by
 obtain ⟨h1,h2,h3⟩:=rE hr j
 have hl:(SetTable.insertAt xs (SetTable.below xs j) j).toList=xs.toList.take (SetTable.below xs j)++j::xs.toList.drop (SetTable.below xs j):=by
  unfold SetTable.insertAt
  simp [C3,B6]
 have at_:∀ k,(SetTable.insertAt xs (SetTable.below xs j) j)[k]? = if k < SetTable.below xs j then xs[k]? else if k=SetTable.below xs j then some j else xs[k - 1]?:=fun k=>by
  rw [← Cj,hl]
  have z:(xs.toList.take (SetTable.below xs j)).length=SetTable.below xs j:=by rw [BL,Bx];omega
  by_cases q1:k < SetTable.below xs j
  ·rw [if_pos q1,B9 (by omega),EH,if_pos q1,Cj]
  ·rw [if_neg q1,BY (by omega),z]
   by_cases q2:k=SetTable.below xs j
   ·rw [if_pos q2,q2,GL]
    rfl
   ·rw [if_neg q2]
    obtain ⟨m,hm⟩:∃ m,k - SetTable.below xs j=m+1:=⟨k - SetTable.below xs j - 1,by omega⟩
    rw [hm,List.getElem?_cons_succ,Cs,Cj]
    congr 1
    omega
 intro i k a b hik ea eb
 rw [at_] at ea eb
 have ne:∀ m c,SetTable.below xs j≤m→xs[m]? = some c→j < c:=fun m c hm e=>by
  have l:=h3 m c hm e
  by_cases q:m=SetTable.below xs j
  ·subst q
   have:c≠j:=fun z=>hn (by rw [e,z])
   omega
  ·have hb:SetTable.below xs j < xs.size:=by have:=(DJ.mp e).1;omega
   have e0:xs[SetTable.below xs j]? = some xs[SetTable.below xs j]:=GK xs _ hb
   have:=h3 _ _ (BB _) e0
   have:=hr _ m _ _ (by omega) e0 e
   omega
 split at ea
 ·rename_i c1
  split at eb
  ·exact hr i k a b hik ea eb
  ·split at eb
   ·cases eb;exact h2 i a c1 ea
   ·have:=h2 i a c1 ea
    have:=ne (k - 1) b (by omega) eb
    omega
 ·split at ea
  ·cases ea
   rw [if_neg (by omega),if_neg (by omega)] at eb
   exact ne (k - 1) b (by omega) eb
  ·rw [if_neg (by omega),if_neg (by omega)] at eb
   exact hr (i - 1) (k - 1) a b (by omega) ea eb
theorem my (n:Nat):rD (Array.range n):=fun i j a b h ea eb=>by
 rw [Array.getElem?_range] at ea eb
 split at ea <;> split at eb <;> simp_all
theorem rF:rD #[]:=fun i j a b h ea=>by simp at ea
theorem gx {t:SetTable}(hd:t.dummies=#[])(g:Nat→Int)(h:Int):∀ (f:Nat) (p:SetTable.Probe) (j:Nat) (d:Option Nat),p.dummy=none→SetTable.probe.go t g h f p=some (.empty j d)→d=none∧t.slot j = .empty
 | 0,p,j,d,_,e=>by unfold SetTable.probe.go at e;cases e
 | f+1,p,j,d,hp,e=>by
  unfold SetTable.probe.go at e
  have hh:∀ x,SetTable.has t.dummies x=false:=fun x=>by rw [hd];unfold SetTable.has;simp
  have hs:∀ x,t.slot x ≠ .dummy:=fun x=>by
   unfold SetTable.slot
   dsimp only
   rw [hh]
   simp only [BR,CU]
   split
   ·exact fun z=>by cases z
   ·exact fun z=>by cases z
  cases hq:t.slot p.j with
  | empty =>
   rw [hq] at e
   cases e
   exact ⟨hp,hq⟩
  | dummy=>exact absurd hq (hs _)
  | live i =>
   rw [hq] at e
   have ad:(t.advance p).dummy=none:=by
    unfold SetTable.advance
    split
    ·exact hp
    ·exact hp
   dsimp only at e
   split at e
   ·cases e
   ·exact gx hd g h f _ j d ad e
theorem rG {t:SetTable}(hd:t.dummies=#[]){h:Int}{j:Nat}{b:Bool}(e:t.freeSlot h=some (j,b)):t.place[SetTable.below t.place j]? ≠ some j:=by
 unfold SetTable.freeSlot SetTable.probe at e
 split at e
 ·rename_i k d hq
  obtain ⟨rfl,hs⟩:=gx hd _ _ _ _ k d rfl hq
  cases e
  intro z
  unfold SetTable.slot at hs
  simp only [Gr] at z
  dsimp only at hs
  rw [z] at hs
  simp at hs
 ·cases e
abbrev ldr (w:World):Bool:=!w.params.followText "set-order"
theorem mz {t:SetTable}{es:Array (Int × Value)}{h:Int}{x:Value}:(layNew t es h x).2.1.led=t.led:=by
 unfold layNew
 split
 ·dsimp only
  unfold SetTable.orStandIn
  split
  ·rfl
  ·rfl
 ·rfl
theorem mB {t t':SetTable}{hs:Array Int}{w:Nat}{order:Array Nat}(h:t.relaid hs w=some (t',order)):t'.led=t.led:=by
 unfold SetTable.relaid SetTable.laid at h
 cases hq:SetTable.layClean (SetTable.sizeAbove w - 1) hs with
 | none=>rw [hq] at h;cases h
 | some o=>rw [hq] at h;cases h;rfl
theorem jg {t:SetTable}{es:Array (Int × Value)}{w:Nat}:(relayAll t es w).2.1.led=t.led:=by
 unfold relayAll
 split
 ·rename_i t' order he
  dsimp only
  split
  ·exact mB he
  ·rfl
 ·rfl
def Tk (t:SetTable):Prop:=t.dummies=#[]∧rD t.place
theorem c6 {t:SetTable}{n:Nat}:Tk (t.standIn n):=⟨rfl,my n⟩
theorem oS {t:SetTable}{es:Array (Int × Value)}{h:Int}{x:Value}(k:Tk t):Tk (layNew t es h x).2.1:=by
 unfold layNew
 split
 ·rename_i j d hq
  dsimp only
  unfold SetTable.orStandIn
  split
  ·refine ⟨?_,k.2.put (rG k.1 hq)⟩
   have:SetTable.has t.dummies j=false:=by rw [k.1];unfold SetTable.has;simp
   show (if SetTable.has t.dummies j=true then _ else t.dummies)=#[]
   rw [this]
   simpa using k.1
  ·exact c6
 ·exact c6
theorem oT (n:Nat)(f:Nat→Option Nat):rD ((((List.range n).filterMap fun j=>(f j).map (j,·)).map (·.1)).toArray):=by
 have key:((((List.range n).filterMap fun j=>(f j).map (j,·)).map (·.1))).Pairwise (· < ·):=by
  rw [List.pairwise_map]
  refine List.Pairwise.filterMap _ (fun a a' HK b hb b' hb'=>?_) EM
  cases h1:f a with
  | none=>rw [h1] at hb;simp at hb
  | some x =>
   rw [h1] at hb
   cases h2:f a' with
   | none=>rw [h2] at hb';simp at hb'
   | some x' =>
    rw [h2] at hb'
    simp at hb hb'
    rw [← hb,← hb']
    exact HK
 intro i j a b HP ea eb
 rw [List.getElem?_toArray] at ea eb
 obtain ⟨h1,e1⟩:=Bv.mp ea
 obtain ⟨h2,e2⟩:=Bv.mp eb
 rw [← e1,← e2]
 exact C6.mp key i j h1 h2 HP
theorem jU {t:SetTable}{es:Array (Int × Value)}{w:Nat}:Tk (relayAll t es w).2.1:=by
 unfold relayAll
 split
 ·rename_i t' order he
  dsimp only
  split
  ·unfold SetTable.relaid SetTable.laid at he
   cases hq:SetTable.layClean (SetTable.sizeAbove w - 1) (es.map (·.1)) with
   | none=>rw [hq] at he;cases he
   | some o=>rw [hq] at he;cases he;exact ⟨rfl,oT _ _⟩
  ·exact c6
 ·exact c6
section
variable {K:Type} [DecidableEq K] {prog:Program} {w:World} {knd:KeyKind prog w K} {A:Around} {E:Value→Shared→Prop} {s:Shared}
def mD {K:Type}[DecidableEq K]{prog:Program}{w:World}(knd:KeyKind prog w K)(h:Heap)(a:Addr)(dl:List K):Prop :=
 ∃ o es ep t,h.get? a=some o∧o.ExactSet∧o.data = .set es ep t∧ElemsOf knd es.toList∧(∀ k,k∈dl ↔ ∃ e∈es.toList,knd.is k e.2=true)∧es.size < scanBound∧t.fits es.size=true∧es.size=dl.length∧Tk t∧t.led=ldr w
theorem xw {a:Addr}{o:Obj}{es HR:Array (Int × Value)}{ep:Nat}{t t2:SetTable}{dl:List K}(ho:s.heap.get? a=some o)(hex:o.ExactSet)(hd:o.data = .set es ep t)(hel:ElemsOf knd HR.toList)
  (hm:∀ k,k∈dl ↔ ∃ e∈HR.toList,knd.is k e.2=true) (hb:HR.size < scanBound) (hf:t2.fits HR.size=true) (hn:HR.size=dl.length) (hp:Tk t2) (hld:t2.led=ldr w) :
  (s.heap.update a (Obj.putSet HR t2)).get? a=some { o with data:=.set HR (ep+1) t2 }∧mD knd (s.heap.update a (Obj.putSet HR t2)) a dl:=by
 have hg:(s.heap.update a (Obj.putSet HR t2)).get? a=some { o with data:=.set HR (ep+1) t2 }:=by
  have q:=DO (Obj.putSet HR t2) ho (by rw [putSet_of HR t2 hd];rfl)
  rwa [putSet_of HR t2 hd] at q
 exact ⟨hg,_,HR,ep+1,t2,hg,hex,rfl,hel,hm,hb,hf,hn,hp,hld⟩
theorem zG {a:Addr}{dl:List K}{z:K}{v:Value}{Q:Bool→Shared→Prop}(hkey:knd.is z v=true)(hsc:v.scannable=true)(hS:mD knd s.heap a dl)(hroom:dl.length+1 < scanBound)
  (h:∀ h' b,Heap.SameBut a s.heap h'→mD knd h' a (if z∈dl then dl else dl++[z])→Q b { s with heap:=h' }) :
  wpAny (model prog w) A (setAddHashed a v (knd.hash z)) Q E s:=by
 obtain ⟨o,es,ep,t,ho,hex,hd,hel,hm,hb,hf,hn,hpl,hld⟩:=hS
 unfold setAddHashed setAddHashedIn
 refine Cw (Bp (wpAny_setState_of ho hd hf ?_))
 dsimp only
 rw [byScan_of (knd:=knd) hsc hb hel]
 simp only [↓reduceIte]
 unfold setAddByScan
 refine Bp (Bp (DM (Bp (wpAny_setScan_of (knd:=knd) hkey ho hd hf hel ?_))))
 cases hr:List.findIdx? (fun e=>knd.is z e.2) es.toList with
 | some j =>
  dsimp only
  obtain ⟨hj,hpj,_⟩:=List.findIdx?_eq_some_iff_getElem.mp hr
  have hz:z∈dl:=(hm z).mpr ⟨es.toList[j],Ck hj,hpj⟩
  refine Br (Br ?_)
  have q:=h s.heap false (Heap.SameBut.refl a s.heap) (by rw [if_pos hz];exact ⟨o,es,ep,t,ho,hex,hd,hel,hm,hb,hf,hn,hpl,hld⟩)
  have e:s={ s with heap:=s.heap }:=by cases s;rfl
  rw [e];exact q
 | none =>
  dsimp only
  have hz:z∉dl:=fun hz=>by
   obtain ⟨e,he,hp⟩:=(hm z).mp hz
   have q:=List.findIdx?_eq_none_iff.mp hr e he
   rw [hp] at q
   cases q
  have hq:∀ h',Heap.SameBut a s.heap h'→mD knd h' a (dl++[z])→Q true { s with heap:=h' }:=fun h' sb hs=>h h' true sb (by rw [if_neg hz];exact hs)
  have Ir:=layNew_perm t es (knd.hash z) v
  have hfits:=layNew_fits t es (knd.hash z) v
  have hoff:=oS (es:=es) (h:=knd.hash z) (x:=v) hpl
  have hl1:(layNew t es (knd.hash z) v).2.1.led=ldr w:=mz.trans hld
  generalize hL:layNew t es (knd.hash z) v=L at Ir hfits hoff hl1 ⊢
  obtain ⟨HR,t1,wasDummy,gave⟩:=L
  dsimp only at Ir hfits hoff hl1 ⊢
  rw [DW] at Ir
  have hel1:ElemsOf knd HR.toList:=(hel.push hkey hsc).perm Ir
  have hm1:∀ k,k∈dl++[z] ↔ ∃ e∈HR.toList,knd.is k e.2=true:=fun k=>by
   rw [← mem_push_iff (knd:=knd) (S:=fun k=>decide (k∈dl)) hkey (fun k=>by rw [BE];exact hm k) Ir k]
   simp
  have hsz1:HR.size=(dl++[z]).length:=by rw [← Bx,Ir.length_eq,Bq,Bx,hn,Bq];rfl
  have hb1:HR.size < scanBound:=by rw [hsz1,Bq];exact hroom
  have tail:∀ t2:SetTable,Tk t2→t2.led=ldr w→t2.fits HR.size=true→wpAny (model prog w) A (do
    storeSet a HR t2
    if (!wasDummy && t2.tooFull)=true then do
      (match (relayAll t2 HR (SetTable.grown HR.size)).2.2 with | true=>rule "set.scan.the-table-gave-way" | false=>pure ())
      storeSet a (relayAll t2 HR (SetTable.grown HR.size)).1 (relayAll t2 HR (SetTable.grown HR.size)).2.1
      pure (some true)
     else pure (some true)) (fun r s'=>wpAny (model prog w) A (match r with | some added=>pure added | none=>setAddHashedIn a v (knd.hash z) 99999) Q E s') E s:=fun t2 hp2 hd2 hf2=>by
   refine Bp (wpAny_storeSet_of ho hd ?_ (fits_of_scanBound hb1))
   obtain ⟨ho1,hS1⟩:=xw ho hex hd hel1 hm1 hb1 hf2 hsz1 hp2 hd2
   have hsb1:=D2 s.heap a (Obj.putSet HR t2)
   split
   ·have hp:=relayAll_perm t2 HR (SetTable.grown HR.size)
    have hfr:=relayAll_fits t2 HR (SetTable.grown HR.size)
    have hof:=jU (t:=t2) (es:=HR) (w:=SetTable.grown HR.size)
    have hof2:=(jg (t:=t2) (es:=HR) (w:=SetTable.grown HR.size)).trans hd2
    generalize relayAll t2 HR (SetTable.grown HR.size)=Rl at hp hfr hof hof2 ⊢
    obtain ⟨es2,t3,gave2⟩:=Rl
    dsimp only at hp hfr hof hof2 ⊢
    have hsz:es2.size=HR.size:=by rw [← Bx,hp.length_eq,Bx]
    have go:wpAny (model prog w) A (storeSet a es2 t3 >>= fun _=>pure (some true)) (fun r s'=>wpAny (model prog w) A (match r with | some added=>pure added | none=>setAddHashedIn a v (knd.hash z) 99999) Q E s') E { s with heap:=s.heap.update a (Obj.putSet HR t2) }:=by
     refine Bp (wpAny_storeSet_of ho1 rfl ?_ (fits_of_scanBound (by rw [hsz];exact hb1)))
     obtain ⟨_,hS2⟩:=xw (s:={ s with heap:=s.heap.update a (Obj.putSet HR t2) }) ho1 hex rfl (hel1.perm hp) (fun k=>(hm1 k).trans ⟨fun zq2=>(by obtain ⟨e,he,q⟩:=zq2;exact ⟨e,hp.mem_iff.mpr he,q⟩),fun zq1=>(by obtain ⟨e,he,q⟩:=zq1;exact ⟨e,hp.mem_iff.mp he,q⟩)⟩) (by rw [hsz];exact hb1) hfr (hsz.trans hsz1) hof hof2
     exact Br (Br (hq _ (hsb1.trans (D2 _ a _)) hS2))
    cases gave2
    ·exact Bp (Br go)
    ·exact Bp (DM go)
   ·exact Br (Br (hq _ hsb1 hS1))
  have rest:wpAny (model prog w) A (do
    let byValue ← if t1.plain=true then hashByValue 8 v else pure true
    storeSet a HR (if byValue=true then t1 else { t1 with plain:=false })
    if (!wasDummy && (if byValue=true then t1 else { t1 with plain:=false }:SetTable).tooFull)=true then do
      (match (relayAll (if byValue=true then t1 else { t1 with plain:=false }) HR (SetTable.grown HR.size)).2.2 with | true=>rule "set.scan.the-table-gave-way" | false=>pure ())
      storeSet a (relayAll (if byValue=true then t1 else { t1 with plain:=false }) HR (SetTable.grown HR.size)).1 (relayAll (if byValue=true then t1 else { t1 with plain:=false }) HR (SetTable.grown HR.size)).2.1
      pure (some true)
     else pure (some true)) (fun r s'=>wpAny (model prog w) A (match r with | some added=>pure added | none=>setAddHashedIn a v (knd.hash z) 99999) Q E s') E s:=by
   by_cases hp1:t1.plain=true
   ·rw [if_pos hp1]
    refine Bp ?_
    rw [hashByValue_scannable 8 hsc]
    refine Br ?_
    cases plainKind v
    ·exact tail { t1 with plain:=false } hoff hl1 (SetTable.fits_plain_off hfits)
    ·exact tail t1 hoff hl1 hfits
   ·rw [if_neg hp1]
    refine Bp (Br ?_)
    exact tail t1 hoff hl1 hfits
  cases gave
  ·exact Bp (Br rest)
  ·exact Bp (DM rest)
theorem mD.at {h h':Heap}{a:Addr}{dl:List K}(hS:mD knd h a dl)(k:∀ o,h.get? a=some o→h'.get? a=some o):mD knd h' a dl:=by
 obtain ⟨o,es,ep,t,ho,r⟩:=hS
 exact ⟨o,es,ep,t,k o ho,r⟩
section
variable {R:Result→Shared→Prop} {I:Addr} {fp wr:List Addr} {G:Array GenState→Array GenState→Prop} {n:Nat} {P:Nat→Value→Prop} {St:Nat→Shared→Prop}
theorem zH (dd:Nat→List K)(W:WalksS prog w A.in1 I fp wr G n P St)(S:Addr)(hSf:S∉fp)(val:Nat→K)(d1:∀ i,val i∈dd i→dd (i+1)=dd i)(d2:∀ i,val i∉dd i→dd (i+1)=dd i++[val i])(hl:∀ i,(dd i).length≤i)(hval:∀ i v,P i v→knd.is (val i) v=true∧v.scannable=true)(hb:n+1 < scanBound) :
  ∀ (k i:Nat) (s:Shared),n - i=k→i≤n→St i s→mD knd s.heap S (dd i)→(∀ s',Moved (S::wr) G s s'→mD knd s'.heap S (dd n)→R (.ok (.ret .none)) s') →
   codeAny (model prog w) A (.builtin "set.update.loop" ⟨[.ref S,.ref I],[]⟩) R s:=by
 have nw:S∉wr:=fun q=>hSf (W.sub _ q)
 have sub:∀ b∈wr,b∈S::wr:=fun b q=>Bw _ q
 intro k
 induction k with
 | zero =>
  intro i s hk hi st hS hR
  obtain rfl:i=n:=by omega
  refine Ec Em ?_
  rw [Fg DA _]
  show wpAny _ A.in1 (pyNext (.ref I) >>= _) _ _ s
  refine Bp (W.done s _ _ st fun s' mv=>?_)
  show wpAny _ A.in1 (ret Value.none) _ _ s'
  exact Br (hR s' (mv.mono sub) (hS.at fun o q=>mv.heap S o nw q))
 | succ k ih =>
  intro i s hk hi st hS hR
  have HK:i < n:=by omega
  refine Ec Em ?_
  rw [Fg DA _]
  show wpAny _ A.in1 (pyNext (.ref I) >>= _) _ _ s
  refine Bp (W.item i s _ _ HK st fun v s' hP HF mv=>?_)
  obtain ⟨hk,hsc⟩:=hval i v hP
  have hS':mD knd s'.heap S (dd i):=hS.at fun o q=>mv.heap S o nw q
  show wpAny _ A.in1 (holding [v] (setAdd S v) >>= _) _ _ s'
  refine Bp (Cw ?_)
  unfold setAdd
  refine Cw (Bp (knd.pyHash (k:=val i) hk ?_))
  have hl:=hl i
  refine zG (s:={ s' with toks:=s'.toks+1 }) hk hsc hS' (by omega) fun h' b sb hS2=>?_
  refine Br ⟨plainId_quiet DA _,ih (i+1) _ (by omega) HK (W.frame _ s' _ _ HF (ET _) fun c hc o q=>?_) (by split at hS2;(rw [d1 i ‹_›];exact hS2);(rw [d2 i ‹_›];exact hS2)) fun s'' mv2 hS3=>?_⟩
  ·rw [sb.2 c (fun e:c=S=>hSf (e ▸ hc))];exact q
  ·refine hR s'' (Moved.trans W.gtrans ((mv.mono sub).then_heap (ET _) fun c o hc q=>?_) mv2) hS3
   rw [sb.2 c (fun e:c=S=>hc (e ▸ BC))];exact q
end
theorem ik (a:Value){Q₁:Value→Shared→Prop}(q:Q₁ (.ref s.heap.objs.size) { s with heap:=s.heap.push (sob (ldr w)) }) :
  codeAny (model prog w) A (.call (.builtin "set.__new__") ⟨[.type "set",a],[]⟩) (wants Q₁ E) s:=by
 refine codeAny_of_tree ?_
 show wpAny _ A.in1 (do checkBuiltinCall "set.__new__" ⟨[.type "set",a],[]⟩;again (.builtin "set.__new__" ⟨[.type "set",a],[]⟩)) _ _ s
 refine Bp (EU (F.newCall_set_1 a) (Br ⟨plainId_quiet F.plain_set_new _,Ec F.entry_set_new ?_⟩))
 rw [Fg F.plain_set_new _]
 unfold Builtin.«set.__new__» Builtin.Frozenset.newClass
 have hsub:=sub_set_self
 obtain ⟨hp,gn,dr,tk,os⟩:=s
 dsimp only
 wp_walk
 refine wpAny_askSetting (Br ?_)
 dsimp only
 simp only [newObj]
 exact Bp (wpAny_alloc (Br (Br q)))
abbrev xx (prog:Program)(w:World)(h:Heap)(a:Addr)(dl:List Str):Prop:=mD (strKind prog w) h a dl
end
section
variable {prog:Program} {w:World} {A:Around} {E:Value→Shared→Prop} {s:Shared}
end
end PySem
namespace Tv
open PySem PyProof.Rows
variable {κ:KeyKind} {kd:SortKind}
theorem Lel.sym_take {l:List Keyed}(h:Srt κ l)(i:Nat):Lel κ (l.take i) (l.drop i):=by
 have:Srt κ (l.take i++l.drop i):=by rw [B3];exact h
 exact (bh.mp this).2.2
theorem Lel.memL {l l' m:List Keyed}(h:Lel κ l m)(hs:∀ x∈l',x∈l):Lel κ l' m:=fun x hx y hy=>h x (hs x hx) y hy
theorem Lel.memR {l m m':List Keyed}(h:Lel κ l m)(hs:∀ x∈m',x∈m):Lel κ l m':=fun x hx y hy=>h x hx y (hs y hy)
theorem Lel.mid {l m:List Keyed}{x:Keyed}(h:Lel κ l [x])(g:Lel κ [x] m):Lel κ l m:=fun a ha b hb=>dQ (h a ha x (Bu.mpr rfl)) (g x (Bu.mpr rfl) b hb)
theorem il {l:List Keyed}{x:Keyed}(h:Srt κ l)(e:l[0]? = some x):Lel κ [x] l:=fun a ha y hy=>by
 rw [Bu] at ha
 subst ha
 obtain ⟨i,hi⟩:=C4 hy
 exact h.at (Cc _) e hi
theorem oU {l:List Keyed}{x:Keyed}(h:Srt κ l)(e:l[l.length - 1]? = some x):Lel κ l [x]:=fun a ha y hy=>by
 rw [Bu] at hy
 subst hy
 obtain ⟨i,hi⟩:=C4 ha
 have:=(Bv.mp hi).1
 exact h.at (by omega) hi e
theorem uW {l m n:List Keyed}:Lel κ (l++m) n ↔ Lel κ l n∧Lel κ m n :=
 ⟨fun h=>⟨h.memL fun x hx=>Cb _ hx,h.memL fun x hx=>BO _ hx⟩,fun h x hx=>(B0.mp hx).elim (h.1 x) (h.2 x)⟩
theorem k8 {l m n:List Keyed}:Lel κ l (m++n) ↔ Lel κ l m∧Lel κ l n :=
 ⟨fun h=>⟨h.memR fun x hx=>Cb _ hx,h.memR fun x hx=>BO _ hx⟩,fun h x hx y hy=>(B0.mp hy).elim (h.1 x hx y) (h.2 x hx y)⟩
theorem xy {A B r:List Keyed}{c m:Nat}{b0 al:Keyed}(sA:Srt κ A)(sB:Srt κ B)(e0:B[0]? = some b0)(el:A[A.length - 1]? = some al)
  (h1:Lel κ (A.take c) [b0]) (h2:Lel κ [al] (B.drop m)) (M:Mg κ (A.drop c) (B.take m) r):Mg κ A B (A.take c++(r++B.drop m)):=by
 have mm:∀ x,x∈r ↔ x∈A.drop c++B.take m:=fun x=>M.1.mem_iff
 refine ⟨?_,bh.mpr ⟨sA.take c,bh.mpr ⟨M.2,sB.drop m,?_⟩,k8.mpr ⟨?_,?_⟩⟩⟩
 ·have:(A.take c++(r++B.drop m)).Perm (A.take c++((A.drop c++B.take m)++B.drop m)):=Dq _ (M.1.append_right _)
  refine this.trans (List.Perm.of_eq ?_)
  rw [BF,← BF,B3,B3]
 ·refine Lel.memL (l:=A.drop c++B.take m) (uW.mpr ⟨?_,Lel.sym_take sB m⟩) fun x hx=>(mm x).mp hx
  exact Lel.mid ((oU sA el).memL fun x hx=>C0 hx) h2
 ·refine Lel.memR (m:=A.drop c++B.take m) (k8.mpr ⟨Lel.sym_take sA c,?_⟩) fun x hx=>(mm x).mp hx
  exact Lel.mid h1 ((il sB e0).memR fun x hx=>CS hx)
 ·exact Lel.mid h1 ((il sB e0).memR fun x hx=>C0 hx)
section
variable {prog:Program} {w:World} {A:Around} {E:Value→Shared→Prop} {s:Shared}
theorem uX {st u:SortSt}{Q:PUnit→SortSt→Prop}(h:Q ⟨⟩ u):wpS (model prog w) A E s (set u:StateT SortSt Sem PUnit) Q st:=by
 unfold wpS
 rw [StateT.run_set]
 exact Br ⟨rfl,h⟩
theorem k_ {st:SortSt}{lf:Bool}{key:Keyed}{arr:Array Keyed}{P M S:List Keyed}{z n h:Nat}{Q:Option Nat→SortSt→Prop}(hO:Lt1 κ prog w A s kd)(hB:TB kd st)(hk:Gd κ key)(hg:∀ x∈arr.toList,Gd κ x)(ea:arr.toList=P++(M++S))(lp:P.length=z)(ln:M.length=n)(sa:Srt κ M)(hh:h < n)
  (hq:∀ k,k≤n→(∀ x∈M.take k,bdB κ lf (kof κ key) (kof κ x)=true)→(∀ x∈M.drop k,bdB κ lf (kof κ key) (kof κ x)=false)→Q (some k) st) :
  wpS (model prog w) A E s (gal lf key arr z n h) Q st:=by
 have ga:∀ i,i < n→arr[z+i]? = M[i]?:=fun i hi=>by
  rw [← Cj,ea,BY (by omega),B9 (by omega)]
  congr 1
  omega
 have gm:∀ x∈M,Gd κ x:=fun x hx=>hg x (by rw [ea];exact BO _ (Cb _ hx))
 refine jS hO hB hk (fun t=>match M[t]? with | some p=>bdB κ lf (kof κ key) (kof κ p) | none=>false) hh (fun t ht=>?_) (fun t u htu hu hb=>?_) (fun k hk' h1 h2=>hq k hk' (fun x hx=>?_) fun x hx=>?_)
 ·have HK:t < M.length:=by omega
  have e:=fu HK
  exact ⟨M[t],by rw [ga t ht,e],gm _ (Ck _),by rw [e]⟩
 ·have e1:=fu (l:=M) (i:=t) (by omega)
  have e2:=fu (l:=M) (i:=u) (by omega)
  rw [e1]
  rw [e2] at hb
  have le:=sa.at htu e1 e2
  dsimp only at hb ⊢
  cases lf with
  | true=>exact KeyOrd.klt_of_kle_of_klt le hb
  | false =>
   have le2:=dQ le (fc hb)
   show (!κ.blt _ _)=true
   rw [show κ.blt (kof κ key) (kof κ M[t])=false from le2]
   rfl
 ·obtain ⟨i,hi⟩:=C4 hx
  have l1:=(Bv.mp hi).1
  rw [BL] at l1
  rw [CK (by omega)] at hi
  have:=h1 i (by omega)
  rw [hi] at this
  exact this
 ·obtain ⟨i,hi⟩:=C4 hx
  rw [Cs] at hi
  have l1:=(Bv.mp hi).1
  have:=h2 (k+i) (by omega) (by omega)
  rw [hi] at this
  exact this
theorem oV {arr:Array Keyed}{P M S:List Keyed}{i j:Nat}(e:arr.toList=P++(M++S))(h1:P.length=i)(h2:j=i+M.length):(arr.extract i j).toList=M:=by
 rw [C3,e,List.extract_eq_drop_take,← h1,List.drop_left,h2,← h1,D3,List.take_left]
theorem uY {st:SortSt}{i z na nb pw pw2:Nat}{P Aa B S:List Keyed}{Q:Bool→SortSt→Prop}(hO:Lt1 κ prog w A s kd)(hB:TB kd st)(g:∀ x∈(arrOf st).toList,Gd κ x)(e1:(pendingOf st)[i]? = some (z,na,pw))(e2:(pendingOf st)[i+1]? = some (z+na,nb,pw2))
  (ea:(arrOf st).toList=P++(Aa++(B++S))) (lp:P.length=z) (la:Aa.length=na) (lb:B.length=nb) (h0:0 < na) (h1:0 < nb) (sA:Srt κ Aa) (sB:Srt κ B)
  (h:∀ HF R,TB kd HF→pendingOf HF=((pendingOf st).setIfInBounds i (z,na+nb,pw)).eraseIdxIfInBounds (i+1)→(arrOf HF).toList=P++(R++S)→Mg κ Aa B R→Q true HF):wpS (model prog w) A E s (mergeAt' i) Q st:=by
 have eb:(arrOf st).toList=(P++Aa)++(B++S):=by rw [ea,BF]
 rw [xu]
 unfold mAt
 refine BG (Fq ?_)
 rw [e1,e2]
 dsimp only
 refine BG (uX ?_)
 have hB':TB kd (setPending st (((pendingOf st).setIfInBounds i (z,na+nb,pw)).eraseIdxIfInBounds (i+1))):=⟨hB.kind,hB.failed⟩
 generalize hst':setPending st (((pendingOf st).setIfInBounds i (z,na+nb,pw)).eraseIdxIfInBounds (i+1))=HF at hB' ⊢
 have hp':pendingOf HF=((pendingOf st).setIfInBounds i (z,na+nb,pw)).eraseIdxIfInBounds (i+1):=by rw [← hst']
 have har:arrOf HF=arrOf st:=by rw [← hst']
 obtain ⟨b0,eb0⟩:∃ b0,B[0]? = some b0:=⟨_,fu (by omega)⟩
 obtain ⟨al,eal⟩:∃ al,Aa[Aa.length - 1]? = some al:=⟨_,fu (by omega)⟩
 have gA:∀ x∈Aa,Gd κ x:=fun x hx=>g x (by rw [ea];simp [hx])
 have gB:∀ x∈B,Gd κ x:=fun x hx=>g x (by rw [ea];simp [hx])
 have x0:(arrOf st).toList[z+na]? = some b0:=by
  rw [eb,BY (by simp;omega),B9 (by simp;omega)]
  rw [show z+na - (P++Aa).length=0 by simp;omega]
  exact eb0
 have xl:(arrOf st).toList[z+na - 1]? = some al:=by
  rw [ea,BY (by omega),B9 (by omega)]
  rw [show z+na - 1 - P.length=Aa.length - 1 by omega]
  exact eal
 refine BG (aP x0 ?_)
 refine BG (k_ hO hB' (gB b0 (BQ eb0)) g ea lp la sA h0 fun c hc t1 t2=>?_)
 dsimp only
 have k1:Lel κ (Aa.take c) [b0]:=fun x hx y hy=>by
  rw [Bu] at hy
  subst hy
  exact fc (t1 x hx)
 have k2:Lel κ [b0] (Aa.drop c):=fun x hx y hy=>by
  rw [Bu] at hx
  subst hx
  exact fz (t2 y hy)
 by_cases hc0:na - c=0
 ·refine aA (by simpa using hc0) ?_
  have:Aa.take c=Aa:=B6 (by omega)
  rw [this] at k1
  exact BN (h HF (Aa++B) hB' hp' (by rw [har,ea,BF]) ⟨DT _,bh.mpr ⟨sA,sB,k1.mid (il sB eb0)⟩⟩)
 ·refine aC (by simpa using hc0) ?_
  rw [show z+c+(na - c) - 1=z+na - 1 by omega]
  refine BG (aP xl ?_)
  refine BG (k_ hO hB' (gA al (BQ eal)) g eb (by simp;omega) lb sB (by omega) fun m hm u1 u2=>?_)
  dsimp only
  have k3:Lel κ (B.take m) [al]:=fun x hx y hy=>by
   rw [Bu] at hy
   subst hy
   exact jT (u1 x hx)
  have k4:Lel κ [al] (B.drop m):=fun x hx y hy=>by
   rw [Bu] at hx
   subst hx
   exact ib (u2 y hy)
  by_cases hm0:m=0
  ·refine aA (by simpa using hm0) ?_
   subst hm0
   exact BN (h HF (Aa++B) hB' hp' (by rw [har,ea,BF]) ⟨DT _,bh.mpr ⟨sA,sB,(oU sA eal).mid k4⟩⟩)
  ·refine aC (by simpa using hm0) ?_
   have ec:(arrOf st).toList=(P++Aa.take c)++(Aa.drop c++(B++S)):=by
    rw [ea]
    conv=>lhs;rw [← B3 c Aa]
    simp only [BF]
   have ed:(arrOf st).toList=(P++Aa)++(B.take m++(B.drop m++S)):=by
    rw [eb]
    conv=>lhs;rw [← B3 m B]
    simp only [BF]
   have ex:((arrOf st).extract (z+c) (z+na)).toList=Aa.drop c:=oV ec (by simp;omega) (by simp;omega)
   have ey:((arrOf st).extract (z+na) (z+na+m)).toList=B.take m:=oV ed (by simp;omega) (by simp;omega)
   have sx:((arrOf st).extract (z+c) (z+na)).size=na - c:=by rw [← Bx,ex];simp;omega
   have sy:((arrOf st).extract (z+na) (z+na+m)).size=m:=by rw [← Bx,ey];simp;omega
   generalize (arrOf st).extract (z+c) (z+na)=x at ex sx ⊢
   generalize (arrOf st).extract (z+na) (z+na+m)=y at ey sy ⊢
   have ga:∀ t∈x.toList,Gd κ t:=fun t ht=>gA t (by rw [ex] at ht;exact C0 ht)
   have gb:∀ t∈y.toList,Gd κ t:=fun t ht=>gB t (by rw [ey] at ht;exact CS ht)
   have sx':Srt κ x.toList:=by rw [ex];exact sA.drop c
   have sy':Srt κ y.toList:=by rw [ey];exact sB.take m
   have y0:y.toList[0]? = some b0:=by rw [ey,CK (by omega)];exact eb0
   have xn:x.toList[x.size - 1]? = some al:=by
    rw [ex,Cs,sx,show c+(na - c - 1)=Aa.length - 1 by omega]
    exact eal
   have fin:∀ (r:Array Keyed) (HX:SortSt),Ok kd HF HX→Mg κ x.toList y.toList r.toList→wpS (model prog w) A E s (do
     modify fun v=>setArr v (r.toList.zipIdx.foldl (fun a (p,j)=>a.setIfInBounds (z+c+j) p) (arrOf v))
     return (failedOf (← get)).isNone:StateT SortSt Sem Bool) Q HX:=fun r HX ok M=>by
    rw [ex,ey] at M
    have lr:r.toList.length=(Aa.drop c++B.take m).length:=M.1.length_eq
    refine BG (Ew ?_)
    refine BG (Fq ?_)
    refine BN ?_
    have hf:failedOf (setArr HX (r.toList.zipIdx.foldl (fun a (p,j)=>a.setIfInBounds (z+c+j) p) (arrOf HX)))=none:=ok.tb.failed
    rw [hf]
    refine h _ (Aa.take c++(r.toList++B.drop m)) ⟨ok.tb.kind,ok.tb.failed⟩ (ok.pd.trans hp') ?_ (xy sA sB eb0 eal k1 k4 M)
    show (r.toList.zipIdx.foldl (fun a (p,j)=>a.setIfInBounds (z+c+j) p) (arrOf HX)).toList=_
    rw [oP r.toList (z+c) 0 (arrOf HX) (P++Aa.take c) (Aa.drop c++B.take m) (B.drop m++S) (by
     rw [ok.ar,har,ea]
     conv=>lhs;rw [← B3 c Aa,← B3 m B]
     simp only [BF]) (by simp;omega) lr.symm]
    simp only [BF]
   by_cases hle:na - c≤m
   ·refine aA hle ?_
    refine BG (uR hO hB' ga gb sx' sy' (by omega) (by omega) (fun p q hp hq=>?_) (fun t ht=>?_) fun r HX ok M=>fin r HX ok M)
    ·rw [y0] at hq
     cases hq
     rw [ex] at hp
     exact k2 _ (Bu.mpr rfl) _ (BQ hp)
    ·rw [xn] at ht
     cases ht
     rw [ey]
     exact k3
   ·refine aC hle ?_
    refine BG (uT hO hB' ⟨ga,gb,sx',sy',fun t ht=>?_⟩ (by omega) (by omega) (fun t ht=>?_) fun r HX ok M=>fin r HX ok M)
    ·rw [y0] at ht
     cases ht
     rw [ex]
     exact k2
    ·rw [xn] at ht
     cases ht
     rw [ey]
     exact k3
end
end Tv
namespace Tv
open PySem PyProof.Rows
variable {κ:KeyKind} {kd:SortKind}
def PdL (κ:KeyKind):Nat→List (Nat × Nat × Nat)→List (List Keyed)→Prop
 | _,[],[]=>True
 | z,p::ps,r::rs=>p.1=z∧p.2.1=r.length∧0 < r.length∧Srt κ r∧PdL κ (z+r.length) ps rs
 | _,_,_=>False
theorem PdL.app:∀ {p q:List (Nat × Nat × Nat)} {z:Nat} {rs:List (List Keyed)},PdL κ z (p++q) rs→∃ r1 r2,rs=r1++r2∧r1.length=p.length∧PdL κ z p r1∧PdL κ (z+r1.flatten.length) q r2
 | [],q,z,rs,h=>⟨[],rs,rfl,rfl,trivial,h⟩
 | _::_,q,z,[],h=>h.elim
 | _::p,q,z,r::rs,h=>by
  obtain ⟨a1,a2,a3,a4,a5⟩:=h
  obtain ⟨r1,r2,e,l,b1,b2⟩:=PdL.app a5
  refine ⟨r::r1,r2,by rw [e];rfl,by simp [l],⟨a1,a2,a3,a4,b1⟩,?_⟩
  rw [DX,Bq,← G1]
  exact b2
theorem PdL.join:∀ {p q:List (Nat × Nat × Nat)} {z:Nat} {r1 r2:List (List Keyed)},PdL κ z p r1→PdL κ (z+r1.flatten.length) q r2→PdL κ z (p++q) (r1++r2)
 | [],q,z,[],r2,_,h=>h
 | [],q,z,_::_,r2,h,_=>h.elim
 | _::_,q,z,[],r2,h,_=>h.elim
 | _::p,q,z,r::r1,r2,h,g=>by
  obtain ⟨a1,a2,a3,a4,a5⟩:=h
  rw [DX,Bq,← G1] at g
  exact ⟨a1,a2,a3,a4,PdL.join a5 g⟩
theorem PdL.len:∀ {p:List (Nat × Nat × Nat)} {z:Nat} {rs:List (List Keyed)},PdL κ z p rs→p.length≤rs.flatten.length
 | [],z,[],_=>Cc _
 | [],z,_::_,h=>h.elim
 | _::_,z,[],h=>h.elim
 | _::p,z,r::rs,h=>by
  obtain ⟨a1,a2,a3,a4,a5⟩:=h
  have:=PdL.len a5
  rw [DX,Bq,Cn]
  omega
theorem PdL.same:∀ {p q:List (Nat × Nat × Nat)} {z:Nat} {rs:List (List Keyed)},PdL κ z p rs→q.map (fun t=>(t.1,t.2.1))=p.map (fun t=>(t.1,t.2.1))→PdL κ z q rs
 | [],[],z,rs,h,_=>h
 | [],_::_,z,rs,_,e=>by simp at e
 | _::_,[],z,rs,_,e=>by simp at e
 | _::_,_::_,z,[],h,_=>h.elim
 | x::p,y::q,z,r::rs,h,e=>by
  obtain ⟨a1,a2,a3,a4,a5⟩:=h
  simp only [Cd,Fp,Gj] at e
  exact ⟨e.1.1.trans a1,e.1.2.trans a2,a3,a4,PdL.same a5 e.2⟩
theorem oW {f:Nat × Nat × Nat→Nat × Nat × Nat}(hf:∀ t,(f t).1=t.1∧(f t).2.1=t.2.1):∀ (l:List (Nat × Nat × Nat)) (i:Nat),(l.modify i f).map (fun t=>(t.1,t.2.1))=l.map (fun t=>(t.1,t.2.1))
 | [],i=>by cases i <;> rfl
 | x::l,0=>by
  show ((f x).1,(f x).2.1)::_=_
  rw [(hf x).1,(hf x).2]
  rfl
 | x::l,i+1=>by
  show (x.1,x.2.1)::(l.modify i f).map _=_
  rw [oW hf l i]
  rfl
theorem oX {xs:Array Keyed}{i:Nat}{x:Keyed}(h:xs.toList[i]? = some x):KK κ xs i=kof κ x:=by
 rw [Cj] at h
 unfold KK kof
 rw [h]
structure Iv (kd:SortKind) (κ:KeyKind) (a0:Array Keyed) (st:SortSt) (lo:Nat):Prop where
 tb:TB kd st
 pm:(arrOf st).Perm a0
 ex:∃ rs T,(arrOf st).toList=rs.flatten++T∧rs.flatten.length=lo∧PdL κ 0 (pendingOf st).toList rs
theorem Iv.gd {a0:Array Keyed}{st:SortSt}{lo:Nat}(I:Iv kd κ a0 st lo)(h0:KeysOf κ a0):∀ x∈(arrOf st).toList,Gd κ x:=fun x hx=>h0 x ((Dg.mp I.pm).mem_iff.mp hx)
theorem Iv.part {a0:Array Keyed}{st HF:SortSt}{lo hi:Nat}(I:Iv kd κ a0 st lo)(R:Rs kd κ lo hi st HF):Iv kd κ a0 HF lo:=by
 obtain ⟨rs,T,e,l,p⟩:=I.ex
 refine ⟨R.tb,R.rp.pm.trans I.pm,rs,(arrOf HF).toList.drop lo,?_,l,by rw [R.pd];exact p⟩
 have:(arrOf HF).toList.take lo=rs.flatten:=by
  have e2:(arrOf st).toList.take lo=rs.flatten:=by rw [e,← l,List.take_left]
  rw [← e2]
  apply FU
  intro k
  by_cases hk:k < lo
  ·rw [CK hk,CK hk,Cj,Cj,R.rp.out k (.inl hk)]
  ·rw [Do (by rw [BL];omega),Do (by rw [BL];omega)]
 rw [← this,B3]
theorem Iv.mod {a0:Array Keyed}{st:SortSt}{lo i:Nat}(I:Iv kd κ a0 st lo){f:Nat × Nat × Nat→Nat × Nat × Nat}(hf:∀ t,(f t).1=t.1∧(f t).2.1=t.2.1):Iv kd κ a0 (setPending st ((pendingOf st).modify i f)) lo:=by
 obtain ⟨rs,T,e,l,p⟩:=I.ex
 refine ⟨⟨I.tb.kind,I.tb.failed⟩,I.pm,rs,T,e,l,?_⟩
 show PdL κ 0 ((pendingOf st).modify i f).toList rs
 rw [Array.toList_modify]
 exact p.same (oW hf _ _)
theorem Iv.push {a0:Array Keyed}{st:SortSt}{lo n w:Nat}(I:Iv kd κ a0 st lo)(hn:0 < n)(hz:lo+n≤(arrOf st).size)(hs:SrI κ (arrOf st) lo (lo+n)):Iv kd κ a0 (setPending st ((pendingOf st).push (lo,n,w))) (lo+n):=by
 obtain ⟨rs,T,e,l,p⟩:=I.ex
 have lT:lo+T.length=(arrOf st).size:=by rw [← Bx,e,Bq,l]
 have ln:(T.take n).length=n:=by rw [BL];omega
 have at_:∀ i x,T[i]? = some x→KK κ (arrOf st) (lo+i)=kof κ x:=fun i x hx=>oX (by rw [e,BY (by omega),← l,D3];exact hx)
 refine ⟨⟨I.tb.kind,I.tb.failed⟩,I.pm,rs++[T.take n],T.drop n,?_,?_,?_⟩
 ·show (arrOf st).toList=_
  rw [e,D4,EN,BF,B3]
 ·rw [D4,EN,Bq,l,ln]
 ·show PdL κ 0 ((pendingOf st).push (lo,n,w)).toList _
  rw [DW]
  refine PdL.join p ⟨by rw [l];omega,ln.symm,by omega,?_,trivial⟩
  refine C6.mpr fun i j hi hj HP=>?_
  rw [BL] at hi hj
  rw [List.getElem_take,List.getElem_take]
  have:=hs (lo+i) (lo+j) (by omega) (by omega) (by omega)
  rw [at_ i _ (fu (by omega)),at_ j _ (fu (by omega))] at this
  exact this
theorem xA {l:List (Nat × Nat × Nat)}{i:Nat}(h:i+1 < l.length):∃ p x y q,l=p++x::y::q∧p.length=i:=by
 refine ⟨l.take i,l[i],l[i+1],l.drop (i+2),?_,by rw [BL];omega⟩
 conv=>lhs;rw [← B3 i l]
 rw [Cv (by omega),Cv h]
section
variable {prog:Program} {w:World} {A:Around} {E:Value→Shared→Prop} {s:Shared}
theorem fB {a0:Array Keyed}{st:SortSt}{lo i:Nat}{Q:Bool→SortSt→Prop}(hO:Lt1 κ prog w A s kd)(h0:KeysOf κ a0)(I:Iv kd κ a0 st lo)(hi:i+1 < (pendingOf st).size)
  (h:∀ HF,Iv kd κ a0 HF lo→(pendingOf HF).size+1=(pendingOf st).size→(∀ k,lo≤k→(arrOf HF)[k]? = (arrOf st)[k]?)→Q true HF):wpS (model prog w) A E s (mergeAt' i) Q st:=by
 obtain ⟨rs,T,e,l,p⟩:=I.ex
 obtain ⟨p1,x,y,p2,ep,lp⟩:=xA (l:=(pendingOf st).toList) (i:=i) (by rw [Bx];exact hi)
 rw [ep] at p
 obtain ⟨r1,r2,er,_,P1,P2⟩:=p.app
 match r2,P2,er with
 | A1::B1::r2,P2,er =>
  obtain ⟨x1,x2,x3,x4,y1,y2,y3,y4,P3⟩:=P2
  obtain ⟨xa,xb,xc⟩:=x
  obtain ⟨ya,yb,yc⟩:=y
  dsimp only at x1 x2 y1 y2
  subst er
  have ea:(arrOf st).toList=r1.flatten++(A1++(B1++(r2.flatten++T))):=by
   rw [e]
   simp only [D4,DX,BF]
  have e1:(pendingOf st)[i]? = some (r1.flatten.length,A1.length,xc):=by
   rw [← Cj,ep,BY (by omega),lp,GL,x1,x2,FD]
   rfl
  have e2:(pendingOf st)[i+1]? = some (r1.flatten.length+A1.length,B1.length,yc):=by
   rw [← Cj,ep,BY (by omega),lp,D3,y1,y2,FD]
   rfl
  refine uY hO I.tb (I.gd h0) e1 e2 ea rfl rfl rfl x3 y3 x4 y4 fun HF R t1 t2 t3 M=>?_
  have lR:R.length=A1.length+B1.length:=by rw [M.1.length_eq,Bq]
  have ep':(pendingOf HF).toList=p1++(r1.flatten.length,A1.length+B1.length,xc)::p2:=by
   rw [t2,Array.toList_eraseIdxIfInBounds,Fw,ep,List.set_append_right _ _ (by omega),List.eraseIdx_append_of_length_le (by omega),lp,GL,D3]
   rfl
  have eT:(arrOf HF).toList=(r1++R::r2).flatten++T:=by
   rw [t3]
   simp only [D4,DX,BF]
  have lT:(r1++R::r2).flatten.length=lo:=by
   rw [← l]
   simp only [D4,DX,Bq,lR]
   omega
  refine h HF ⟨t1,?_,r1++R::r2,T,eT,lT,?_⟩ ?_ fun k hk=>?_
  ·refine Array.Perm.trans (Dg.mpr ?_) I.pm
   rw [t3,ea,← BF A1]
   exact Dq _ (M.1.append_right _)
  ·rw [ep']
   refine PdL.join P1 ⟨by omega,lR.symm,by omega,M.2,?_⟩
   rw [lR,← G1]
   exact P3
  ·rw [← Bx,← Bx,ep',ep]
   simp only [Bq,Cn]
   omega
  ·rw [← Cj,← Cj,eT,e,BY (by omega),BY (by omega),lT,l]
theorem Iv.done {a0:Array Keyed}{st:SortSt}(I:Iv kd κ a0 st a0.size)(h:(pendingOf st).size≤1):SortedToK κ (arrOf st) a0.size:=by
 obtain ⟨rs,T,e,l,p⟩:=I.ex
 have hz:(arrOf st).toList.length=a0.size:=by rw [Bx];exact I.pm.size_eq
 have hT:T=[]:=EJ.mp (by rw [e,Bq,l] at hz;omega)
 subst hT
 rw [CV] at e
 rw [← Bx] at h
 have sr:Srt κ (arrOf st).toList:=by
  rw [e]
  match (pendingOf st).toList,rs,p,h with
  | [],[],_,_=>exact List.Pairwise.nil
  | [_],[r],p,_=>rw [EN];exact p.2.2.2.1
  | _::_::_,_,_,h=>simp at h
 intro i j HP hj
 have e1:=fu (l:=(arrOf st).toList) (i:=i) (by omega)
 have e2:=fu (l:=(arrOf st).toList) (i:=j) (by omega)
 rw [oX e1,oX e2]
 exact sr.at HP e1 e2
structure SB (kd:SortKind) (a0:Array Keyed) (st:SortSt):Prop where
 perm:(arrOf st).Perm a0
 kind:kindOf st=kd
 failed:failedOf st=none
 pend:pendingOf st=#[]
theorem rH {a0:Array Keyed}{st:SortSt}{Q:Unit→SortSt→Prop}(hO:Lt1 κ prog w A s kd)(h0:KeysOf κ a0)(hB:SB kd a0 st)
  (h:∀ HF,(arrOf HF).Perm a0→failedOf HF=none→SortedToK κ (arrOf HF) a0.size→Q () HF):wpS (model prog w) A E s sortRuns' Q st:=by
 rw [sortRuns'_eq]
 refine BG (Fq ?_)
 dsimp only
 simp only [hB.perm.size_eq]
 refine BG (Dz (CO
  (I:=fun x c HF=>∃ lo,c=(none,lo)∧x≤lo∧lo≤a0.size∧Iv kd κ a0 HF lo)
  (Q:=fun c HF=>c=(none,a0.size)∧Iv kd κ a0 HF a0.size) ?step ?fin ⟨0,rfl,BB _,Cc _,⟨hB.kind,hB.failed⟩,hB.perm,[],(arrOf st).toList,rfl,rfl,by rw [hB.pend];exact trivial⟩) ?post)
 case fin =>
  rintro c HF ⟨lo,rfl,h1,h2,I⟩
  have:lo=a0.size:=by omega
  subst this
  exact ⟨rfl,I⟩
 case step =>
  rintro x c HF hx1 hx2 ⟨lo,rfl,h1,h2,I⟩
  have hz:(arrOf HF).size=a0.size:=I.pm.size_eq
  dsimp only
  by_cases hge:lo≥a0.size
  ·refine aA hge ?_
   have:lo=a0.size:=by omega
   subst this
   exact BN ⟨rfl,I⟩
  ·refine aC hge ?_
   refine BG (rA hO I.tb (I.gd h0) (by omega) (by omega) fun n HX n1 n2 R s2=>?_)
   have I2:=I.part R
   have hz2:(arrOf HX).size=a0.size:=I2.pm.size_eq
   dsimp only
   by_cases hm:n < minRun' a0.size a0.size 0
   ·refine aA hm ?_
    refine BG (GV (DM ⟨rfl,?_⟩))
    refine BG (rB hO I2.tb (I2.gd h0) (by omega) (by omega) s2 fun st3 R3 s3=>?_)
    simp only [Eg,BR,CU]
    have M1:1≤(min (a0.size - lo) (minRun' a0.size a0.size 0)):=by omega
    have M2:lo+(min (a0.size - lo) (minRun' a0.size a0.size 0))≤a0.size:=by omega
    have IX:=I2.part R3
    have S3:=s3
    refine BG (Fq ?_)
    cases (pendingOf st3).back? with
    | none=>exact BG (Ew (BN ⟨lo+(min (a0.size - lo) (minRun' a0.size a0.size 0)),rfl,by omega,M2,IX.push M1 (by rw [IX.pm.size_eq];exact M2) S3⟩))
    | some t =>
     obtain ⟨a,b,c⟩:=t
     dsimp only
     refine BG (Dz (CO (I:=fun _ c HY=>c=(none,())∧Iv kd κ a0 HY lo∧∀ k,lo≤k→(arrOf HY)[k]? = (arrOf st3)[k]?)
      (Q:=fun c HY=>c=(none,())∧Iv kd κ a0 HY lo∧∀ k,lo≤k→(arrOf HY)[k]? = (arrOf st3)[k]?) ?step1 (fun _ _ h=>h) ⟨rfl,IX,fun _ _=>rfl⟩) ?post1)
     case step1 =>
      rintro y c HY _ _ ⟨rfl,Iw,kw⟩
      refine BG (Fq ?_)
      by_cases hz:(pendingOf HY).size > 1
      ·rw [if_pos hz]
       cases e:(pendingOf HY)[(pendingOf HY).size - 2]? with
       | none=>exact BN ⟨rfl,Iw,kw⟩
       | some t =>
        obtain ⟨a',b',c'⟩:=t
        dsimp only
        by_cases hp:c'≤power' a0.size (2*a+b) (2*a+b+b+(min (a0.size - lo) (minRun' a0.size a0.size 0))) a0.size
        ·refine aA hp ?_
         exact BN ⟨rfl,Iw,kw⟩
        ·refine aC hp ?_
         refine BG (fB hO h0 Iw (by omega) fun stq Iq _ k2=>?_)
         simp only [Eg,BR,CU]
         exact BN ⟨rfl,Iq,fun k hk=>(k2 k hk).trans (kw k hk)⟩
      ·rw [if_neg hz]
       exact BN ⟨rfl,Iw,kw⟩
     case post1 =>
      rintro c HY ⟨rfl,Iw,kw⟩
      dsimp only
      refine BG (Ew ?_)
      have J2:=Iw.mod (i:=(pendingOf HY).size - 1) (f:=fun t=>(t.1,t.2.1,power' a0.size (2*a+b) (2*a+b+b+(min (a0.size - lo) (minRun' a0.size a0.size 0))) a0.size)) fun t=>⟨rfl,rfl⟩
      refine BG (Ew (BN ⟨lo+(min (a0.size - lo) (minRun' a0.size a0.size 0)),rfl,by omega,M2,J2.push M1 (by rw [J2.pm.size_eq];exact M2) fun i j hi HP hj=>?_⟩))
      show κ.kle (KK κ (arrOf HY) i) (KK κ (arrOf HY) j)
      rw [KK_congr (kw i (by omega)),KK_congr (kw j (by omega))]
      exact S3 i j hi HP hj
   ·refine aC hm ?_
    have M1:1≤n:=by omega
    have M2:lo+n≤a0.size:=by omega
    have IX:=I2
    have S3:=s2
    refine BG (Fq ?_)
    cases (pendingOf HX).back? with
    | none=>exact BG (Ew (BN ⟨lo+n,rfl,by omega,M2,IX.push M1 (by rw [IX.pm.size_eq];exact M2) S3⟩))
    | some t =>
     obtain ⟨a,b,c⟩:=t
     dsimp only
     refine BG (Dz (CO (I:=fun _ c HZ=>c=(none,())∧Iv kd κ a0 HZ lo∧∀ k,lo≤k→(arrOf HZ)[k]? = (arrOf HX)[k]?)
      (Q:=fun c HZ=>c=(none,())∧Iv kd κ a0 HZ lo∧∀ k,lo≤k→(arrOf HZ)[k]? = (arrOf HX)[k]?) ?step2 (fun _ _ h=>h) ⟨rfl,IX,fun _ _=>rfl⟩) ?post2)
     case step2 =>
      rintro y c HZ _ _ ⟨rfl,Iw,kw⟩
      refine BG (Fq ?_)
      by_cases hz:(pendingOf HZ).size > 1
      ·rw [if_pos hz]
       cases e:(pendingOf HZ)[(pendingOf HZ).size - 2]? with
       | none=>exact BN ⟨rfl,Iw,kw⟩
       | some t =>
        obtain ⟨a',b',c'⟩:=t
        dsimp only
        by_cases hp:c'≤power' a0.size (2*a+b) (2*a+b+b+n) a0.size
        ·refine aA hp ?_
         exact BN ⟨rfl,Iw,kw⟩
        ·refine aC hp ?_
         refine BG (fB hO h0 Iw (by omega) fun stq Iq _ k2=>?_)
         simp only [Eg,BR,CU]
         exact BN ⟨rfl,Iq,fun k hk=>(k2 k hk).trans (kw k hk)⟩
      ·rw [if_neg hz]
       exact BN ⟨rfl,Iw,kw⟩
     case post2 =>
      rintro c HZ ⟨rfl,Iw,kw⟩
      dsimp only
      refine BG (Ew ?_)
      have J2:=Iw.mod (i:=(pendingOf HZ).size - 1) (f:=fun t=>(t.1,t.2.1,power' a0.size (2*a+b) (2*a+b+b+n) a0.size)) fun t=>⟨rfl,rfl⟩
      refine BG (Ew (BN ⟨lo+n,rfl,by omega,M2,J2.push M1 (by rw [J2.pm.size_eq];exact M2) fun i j hi HP hj=>?_⟩))
      show κ.kle (KK κ (arrOf HZ) i) (KK κ (arrOf HZ) j)
      rw [KK_congr (kw i (by omega)),KK_congr (kw j (by omega))]
      exact S3 i j hi HP hj
 case post =>
  rintro c HF ⟨rfl,I⟩
  dsimp only
  refine BG (Dz (CO (I:=fun x c HH=>c=(none,())∧Iv kd κ a0 HH a0.size∧((pendingOf HH).size+x≤a0.size ∨ (pendingOf HH).size≤1))
   (Q:=fun c HH=>c=(none,())∧Iv kd κ a0 HH a0.size∧(pendingOf HH).size≤1) ?_ ?_ ⟨rfl,I,?_⟩) ?_)
  ·rintro x c HH _ hx ⟨rfl,I',hp⟩
   refine BG (Fq ?_)
   by_cases h1:(pendingOf HH).size≤1
   ·refine aA h1 ?_
    exact BN ⟨rfl,I',h1⟩
   ·refine aC h1 ?_
    refine BG (fB hO h0 I' (have pick:∀ (b:Bool) (n:Nat),1 < n→(if b=true then n - 2 - 1 else n - 2)+1 < n:=(fun b n hn=>by cases b <;> simp <;> omega);pick _ _ (by omega)) fun HX I2 z2 _=>?_)
    simp only [Eg,BR,CU]
    exact BN ⟨rfl,I2,.inl (by omega)⟩
  ·rintro c HH ⟨rfl,I',hp⟩
   exact ⟨rfl,I',by omega⟩
  ·obtain ⟨rs,T,e,l,p⟩:=I.ex
   have:=p.len
   rw [Bx,l] at this
   exact .inl (by omega)
  ·rintro c HH ⟨rfl,I',hp⟩
   exact BN (h HH I'.pm I'.tb.failed (I'.done hp))
end
end Tv
namespace Tv
open PySem PyProof.Rows
variable {κ:KeyKind} {kd:SortKind}
section
variable {prog:Program} {w:World} {A:Around} {E:Value→Shared→Prop} {s:Shared}
theorem sort_any {a:Addr}{HE:List Value}{m:Nat}{P:Fin→Shared→Prop}(at_:s.heap.get? a=some (seqObj "list" HE.toArray m))(g:KeysOf κ (pairsOf HE))
  (hO:Lt1 κ prog w A { s with heap:=((s.heap.update a (Obj.mapSeq fun _=>#[])).push (seqObj "tuple" HE.toArray 0)).push (seqObj "list" #[] 0) } kd) (one:∀ x y r,HE=x::y::r→∀ (Q:SortKind→Shared→Prop),Q kd { s with heap:=((s.heap.update a (Obj.mapSeq fun _=>#[])).push (seqObj "tuple" HE.toArray 0)).push (seqObj "list" #[] 0) }→wpAny (model prog w) A (keyKind' (x::y::r).toArray) Q E { s with heap:=((s.heap.update a (Obj.mapSeq fun _=>#[])).push (seqObj "tuple" HE.toArray 0)).push (seqObj "list" #[] 0) }) (lim:HE.length≤sizeLine)
  (q:∀ st:SortSt,(arrOf st).Perm (pairsOf HE)→SortedToK κ (arrOf st) (pairsOf HE).size→P (.done (.ret .none)) { s with heap:=sortedHeap s.heap a HE ((arrOf st).map (·.2)) }) :
  wpAny (model prog w) A (Builtin.«list.sort» ⟨[.ref a],[]⟩) P E s:=by
 have la:=BS at_
 have lz:HE.toArray.size=HE.length:=by simp
 rw [list_sort_plain]
 refine Bp (E4 at_ rfl (Bp (Gk at_ rfl ?_ (by rw [lz];exact lim))))
 obtain ⟨n1,at1⟩:∃ n1,(s.heap.update a (Obj.mapSeq fun _=>#[])).get? a=some (seqObj "list" #[] n1):=⟨_,get?_update_seq at_ fun _=>#[]⟩
 refine Bp (seqEpoch_at at1 rfl (Bp (wpAny_newTuple (Bp (Ef (Cw ?_))))))
 have at2:(((s.heap.update a (Obj.mapSeq fun _=>#[])).push (seqObj "tuple" HE.toArray 0)).push (seqObj "list" #[] 0)).get? a=some (seqObj "list" #[] n1) :=
  Bz _ (Bz _ at1)
 show wpAny (model prog w) A _ P E { s with heap:=((s.heap.update a (Obj.mapSeq fun _=>#[])).push (seqObj "tuple" HE.toArray 0)).push (seqObj "list" #[] 0) }
 dsimp only
 by_cases two:HE.toArray.size < 2
 ·rw [if_pos two,if_pos two]
  refine Bp (Br ?_)
  rw [StateT.run_pure]
  refine Bp (Br ?_)
  dsimp only
  have zz:((HE.toArray.zip HE.toArray).map (·.2)).size≤sizeLine+1:=by
   rw [Array.size_map]
   show (pairsOf HE).size≤_
   rw [pairsOf_size]
   omega
  refine Bp (seqEpoch_at at2 rfl (Bp (Gk at2 rfl ?_ (hsz2:=zz))))
  simp only [bne_self_eq_false,BR,CU]
  refine Br (q (SortSt.mk' general' (HE.toArray.zip HE.toArray) #[] 7 none) (GJ _) fun i j HP hj=>?_)
  rw [pairsOf_size] at hj
  have:i=j:=by omega
  subst this
  exact C5 _
 ·rw [if_neg two,if_neg two]
  obtain ⟨x,y,r,rfl⟩:∃ x y r,HE=x::y::r:=by
   match HE,lz,two with
   | [],_,t=>exact absurd (by simp) t
   | [_],_,t=>exact absurd (by simp) t
   | x::y::r,_,_=>exact ⟨x,y,r,rfl⟩
  refine Bp (one _ _ _ rfl _ (Bp (Dh (rH (κ:=κ) hO (a0:=pairsOf (x::y::r)) (st:=SortSt.mk' kd ((x::y::r).toArray.zip (x::y::r).toArray) #[] 7 none)
   (Q:=fun _ st=>(arrOf st).Perm (pairsOf (x::y::r))∧failedOf st=none∧SortedToK κ (arrOf st) (pairsOf (x::y::r)).size) g ⟨GJ _,rfl,rfl,rfl⟩ fun st c1 c2 c3=>⟨c1,c2,c3⟩) ?_ fun _ _ e=>e)))
  rintro ⟨⟨⟩,st⟩ s2 ⟨rfl,c1,c2,c3⟩
  dsimp only
  have zz:((arrOf st).map (·.2)).size≤sizeLine+1:=by
   rw [Array.size_map,c1.size_eq,pairsOf_size]
   omega
  refine Bp (seqEpoch_at at2 rfl (Bp (Gk at2 rfl ?_ (hsz2:=zz))))
  rw [c2]
  simp only [bne_self_eq_false,BR,CU]
  exact Br (q st c1 c3)
end
end Tv
namespace Ts
open PySem PyProof.Rows
section
variable {κ:KeyKind} {prog:Program} {w:World} {A:Around} {E:Value→Shared→Prop} {s:Shared}
theorem sort_any (hO:κ.OneLt){a:Addr}{HE:List Value}{m:Nat}{P:Fin→Shared→Prop}(at_:s.heap.get? a=some (seqObj "list" HE.toArray m))(g:KeysOf κ (pairsOf HE))
  (one:∀ x y r,HE=x::y::r→keyKind' (x::y::r).toArray=pure oneType') (lim:HE.length≤sizeLine)
  (q:∀ st:SortSt,(arrOf st).Perm (pairsOf HE)→SortedToK κ (arrOf st) (pairsOf HE).size→P (.done (.ret .none)) { s with heap:=sortedHeap s.heap a HE ((arrOf st).map (·.2)) }) :
  wpAny (model prog w) A (Builtin.«list.sort» ⟨[.ref a],[]⟩) P E s :=
 Tv.sort_any (kd:=oneType') at_ g (fun E x y a b Q ha hb h=>hO _ _ _ _ _ _ _ _ _ ha hb h) (fun x y r e Q h=>by rw [one x y r e];exact Br h) lim q
end
end Ts
namespace Wd
section
variable {α:Type}
def Adj:List α→α→α→Prop
 | a::b::t,x,y=>(x=a∧y=b) ∨ Adj (b::t) x y
 | _,_,_=>False
end
def J (u v:List L):Prop:=∀ x y,u.getLast? = some x→v.head? = some y→y≠inv x
theorem bK:∀ (u v:List L),Rd (u++v) ↔ Rd u∧Rd v∧J u v
 | [],v=>by
  constructor
  ·intro h
   exact ⟨trivial,h,fun x y hx=>by simp at hx⟩
  ·intro h
   exact h.2.1
 | [x],[]=>by
  constructor
  ·intro h
   exact ⟨trivial,trivial,fun x y _ hy=>by simp at hy⟩
  ·intro _
   exact trivial
 | [x],y::v=>by
  constructor
  ·intro h
   refine ⟨trivial,h.2,fun a b ha hb=>?_⟩
   have ha:x=a:=by simpa using ha
   have hb:y=b:=by simpa using hb
   subst ha hb
   exact h.1
  ·intro h
   exact ⟨h.2.2 x y rfl rfl,h.2.1⟩
 | x::y::u,v=>by
  have ih:=bK (y::u) v
  constructor
  ·intro h
   have h2:=ih.mp h.2
   refine ⟨⟨h.1,h2.1⟩,h2.2.1,fun a b ha hb=>h2.2.2 a b ?_ hb⟩
   rw [Gm] at ha
   exact ha
  ·intro h
   refine ⟨h.1.1,ih.mpr ⟨h.1.2,h.2.1,fun a b ha hb=>h.2.2 a b ?_ hb⟩⟩
   rw [Gm]
   exact ha
theorem xB {x y:L}(h:y=inv x):x=inv y:=by rw [h,aU]
theorem tf:∀ {w:List L},Rd w→Rd w.reverse
 | [],_=>trivial
 | x::w,h=>by
  rw [FT,bK]
  refine ⟨tf h.tail,trivial,fun a b ha hb=>?_⟩
  have hb:x=b:=by simpa using hb
  subst hb
  cases w with
  | nil=>simp at ha
  | cons y w =>
   have ha:y=a:=by simpa using ha
   subst ha
   intro e
   exact h.1 (xB e)
theorem zI {w:List L}(h:Rd w):Rd (bk w):=by
 have q:∀ w:List L,Rd w→Rd (w.map inv):=by
  intro w
  induction w with
  | nil=>intro _;trivial
  | cons x w ih =>
   intro h
   cases w with
   | nil=>trivial
   | cons y w=>exact ⟨fun e=>h.1 (by have e2:=BP inv e;rw [aU,aU] at e2;rw [e2]),ih h.2⟩
 exact tf (q w h)
structure Rnd (c:List L):Prop where
 ne:c≠[]
 rd:Rd c
 jn:J c c
theorem rJ {r:List L}(h:r≠[])(n:Nat):(rep (n+1) r).head? = r.head?:=by
 show (rep n r++r).head? = _
 rw [h_]
 cases r with
 | nil=>exact absurd rfl h
 | cons x r=>rfl
theorem rK {r:List L}(h:r≠[])(n:Nat):(rep (n+1) r).getLast? = r.getLast?:=by
 show (rep n r++r).getLast? = _
 rw [List.getLast?_append]
 cases hr:r.getLast? with
 | none=>exact absurd (List.getLast?_eq_none_iff.mp hr) h
 | some x=>rfl
theorem lh {r:List L}{n:Nat}(h:Rnd (rep (n+1) r)):Rnd r:=by
 have hne:r≠[]:=by
  intro e
  subst e
  have:rep (n+1) ([]:List L)=[]:=by
   apply Dv
   rw [bV]
   rfl
  exact h.ne this
 have hr:Rd (rep n r++r):=h.rd
 rw [bK] at hr
 refine ⟨hne,hr.2.1,fun x y hx hy=>?_⟩
 exact h.jn x y (by rw [rK hne];exact hx) (by rw [rJ hne];exact hy)
theorem tj {q:List L}(R:Rnd q):Rnd (bk q):=by
 refine ⟨fun e=>R.ne (by have:=BP bk e;rw [zr] at this;exact this),zI R.rd,fun x y hx hy=>?_⟩
 have hx:∃ a,q.head? = some a∧x=inv a:=by
  unfold bk at hx
  rw [List.getLast?_reverse,List.head?_map] at hx
  cases hq:q.head? with
  | none=>rw [hq] at hx;simp at hx
  | some a=>rw [hq] at hx;exact ⟨a,rfl,(BA hx).symm⟩
 have hy:∃ a,q.getLast? = some a∧y=inv a:=by
  unfold bk at hy
  rw [List.head?_reverse,List.getLast?_map] at hy
  cases hq:q.getLast? with
  | none=>rw [hq] at hy;simp at hy
  | some a=>rw [hq] at hy;exact ⟨a,rfl,(BA hy).symm⟩
 obtain ⟨a,ha,rfl⟩:=hx
 obtain ⟨b,hb,rfl⟩:=hy
 intro e
 have:=BP inv e
 rw [aU,aU] at this
 exact R.jn b a hb ha (by rw [this,aU])
end Wd
namespace L2
open PySem PySem.Spec PyProof.Rows Wd
def rnd (w:List L)(t:Nat):Nat:=((w.map cp)[t % w.length]?).getD 0
theorem rnd_at {w:List L}{t:Nat}{x:L}(h:(w++w)[t]? = some x):rnd w t=cp x:=by
 unfold rnd
 have hl:=(Bv.mp h).1
 rw [Bq] at hl
 by_cases c:t < w.length
 ·rw [DN c,BH]
  rw [B9 c] at h
  rw [h]
  rfl
 ·have e:t % w.length=t - w.length:=by
   rw [Nat.mod_eq_sub_mod (by omega),DN (by omega)]
  rw [e,BH]
  rw [BY (by omega)] at h
  rw [h]
  rfl
end L2
namespace Wd
theorem rL {x:L}{r:List L}(h:Rnd (x::r)):Rnd (r++[x]):=by
 obtain ⟨_,h2,h3⟩:=h
 refine ⟨by simp,?_,?_⟩
 ·rw [bK]
  refine ⟨h2.tail,trivial,fun a b ha hb=>?_⟩
  have hb:x=b:=BA hb
  subst hb
  refine h3 a x ?_ rfl
  rw [List.getLast?_cons,ha]
  rfl
 ·intro a b ha hb
  have ha:x=a:=by simpa using ha
  subst ha
  cases r with
  | nil =>
   have hb:x=b:=BA hb
   subst hb
   exact fun e=>ja _ e.symm
  | cons y r =>
   have hb:y=b:=BA hb
   subst hb
   exact h2.1
end Wd
namespace L2
open PySem PySem.Spec PyProof.Rows Wd
end L2
namespace Wd
section
variable {α:Type}
def Pt (R:α→α→Prop)(a:α)(P:List α)(b:α):Prop:=∀ c d,Adj (a::P++[b]) c d→R c d
end
end Wd
namespace PySem
end PySem
namespace L2
open PySem PySem.Spec PyProof.Rows Wd
section
variable {X:Cx}
end
end L2
namespace Wd
def img (ws:List (List L))(x:L):List L:=if x.val < 6 then ws.getD x.val [] else bk (ws.getD (x.val - 6) [])
def sub (ws:List (List L))(u:List L):List L:=u.flatMap (img ws)
theorem jV (x:L):(inv x).val=if x.val < 6 then x.val+6 else x.val - 6:=by unfold inv; split <;> rfl
def InM (n:Nat)(u:List L):Prop:=∀ x∈u,x.val % 6 < n
theorem InM.bk {n:Nat}{u:List L}(h:InM n u):InM n (bk u):=by
 intro x hx
 unfold Wd.bk at hx
 rw [Ep,B2] at hx
 obtain ⟨y,hy,rfl⟩:=hx
 have h1:=h y hy
 have:=y.isLt
 rw [jV]
 split <;> omega
end Wd
namespace PySem
section
variable {prog:Program} {w:World} {A:Around} {E:Value→Shared→Prop}
theorem lq {it t:Addr}{items:Array Value}(hne:t≠it):∀ (n i:Nat) (s:Shared) (Q:List Value→Shared→Prop),s.heap.IsListIter it t i→s.heap.IsList t items→i+n≤items.size →
  (∀ h',h'.IsListIter it t (i+n)→Heap.SameBut it s.heap h'→Q ((items.toList.drop i).take n) { s with heap:=h' })→wpAny (model prog w) A (draw (.ref it) n) Q E s
 | 0,i,s,Q,hit,_,_,hQ=>by
  show wpAny _ _ (pure []) Q E s
  exact Br (by simpa using hQ s.heap hit (Heap.SameBut.refl ..))
 | n+1,i,s,Q,hit,ht,hle,hQ=>by
  have HK:i < items.size:=by omega
  show wpAny _ _ (pyNext (.ref it) >>= _) Q E s
  refine Bp (wpAny_pyNext_list_item hit ht (x:=items[i]) (by simp [HK]) fun h₁ hit₁ hs₁=>?_)
  refine Bp (Cw (lq hne n (i+1) _ _ hit₁ (ht.extBut hs₁.extBut hne) (by omega) fun h₂ hit₂ hs₂=>Br ?_))
  have hd:items.toList.drop i=items[i]::items.toList.drop (i+1):=by simp [Cv,HK]
  have:=hQ h₂ (by rw [show i+(n+1)=i+1+n by omega];exact hit₂) (hs₁.trans hs₂)
  rw [hd,List.take_succ_cons] at this
  exact this
theorem fC {s:Shared}{t:Addr}{items:Array Value}{Q:List Value→Shared→Prop}(hh:A.handled=none)(ht:s.heap.IsList t items)
  (hQ:∀ h',Heap.ExtBut s.heap.objs.size s.heap h'→Q items.toList { s with heap:=h' }):wpAny (model prog w) A (unpackItems (.ref t) items.size none) Q E s:=by
 have HK:t≠s.heap.objs.size:=by obtain ⟨o,ho,_⟩:=ht;exact Cu (BS ho)
 unfold unpackItems
 refine Bp ?_
 ·unfold notIterableAtAll
  refine Bp (DV ht.typeIs F.slot_list_iter.lookup ?_)
  refine Br ?_
  simp only [BR,CU]
  refine Bp (Cw (ES ht ?_))
  refine Bp (Cw (lq HK items.size 0 _ _ ⟨_,BI _ rfl,rfl,rfl⟩ (ht.push _) (by omega) fun h₁ hit₁ hs₁=>?_))
  have hall:List.take items.size (List.drop 0 items.toList)=items.toList:=by
   rw [El];exact B6 (by simp)
  rw [hall]
  rw [if_neg (by simp)]
  have ht₁:h₁.IsList t items:=(ht.push _).extBut hs₁.extBut HK
  refine Bp (Cw (wpAny_pyNext_list_end hh hit₁ ht₁ (by simp) fun h₂ he₂=>?_))
  simp only [Option.isSome_none,BR,CU]
  refine Br (hQ h₂ fun b o hb e=>he₂ b o hb (hs₁.extBut b o hb (Bz _ e)))
theorem mE {s:Shared}{t:Addr}{items:Array Value}{targets:List (Bool × (Value→Sem Unit))}{Q:Unit→Shared→Prop}(hh:A.handled=none)(ht:s.heap.IsList t items)
  (hn:targets.length=items.size) (hstar:targets.findIdx? (·.1)=none)
  (h:∀ h',Heap.ExtBut s.heap.objs.size s.heap h'→wpAny (model prog w) A (assignInOrder (targets.map (·.2)) items.toList) Q E { s with heap:=h' }) :
  wpAny (model prog w) A (unpack (.ref t) targets) Q E s:=by
 unfold unpack
 rw [hn,hstar]
 exact Bp (Cw (fC hh ht h))
end
end PySem
namespace L2
open PySem PySem.Spec PyProof.Rows Wd
section
variable {X:Cx} {pos:Pos}
theorem eY {prog:Program}{w:World}{A:Around}{E:Value→Shared→Prop}{s:Shared}{env:Env}{elts:List Expr}{x1}{pos:Pos}{t:Addr}{items:Array Value}{Q:Unit→Shared→Prop}(hh:A.handled=none)(ht:s.heap.IsList t items)
  (hn:(assignEach elts env).length=items.size) (hstar:(assignEach elts env).findIdx? (·.1)=none)
  (h:∀ h',Heap.ExtBut s.heap.objs.size s.heap h'→wpAny (model prog w) A (assignInOrder ((assignEach elts env).map (·.2)) items.toList) Q E { s with heap:=h' }) :
  wpAny (model prog w) A (assign (.Tuple elts x1 pos) env (.ref t)) Q E s:=by
 rw [arm_assign_Tuple]
 exact Bp (Gf (mE hh ht hn hstar h))
def zJ (K:PySem.W.Frag)(n:Nat)(t:TGs):TG:=fun v σ H Q=>∃ a xs,v = .ref a∧SqL K H a xs∧xs.length=n∧t xs σ H Q
theorem xC {es:List Expr}{k:Nat}{t:TGs}{n:Nat}(hc:X.calm=true)(h:PGs X es t)
  (hn:(assignEach es X.env).length=n:=by rfl) (hst:(assignEach es X.env).findIdx? (·.1)=none:=by rfl):PG X (.Tuple es k pos) (zJ X.K n t):=by
 intro Hz s σ H v u Q I r hw
 obtain ⟨a,xs,e1,hq,hl,hw⟩:=hw
 subst e1
 cases r
 obtain ⟨HE,rv,ht,hz⟩:=I.list hq
 refine eY (I.ok.hd hc) ht.isList (by simp [hn,← hl,rv.length]) hst fun h' hx=>?_
 have I1:Inv X Hz σ H { s with heap:=h' }:=I.kept (t':=s.toks) fun b o e=>hx b o (Cu (BS e)) e
 exact h Hz _ σ H xs _ Q I1 (by simpa using rv) hw
end
section
variable {X:Cx}
theorem lu {K:PySem.W.Frag}(hK:X.K=K):IxR X (zd K):=by subst hK; exact aT
theorem ip {K:PySem.W.Frag}(hK:X.K=K):IxR X (ze K):=by subst hK; exact aV
end
theorem xD:∀ i:_root_.Fin 6,("abcdef":Str).cps[i.val]? = some (cp ⟨i.val,by omega⟩):=by decide +kernel
theorem sm_at {i c:Nat}(h:("abcdef":Str).cps[i]? = some c):∃ x:L,x.val=i∧i < 6∧c=cp x:=by
 have hl:i < 6:=by
  obtain ⟨h1,_⟩:=DJ.mp h
  have:("abcdef":Str).cps.size=6:=by decide +kernel
  omega
 have:=xD ⟨i,hl⟩
 rw [this] at h
 exact ⟨⟨i,by omega⟩,rfl,hl,(BA h).symm⟩
end L2
namespace Kx
open PySem PySem.Spec PyProof.Rows L2 Wd
end Kx
namespace Wd
end Wd
namespace L2
open PySem PySem.Spec PyProof.Rows Wd
section
variable {X:Cx}
inductive zK (x:V)(y:V)(H:Hp)(Q:VK):Prop
 | mk:∀ da db,(Dt H x da)→(Dt H y db)→(da.canLay0=true)→(db.canLay0=true)→(da.depth≤10)→(Q (.bl (PyData.eqv da db)) H)→zK x y H Q
theorem oY (hu:X.A.units+64 < cLine):OpR X (compareOp .Eq) zK:=by
 intro Hz s σ H x y v u Q I rx ry h
 obtain ⟨da,db,ha,hb,la,lb,dp,q⟩:=h
 obtain ⟨as,ra⟩:=ha.reads I.hok rx
 obtain ⟨bs,rb⟩:=hb.reads I.hok ry
 exact SeqAt.rcAt_reads ra rb la lb (by omega) _ _ _ _ ⟨.bl _,H,I,rfl,q⟩
end
end L2
namespace Kx
open PySem PySem.Spec PyProof.Rows L2 Wd
end Kx
namespace L2
open PySem PySem.Spec PyProof.Rows Wd
section
variable {X:Cx}
end
end L2
namespace L2
open PySem PySem.Spec PyProof.Rows
section
variable {prog:Program} {w:World} {A:Around} {E:Value→Shared→Prop} {s:Shared}
end
section
variable {X:Cx}
end
end L2
namespace L2
open PySem PySem.Spec PyProof.Rows Wd
section
variable {X:Cx}
end
inductive AH (x:V)(lo:Option Int)(hi:Option Int)(H:Hp)(Q:VK):Prop
 | mk:∀ a xs,(x = .ref a)→(H a=some (.tup xs))→(∀ p H',az H H'→H' p=some (.tup (eZ xs lo hi))→Q (.ref p) H')→AH x lo hi H Q
theorem oZ {X:Cx}:SlR X AH:=by
 intro Hz s σ H x v vl vu lo hi sl Q I rx hs pl pu h
 obtain ⟨a,xs,rfl,hx,q⟩:=h
 exact uV Hz s σ H _ v vl vu lo hi sl Q I rx hs pl pu ⟨a,xs,rfl,SqT.of hx,fun e=>q a H (az.refl _) (by rw [e];exact hx),fun p hp=>q p _ (az.new hp) af⟩
end L2
namespace Kx
open PySem PySem.Spec PyProof.Rows L2 Wd
end Kx
namespace L2
open PySem PySem.Spec PyProof.Rows Wd
section
variable {X:Cx}
end
end L2
namespace Wd
def nm (N:List L)(x:L):L:=if x.val < 6 then N.getD x.val 0 else inv (N.getD (x.val - 6) 0)
end Wd
namespace L2
open PySem PySem.Spec PyProof.Rows Wd
theorem fE {α β:Type}(f:α→β){zs ys:List β}(p:ys.Perm zs):∀ W:List α,ys=W.map f→∃ V:List α,V.Perm W∧zs=V.map f:=by
 induction p with
 | nil =>
  intro W e
  exact ⟨W,.refl _,e⟩
 | cons x _ ih =>
  intro W e
  cases W with
  | nil=>cases e
  | cons w W =>
   obtain ⟨e1,e2⟩:=Dn e
   obtain ⟨V,h1,h2⟩:=ih W e2
   exact ⟨w::V,h1.cons w,by rw [h2,e1];rfl⟩
 | swap x y l =>
  intro W e
  match W,e with
  | a::b::W,e =>
   obtain ⟨e1,e2⟩:=Dn e
   obtain ⟨e2,e3⟩:=Dn e2
   exact ⟨b::a::W,List.Perm.swap a b W,by rw [e1,e2,e3];rfl⟩
 | trans _ _ ih1 ih2 =>
  intro W e
  obtain ⟨V,h1,h2⟩:=ih1 W e
  obtain ⟨V2,h3,h4⟩:=ih2 V h2
  exact ⟨V2,h3.trans h1,h4⟩
section
variable {X:Cx}
end
end L2
namespace Kx
open PySem PySem.Spec PyProof.Rows L2 Wd
end Kx
namespace L2
open PySem PySem.Spec PyProof.Rows
theorem fF (val:Nat→Str):∀ i,(ddp val i).Nodup
 | 0=>by unfold ddp;exact CG
 | i+1=>by
  unfold ddp
  split
  ·exact fF val i
  ·rename_i h
   exact EV.mpr ⟨fF val i,B7.mpr ⟨Co,CG⟩,fun a ha b hb e=>h (by rw [Bu] at hb;subst hb;subst e;exact ha)⟩
theorem o7 (val:Nat→Str)(z:Str):∀ i,z∈ddp val i ↔ ∃ j,j < i∧val j=z
 | 0=>by unfold ddp;simp
 | i+1=>by
  have ih:=o7 val z i
  unfold ddp
  split
  ·rename_i h
   rw [ih]
   constructor
   ·rintro ⟨j,hj,e⟩;exact ⟨j,by omega,e⟩
   ·rintro ⟨j,hj,e⟩
    by_cases q:j=i
    ·subst q
     rw [← e]
     rw [e] at h ⊢
     exact ih.mp h
    ·exact ⟨j,by omega,e⟩
  ·rw [B0,ih,Bu]
   constructor
   ·rintro (⟨j,hj,e⟩ | e)
    ·exact ⟨j,by omega,e⟩
    ·exact ⟨i,by omega,e.symm⟩
   ·rintro ⟨j,hj,e⟩
    by_cases q:j=i
    ·subst q;exact .inr e.symm
    ·exact .inl ⟨j,by omega,e⟩
theorem cU:∀ {dl zs:List Str},dl.Nodup→(∀ k∈dl,k∈zs)→zs.length≤dl.length→zs.Perm dl
 | [],zs,_,_,h=>by rw [EJ.mp (Nat.le_zero.mp h)]
 | d::dl,zs,nd,m,h=>by
  have hd:=m d BC
  have p:=List.perm_cons_erase hd
  refine p.trans (List.Perm.cons _ ?_)
  obtain ⟨n1,n2⟩:=B7.mp nd
  refine cU n2 (fun k hk=>?_) ?_
  ·have:=m k (Bw _ hk)
   exact (Fh (fun e=>n1 (by rw [← e];exact hk))).mpr this
  ·rw [Ex hd]
   simp at h
   omega
section
variable {prog:Program} {w:World} {A:Around} {E:Value→Shared→Prop} {s:Shared}
end
section
variable {X:Cx}
def StO (P:Program)(w:World)(a:Addr)(dl:List Str):HO:=.ext fun h=>xx P w h a dl
theorem xx.lay {P:Program}{w:World}{H:Hp}{h:Heap}{a:Addr}{dl:List Str}(x:xx P w h a dl):bW P w H h a (StO P w a dl):=by
 refine ⟨x,?_,fun h1 h2 y k=>y.at k⟩
 obtain ⟨o,_,_,_,e,_⟩:=x
 exact ⟨o,e⟩
end
section
variable {prog:Program} {w:World} {A:Around} {E:Value→Shared→Prop} {s:Shared}
end
section
variable {X:Cx}
end
end L2
namespace Ts
open PySem PyProof.Rows
@[reducible] def intK:KeyKind where
 α:=Int
 blt a b:=decide (a < b)
 irrefl a:=by simp
 trans a b c h1 h2:=by simp only [Cf] at *;omega
 negTrans a b c h:=by simp only [Cf] at *;omega
 total a b h1 h2:=by simp only [D5] at *;omega
 keyOf v:=match v with | .int x _=>some x | _=>none
 dflt:=0
theorem gy:intK.OneLt:=by
 intro prog w A E s x y a b Q ha hb h
 cases x <;> simp only [intK,reduceCtorEq,FW] at ha
 cases y <;> simp only [intK,reduceCtorEq,FW] at hb
 cases ha;cases hb
 exact oneLt_int h
def iOf:Value→Int
 | .int x _=>x
 | _=>0
theorem dR:∀ {vs:List Value} {ns:List Int},IntsAre vs ns→∀ v,v∈vs→∃ x t,v = .int x t
 | _,_,.nil,v,hv=>by simp at hv
 | _,_,.cons x t h,v,hv=>by
  rcases BU.mp hv with rfl | hv
  ·exact ⟨x,t,rfl⟩
  ·exact dR h v hv
theorem ints_of:∀ {vs:List Value} {ns:List Int},IntsAre vs ns→vs.map iOf=ns
 | _,_,.nil=>rfl
 | _,_,.cons x t h=>by rw [Cd,ints_of h];rfl
theorem iq:∀ (vs:List Value),(∀ v,v∈vs→∃ x t,v = .int x t)→IntsAre vs (vs.map iOf)
 | [],_=>.nil
 | v::vs,h=>by
  obtain ⟨x,t,rfl⟩:=h v (BC ..)
  exact .cons x t (iq vs fun u hu=>h u (Bw _ hu))
theorem jh {vs:List Value}{ns:List Int}(hI:IntsAre vs ns):KeysOf intK (pairsOf vs):=by
 intro p hp
 rw [FN] at hp
 obtain ⟨x,t,e⟩:=dR hI _ (mem_zip_self hp).2
 exact ⟨x,by rw [e]⟩
theorem tm {xs:Array Keyed}{i:Nat}(hi:i < xs.size){x:Int}{t:Tok}{q:Value}(hx:xs[i]=(.int x t,q)):KK intK xs i=x:=by
 unfold KK;rw [GK xs i hi,hx];rfl
theorem fG {vs:List Value}{ns:List Int}(hI:IntsAre vs ns){xs:Array Keyed}(hp:xs.Perm (pairsOf vs))(hs:SortedToK intK xs (pairsOf vs).size) :
  ∃ ms,IntsAre (xs.map (·.2)).toList ms∧ms.Perm ns∧ms.Pairwise (· ≤ ·):=by
 have hl:xs.toList.Perm (vs.zip vs):=by rw [← FN];exact Dg.mp hp
 have H_:∀ p,p∈xs.toList→p.1=p.2∧p.1∈vs:=fun p hp'=>mem_zip_self (hl.mem_iff.mp hp')
 refine ⟨xs.toList.map (fun p=>iOf p.1),?_,?_,?_⟩
 ·have e:(xs.map (·.2)).toList=xs.toList.map (·.1):=by
   rw [Array.toList_map];exact List.map_congr_left fun p hp'=>(H_ p hp').1.symm
  rw [e]
  have h1:=iq (xs.toList.map (·.1)) (by
   intro v hv
   obtain ⟨p,hp',rfl⟩:=B2.mp hv
   exact dR hI _ (H_ p hp').2)
  rwa [Dd] at h1
 ·have h1:=hl.map (fun p=>iOf p.1)
  have e2:(vs.zip vs).map (fun p=>iOf p.1)=ns:=by
   have:(vs.zip vs).map (fun p=>iOf p.1)=((vs.zip vs).map Prod.fst).map iOf:=by rw [Dd];rfl
   rw [this,List.map_fst_zip (BB _),ints_of hI]
  rwa [e2] at h1
 ·rw [C6]
  intro i j hi hj HP
  have hi':i < xs.size:=by simpa using hi
  have hj':j < xs.size:=by simpa using hj
  have h1:=hs i j (D0 HP) (by rw [← hp.size_eq];exact hj')
  obtain ⟨x,t,ex⟩:=dR hI _ (H_ xs[i] (by simp)).2
  obtain ⟨y,u,ey⟩:=dR hI _ (H_ xs[j] (by simp)).2
  rw [tm hi' (x:=x) (t:=t) (q:=xs[i].2) (CY ex rfl),tm hj' (x:=y) (t:=u) (q:=xs[j].2) (CY ey rfl)] at h1
  change decide (y < x)=false at h1
  simp only [GA,Array.getElem_toList]
  rw [show iOf xs[i].1=x by rw [ex];rfl,show iOf xs[j].1=y by rw [ey];rfl]
  simpa using h1
end Ts
namespace L2
open PySem PySem.Spec PyProof.Rows Wd Ts
section
variable {prog:Program} {w:World} {A:Around} {E:Value→Shared→Prop} {s:Shared}
theorem fH {l:Addr}{vs:List Value}{Q:List Value→Shared→Prop}(hl:s.heap.IsTuple l vs.toArray)
  (h:Q vs { s with heap:=(s.heap.push (seqObj "list" #[] 0)).update s.heap.objs.size (Obj.mapSeq (· ++ vs.toArray)) }) (hsz:vs.length≤sizeLine:=by size_fits) :
  wpAny (model prog w) A (collect (.ref l)) Q E s:=by
 obtain ⟨o,ho,hc,n,hd⟩:=id hl
 unfold collect
 refine Bp (wpAny_runValue (Ec entry_proto_collect' ?_))
 show wpAny _ _ (do again (.builtin "list.__iadd__" ⟨[← newList [],.ref l],[]⟩)) _ _ s
 refine Bp (Ef (Br ⟨Code.quiet_builtin _ (by decide +kernel),Ec entry_list_iadd' ?_⟩))
 show wpAny _ _ (Builtin.List.listExtendWith (.ref s.heap.objs.size) (.ref l) (.ref s.heap.objs.size)) _ _ { s with heap:=s.heap.push (seqObj "list" #[] 0) }
 unfold Builtin.List.listExtendWith
 have Iy:(s.heap.push (seqObj "list" #[] 0)).get? l=some o:=Bz _ ho
 refine Bp (FB (T:="tuple") ⟨o,Iy,hc⟩ ?_)
 have ht:(Value.type "tuple" == Value.type "tuple")=true:=by rfl
 rw [if_pos (by rw [ht];simp)]
 refine Bp (E4 Iy hd ?_)
 refine Bp (E4 (xs:=#[]) (n:=0) (BI _ rfl) rfl ?_)
 rw [if_neg (by simp)]
 refine Bp (Gk (xs:=#[]) (n:=0) (BI _ rfl) rfl ?_ (Cc _) (by show (#[]++vs.toArray).size≤sizeLine+1;simp only [Array.size_append,BM,C_];omega))
 refine Br ?_
 show wpAny (model prog w) A (do
   let o ← load s.heap.objs.size
   match o.data with
   | .seq xs _=>pure xs.toList
   | _=>unsupported "internal:collect") Q E { s with heap:=(s.heap.push (seqObj "list" #[] 0)).update s.heap.objs.size (Obj.mapSeq (· ++ vs.toArray)) }
 refine Bp (wpAny_load (get?_update_seq (BI _ rfl) _) ?_)
 show wpAny _ _ (pure ((#[]:Array Value)++vs.toArray).toList) Q E _
 rw [show ((#[]:Array Value)++vs.toArray).toList=vs by simp]
 exact Br h
theorem ji {l:Addr}{vs:List Value}{ns:List Int}{Q:Value→Shared→Prop}(hl:s.heap.IsList l vs.toArray ∨ s.heap.IsTuple l vs.toArray)(hI:IntsAre vs ns)(lim:vs.length≤sizeLine)
  (q:∀ (out:Array Value) (zs:List Int),IntsAre out.toList zs→zs.Perm ns→zs.Pairwise (· ≤ ·)→Q (.ref (s.heap.objs.size+1)) { s with heap:=sortedAll s.heap vs out }) :
  wpAny (model prog w) A (call (.builtin "sorted") [.ref l]) Q E s:=by
 refine FO kind_sorted plain_sorted entry_sorted (args_sorted1 _) ?_
 unfold Builtin.«sorted»
 rcases hl with hl | hl
 ·refine Bp (m:=checkCount "sorted" 1 1 _) (Br (Bp (collect_list hl (Bp (Ef ?_)) (hsz:=lim))))
  have z1:((s.heap.push (seqObj "list" #[] 0)).update s.heap.objs.size (Obj.mapSeq (· ++ vs.toArray))).objs.size=s.heap.objs.size+1:=(E_ ..).trans (size_push' ..)
  have g:(((s.heap.push (seqObj "list" #[] 0)).update s.heap.objs.size (Obj.mapSeq (· ++ vs.toArray))).push (seqObj "list" vs.toArray 0)).get? (s.heap.objs.size+1)=some (seqObj "list" vs.toArray 0):=z1 ▸ BI _ rfl
  show wpAny _ _ _ _ _ { s with heap:=((s.heap.push (seqObj "list" #[] 0)).update s.heap.objs.size (Obj.mapSeq (· ++ vs.toArray))).push (seqObj "list" vs.toArray 0) }
  rw [z1]
  refine Bp (Cw (CI FP ⟨_,g,rfl⟩ Ft (Ts.sort_any gy g (jh hI) (fun x y r e=>keyKind_ints (by rw [← e];exact hI)) lim fun st a1 a2=>⟨_,rfl,?_⟩) (FQ _)))
  obtain ⟨zs,h1,h2,h3⟩:=fG hI a1 a2
  exact Br ⟨_,rfl,q _ zs h1 h2 h3⟩
 ·refine Bp (m:=checkCount "sorted" 1 1 _) (Br (Bp (fH hl (Bp (Ef ?_)) (hsz:=lim))))
  have z1:((s.heap.push (seqObj "list" #[] 0)).update s.heap.objs.size (Obj.mapSeq (· ++ vs.toArray))).objs.size=s.heap.objs.size+1:=(E_ ..).trans (size_push' ..)
  have g:(((s.heap.push (seqObj "list" #[] 0)).update s.heap.objs.size (Obj.mapSeq (· ++ vs.toArray))).push (seqObj "list" vs.toArray 0)).get? (s.heap.objs.size+1)=some (seqObj "list" vs.toArray 0):=z1 ▸ BI _ rfl
  show wpAny _ _ _ _ _ { s with heap:=((s.heap.push (seqObj "list" #[] 0)).update s.heap.objs.size (Obj.mapSeq (· ++ vs.toArray))).push (seqObj "list" vs.toArray 0) }
  rw [z1]
  refine Bp (Cw (CI FP ⟨_,g,rfl⟩ Ft (Ts.sort_any gy g (jh hI) (fun x y r e=>keyKind_ints (by rw [← e];exact hI)) lim fun st a1 a2=>⟨_,rfl,?_⟩) (FQ _)))
  obtain ⟨zs,h1,h2,h3⟩:=fG hI a1 a2
  exact Br ⟨_,rfl,q _ zs h1 h2 h3⟩
end
section
variable {X:Cx}
theorem jk:∀ {ns:List Int} {us:List Value},a8 (ns.map V.int) us→IntsAre us ns
 | [],_,.nil=>.nil
 | n::ns,_,.cons r t=>by
  obtain ⟨t',rfl⟩:=r
  exact .cons n t' (jk t)
theorem eR:∀ {us:List Value} {ns:List Int},IntsAre us ns→a8 (ns.map V.int) us
 | _,_,.nil=>.nil
 | _,_,.cons n t h=>.cons ⟨t,rfl⟩ (eR h)
inductive bp (K:PySem.W.Frag)(xs:List V)(H:Hp)(Q:VK):Prop
 | mk:∀ (l:Addr) (ys:List Int),(xs=[.ref l])→((SqL K H l (ys.map V.int) ∨ SqT K H l (ys.map V.int)))→(∀ (p:Addr) (zs:List Int),H p=none→zs.Perm ys→zs.Pairwise (· ≤ ·)→Q (.ref p) (upd H p (.lst (zs.map V.int))))→bp K xs H Q
theorem bO {K:PySem.W.Frag}(hK:X.K=K):dE X (.builtin "sorted") (bp K):=by
 subst hK
 intro Hz s σ H xs us Q I r h
 obtain ⟨l,ys,rfl,hq,q⟩:=h
 obtain ⟨u,rfl,ru⟩:=dJ r
 cases ru
 obtain ⟨HE,rv,pl,hz⟩:∃ HE,a8 (ys.map V.int) HE∧(s.heap.IsList l HE.toArray ∨ s.heap.IsTuple l HE.toArray)∧(ys.map V.int).length≤sizeLine:=by
  rcases hq with hq | hq
  ·obtain ⟨HE,rv,pl,hz⟩:=I.list hq
   exact ⟨HE,rv,.inl pl.isList,hz⟩
  ·obtain ⟨HE,rv,pl,hz⟩:=I.tuple hq
   exact ⟨HE,rv,.inr pl,hz⟩
 have hS:=jk rv
 have hlen:HE.length=ys.length:=by rw [← rv.length,Bo]
 rw [Bo] at hz
 refine ji pl hS (by omega) fun out zs hO hp hs=>?_
 obtain ⟨e,he⟩:=sortedAll_at s.heap HE out
 have I2:Inv X Hz σ (upd H (s.heap.objs.size+1) (.lst (zs.map V.int))) { s with heap:=sortedAll s.heap HE out,toks:=s.toks } :=
  I.laid (fun b o e=>sortedAll_old e) (ET _) ⟨by rw [Bo,hp.length_eq];exact hz,out.toList,e,eR hO,by simpa [seqObj] using he⟩
 exact ⟨.ref (s.heap.objs.size+1),_,I2,rfl,q _ zs (I.hok.fresh (ET _)) hp hs⟩
end
end L2
namespace Tv
open PySem PyProof.Rows
def Pq (h:Heap)(v:Value)(i j:Int):Prop:=∃ (a:Addr) (o:Obj) (t u:Tok) (n:Nat),v = .ref a∧h.get? a=some o∧o.cls = .type "tuple"∧o.data = .seq #[.int i t,.int j u] n
inductive Kn where
 | i
 | s
 | p
def Kn.R:Kn→Heap→Value→List Int→Prop
 | .i,_,v,a=>∃ i t,v = .int i t∧a=[i]
 | .s,_,v,a=>∃ (x:Str) (t:Tok),v = .str x t∧a=x.cps.toList.map Int.ofNat
 | .p,h,v,a=>∃ i j,Pq h v i j∧a=[i,j]
theorem o8 {x y:List Nat}(h:x.map Int.ofNat=y.map Int.ofNat):x=y:=(List.map_inj_right (fun _ _ e=>Gn e)).mp h
theorem Kn.one {k:Kn}{h:Heap}{v:Value}{a b:List Int}(x:k.R h v a)(y:k.R h v b):a=b:=by
 cases k with
 | i =>
  obtain ⟨i,t,rfl,rfl⟩:=x
  obtain ⟨j,u,e,rfl⟩:=y
  cases e
  rfl
 | s =>
  obtain ⟨i,t,rfl,rfl⟩:=x
  obtain ⟨j,u,e,rfl⟩:=y
  cases e
  rfl
 | p =>
  obtain ⟨i,j,⟨c,o,t,u,n,rfl,e,_,d⟩,rfl⟩:=x
  obtain ⟨k,l,⟨c',o',t',u',n',e0,e',_,d'⟩,rfl⟩:=y
  cases e0
  rw [e] at e'
  cases e'
  rw [d] at d'
  injection d' with d1 _
  have d1:=BP Array.toList d1
  simp only [Fp,Value.int.injEq,G2] at d1
  rw [d1.1.1,d1.2.1]
structure mF (prog:Program) (w:World) (A:Around) (k:Kn):Prop where
 eq:∀ {s:Shared} {E:Value→Shared→Prop} {v u:Value} {a b:List Int} {Q:Bool→Shared→Prop},k.R s.heap v a→k.R s.heap u b→Q (decide (a=b)) s→wpAny (model prog w) A (eqBool v u) Q E s
 lt:∀ {s:Shared} {E:Value→Shared→Prop} {c:Bool} {v u:Value} {a b:List Int} {Q:Bool→Shared→Prop},(c=true→k ≠ .p)→k.R s.heap v a→k.R s.heap u b→a≠b→Q (decide (a < b)) s→wpAny (model prog w) A (oneLt' c v u) Q E s
section
variable {prog:Program} {w:World} {A:Around} {E:Value→Shared→Prop} {s:Shared}
theorem A9:mF prog w A .i:=by
 refine ⟨fun {s E v u a b Q} x y q=>?_,fun {s E c v u a b Q} _ x y ne q=>?_⟩
 ·obtain ⟨i,t,rfl,rfl⟩:=x
  obtain ⟨j,t',rfl,rfl⟩:=y
  refine wpAny_eqBool_int ?_
  have:decide ([i]=[j])=(i == j):=by rw [BX];simp
  rwa [this] at q
 ·obtain ⟨i,t,rfl,rfl⟩:=x
  obtain ⟨j,t',rfl,rfl⟩:=y
  have:decide ([i] < [j])=decide (i < j):=by
   rw [BX,BE,BE,Dr]
   exact ⟨fun h=>h.elim id fun h=>absurd h.2 (GW _),.inl⟩
  rw [this] at q
  cases c with
  | true=>exact oneLt_int q
  | false =>
   rw [oneLt'_eq]
   simp only [BR,CU]
   show wpAny _ _ (compareOp .Lt (.int i t) (.int j t') >>= _) Q E s
   exact Bp (wpAny_lt_int (Di q))
theorem tp:∀ (x y:List Nat),x.map Int.ofNat < y.map Int.ofNat ↔ x < y
 | [],[]=>by simp
 | [],_::_=>by simp
 | _::_,[]=>by simp
 | a::x,b::y=>by
  rw [Cd,Cd,Dr,Dr,tp x y]
  constructor
  ·rintro (h | ⟨h,g⟩)
   ·exact .inl (Int.ofNat_lt.mp h)
   ·exact .inr ⟨Gn h,g⟩
  ·rintro (h | ⟨h,g⟩)
   ·exact .inl (Int.ofNat_lt.mpr h)
   ·exact .inr ⟨BP _ h,g⟩
theorem A_:mF prog w A .s:=by
 refine ⟨fun {s E v u a b Q} x y q=>?_,fun {s E c v u a b Q} _ x y ne q=>?_⟩
 ·obtain ⟨x,t,rfl,rfl⟩:=x
  obtain ⟨y,t',rfl,rfl⟩:=y
  refine wpAny_eqBool_str ?_
  have:decide (x.cps.toList.map Int.ofNat=y.cps.toList.map Int.ofNat)=decide (x=y):=by
   rw [BX,BE,BE]
   refine ⟨fun h=>?_,fun h=>by rw [h]⟩
   have:=Gx.mp (o8 h)
   cases x;cases y;simp_all
  rwa [this] at q
 ·obtain ⟨x,t,rfl,rfl⟩:=x
  obtain ⟨y,t',rfl,rfl⟩:=y
  have:decide (x.cps.toList.map Int.ofNat < y.cps.toList.map Int.ofNat)=decide (x.cps.toList < y.cps.toList):=by
   rw [BX,BE,BE,tp]
  rw [this] at q
  cases c with
  | true=>exact oneLt_str q
  | false =>
   rw [oneLt'_eq]
   simp only [BR,CU]
   show wpAny _ _ (compareOp .Lt (.str x t) (.str y t') >>= _) Q E s
   exact Bp (PyProof.Rows.lt_str (Di q))
end
inductive FlR (h:Heap):List Kn→List Value→List (List Int)→Prop
 | nil:FlR h [] [] []
 | cons {k:Kn} {ks:List Kn} {v:Value} {vs:List Value} {a:List Int} {as:List (List Int)} (x:k.R h v a) (r:FlR h ks vs as):FlR h (k::ks) (v::vs) (a::as)
theorem FlR.one {h:Heap}{ks:List Kn}{vs:List Value}{as:List (List Int)}(x:FlR h ks vs as):∀ {bs:List (List Int)},FlR h ks vs bs→as=bs:=by
 induction x with
 | nil=>intro bs y;cases y;rfl
 | cons x r ih=>intro bs y;cases y with | cons y q=>rw [Kn.one x y,ih q]
theorem FlR.len {h:Heap}{ks:List Kn}{vs us:List Value}{as bs:List (List Int)}(x:FlR h ks vs as):FlR h ks us bs→vs.length=us.length:=by
 induction x generalizing us bs with
 | nil=>intro y;cases y;rfl
 | cons x r ih=>intro y;cases y with | cons y q=>rw [Cn,Cn,ih q]
theorem FlR.stay {h h':Heap}(k:∀ b o,h.get? b=some o→o.cls = .type "tuple"→h'.get? b=some o){ks:List Kn}{vs:List Value}{as:List (List Int)}(x:FlR h ks vs as):FlR h' ks vs as:=by
 induction x with
 | nil=>exact .nil
 | @cons kn ks v vs a as x r ih =>
  refine .cons ?_ ih
  cases kn with
  | i=>exact x
  | s=>exact x
  | p =>
   obtain ⟨i,j,⟨c,o,t,u,n,e0,e,hc,d⟩,ea⟩:=x
   exact ⟨i,j,⟨c,o,t,u,n,e0,k _ _ e hc,hc,d⟩,ea⟩
abbrev di:=List (List Int)
def Kd (f:Kn)(sh:List Int→List Kn)(h:Heap)(v:Value)(k:di):Prop:=∃ (a:Addr) (o:Obj) (vs:List Value) (n:Nat),v = .ref a∧h.get? a=some o∧o.cls = .type "tuple"∧o.data = .seq vs.toArray n∧FlR h (f::sh (k.headD [])) vs k
theorem Kd.one {f:Kn}{sh:List Int→List Kn}{h:Heap}{v:Value}{k l:di}(x:Kd f sh h v k)(y:Kd f sh h v l):k=l:=by
 obtain ⟨a,o,vs,n,rfl,e,_,d,g⟩:=x
 obtain ⟨a',o',vs',n',e0,e',_,d',g'⟩:=y
 cases e0
 rw [e] at e'
 cases e'
 rw [d] at d'
 injection d' with d1 _
 have d1:=BP Array.toList d1
 simp only at d1
 subst d1
 cases g with
 | cons x r =>
  cases g' with
  | cons y q =>
   have e1:=Kn.one x y
   subst e1
   exact BP _ (FlR.one r q)
open Classical in
def wc (f:Kn)(sh:List Int→List Kn)(h:Heap)(v:Value):Option di:=if hx:∃ p:di,Kd f sh h v p then some (Classical.choose hx) else none
theorem Kd.of {f:Kn}{sh:List Int→List Kn}{h:Heap}{v:Value}{k:di}(x:Kd f sh h v k):wc f sh h v=some k:=by
 unfold wc
 rw [dif_pos ⟨k,x⟩]
 exact BP some ((Classical.choose_spec (⟨k,x⟩:∃ p:di,Kd f sh h v p)).one x)
theorem Kd.is {f:Kn}{sh:List Int→List Kn}{h:Heap}{v:Value}{k:di}(e:wc f sh h v=some k):Kd f sh h v k:=by
 unfold wc at e
 split at e
 ·rename_i hx
  cases e
  exact Classical.choose_spec hx
 ·cases e
theorem Kd.stay {f:Kn}{sh:List Int→List Kn}{h h':Heap}{v:Value}{k:di}(kp:∀ b o,h.get? b=some o→o.cls = .type "tuple"→h'.get? b=some o)(x:Kd f sh h v k):Kd f sh h' v k:=by
 obtain ⟨a,o,vs,n,e0,e,c,d,g⟩:=x
 exact ⟨a,o,vs,n,e0,kp _ _ e c,c,d,g.stay kp⟩
@[reducible] noncomputable def kdK (f:Kn) (sh:List Int→List Kn) (h:Heap):KeyKind where
 α:=di
 blt a b:=decide (a < b)
 irrefl a:=by simpa using GW a
 trans a b c h1 h2:=by simp only [Cf] at *;exact List.lt_trans h1 h2
 negTrans a b c h:=by
  simp only [Cf] at *
  by_cases hab:a < b
  ·exact .inl hab
  ·exact .inr (List.lt_of_le_of_lt (List.not_lt.mp hab) h)
 total a b h1 h2:=by simp only [D5] at *;exact List.le_antisymm (List.not_lt.mp h2) (List.not_lt.mp h1)
 keyOf v:=wc f sh h v
 dflt:=[]
def mG (b:Bool)(L:List ((Value × Value) × Nat))(z:Bool):Sem Bool:=do
 for ((p,q),i) in L do
  if !(← eqBool p q) then return ← oneLt' (b && i == 0) p q
 return z
theorem o9 (b:Bool)(x y:Value):keyLt' (tuples' b) x y=(do
  let xs ← Builtin.List.listItems x;let ys ← Builtin.List.listItems y
  mG b (xs.toList.zip ys.toList).zipIdx (decide (xs.size < ys.size))):=rfl
theorem o_ (b z:Bool)(p q:Value)(i:Nat)(L:List ((Value × Value) × Nat)):mG b (((p,q),i)::L) z=(eqBool p q >>= fun r=>if r then mG b L z else oneLt' (b && i == 0) p q):=by
 unfold mG
 rw [EC]
 simp only [bind_assoc]
 congr 1
 funext r
 cases r <;> simp
theorem pe {a b:List Int}{as bs:di}:decide (a::as < b::bs)=if a=b then decide (as < bs) else decide (a < b):=by
 rw [BX,BE,Dr]
 by_cases e:a=b
 ·rw [if_pos e,BE]
  subst e
  exact ⟨fun h=>h.elim (fun h=>absurd h (GW _)) fun h=>h.2,fun h=>.inr ⟨rfl,h⟩⟩
 ·rw [if_neg e,BE]
  exact ⟨fun h=>h.elim id fun h=>absurd h.1 e,.inl⟩
section
variable {prog:Program} {w:World} {A:Around} {E:Value→Shared→Prop} {s:Shared}
theorem zL {b:Bool}{ks:List Kn}{vs:List Value}{as:di}(ok:∀ k∈ks,mF prog w A k)(x:FlR s.heap ks vs as):∀ {us:List Value} {bs:di} {m:Nat} {Q:Bool→Shared→Prop},(m=0→b=true→∀ k r,ks=k::r→k ≠ .p)→FlR s.heap ks us bs→Q (decide (as < bs)) s→wpAny (model prog w) A (mG b ((vs.zip us).zipIdx m) false) Q E s:=by
 induction x with
 | nil =>
  intro us bs m Q _ y q
  cases y
  exact Br (by simpa using q)
 | @cons k ks v vs a as x r ih =>
  intro us bs m Q hp y q
  cases y with
  | @cons _ _ u us c bs y r2 =>
  rw [Ds,Gz,o_]
  have K:=ok k BC
  rw [pe] at q
  refine Bp (K.eq x y ?_)
  by_cases e:a=c
  ·rw [BD e,if_pos rfl]
   rw [if_pos e] at q
   exact ih (fun k hk=>ok k (Bw _ hk)) (fun z=>by omega) r2 q
  ·rw [Bs e,if_neg (by decide)]
   rw [if_neg e] at q
   refine K.lt (fun z=>?_) x y e q
   have z:(b && (m == 0))=true:=z
   rw [BZ] at z
   exact hp (by simpa using z.2) z.1 _ _ rfl
theorem zM {f:Kn}{sh:List Int→List Kn}{b:Bool}{x y:Value}{k l:di}{Q:Bool→Shared→Prop}(hf:f ≠ .p)(okf:mF prog w A f)(ok:∀ a,∀ k∈sh a,mF prog w A k)(hx:Kd f sh s.heap x k)(hy:Kd f sh s.heap y l)(h:Q (decide (k < l)) s) :
  wpAny (model prog w) A (keyLt' (tuples' b) x y) Q E s:=by
 obtain ⟨a,o,vs,n,rfl,e,_,d,g⟩:=hx
 obtain ⟨a',o',us,n',rfl,e',_,d',g'⟩:=hy
 rw [o9]
 refine Bp (E4 e d (Bp (E4 e' d' ?_)))
 cases g with
 | @cons _ _ v vs a as x r =>
 cases g' with
 | @cons _ _ u us c bs y r2 =>
 show wpAny _ _ (mG b ((v::vs).zip (u::us)).zipIdx _) Q E s
 rw [Ds,Gz,o_]
 rw [pe] at h
 refine Bp (okf.eq x y ?_)
 by_cases e2:a=c
 ·subst e2
  rw [BD rfl,if_pos rfl]
  rw [if_pos rfl] at h
  have hz:decide ((v::vs).toArray.size < (u::us).toArray.size)=false:=by
   have:=r.len r2
   simp [this]
  rw [hz]
  exact zL (ok _) r (fun z=>by omega) r2 h
 ·rw [Bs e2,if_neg (by decide)]
  rw [if_neg e2] at h
  exact okf.lt (fun _=>hf) x y e2 h
theorem ph {α β:Type}{g:α→Sem β}{f:α→β}:∀ {vs:List α} {Q:List β→Shared→Prop},(∀ v∈vs,∀ Q:β→Shared→Prop,Q (f v) s→wpAny (model prog w) A (g v) Q E s)→Q (vs.map f) s→wpAny (model prog w) A (vs.mapM g) Q E s
 | [],Q,_,h=>by rw [List.mapM_nil];exact Br h
 | v::vs,Q,hg,h=>by
  rw [List.mapM_cons]
  refine Bp (hg v BC _ (Bp (ph (fun u hu=>hg u (Bw _ hu)) (Br ?_))))
  exact h
def mH (h:Heap):Value→Option Value:=fun v=>match v with
 | .ref a=>match h.get? a with
  | some o=>match o.data with
   | .seq xs _=>xs[0]?
   | _=>none
  | none=>none
 | _=>none
theorem uZ {f:Kn}{sh:List Int→List Kn}{vs:List Value}(hf:f ≠ .p)(hv:∀ v∈vs,∃ k,Kd f sh s.heap v k)(ne:vs≠[]){Q:SortKind→Shared→Prop}(h:Q (tuples' true) s):wpAny (model prog w) A (keyKind' vs.toArray) Q E s:=by
 rw [keyKind'_eq,List.mapM_toArray]
 show wpAny _ _ ((List.toArray <$> vs.mapM firstOfTuple') >>= _) Q E s
 have hq:∀ v∈vs,∃ a o xs n x c,v = .ref a∧s.heap.get? a=some o∧o.cls = .type "tuple"∧o.data = .seq (x::xs:List Value).toArray n∧mH s.heap v=some x∧f.R s.heap x c:=fun v hv'=>by
  obtain ⟨k,a,o,us,n,rfl,e,hc,d,g⟩:=hv v hv'
  cases g with
  | @cons _ _ x xs c as q r =>
   refine ⟨a,o,xs,n,x,c,rfl,e,hc,d,?_,q⟩
   unfold mH
   dsimp only
   rw [e]
   dsimp only
   rw [d]
   rfl
 refine Bp (wpAny_map (ph (f:=mH s.heap) (fun v hv' Q' q=>?_) ?_))
 ·obtain ⟨a,o,xs,n,x,c,rfl,e,hc,d,ef,_⟩:=hq v hv'
  show wpAny _ _ (typeOf (.ref a) >>= fun ty=>if (ty != Value.type "tuple")=true then pure none else (do let xs ← Builtin.List.listItems (.ref a);pure xs[0]?)) Q' E s
  refine Bp (FB (T:="tuple") ⟨o,e,hc⟩ ?_)
  have ht:(Value.type "tuple" != Value.type "tuple")=false:=by rfl
  rw [ht]
  simp only [BR,CU]
  refine Bp (E4 e d (Br ?_))
  rw [ef] at q
  exact q
 ·have h1:((vs.map (mH s.heap)).toArray.all (·.isSome))=true:=by
   simp only [List.all_toArray,List.all_map,En]
   intro v hv'
   obtain ⟨_,_,_,_,x,_,_,_,_,_,ef,_⟩:=hq v hv'
   show (mH s.heap v).isSome=true
   rw [ef]
   rfl
  rw [if_pos h1]
  refine Bp (DM ?_)
  obtain ⟨T,hTn,hT⟩:∃ T:Value,(T != Value.type "tuple")=true∧((vs.map (mH s.heap)).filterMap id).mapM typeOf=pure (((vs.map (mH s.heap)).filterMap id).map fun _=>T):=by
   clear h1 ne hv h
   cases f with
   | p=>exact absurd rfl hf
   | i =>
    refine ⟨.type "int",rfl,mapM_typeOf_ints (ns:=((vs.map (mH s.heap)).filterMap id).map Ts.iOf) ?_⟩
    refine Ts.iq _ fun x hx=>?_
    obtain ⟨y,hy,e⟩:=Fx.mp hx
    obtain ⟨v,hv',rfl⟩:=B2.mp hy
    obtain ⟨_,_,_,_,x',_,_,_,_,_,ef,i,t,rfl,_⟩:=hq v hv'
    rw [ef] at e
    cases e
    exact ⟨i,t,rfl⟩
   | s =>
    refine ⟨.type "str",rfl,?_⟩
    obtain ⟨ns,hI⟩:∃ ns,StrsAre ((vs.map (mH s.heap)).filterMap id) ns:=by
     induction vs with
     | nil=>exact ⟨[],.nil⟩
     | cons v r ih =>
      obtain ⟨_,_,_,_,x',_,_,_,_,_,ef,i,t,rfl,_⟩:=hq v BC
      obtain ⟨ns,q⟩:=ih fun u hu=>hq u (Bw _ hu)
      refine ⟨i::ns,?_⟩
      rw [Cd,ef]
      exact .cons i t q
    exact mapM_typeOf_strs hI
  have e2:(vs.map (mH s.heap)).toArray.filterMap id=((vs.map (mH s.heap)).filterMap id).toArray:=by simp
  rw [e2,oneTypeOnly'_eq,List.mapM_toArray,hT]
  simp only [map_pure,pure_bind]
  have ne2:(vs.map (mH s.heap)).filterMap id≠[]:=by
   cases vs with
   | nil=>exact absurd rfl ne
   | cons v r =>
    obtain ⟨_,_,_,_,x',_,_,_,_,_,ef,_⟩:=hq v BC
    rw [Cd,ef]
    simp
  generalize (vs.map (mH s.heap)).filterMap id=fs at ne2
  cases fs with
  | nil=>exact absurd rfl ne2
  | cons x r =>
   have h0:(List.map (fun _=>T) (x::r)).toArray[0]? = some T:=by simp
   have hall:((List.map (fun _=>T) (x::r)).toArray.all fun y=>y == T)=true:=by
    simp only [List.all_toArray,List.all_map,En]
    intro _ _
    exact Gu T
   rw [h0]
   simp only [hall,DH,pure_bind]
   refine Br ?_
   rw [show Option.any (fun x=>x != Value.type "tuple") (some T)=true from hTn]
   exact h
end
end Tv
namespace Tv
open PySem PyProof.Rows
def qle (k l:di):Prop:=¬ l < k
theorem fJ {α:Type}:∀ (l:List α),l.zip l=l.map fun x=>(x,x)
 | []=>rfl
 | x::r=>by rw [Ds,fJ r];rfl
section
variable {prog:Program} {w:World} {A:Around} {E:Value→Shared→Prop} {s:Shared}
end
end Tv
namespace L2
open PySem PySem.Spec PyProof.Rows Wd Tv
section
variable {X:Cx}
theorem eE:∀ {as:List Addr} {us:List Value},a8 (as.map V.ref) us→us=as.map Value.ref
 | [],_,.nil=>rfl
 | a::as,_,.cons r t=>by cases r;rw [eE t];rfl
theorem gz:∀ (as:List Addr),a8 (as.map V.ref) (as.map Value.ref)
 | []=>.nil
 | a::as=>.cons rfl (gz as)
inductive FlQ (H:Hp):List Kn→List V→di→Prop
 | nil:FlQ H [] [] []
 | i {ks:List Kn} {xs:List V} {as:di} (i:Int) (r:FlQ H ks xs as):FlQ H (.i::ks) (.int i::xs) ([i]::as)
 | s {ks:List Kn} {xs:List V} {as:di} (x:Str) (r:FlQ H ks xs as):FlQ H (.s::ks) (.str x::xs) (x.cps.toList.map Int.ofNat::as)
 | p {ks:List Kn} {xs:List V} {as:di} {b:Addr} {i j:Int} (p:H b=some (.tup [.int i,.int j])) (r:FlQ H ks xs as):FlQ H (.p::ks) (.ref b::xs) ([i,j]::as)
def KdQ (f:Kn)(sh:List Int→List Kn)(H:Hp)(a:Addr)(k:di):Prop:=∃ xs,H a=some (.tup xs)∧FlQ H (f::sh (k.headD [])) xs k
theorem xE {Hz:List (Addr × Obj)}{σ:St}{H:Hp}{s:Shared}(I:Inv X Hz σ H s){ks:List Kn}{xs:List V}{as:di}(f:FlQ H ks xs as):∀ {us:List Value},a8 xs us→FlR s.heap ks us as:=by
 induction f with
 | nil=>intro us r;cases r;exact .nil
 | i i f ih =>
  intro us r
  cases r with
  | cons r1 r2 =>
   obtain ⟨t,rfl⟩:=r1
   exact .cons ⟨i,t,rfl,rfl⟩ (ih r2)
 | s x f ih =>
  intro us r
  cases r with
  | cons r1 r2 =>
   obtain ⟨t,rfl⟩:=r1
   exact .cons ⟨x,t,rfl,rfl⟩ (ih r2)
 | @p ks xs as b i j p f ih =>
  intro us r
  cases r with
  | cons r1 r2 =>
   cases r1
   obtain ⟨HE,r,pl,_⟩:=I.tuple (SqT.of p)
   obtain ⟨u1,u2,rfl,⟨t,rfl⟩,⟨u,rfl⟩⟩:=ue r
   obtain ⟨o,e,c,n,d⟩:=pl
   exact .cons ⟨i,j,⟨b,o,t,u,n,rfl,e,c,d⟩,rfl⟩ (ih r2)
theorem xF {Hz:List (Addr × Obj)}{σ:St}{H:Hp}{s:Shared}(I:Inv X Hz σ H s){f:Kn}{sh:List Int→List Kn}{a:Addr}{k:di}(h:KdQ f sh H a k):Kd f sh s.heap (.ref a) k:=by
 obtain ⟨xs,h1,h2⟩:=h
 obtain ⟨HE,r,pl,_⟩:=I.tuple (SqT.of h1)
 obtain ⟨o,e,c,n,d⟩:=pl
 exact ⟨a,o,HE,n,rfl,e,c,d,xE I h2 r⟩
end
end L2
namespace Tv
open PySem PyProof.Rows
section
variable {prog:Program} {w:World} {A:Around} {E:Value→Shared→Prop} {s:Shared}
theorem rM {f:Kn}{sh:List Int→List Kn}{zs0:List (Addr × di)}{h:Heap}(hp:∀ z∈zs0,Kd f sh h (.ref z.1) z.2){xs:Array Keyed}(pm:xs.Perm (pairsOf (zs0.map fun z=>Value.ref z.1)))(hs:SortedToK (kdK f sh h) xs (pairsOf (zs0.map fun z=>Value.ref z.1)).size) :
  ∃ zs:List (Addr × di),zs.Perm zs0∧(xs.map (·.2)).toList=zs.map (fun z=>Value.ref z.1)∧(zs.map (·.2)).Pairwise qle:=by
 have hl:xs.toList.Perm (zs0.map fun z=>(Value.ref z.1,Value.ref z.1)):=by
  have:=Dg.mp pm
  rw [FN,fJ,Dd] at this
  exact this
 obtain ⟨zs,h1,h2⟩:=L2.fE (fun z:Addr × di=>((Value.ref z.1,Value.ref z.1):Keyed)) hl.symm zs0 rfl
 refine ⟨zs,h1,?_,?_⟩
 ·rw [Array.toList_map,h2,Dd]
  rfl
 ·have hz:zs.length=xs.size:=by rw [← Bx,h2,Bo]
  rw [C6]
  intro i j hi hj HP
  rw [Bo] at hi hj
  have q:=hs i j (D0 HP) (by rw [← pm.size_eq];omega)
  have key:∀ k (hk:k < zs.length),KK (kdK f sh h) xs k=zs[k].2:=fun k hk=>by
   unfold KK
   have e:xs[k]? = some (Value.ref zs[k].1,Value.ref zs[k].1):=by
    rw [← Cj,h2,BH,fu hk]
    rfl
   rw [e]
   show ((wc f sh h (.ref zs[k].1)).getD [])=_
   rw [(hp _ (h1.mem_iff.mp (Ck hk))).of]
   rfl
  rw [key i hi,key j hj] at q
  rw [GA,GA]
  exact FE q
theorem tq {f:Kn}{sh:List Int→List Kn}(hf:f ≠ .p)(okf:mF prog w A f)(ok:∀ a,∀ k∈sh a,mF prog w A k){a:Addr}{zs0:List (Addr × di)}{m:Nat}{P:Fin→Shared→Prop}(at_:s.heap.get? a=some (seqObj "list" (zs0.map fun z=>Value.ref z.1).toArray m))(hp:∀ z∈zs0,Kd f sh s.heap (.ref z.1) z.2)(lim:zs0.length≤sizeLine)
  (q:∀ (out:Array Value) (zs:List (Addr × di)),zs.Perm zs0→out.toList=zs.map (fun z=>Value.ref z.1)→(zs.map (·.2)).Pairwise qle→P (.done (.ret .none)) { s with heap:=sortedHeap s.heap a (zs0.map fun z=>Value.ref z.1) out }) :
  wpAny (model prog w) A (Builtin.«list.sort» ⟨[.ref a],[]⟩) P E s:=by
 have la:=BS at_
 -- the pairs stay while the list is empty
 have stay:∀ z∈zs0,Kd f sh (((s.heap.update a (Obj.mapSeq fun _=>#[])).push (seqObj "tuple" (zs0.map fun z=>Value.ref z.1).toArray 0)).push (seqObj "list" #[] 0)) (.ref z.1) z.2:=fun z hz=>by
  refine Kd.stay (fun b o g c=>?_) (hp z hz)
  have hba:b≠a:=fun x=>by
   subst x
   rw [at_] at g
   rw [← BA g] at c
   simp [seqObj] at c
  exact Bz _ (Bz _ ((CH _ _ (Ne.symm hba)).trans g))
 refine sort_any (κ:=kdK f sh (((s.heap.update a (Obj.mapSeq fun _=>#[])).push (seqObj "tuple" (zs0.map fun z=>Value.ref z.1).toArray 0)).push (seqObj "list" #[] 0))) (kd:=tuples' true) at_ ?_ ?_ ?_ (by rw [Bo];exact lim) ?_
 ·intro p hp'
  rw [FN,fJ,Dd] at hp'
  obtain ⟨z,hz,rfl⟩:=B2.mp hp'
  exact ⟨_,(stay z hz).of⟩
 ·intro E' x y ka kb Q' hx hy hq
  exact zM hf okf ok (Kd.is hx) (Kd.is hy) hq
 ·intro x y r e Q' hq
  refine uZ (f:=f) (sh:=sh) hf (fun v hv=>?_) (by simp) hq
  rw [← e] at hv
  obtain ⟨z,hz,rfl⟩:=B2.mp hv
  exact ⟨_,stay z hz⟩
 ·intro st c1 c2
  obtain ⟨zs,h1,h2,h3⟩:=rM stay c1 c2
  exact q _ zs h1 h2 h3
theorem pj {f:Kn}{sh:List Int→List Kn}(hf:f ≠ .p)(okf:∀ A':Around,A'.units≤A.units+8→mF prog w A' f)(ok:∀ A':Around,A'.units≤A.units+8→∀ a,∀ k∈sh a,mF prog w A' k){l:Addr}{zs0:List (Addr × di)}{Q:Value→Shared→Prop}(hl:s.heap.IsList l (zs0.map fun z=>Value.ref z.1).toArray ∨ s.heap.IsTuple l (zs0.map fun z=>Value.ref z.1).toArray)(hp:∀ z∈zs0,Kd f sh s.heap (.ref z.1) z.2)(lim:zs0.length≤sizeLine)
  (q:∀ (out:Array Value) (zs:List (Addr × di)),zs.Perm zs0→out.toList=zs.map (fun z=>Value.ref z.1)→(zs.map (·.2)).Pairwise qle→Q (.ref (s.heap.objs.size+1)) { s with heap:=sortedAll s.heap (zs0.map fun z=>Value.ref z.1) out }) :
  wpAny (model prog w) A (call (.builtin "sorted") [.ref l]) Q E s:=by
 have lim':(zs0.map fun z=>Value.ref z.1).length≤sizeLine:=by rw [Bo];exact lim
 refine FO kind_sorted plain_sorted entry_sorted (args_sorted1 _) ?_
 unfold Builtin.«sorted»
 rcases hl with hl | hl
 ·refine Bp (m:=checkCount "sorted" 1 1 _) (Br (Bp (collect_list hl (Bp (Ef ?_)) (hsz:=lim'))))
  have z1:((s.heap.push (seqObj "list" #[] 0)).update s.heap.objs.size (Obj.mapSeq (· ++ (zs0.map fun z=>Value.ref z.1).toArray))).objs.size=s.heap.objs.size+1:=(E_ ..).trans (size_push' ..)
  have g:(((s.heap.push (seqObj "list" #[] 0)).update s.heap.objs.size (Obj.mapSeq (· ++ (zs0.map fun z=>Value.ref z.1).toArray))).push (seqObj "list" (zs0.map fun z=>Value.ref z.1).toArray 0)).get? (s.heap.objs.size+1)=some (seqObj "list" (zs0.map fun z=>Value.ref z.1).toArray 0):=z1 ▸ BI _ rfl
  have old:∀ b o,s.heap.get? b=some o→(((s.heap.push (seqObj "list" #[] 0)).update s.heap.objs.size (Obj.mapSeq (· ++ (zs0.map fun z=>Value.ref z.1).toArray))).push (seqObj "list" (zs0.map fun z=>Value.ref z.1).toArray 0)).get? b=some o:=fun b o e =>
   Bz _ ((CH _ _ (G3 (BS e))).trans (Bz _ e))
  show wpAny _ _ _ _ _ { s with heap:=((s.heap.push (seqObj "list" #[] 0)).update s.heap.objs.size (Obj.mapSeq (· ++ (zs0.map fun z=>Value.ref z.1).toArray))).push (seqObj "list" (zs0.map fun z=>Value.ref z.1).toArray 0) }
  rw [z1]
  refine Bp (Cw (CI FP ⟨_,g,rfl⟩ Ft (tq (f:=f) (sh:=sh) hf (okf _ (by show A.units+1+1≤_;omega)) (ok _ (by show A.units+1+1≤_;omega)) (zs0:=zs0) g (fun z hz=>(hp z hz).stay fun b o e _=>old b o e) lim fun out zs h1 h2 h3=>⟨_,rfl,?_⟩) (FQ _)))
  exact Br ⟨_,rfl,q _ zs h1 h2 h3⟩
 ·refine Bp (m:=checkCount "sorted" 1 1 _) (Br (Bp (L2.fH hl (Bp (Ef ?_)) (hsz:=lim'))))
  have z1:((s.heap.push (seqObj "list" #[] 0)).update s.heap.objs.size (Obj.mapSeq (· ++ (zs0.map fun z=>Value.ref z.1).toArray))).objs.size=s.heap.objs.size+1:=(E_ ..).trans (size_push' ..)
  have g:(((s.heap.push (seqObj "list" #[] 0)).update s.heap.objs.size (Obj.mapSeq (· ++ (zs0.map fun z=>Value.ref z.1).toArray))).push (seqObj "list" (zs0.map fun z=>Value.ref z.1).toArray 0)).get? (s.heap.objs.size+1)=some (seqObj "list" (zs0.map fun z=>Value.ref z.1).toArray 0):=z1 ▸ BI _ rfl
  have old:∀ b o,s.heap.get? b=some o→(((s.heap.push (seqObj "list" #[] 0)).update s.heap.objs.size (Obj.mapSeq (· ++ (zs0.map fun z=>Value.ref z.1).toArray))).push (seqObj "list" (zs0.map fun z=>Value.ref z.1).toArray 0)).get? b=some o:=fun b o e =>
   Bz _ ((CH _ _ (G3 (BS e))).trans (Bz _ e))
  show wpAny _ _ _ _ _ { s with heap:=((s.heap.push (seqObj "list" #[] 0)).update s.heap.objs.size (Obj.mapSeq (· ++ (zs0.map fun z=>Value.ref z.1).toArray))).push (seqObj "list" (zs0.map fun z=>Value.ref z.1).toArray 0) }
  rw [z1]
  refine Bp (Cw (CI FP ⟨_,g,rfl⟩ Ft (tq (f:=f) (sh:=sh) hf (okf _ (by show A.units+1+1≤_;omega)) (ok _ (by show A.units+1+1≤_;omega)) (zs0:=zs0) g (fun z hz=>(hp z hz).stay fun b o e _=>old b o e) lim fun out zs h1 h2 h3=>⟨_,rfl,?_⟩) (FQ _)))
  exact Br ⟨_,rfl,q _ zs h1 h2 h3⟩
end
end Tv
namespace L2
open PySem PySem.Spec PyProof.Rows Wd Tv
section
variable {X:Cx}
inductive b_ (f:Kn)(sh:List Int→List Kn)(K:PySem.W.Frag)(xs:List V)(H:Hp)(Q:VK):Prop
 | mk:∀ (l:Addr) (zs0:List (Addr × di)),(xs=[.ref l])→(SqL K H l ((zs0.map (·.1)).map V.ref) ∨ SqT K H l ((zs0.map (·.1)).map V.ref))→(∀ z∈zs0,KdQ f sh H z.1 z.2) →
   (∀ (p:Addr) (zs:List (Addr × di)),H p=none→zs.Perm zs0→(zs.map (·.2)).Pairwise qle→Q (.ref p) (upd H p (.lst ((zs.map (·.1)).map V.ref))))→b_ f sh K xs H Q
theorem ir {f:Kn}{sh:List Int→List Kn}{K:PySem.W.Frag}(hf:f ≠ .p)(okf:∀ A:Around,A.units≤X.A.units+8→mF X.prog X.w A f)(ok:∀ A:Around,A.units≤X.A.units+8→∀ a,∀ k∈sh a,mF X.prog X.w A k)(hK:X.K=K):dE X (.builtin "sorted") (b_ f sh K):=by
 subst hK
 intro Hz s σ H xs us Q I r h
 obtain ⟨l,zs0,rfl,hq,hp,q⟩:=h
 obtain ⟨u,rfl,ru⟩:=dJ r
 cases ru
 have em:∀ zs:List (Addr × di),(zs.map (·.1)).map Value.ref=zs.map fun z=>Value.ref z.1:=fun zs=>by rw [Dd];rfl
 obtain ⟨pl,hz⟩:(s.heap.IsList l (zs0.map fun z=>Value.ref z.1).toArray ∨ s.heap.IsTuple l (zs0.map fun z=>Value.ref z.1).toArray)∧((zs0.map (·.1)).map V.ref).length≤sizeLine:=by
  rcases hq with hq | hq
  ·obtain ⟨HE,rv,pl,hz⟩:=I.list hq
   rw [eE rv,em] at pl
   exact ⟨.inl pl.isList,hz⟩
  ·obtain ⟨HE,rv,pl,hz⟩:=I.tuple hq
   rw [eE rv,em] at pl
   exact ⟨.inr pl,hz⟩
 rw [Bo,Bo] at hz
 refine pj hf okf ok pl (fun z Il=>xF I (hp z Il)) hz fun out zs h1 h2 h3=>?_
 obtain ⟨e,he⟩:=sortedAll_at s.heap (zs0.map fun z=>Value.ref z.1) out
 have I2:Inv X Hz σ (upd H (s.heap.objs.size+1) (.lst ((zs.map (·.1)).map V.ref))) { s with heap:=sortedAll s.heap (zs0.map fun z=>Value.ref z.1) out,toks:=s.toks } :=
  I.laid (fun b o e=>sortedAll_old e) (ET _) ⟨by rw [Bo,Bo,h1.length_eq];exact hz,out.toList,e,by rw [h2,← em];exact gz _,by simpa [seqObj] using he⟩
 exact ⟨.ref (s.heap.objs.size+1),_,I2,rfl,q _ zs (I.hok.fresh (ET _)) h1 h3⟩
end
end L2
namespace Tv
open PySem PyProof.Rows
theorem Ba {prog:Program}{w:World}{A:Around}(hu:A.units+8 < cLine):mF prog w A .p:=by
 refine ⟨fun {s E v u a b Q} x y q=>?_,fun {s E c v u a b Q} hc x y ne q=>?_⟩
 ·obtain ⟨i,j,⟨a,o,t,t',n,rfl,e,hc,d⟩,rfl⟩:=x
  obtain ⟨k,l,⟨a2,o2,t2,t2',n2,rfl,e2,hc2,d2⟩,rfl⟩:=y
  have rd:∀ {a:Addr} {o:Obj} {t t':Tok} {n:Nat} {i j:Int},s.heap.get? a=some o→o.cls = .type "tuple"→o.data = .seq #[.int i t,.int j t'] n→Reads s.heap (.ref a) (.tuple [.int i,.int j]) []:=fun g1 g2 g3=>.tuple g1 g2 g3 (.cons (as:=[]) (bs:=[]) (.int _ _) (.cons (as:=[]) (bs:=[]) (.int _ _) .nil))
  refine GB _ _ A s _ _ _ _ (rd e hc d) (rd e2 hc2 d2) rfl rfl (by show A.units+min 1 1 < cLine;omega) prog w E _ ?_
  have eq:PyData.eqv (.tuple [.int i,.int j]) (.tuple [.int k,.int l])=((i == k) && ((j == l) && true)):=rfl
  rw [eq]
  have:decide ([i,j]=[k,l])=((i == k) && ((j == l) && true)):=by
   rw [BX]
   simp
  rwa [this] at q
 ·obtain ⟨i,j,⟨a,o,t,t',n,rfl,e,hc1,d⟩,rfl⟩:=x
  obtain ⟨k,l,⟨a2,o2,t2,t2',n2,rfl,e2,hc2,d2⟩,rfl⟩:=y
  have hb:c=false:=by
   cases c with
   | true=>exact absurd rfl (hc rfl)
   | false=>rfl
  rw [hb,oneLt'_eq]
  simp only [BR,CU]
  refine Bp (HT.gg ⟨o,e,hc1,n,d⟩ ⟨o2,e2,hc2,n2,d2⟩ (.cons _ _ (.cons _ _ .nil)) (.cons _ _ (.cons _ _ .nil)) (by omega) (Di ?_))
  have:HT.bR [i,j] [k,l]=decide ([i,j] < [k,l]):=by
   rw [BX,BE,Dr,Dr,HT.bU,HT.bU]
   by_cases c1:i=k
   ·have c2:¬ j=l:=fun z=>ne (by rw [c1,z])
    rw [if_pos c1,if_neg c2,BE]
    exact ⟨fun h=>.inr ⟨c1,.inl h⟩,fun h=>h.elim (fun h=>by omega) fun h=>h.2.elim id fun h=>absurd h.1 c2⟩
   ·rw [if_neg c1,BE]
    exact ⟨.inl,fun h=>h.elim id fun h=>absurd h.1 c1⟩
  rw [this]
  exact q
theorem tu {prog:Program}{w:World}{A:Around}(hu:A.units+8 < cLine):∀ k,mF prog w A k
 | .i=>A9
 | .s=>A_
 | .p=>Ba hu
end Tv
namespace L2
open PySem PySem.Spec PyProof.Rows Wd Tv
theorem fW {X:Cx}{f:Kn}{sh:List Int→List Kn}{K:PySem.W.Frag}(hf:f ≠ .p)(hu:X.A.units+64 < cLine)(hK:X.K=K):dE X (.builtin "sorted") (b_ f sh K):=ir hf (fun A h=>tu (by omega) f) (fun A h _ k _=>tu (by omega) k) hK
end L2
namespace L2
open PySem PySem.Spec PyProof.Rows
section
variable {X:Cx}
inductive xG (x:V)(vs:List V)(H:Hp)(Q:VK):Prop
 | mk:∀ (l:Addr) (xs:List V) (y:V) (ds:List PyData) (dy:PyData) (j:Nat),(x = .ref l)→(vs=[y])→(H l=some (.lst xs))→(Dts H xs ds)→(Dt H y dy)→(PyData.canLayAll0 ds=true)→(dy.canLay0=true)→(PyData.depthAll ds≤9)→(xs.length≤100000) →
   ((ds[j]?).map (fun d=>PyData.eqv d dy)=some true)→(∀ i,i < j→(ds[i]?).map (fun d=>PyData.eqv d dy)=some false)→(Q (.int (j:Int)) H)→xG x vs H Q
theorem pk {H:Hp}{h:Heap}{P:Program}{w:World}(ok:HOk P w H h):∀ {xs:List V} {ds:List PyData} {us:List Value},Dts H xs ds→a8 xs us→ds.length=us.length∧∀ (i:Nat) (u:Value),us[i]? = some u→∃ d as,ds[i]? = some d∧Reads h u d as
 | _,_,_,.nil,r=>by cases r;exact ⟨rfl,fun i u e=>by simp at e⟩
 | _,_,_,.cons a q,r=>by
  cases r with
  | cons r1 r2 =>
   obtain ⟨hl,hg⟩:=pk ok q r2
   refine ⟨by rw [Cn,Cn,hl],fun i u e=>?_⟩
   cases i with
   | zero =>
    simp only [List.getElem?_cons_zero,FW] at e
    subst e
    obtain ⟨as,ra⟩:=a.reads ok r1
    exact ⟨_,as,rfl,ra⟩
   | succ i =>
    obtain ⟨d,as,h1,h2⟩:=hg i u (by simpa using e)
    exact ⟨d,as,by simpa using h1,h2⟩
theorem pq:∀ {ds:List PyData},PyData.canLayAll0 ds=true→∀ d∈ds,d.canLay0=true
 | [],_,d,h=>by cases h
 | e::r,h,d,hd=>by
  have h:(e.canLay0 && PyData.canLayAll0 r)=true:=by rw [PyData.canLayAll0] at h;exact h
  rw [BZ] at h
  rcases BU.mp hd with rfl | hd
  ·exact h.1
  ·exact pq h.2 d hd
theorem pz:∀ {ds:List PyData},∀ d∈ds,d.depth≤PyData.depthAll ds
 | e::r,d,hd=>by
  show _≤max e.depth (PyData.depthAll r)
  rcases BU.mp hd with rfl | hd
  ·omega
  ·have:=pz (ds:=r) d hd
   omega
open Classical in
def wd (h:Heap)(dy:PyData)(v:Value):Bool:=if ∃ d as,Reads h v d as∧PyData.eqv d dy=true then true else false
theorem pA {h:Heap}{dy d:PyData}{v:Value}{as:List Addr}(r:Reads h v d as):wd h dy v=PyData.eqv d dy:=by
 unfold wd
 split
 ·rename_i q
  obtain ⟨d',as',r',e⟩:=q
  rw [(r.unique _ _ r').1,e]
 ·rename_i q
  cases e:PyData.eqv d dy with
  | false=>rfl
  | true=>exact absurd ⟨d,as,r,e⟩ q
theorem gC (hu:X.A.units+64 < cLine):MtR X "list.index" xG:=by
 intro Hz s σ H x vs v us Q I rx rv h
 obtain ⟨l,xs,y,ds,dy,j,rfl,rfl,hH,hd,hy,ld,ly,dp,hn,hit,hno,q⟩:=h
 cases rx
 obtain ⟨u,rfl,ru⟩:=dJ rv
 obtain ⟨HE,n,r,e,_⟩:=I.lst hH
 obtain ⟨bs,rb⟩:=hy.reads I.hok ru
 obtain ⟨hl,hg⟩:=pk I.hok hd r
 have ev:∀ (i:Nat) (w:Value),HE[i]? = some w→∃ d,ds[i]? = some d∧wd s.heap dy w=PyData.eqv d dy:=fun i w ei=>by
  obtain ⟨d,as,h1,h2⟩:=hg i w ei
  exact ⟨d,h1,pA h2⟩
 have hj:j < HE.length:=by
  cases hq:ds[j]? with
  | none=>rw [hq] at hit;cases hit
  | some d=>rw [← hl];exact (Bv.mp hq).1
 have hxl:HE.length=xs.length:=r.length.symm
 refine Fl F.slot_list_index ⟨_,e,rfl⟩ F.entry_list_index (F.args_list_index_2 _ _) (SeqAt.list_indexAt l _ _ _ _ u (wd s.heap dy) j (by simpa using hj) (by omega) ?_ ?_) ⟨e,fun w hw=>?_,?_⟩
 ·obtain ⟨d,h1,h2⟩:=ev j HE[j] (fu hj)
  rw [h1] at hit
  have hit:=BA hit
  show wd s.heap dy HE.toArray[j]=true
  rw [List.getElem_toArray,h2]
  exact hit
 ·intro m hm hmj
  have hm':m < HE.length:=by simpa using hm
  obtain ⟨d,h1,h2⟩:=ev m HE[m] (fu hm')
  have q:=hno m hmj
  rw [h1] at q
  show wd s.heap dy HE.toArray[m]=false
  rw [List.getElem_toArray,h2]
  exact BA q
 ·have hw:w∈HE:=by rw [← List.mem_toArray];exact hw
  obtain ⟨i,hi,ei⟩:=List.mem_iff_getElem.mp hw
  obtain ⟨d,as,h1,h2⟩:=hg i w (by rw [fu hi,ei])
  rw [pA h2]
  have dm:=BQ h1
  have dd:=pz d dm
  refine GB _ _ _ _ _ _ _ _ h2 rb (pq ld d dm) ly ?_
  show X.A.units+1+min d.depth dy.depth < cLine
  omega
 ·exact ⟨.int _,H,I.tok _,⟨_,rfl⟩,q⟩
end
end L2
namespace HT
open PySem PyProof.Rows
theorem rN (A:Around)(s:Shared)(a:Int)(t:Tok)(c:Int)(u:Tok)(prog:Program)(w:World)(E:Value→Shared→Prop)(Q:Value→Shared→Prop)(h:Q (.bool (decide (c < a))) s) :
  wpAny (model prog w) A (richCompare .Gt (.int a t) (.int c u)) Q E s :=
 (PyProof.Rows.gt_int (by exact h):wpAny (model prog w) A (compareOp .Gt (.int a t) (.int c u)) Q E s)
section
open PySem.SeqAt
open PySem.AutoSeq1 (wpAny_loadPart')
open PySem.MeetsSeq PySem.MeetsSeq2 PySem.MeetsSeq3
theorem iu (l b:Addr)(items HJ:Array Value)(n n2:Nat)(dd dd2:Option Addr)(sl sl2:Array (Option Value))(ns ms:List Int)(hi:IntsAre items.toList ns)(hj:IntsAre HJ.toList ms) :
  Meets (Builtin.«tuple.__gt__» ⟨[.ref l,.ref b],[]⟩)
   (fun _ R s=>s.heap.get? l=some { cls:=.type "tuple",dict:=dd,data:=.seq items n,slots:=sl }∧s.heap.get? b=some { cls:=.type "tuple",dict:=dd2,data:=.seq HJ n2,slots:=sl2 } ∧
    R (.ok (.ret (.bool (bR ms ns)))) s) :=
 .of_wp fun prog w A R s h=>by
  obtain ⟨hp,g,d,tk,os⟩:=s;obtain ⟨hl,hb,h⟩:=h
  have f2:=FS
  have z1:items.size=ns.length:=by rw [← hi.length];simp
  have z2:HJ.size=ms.length:=by rw [← hj.length];simp
  wp_walk using wpAny_loadPart' hl,wpAny_loadPart' hb,wpAny_forIn_list _ (fun rest b s'=>b.1=none∧s'=⟨hp,g,d,tk,os⟩∧∃ (vs ws:List Value) (ns' ms':List Int),rest=vs.zip ws ∧
   IntsAre vs ns'∧IntsAre ws ms'∧ns'.length+HJ.size=ms'.length+items.size∧R (.ok (.ret (.bool (bR ms' ns')))) ⟨hp,g,d,tk,os⟩) _
  case turn =>
   rintro ⟨y,x⟩ rest b s' ⟨hb',rfl,vs,ws,ns',ms',hz,hvi,hwi,hlen,hR⟩
   cases hvi with
   | nil=>rw [List.zip_nil_left] at hz;cases hz
   | cons a t hvi' =>
    cases hwi with
    | nil=>rw [List.zip_nil_right] at hz;cases hz
    | cons c u hwi' =>
     rw [Ds] at hz
     injection hz with hyx hrest
     injection hyx with hy hx
     subst hy hx
     rw [bU] at hR
     simp only [Cn] at hlen
     obtain ⟨e,he,hiff⟩:=kG A.in1 ⟨hp,g,d,tk,os⟩ a t c u
     refine Bp (he prog w _ _ ?_)
     cases e with
     | true =>
      rw [if_pos (hiff.mp rfl).symm] at hR
      wp_walk
      exact ⟨rfl,rfl,_,_,_,_,hrest,hvi',hwi',by omega,hR⟩
     | false =>
      rw [if_neg (fun q=>absurd (hiff.mpr q.symm) Ca)] at hR
      have hri:=rN A.in1 ⟨hp,g,d,tk,os⟩ a t c u prog w
      wp_walk using hri
      exact ⟨_,rfl,by simpa using hR⟩
  case fin =>
   rintro ⟨b1,b2⟩ s' ⟨hb',rfl,vs,ws,ns',ms',hz,hvi,hwi,hlen,hR⟩
   simp only at hb'
   subst hb'
   have hv:bR ms' ns'=decide (HJ.size < items.size):=by
    cases hvi with
    | nil =>
     cases hwi with
     | nil =>
      simp only [C_] at hlen
      rw [cF]
      exact (Bs (by omega)).symm
     | cons c u hw =>
      simp only [C_,Cn] at hlen
      rw [c9]
      exact (Bs (by omega)).symm
    | cons a t hv =>
     cases hwi with
     | nil =>
      simp only [C_,Cn] at hlen
      rw [c8]
      exact (BD (by omega)).symm
     | cons c u hw =>
      rw [Ds] at hz
      cases hz
   rw [hv] at hR
   wp_walk
   exact ⟨_,rfl,by simpa [Builtin.Tuple.tupleCompareSizes] using hR⟩
  case h =>
   exact ⟨rfl,rfl,items.toList,HJ.toList,ns,ms,rfl,hi,hj,by omega,h⟩
end
section
variable {prog:Program} {w:World} {A:Around} {E:Value→Shared→Prop} {s:Shared}
theorem mI {l b:Addr}{items HJ:Array Value}{ns ms:List Int}{Q:Value→Shared→Prop}(hl:IsTup s.heap l items)(hb:IsTup s.heap b HJ)(hi:IntsAre items.toList ns)(hj:IntsAre HJ.toList ms)
  (hu:A.units < cLine) (h:Q (.bool (bR ms ns)) s):wpAny (model prog w) A (richCompare .Gt (.ref l) (.ref b)) Q E s:=by
 obtain ⟨⟨cls,dd,data,sl⟩,ho,hc,n,hd⟩:=id hl
 obtain ⟨⟨cls2,dd2,data2,sl2⟩,ho2,hc2,n2,hd2⟩:=id hb
 simp only at hc hd hc2 hd2
 subst hc hd hc2 hd2
 exact richCompare_meets_room (op:=.Gt) ⟨_,ho,rfl⟩ ⟨_,ho2,rfl⟩ PySem.F.slot_tuple_gt PySem.F.entry_tuple_gt (PySem.F.args_tuple_gt_2 _ _) (iu l b items HJ n n2 dd dd2 sl sl2 ns ms hi hj)
  ⟨ho,ho2,show Value.bool (bR ms ns)≠Value.notImplemented∧Q (.bool (bR ms ns)) s from ⟨(fun x=>nomatch x),h⟩⟩ hu
end
end HT
namespace L2
open PySem PySem.Spec PyProof.Rows
section
variable {X:Cx}
end
end L2
namespace PySem
open Sem (wp)
section
variable {K:Type} [DecidableEq K] {prog:Program} {w:World} {knd:KeyKind prog w K} {A:Around} {E:Value→Shared→Prop} {s:Shared}
set_option maxHeartbeats 3200000 in
theorem mJ (dd:Nat→List K){z:Str}{zt:Tok}{val:Nat→K}{Q:Value→Shared→Prop}(hh:A.handled=none)(hl:z.cps.all (· < 128)=true)(d0:dd 0=[])(d1:∀ i,val i∈dd i→dd (i+1)=dd i)(d2:∀ i,val i∉dd i→dd (i+1)=dd i++[val i])(dl:∀ i,(dd i).length≤i)(hval:∀ (i:Nat) (v:Value),(∃ c u,z.cps[i]? = some c∧v = .str ⟨#[c]⟩ u)→knd.is (val i) v=true∧v.scannable=true)(hb:z.cps.size+1 < scanBound)
  (h:∀ (h':Heap) (tk:Nat),mD knd h' s.heap.objs.size (dd z.cps.size)→(∀ b o,b < s.heap.objs.size→s.heap.get? b=some o→h'.get? b=some o)→Q (.ref s.heap.objs.size) { s with heap:=h',toks:=tk }) :
  wpAny (model prog w) A (call (.type "set") [.str z zt]) Q E s:=by
 obtain ⟨c,tl,hmro⟩:=F.called_set.mro
 have hmade:=F.called_set.made
 have hsub:=F.called_set.sub
 refine wpAny_call (codeAny_of_tree ?_)
 show wpAny _ _ (callAny (.type "set") _) _ _ _
 refine Br ⟨Code.quiet_builtin _ (by decide +kernel),Ec F.entry_type_call ?_⟩
 rw [Around.under_plain (weight_type_call_type "set" [.str z zt] []) rfl]
 have x1:=F.called_set.notType
 have x2:=F.called_set.canCreate
 have x3:=F.typeCall_set_1 (.str z zt)
 repeat (any_goals (first | assumption | wp_step))
 refine Fy (ik (.str z zt) (E:=E) (Q₁:=fun ob s1=>ob = .ref s.heap.objs.size∧s1={ s with heap:=s.heap.push (sob (ldr w)) }) ⟨rfl,rfl⟩) fun r s1 hr=>?_
 cases r with
 | error e=>exact hr
 | ok fl =>
  cases fl with
  | ret ob =>
   obtain ⟨rfl,rfl⟩:=hr
   have gS:(s.heap.push (sob (ldr w))).get? s.heap.objs.size=some (sob (ldr w)):=BI _ rfl
   have hT:Shared.TypeIs { s with heap:=s.heap.push (sob (ldr w)) } (.ref s.heap.objs.size) "set":=⟨_,gS,rfl⟩
   have x4:=F.called_set.init.lookup
   have x5:=F.called_set.init.bind (.ref s.heap.objs.size)
   repeat (any_goals (first | assumption | wp_step))
   refine Fy (codeAny_call_builtin (R:=wants (fun r s2=>r = .none∧∃ h' tk,s2={ s with heap:=h',toks:=tk }∧mD knd h' s.heap.objs.size (dd z.cps.size)∧(∀ b o,b < s.heap.objs.size→s.heap.get? b=some o→h'.get? b=some o)) E) F.called_set.init.plain F.entry_set_init (check_set_init_1 hT ?_)) fun r2 s2 hr2=>?_
   ·have y1:=F.sub_str_set
    have y2:=F.sub_str_frozenset
    have y3:(Value.type "str" == Value.type "dict")=false:=by decide
    unfold Builtin.«set.__init__» noKeywords Builtin.Frozenset.updateFrom
    generalize hPI:pyIter=PI
    wp_walk
    subst hPI
    refine wpAny_pyIter_ascii hl (Bp (wpAny_runValue ?_))
    have z1:(s.heap.push (sob (ldr w))).objs.size=s.heap.objs.size+1:=FJ ..
    have nf:s.heap.objs.size∉[(s.heap.push (sob (ldr w))).objs.size]:=by
     rw [z1];simp only [Bu]
     exact Cu (Eo _)
    refine zH dd ((Walks.strAscii (by simp [hh]) _ z zt).toS) s.heap.objs.size nf val d1 d2 dl hval hb (z.cps.size - 0) 0 _ (by omega) (Cc _) ⟨_,BI _ rfl,rfl,rfl⟩ ?s0 ?rr
    case s0=>exact ⟨_,#[],0,_,Bz _ gS,⟨rfl,rfl,rfl⟩,rfl,fun e he=>by simp at he,fun k=>by rw [d0];simp,by decide,by rfl,by rw [d0];rfl,⟨rfl,rF⟩,rfl⟩
    case rr =>
     intro s' mv hS'
     obtain ⟨h',g',d',tk',os'⟩:=s'
     obtain rfl:g'=s.gens:=mv.gens
     obtain rfl:d'=s.drawn:=mv.drawn
     obtain rfl:os'=s.os:=mv.os
     show wpAny _ _ _ _ _ _
     refine Br ?_
     show wpAny _ _ (ret Value.none) _ _ _
     refine Br ⟨rfl,h',tk',rfl,hS',fun b o HK e=>mv.heap b o ?_ (Bz _ (Bz _ e))⟩
     simp only [BU,Bu,Co,D6,not_or]
     exact ⟨Cu HK,by rw [z1];exact Cu (FX HK)⟩
   ·cases r2 with
    | error e=>exact hr2
    | ok fl2 =>
     cases fl2 with
     | ret r =>
      obtain ⟨rfl,h',tk,rfl,hS',hk'⟩:=hr2
      repeat (any_goals (first | assumption | wp_step))
      exact h _ _ hS' hk'
     | _=>exact hr2.elim
  | _=>exact hr.elim
end
end PySem
namespace L2
open PySem PySem.Spec PyProof.Rows Wd
section
variable {X:Cx}
inductive dS (P:PySem.Program)(w:PySem.World)(xs:List V)(H:Hp)(Q:VK):Prop
 | mk:∀ (a:Addr) (dl:List Str),(xs=[.ref a])→(H a=some (StO P w a dl))→(Q (.int (dl.length:Int)) H)→dS P w xs H Q
theorem jW:dE X (.builtin "len") (dS X.prog X.w):=by
 intro Hz s σ H xs us Q I r h
 obtain ⟨a,dl,rfl,ha,q⟩:=h
 obtain ⟨u,rfl,ru⟩:=dJ r
 cases ru
 have hS:xx X.prog X.w s.heap a dl:=(I.hok a _ ha).1
 obtain ⟨o,es,ep,t,ho,hex,hd,hel,hm,hb,hf,hn,hpl,hld⟩:=hS
 have hb:es.size < 4096:=hb
 refine call_len_set ho hex hd hf (by omega) ?_
 rw [hn]
 exact ⟨.int (dl.length:Int),H,(I.tok _).tok _,⟨_,rfl⟩,q⟩
inductive dU (K:PySem.W.Frag)(xs:List V)(H:Hp)(Q:VK):Prop
 | mk:∀ p i j,(xs=[.ref p])→(SqL K H p [.int i,.int j])→(Q (.int (if j < i then j else i)) H)→dU K xs H Q
theorem jX (hc:X.calm=true):dE X (.builtin "min") (dU X.K):=by
 intro Hz s σ H xs us Q I r h
 obtain ⟨p,i,j,rfl,hq,q⟩:=h
 obtain ⟨u,rfl,ru⟩:=dJ r
 cases ru
 obtain ⟨HE,rv,pl,_⟩:=I.list hq
 have ht:=pl.isList
 obtain ⟨t,u,rfl⟩:=gs rv
 have HK:p < s.heap.objs.size:=by obtain ⟨_,e,_⟩:=ht;exact BS e
 refine call_min_walk (ES ht ?_)
 refine ⟨_,_,_,_,_,_,fun a b=>decide (nAt i j a < nAt i j b),rfl,Walks.list (A:=X.A.in1) (I.ok.hd hc) _ p (Cu HK) _,⟨⟨_,BI _ rfl,rfl,rfl⟩,ht.push _⟩,fun b hb=>?_,?_,?_,fun v h' tk hP hk=>?_⟩
 ·show b < (s.heap.push _).objs.size
  rw [FJ]
  rcases BU.mp hb with e | hb
  ·rw [e];exact Eo _
  ·rw [Bu.mp hb];exact FX HK
 ·exact Nat.zero_lt_succ 1
 ·refine CmpOf.ints_lt (nAt i j) fun a v hv=>?_
  match a,hv with
  | 0,hv=>exact ⟨t,(BA hv).symm⟩
  | 1,hv=>exact ⟨u,(BA hv).symm⟩
  | (a+2),hv=>simp at hv
 ·have old:∀ b o,s.heap.get? b=some o→h'.get? b=some o:=fun b o e=>hk b o (fun z=>by rw [Bu.mp z] at e;exact absurd (BS e) (CW _)) (Bz _ e)
  have hP:[Value.int i t,Value.int j u].toArray[if decide (j < i)=true then 1 else 0]? = some v:=hP
  by_cases h:j < i
  ·rw [if_pos (BD h)] at hP
   rw [if_pos h] at q
   exact ⟨.int j,H,I.kept old,⟨u,(BA hP).symm⟩,q⟩
  ·rw [Bs h] at hP
   rw [if_neg h] at q
   exact ⟨.int i,H,I.kept old,⟨t,(BA hP).symm⟩,q⟩
inductive dW (K:PySem.W.Frag)(xs:List V)(H:Hp)(Q:VK):Prop
 | mk:∀ p i j,(xs=[.ref p])→(SqL K H p [.int i,.int j])→(Q (.int (if j > i then j else i)) H)→dW K xs H Q
theorem jY (hc:X.calm=true):dE X (.builtin "max") (dW X.K):=by
 intro Hz s σ H xs us Q I r h
 obtain ⟨p,i,j,rfl,hq,q⟩:=h
 obtain ⟨u,rfl,ru⟩:=dJ r
 cases ru
 obtain ⟨HE,rv,pl,_⟩:=I.list hq
 have ht:=pl.isList
 obtain ⟨t,u,rfl⟩:=gs rv
 have HK:p < s.heap.objs.size:=by obtain ⟨_,e,_⟩:=ht;exact BS e
 refine call_max_walk (ES ht ?_)
 refine ⟨_,_,_,_,_,_,fun a b=>decide (nAt i j a > nAt i j b),rfl,Walks.list (A:=X.A.in1) (I.ok.hd hc) _ p (Cu HK) _,⟨⟨_,BI _ rfl,rfl,rfl⟩,ht.push _⟩,fun b hb=>?_,?_,?_,fun v h' tk hP hk=>?_⟩
 ·show b < (s.heap.push _).objs.size
  rw [FJ]
  rcases BU.mp hb with e | hb
  ·rw [e];exact Eo _
  ·rw [Bu.mp hb];exact FX HK
 ·exact Nat.zero_lt_succ 1
 ·refine CmpOf.ints_gt (nAt i j) fun a v hv=>?_
  match a,hv with
  | 0,hv=>exact ⟨t,(BA hv).symm⟩
  | 1,hv=>exact ⟨u,(BA hv).symm⟩
  | (a+2),hv=>simp at hv
 ·have old:∀ b o,s.heap.get? b=some o→h'.get? b=some o:=fun b o e=>hk b o (fun z=>by rw [Bu.mp z] at e;exact absurd (BS e) (CW _)) (Bz _ e)
  have hP:[Value.int i t,Value.int j u].toArray[if decide (j > i)=true then 1 else 0]? = some v:=hP
  by_cases h:j > i
  ·rw [if_pos (BD h)] at hP
   rw [if_pos h] at q
   exact ⟨.int j,H,I.kept old,⟨u,(BA hP).symm⟩,q⟩
  ·rw [Bs h] at hP
   rw [if_neg h] at q
   exact ⟨.int i,H,I.kept old,⟨t,(BA hP).symm⟩,q⟩
inductive AI (K:PySem.W.Frag)(x:V)(y:V)(H:Hp)(Q:VK):Prop
 | mk:∀ a b ns ms,(x = .ref a)→(y = .ref b)→(SqT K H a (ns.map V.int))→(SqT K H b (ms.map V.int))→(Q (.bl (HT.bR ms ns)) H)→AI K x y H Q
theorem xH {K:PySem.W.Frag}(hK:X.K=K)(hu:X.A.units+64 < cLine):OpR X (compareOp .Gt) (AI K):=by
 subst hK
 intro Hz s σ H x y v u Q I rx ry h
 obtain ⟨a,b,ns,ms,rfl,rfl,ha,hb,q⟩:=h
 cases rx
 cases ry
 obtain ⟨HE,r1,p1,_⟩:=I.tuple ha
 obtain ⟨its2,r2,p2,_⟩:=I.tuple hb
 have i1:IntsAre HE.toArray.toList ns:=c4 r1
 have i2:IntsAre its2.toArray.toList ms:=c4 r2
 exact HT.mI p1 p2 i1 i2 (by omega) ⟨.bl (HT.bR ms ns),H,I,rfl,q⟩
inductive cV (P:PySem.Program)(w:PySem.World)(xs:List V)(H:Hp)(Q:VK):Prop
 | mk:∀ (u:List L),(xs=[tx u])→(u.length≤4000)→(∀ (p:Addr) (dl:List Str),H p=none→dl.Nodup→(∀ z,z∈dl ↔ ∃ x∈u,z=toS [x])→Q (.ref p) (upd H p (StO P w p dl)))→cV P w xs H Q
theorem ix (hc:X.calm=true):dE X (.type "set") (cV X.prog X.w):=by
 intro Hz s σ H xs us Q I r h
 obtain ⟨v,rfl,hz,q⟩:=h
 obtain ⟨u,rfl,ru⟩:=dJ r
 obtain ⟨zt,rfl⟩:=ru
 have hsz:(toS v).cps.size=v.length:=bH v
 have hval:∀ (i:Nat) (x:Value),(∃ c u,(toS v).cps[i]? = some c∧x = .str ⟨#[c]⟩ u)→∃ t,x = .str (toS [v.getD i 0]) t:=fun i x ⟨c,u,hc,e⟩=>by
  obtain ⟨y,hy,ey⟩:=eB hc
  refine ⟨u,?_⟩
  rw [e,ey,By,hy]
  rfl
 refine mJ (knd:=strKind X.prog X.w) (val:=fun i=>toS [v.getD i 0]) (ddp fun i=>toS [v.getD i 0]) (I.ok.hd hc) (Kx.asc v) (by unfold ddp;rfl) (fun i m=>by rw [ddp,if_pos m]) (fun i m=>by rw [ddp,if_neg m]) (oR _) (fun i x e=>by obtain ⟨t,rfl⟩:=hval i x e;exact ⟨strKind_is _ _ _ _,rfl⟩) (by rw [hsz];show _ < 4096;omega) fun h' tk hS k=>?_
 refine ⟨.ref s.heap.objs.size,_,I.laid (fun b o e=>k b o (BS e) e) (BB _) (xx.lay hS),rfl,q _ _ (I.hok.fresh (BB _)) (fF _ _) fun z=>?_⟩
 rw [o7,hsz]
 constructor
 ·rintro ⟨j,hj,rfl⟩
  refine ⟨v[j],Ck hj,?_⟩
  show toS [v.getD j 0]=_
  rw [By,fu hj]
  rfl
 ·rintro ⟨x,hx,rfl⟩
  obtain ⟨j,hj,rfl⟩:=List.getElem_of_mem hx
  refine ⟨j,hj,?_⟩
  show toS [v.getD j 0]=_
  rw [By,fu hj]
  rfl
end
end L2
namespace L2
open PySem PySem.Spec PyProof.Rows
theorem u3 {X:Cx}{K:PySem.W.Frag}(hK:X.K=K)(hu:X.A.units < cLine):OpR X (compareOp .Lt) (zc K):=by subst hK; exact wU hu
end L2
namespace Kx
open PySem PySem.Spec PyProof.Rows L2 Wd Tv
theorem zN:bootBuiltins "set" = some (.type "set"):=by kernel_rfl
theorem aY {n:Nat}(h:n≤16777216):n≤sizeLine:=by rw [ba]; exact h
theorem we {t u:TS}{D:gI}{σ:L2.St}{H:Hp}(h:t D σ H):d7 t u D σ true H:=zm h
theorem tw {t u:TS}{D:gI}{σ:L2.St}{H:Hp}(h:u D σ H):d7 t u D σ false H:=sU h
theorem Bb {u:TT}{σ:L2.St}{Q:Bool→Hp→Prop}{H:Hp}(h:u σ H Q):nc u σ Q false H:=sU h
theorem zO {u:TT}{σ:L2.St}{Q:Bool→Hp→Prop}{H:Hp}(h:u σ H Q):jK u σ Q true H:=zm h
theorem zP {u:TT}{σ:L2.St}{Q:Bool→Hp→Prop}{H:Hp}(h:Q false H):jK u σ Q false H:=sU h
theorem zQ {ta tb:TE}{σ:L2.St}{Q:VK}{H:Hp}(h:ta σ H Q):nh ta tb σ Q true H:=zm h
theorem zR {ta tb:TE}{σ:L2.St}{Q:VK}{H:Hp}(h:tb σ H Q):nh ta tb σ Q false H:=sU h
theorem lt0 {n c:Nat}(h:n+64 < c):n < c:=by omega
def atZ (w:List L)(j:Int):L:=w.getD (j % (w.length:Int)).toNat 0
def sgZ (w:List L)(p wy k:Int):L:=if wy=1 then atZ w (p+wy*k) else inv (atZ w (p+wy*k))
theorem fK {w:List L}(j:Int):atZ w (j+(w.length:Int))=atZ w j:=by
 unfold atZ
 rw [Int.add_emod_right]
theorem tB {w:List L}{wy:Int}(hw:wy=1 ∨ wy = -1)(p k:Int):sgZ w p wy (k+(w.length:Int))=sgZ w p wy k:=by
 unfold sgZ
 rcases hw with rfl | rfl
 ·rw [if_pos rfl,if_pos rfl,← fK (p+1*k)]
  congr 1
  omega
 ·rw [if_neg (by decide),if_neg (by decide),← fK (p + -1*(k+(w.length:Int)))]
  congr 2
  omega
theorem iy {f g:Int→L}{a b:Int}(ha:0 < a)(hb:0 < b)(pf:∀ k,f (k+a)=f k)(pg:∀ k,g (k+b)=g k)(h:∀ k,0≤k→k < a+b→f k=g k):f (-1)=g (-1):=by
 have e1:=pf (-1)
 have e2:=h (-1+a) (by omega) (by omega)
 have e3:=pg (-1+a)
 have e4:=h (-1+a+b) (by omega) (by omega)
 have e5:=pf (-1+b)
 have e6:=h (-1+b) (by omega) (by omega)
 have e7:=pg (-1)
 rw [← e1,e2,← e3,← e4,show -1+a+b = -1+b+a by omega,e5,e6,e7]
def frN (f g:Int→L):Nat→Nat→Nat
 | k,0=>k
 | k,b+1=>if f k=g k then frN f g (k+1) b else k
theorem cq (f g:Int→L):∀ (b k:Nat),k≤frN f g k b∧frN f g k b≤k+b∧(∀ j:Nat,k≤j→j < frN f g k b→f j=g j)∧(frN f g k b < k+b→f (frN f g k b)≠g (frN f g k b))
 | 0,k=>⟨BB _,BB _,fun j h1 h2=>absurd h2 (by show ¬ j < k;omega),fun h=>absurd h (by show ¬ k < k+0;omega)⟩
 | b+1,k=>by
  unfold frN
  by_cases e:f k=g k
  ·rw [if_pos e]
   obtain ⟨h1,h2,h3,h4⟩:=cq f g b (k+1)
   refine ⟨by omega,by omega,fun j hj hl=>?_,fun h=>h4 (by omega)⟩
   by_cases hk:j=k
   ·rw [hk];exact e
   ·exact h3 j (by omega) hl
  ·rw [if_neg e]
   exact ⟨BB _,by omega,fun j h1 h2=>by omega,fun _=>e⟩
def ptB (u:List L)(f g:Int→L)(n:Nat):Bool:=decide (0 < n) && (decide (f (-1)≠g (-1)) && (decide (f n≠g n) && (decide (rfI u (inv (f ((n:Int) - 1))) (f n) < rfI u (inv (f ((n:Int) - 1))) (g n)) == decide (rfI u (f 0) (inv (f (-1))) < rfI u (f 0) (inv (g (-1)))))))
theorem dX {u:List L}{f g:Int→L}{n:Nat}(h:f (-1)=g (-1)):ptB u f g n=false:=by
 unfold ptB
 rw [Bs (p:=f (-1)≠g (-1)) (fun z=>z h),CM,FI]
theorem tE {w v:List L}(hw:w≠[])(hv:v≠[]){p q wy:Int}(hy:wy=1 ∨ wy = -1)(h:sgZ w p 1 (-1)≠sgZ v q wy (-1)):frN (sgZ w p 1) (sgZ v q wy) 0 (w.length+v.length) < w.length+v.length∧sgZ w p 1 (frN (sgZ w p 1) (sgZ v q wy) 0 (w.length+v.length))≠sgZ v q wy (frN (sgZ w p 1) (sgZ v q wy) 0 (w.length+v.length)):=by
 have l1:=Ct.mpr hw
 have l2:=Ct.mpr hv
 obtain ⟨_,h2,h3,h4⟩:=cq (sgZ w p 1) (sgZ v q wy) (w.length+v.length) 0
 generalize frN (sgZ w p 1) (sgZ v q wy) 0 (w.length+v.length)=n at h2 h3 h4 ⊢
 by_cases c:n < w.length+v.length
 ·exact ⟨c,h4 (by omega)⟩
 ·refine absurd (iy (f:=sgZ w p 1) (g:=sgZ v q wy) (a:=(w.length:Int)) (b:=(v.length:Int)) (by omega) (by omega) (tB (.inl rfl) p) (tB hy q) fun k hk hl=>?_) h
  obtain ⟨m,rfl⟩:=CB hk
  exact h3 m (Cc _) (by omega)
theorem u4 {w:List L}(h:Rd w){a:Nat}(ha:a+1 < w.length):w[a+1]≠inv w[a]:=by
 have e:w=w.take (a+1)++w.drop (a+1):=(B3 _ _).symm
 rw [e] at h
 obtain ⟨_,_,j⟩:=(bK _ _).mp h
 refine j _ _ ?_ ?_
 ·rw [FR,BL,show min (a+1) w.length - 1=a by omega,CK (by omega),fu (by omega)]
 ·rw [GF,Cs,fu (by omega)]
theorem rnd_at {w:List L}(R:Rnd w)(j:Int):atZ w (j+1)≠inv (atZ w j):=by
 have l1:=Ct.mpr R.ne
 have e0:=BV j (show (w.length:Int)≠0 by omega)
 have e1:=BJ j (show (0:Int) < (w.length:Int) by omega)
 obtain ⟨a,ha⟩:=CB e0
 have hal:a < w.length:=by omega
 have ea:atZ w j=w[a]:=by
  unfold atZ
  rw [ha,By,Ce,fu hal]
  rfl
 rw [ea]
 by_cases c:a+1 < w.length
 ·have e2:(j+1) % (w.length:Int)=((a+1:Nat):Int):=by
   rw [Cz,ha,show (1:Int) % (w.length:Int)=1 from B5 (by omega) (by omega)]
   exact B5 (by omega) (by omega)
  have e3:atZ w (j+1)=w[a+1]:=by
   unfold atZ
   rw [e2,By,Ce,fu c]
   rfl
  rw [e3]
  exact u4 R.rd c
 ·have e2:(j+1) % (w.length:Int)=0:=by
   have:j+1=(w.length:Int)*(j / (w.length:Int))+(w.length:Int):=by
    have:=Int.mul_ediv_add_emod j (w.length:Int)
    omega
   rw [this,Int.add_emod_right,Int.mul_emod_right]
  have e3:atZ w (j+1)=w[0]:=by
   unfold atZ
   rw [e2,By,show (0:Int).toNat=0 from rfl,fu l1]
   rfl
  rw [e3]
  have hl:w.getLast? = some w[a]:=by
   rw [FR,show w.length - 1=a by omega,fu hal]
  have hh:w.head? = some w[0]:=by rw [GF,fu l1]
  exact R.jn _ _ hl hh
theorem iz {w:List L}(R:Rnd w){p q:Int}{n:Nat}(hn:0 < n)(h:∀ j:Nat,j < n→sgZ w p 1 j=sgZ w q (-1) j)(hq:(q - n+1) % (w.length:Int)=p % (w.length:Int)):False:=by
 have at_mod:∀ {i j:Int},i % (w.length:Int)=j % (w.length:Int)→atZ w i=atZ w j:=fun e=>by unfold atZ;rw [e]
 have key:∀ j:Nat,j < n→atZ w (p+j)=inv (atZ w (p+(n:Int) - 1 - j)):=fun j hj=>by
  have:=h j hj
  unfold sgZ at this
  rw [if_pos rfl,if_neg (by decide)] at this
  rw [show p+(j:Int)=p+1*(j:Int) by omega,this]
  congr 1
  refine at_mod ?_
  have e:q + -1*(j:Int)=(q - n+1)+((n:Int) - 1 - j):=by omega
  rw [e,Cz,hq,← Cz]
  congr 1
  omega
 by_cases c:n % 2=1
 ·obtain ⟨r,hr⟩:∃ r,n=2*r+1:=⟨n / 2,by omega⟩
  have:=key r (by omega)
  rw [show p+(n:Int) - 1 - (r:Int)=p+r by omega] at this
  exact ja _ this.symm
 ·obtain ⟨r,hr⟩:∃ r,n=2*(r+1):=⟨n / 2 - 1,by omega⟩
  have:=key (r+1) (by omega)
  rw [show p+(n:Int) - 1 - ((r+1:Nat):Int)=p+r by omega,show p+((r+1:Nat):Int)=(p+r)+1 by omega] at this
  exact rnd_at R _ this
abbrev P2:=Int × Int
inductive Lnk where
 | b (s t:P2)
 | a (s t:P2) (n:Nat)
 | g (s t:P2) (n:Nat)
def cB:List Int:=("beside":Str).cps.toList.map Int.ofNat
def cA:List Int:=("along":Str).cps.toList.map Int.ofNat
def cG:List Int:=("against":Str).cps.toList.map Int.ofNat
theorem Bc:cB≠cA:=by decide +kernel
theorem Bd:cB≠cG:=by decide +kernel
def pZ (s:P2):List Int:=[s.1,s.2]
def Lnk.key:Lnk→di
 | .b s t=>[cB,pZ s,pZ t]
 | .a s t n=>[cA,pZ s,pZ t,[(n:Int)]]
 | .g s t n=>[cG,pZ s,pZ t,[(n:Int)]]
def shL:List Int→List Kn:=fun x=>if x=cB then [.p,.p] else [.p,.p,.i]
abbrev Sp2 (H:Hp)(a:Addr)(s:P2):Prop:=H a=some (.tup [.int s.1,.int s.2])
def u5 (H:Hp)(r:Addr):Lnk→Prop
 | .b s t=>∃ a c,H r=some (.tup [.str "beside",.ref a,.ref c])∧Sp2 H a s∧Sp2 H c t
 | .a s t n=>∃ a c,H r=some (.tup [.str "along",.ref a,.ref c,.int (n:Nat)])∧Sp2 H a s∧Sp2 H c t
 | .g s t n=>∃ a c,H r=some (.tup [.str "against",.ref a,.ref c,.int (n:Nat)])∧Sp2 H a s∧Sp2 H c t
theorem u5.to {H H':Hp}{r:Addr}{k:Lnk}(h:u5 H r k)(s:∀ b ys,H b=some (.tup ys)→H' b=some (.tup ys)):u5 H' r k:=by
 cases k with
 | b _ _=>obtain ⟨a,c,h1,h2,h3⟩:=h;exact ⟨a,c,s _ _ h1,s _ _ h2,s _ _ h3⟩
 | a _ _ _=>obtain ⟨a,c,h1,h2,h3⟩:=h;exact ⟨a,c,s _ _ h1,s _ _ h2,s _ _ h3⟩
 | g _ _ _=>obtain ⟨a,c,h1,h2,h3⟩:=h;exact ⟨a,c,s _ _ h1,s _ _ h2,s _ _ h3⟩
theorem u5.kd {H:Hp}{r:Addr}{k:Lnk}(h:u5 H r k):KdQ .s shL H r k.key:=by
 cases k with
 | b s t =>
  obtain ⟨a,c,h1,h2,h3⟩:=h
  refine ⟨_,h1,?_⟩
  show FlQ H (.s::shL cB) _ [cB,pZ s,pZ t]
  unfold shL
  rw [if_pos rfl]
  exact .s _ (.p h2 (.p h3 .nil))
 | a s t n =>
  obtain ⟨a,c,h1,h2,h3⟩:=h
  refine ⟨_,h1,?_⟩
  show FlQ H (.s::shL cA) _ [cA,pZ s,pZ t,[(n:Int)]]
  unfold shL
  rw [if_neg Bc.symm]
  exact .s _ (.p h2 (.p h3 (.i _ .nil)))
 | g s t n =>
  obtain ⟨a,c,h1,h2,h3⟩:=h
  refine ⟨_,h1,?_⟩
  show FlQ H (.s::shL cG) _ [cG,pZ s,pZ t,[(n:Int)]]
  unfold shL
  rw [if_neg Bd.symm]
  exact .s _ (.p h2 (.p h3 (.i _ .nil)))
def LkA (H:Hp)(zs:List (Addr × Lnk)):Prop:=∀ z∈zs,u5 H z.1 z.2
theorem LkA.to {H H':Hp}{zs:List (Addr × Lnk)}(h:LkA H zs)(s:∀ b ys,H b=some (.tup ys)→H' b=some (.tup ys)):LkA H' zs:=fun z hz=>(h z hz).to s
theorem LkA.same {H H':Hp}{zs:List (Addr × Lnk)}(h:LkA H zs)(s:az H H'):LkA H' zs:=h.to fun _ _ e=>s _ _ e
theorem LkA.app {H:Hp}{zs ys:List (Addr × Lnk)}(h:LkA H zs)(g:LkA H ys):LkA H (zs++ys):=fun z hz=>(B0.mp hz).elim (h z) (g z)
def ltP (s t:P2):Bool:=HT.bR [s.1,s.2] [t.1,t.2]
theorem eF {s t:P2}:ltP s t=true ↔ s.1 < t.1 ∨ (s.1=t.1∧s.2 < t.2):=by
 unfold ltP
 rw [HT.bU,HT.bU,HT.cF]
 by_cases e1:s.1=t.1
 ·rw [if_pos e1]
  by_cases e2:s.2=t.2
  ·rw [if_pos e2]
   simp only [BR,false_iff,not_or,not_and]
   omega
  ·rw [if_neg e2,BE]
   omega
 ·rw [if_neg e1,BE]
  omega
def cO (u:List L)(a b c d:L):Bool:=decide ([a,b,c,d].Nodup) && (decide (rfI u a c < rfI u a b) != decide (rfI u a d < rfI u a b))
def wyZ (W:List (List L))(i:Int):List L:=W.getD i.toNat []
def fZ (W:List (List L))(s:P2)(wy:Int):Int→L:=sgZ (wyZ W s.1) s.2 wy
def nZ (W:List (List L))(s t:P2)(wy:Int):Nat:=frN (fZ W s 1) (fZ W t wy) 0 ((wyZ W s.1).length+(wyZ W t.1).length)
def xI (u:List L)(W:List (List L))(s t:P2):List Lnk:=if ltP s t && cO u (inv (fZ W s 1 0)) (fZ W s 1 1) (inv (fZ W t 1 0)) (fZ W t 1 1) then [.b s t] else []
def xJ (u:List L)(W:List (List L))(s t:P2):List Lnk:=if ltP s t && ptB u (fZ W s 1) (fZ W t 1) (nZ W s t 1) then [.a s t (nZ W s t 1)] else []
def mK (W:List (List L))(s t:P2)(n:Nat):P2:=(t.1,(t.2 - (n:Int)+1) % ((wyZ W t.1).length:Int))
def mU (u:List L)(W:List (List L))(s t:P2):List Lnk:=if ltP s (mK W s t (nZ W s t (-1))) && ptB u (fZ W s 1) (fZ W t (-1)) (nZ W s t (-1)) then [.g s t (nZ W s t (-1))] else []
structure WyR (n:Nat) (W:List (List L)):Prop where
 le:W.length≤4
 lo:1≤W.length
 ws:∀ w∈W,Rnd w∧w.length≤30∧InM n w
structure WyA (n:Nat) (W:List (List L)) (H:Hp) (a:Addr):Prop where
 at_:H a=some (.tup (W.map tx))
 ok:WyR n W
theorem WyA.same {n:Nat}{W:List (List L)}{H H':Hp}{a:Addr}(h:WyA n W H a)(s:az H H'):WyA n W H' a:=⟨s _ _ h.at_,h.ok⟩
def okP (W:List (List L))(s:P2):Prop:=0≤s.1∧s.1 < (W.length:Int)∧0≤s.2∧s.2 < ((wyZ W s.1).length:Int)
theorem WyR.get {n:Nat}{W:List (List L)}(h:WyR n W){i:Int}(h0:0≤i)(h1:i < (W.length:Int)):wyZ W i∈W∧atI (W.map tx) i=some (tx (wyZ W i))∧Rnd (wyZ W i)∧(wyZ W i).length≤30∧0 < (wyZ W i).length∧InM n (wyZ W i):=by
 obtain ⟨m,rfl⟩:=CB h0
 have hm:m < W.length:=by omega
 have e:wyZ W (m:Int)=W[m]:=by
  unfold wyZ
  rw [Ce,By,fu hm]
  rfl
 rw [e]
 have H_:=Ck hm
 obtain ⟨a,b,c⟩:=h.ws _ H_
 exact ⟨H_,bM (j:=m) (by rw [BH,fu hm];rfl),a,b,Ct.mpr a.ne,c⟩
theorem eG {w:List L}(h:0 < w.length)(j:Int):atZ w j∈w:=by
 have e0:=BV j (show (w.length:Int)≠0 by omega)
 have e1:=BJ j (show (0:Int) < (w.length:Int) by omega)
 unfold atZ
 rw [By,fu (show (j % (w.length:Int)).toNat < w.length by omega)]
 exact Ck _
theorem jZ {n:Nat}{w:List L}(h:0 < w.length)(hi:InM n w)(p wy k:Int):(sgZ w p wy k).val % 6 < n:=by
 unfold sgZ
 have:=hi _ (eG h (p+wy*k))
 split
 ·exact this
 ·rw [jV]
  have:=(atZ w (p+wy*k)).isLt
  split <;> omega
theorem rO {n:Nat}{u:List L}{W:List (List L)}(hW:WyR n W){s t:P2}(hs:okP W s)(ht:okP W t)(hb:fZ W s 1 (-1)≠fZ W t (-1) (-1)):(if ltP (mK W s t (nZ W s t (-1))) s then [] else if ptB u (fZ W s 1) (fZ W t (-1)) (nZ W s t (-1)) then [Lnk.g s t (nZ W s t (-1))] else [])=mU u W s t:=by
 unfold mU
 by_cases c1:ltP (mK W s t (nZ W s t (-1))) s=true
 ·rw [if_pos c1]
  have:ltP s (mK W s t (nZ W s t (-1)))=false:=by
   rw [Ei]
   intro z
   rw [eF] at c1 z
   omega
  rw [this,CM,if_neg (by decide)]
 ·rw [if_neg c1]
  by_cases c2:ltP s (mK W s t (nZ W s t (-1)))=true
  ·rw [c2,Cy]
  ·have e:s=mK W s t (nZ W s t (-1)):=by
    have c1:¬ (ltP (mK W s t (nZ W s t (-1))) s=true):=c1
    rw [eF] at c1 c2
    exact CY (by omega) (by omega)
   have:ptB u (fZ W s 1) (fZ W t (-1)) (nZ W s t (-1))=false:=by
    rw [Ei]
    intro z
    unfold ptB at z
    rw [BZ,BE] at z
    obtain ⟨hn,_⟩:=z
    have e1:s.1=t.1:=by
     have:=BP Prod.fst e
     exact this
    have e2:s.2=(t.2 - (nZ W s t (-1):Nat)+1) % ((wyZ W t.1).length:Int):=BP Prod.snd e
    obtain ⟨_,_,R,_,lp,_⟩:=hW.get hs.1 hs.2.1
    refine iz (w:=wyZ W s.1) (p:=s.2) (q:=t.2) R hn (fun j hj=>?_) ?_
    ·have:=(cq (fZ W s 1) (fZ W t (-1)) ((wyZ W s.1).length+(wyZ W t.1).length) 0).2.2.1 j (Cc _) hj
     unfold fZ at this
     rw [← e1] at this
     exact this
    ·rw [← e1] at e2
     rw [e2,Int.emod_emod_of_dvd _ (Int.dvd_refl _)]
   rw [this,FI]
def lkZ (u:List L)(W:List (List L))(s t:P2):List Lnk:=xI u W s t++(xJ u W s t++mU u W s t)
def qz (u:List L)(W:List (List L))(i j:Int)(p:Nat)(m:Nat):List Lnk:=(List.range m).flatMap fun q:Nat=>lkZ u W (i,(p:Int)) (j,(q:Int))
def allL (u:List L)(W:List (List L))(i j:Int)(m:Nat):List Lnk:=(List.range m).flatMap fun p:Nat=>qz u W i j p (wyZ W j).length
theorem lx (u:List L)(W:List (List L))(i j:Int)(p m:Nat):qz u W i j p (m+1)=qz u W i j p m++lkZ u W (i,(p:Int)) (j,(m:Int)):=by
 unfold qz
 rw [Dp,Dm]
 simp
theorem lC (u:List L)(W:List (List L))(i j:Int)(m:Nat):allL u W i j (m+1)=allL u W i j m++qz u W i j m (wyZ W j).length:=by
 unfold allL
 rw [Dp,Dm]
 simp
theorem xK (u:List L)(W:List (List L))(s t:P2):(lkZ u W s t).length≤3:=by
 unfold lkZ xI xJ mU
 rw [Bq,Bq]
 have h:∀ (b:Bool) (x:Lnk),(if b=true then [x] else []).length≤1:=fun b x=>by cases b <;> simp
 have h1:=h (ltP s t && cO u (inv (fZ W s 1 0)) (fZ W s 1 1) (inv (fZ W t 1 0)) (fZ W t 1 1)) (.b s t)
 have h2:=h (ltP s t && ptB u (fZ W s 1) (fZ W t 1) (nZ W s t 1)) (.a s t (nZ W s t 1))
 have h3:=h (ltP s (mK W s t (nZ W s t (-1))) && ptB u (fZ W s 1) (fZ W t (-1)) (nZ W s t (-1))) (.g s t (nZ W s t (-1)))
 omega
theorem j3 (u:List L)(W:List (List L))(i j:Int)(p:Nat):∀ m,(qz u W i j p m).length≤3*m
 | 0=>BB _
 | m+1=>by
  have:=j3 u W i j p m
  have:=xK u W (i,(p:Int)) (j,(m:Int))
  rw [lx,Bq]
  omega
theorem pB (u:List L)(W:List (List L))(i j:Int){b:Nat}(hb:(wyZ W j).length≤b):∀ m,(allL u W i j m).length≤3*b*m
 | 0=>BB _
 | m+1=>by
  have:=pB u W i j hb m
  have:=j3 u W i j m (wyZ W j).length
  rw [lC,Bq,Nat.mul_add,Nat.mul_one]
  omega
abbrev Wk3 (H:Hp)(x:Addr)(s:P2)(wy:Int):Prop:=H x=some (.tup [.int s.1,.int s.2,.int wy])
inductive zT (vs:List V)(H:Hp)(Q:VK)(HS:XK):Prop
 | mk:∀ (u:List L) (k:Nat) (a b:L),(vs=[tx u,tx [a],tx [b]])→SK u k→a∈u→b∈u→Q (.int (rfI u a b)) H→zT vs H Q HS
inductive u6 (vs:List V)(H:Hp)(Q:VK)(HS:XK):Prop
 | mk:∀ (u:List L) (k:Nat) (s a b:L),(vs=[tx u,tx [s],tx [a],tx [b]])→SK u k→s∈u→a∈u→b∈u→(∀ H',az H H'→Q (.bl (decide (rfI u s a < rfI u s b))) H')→u6 vs H Q HS
inductive jl (vs:List V)(H:Hp)(Q:VK)(HS:XK):Prop
 | mk:∀ (a x:Addr) (n:Nat) (W:List (List L)) (s:P2) (wy k:Int),(vs=[.ref a,.ref x,.int k])→WyA n W H a→Wk3 H x s wy→0≤s.1→s.1 < (W.length:Int)→(wy=1 ∨ wy = -1)→(∀ H',az H H'→Q (tx [fZ W s wy k]) H')→jl vs H Q HS
inductive lD (vs:List V)(H:Hp)(Q:VK)(HS:XK):Prop
 | mk:∀ (a x y:Addr) (n:Nat) (W:List (List L)) (s t:P2) (wy:Int),(vs=[.ref a,.ref x,.ref y])→WyA n W H a→Wk3 H x s 1→Wk3 H y t wy→okP W s→okP W t→(wy=1 ∨ wy = -1)→(∀ H',az H H'→Q (.int ((if fZ W s 1 (-1)=fZ W t wy (-1) then 0 else nZ W s t wy:Nat):Int)) H')→lD vs H Q HS
def jm (u:List L)(f g:Int→L)(n:Nat):Bool:=decide (0 < n) && (decide (rfI u (inv (f ((n:Int) - 1))) (f n) < rfI u (inv (f ((n:Int) - 1))) (g n)) == decide (rfI u (f 0) (inv (f (-1))) < rfI u (f 0) (inv (g (-1)))))
inductive lE (vs:List V)(H:Hp)(Q:VK)(HS:XK):Prop
 | mk:∀ (u:List L) (a x y:Addr) (n m:Nat) (W:List (List L)) (s t:P2) (wy:Int),(vs=[tx u,.ref a,.ref x,.ref y,.int (m:Nat)])→SK u n→WyA n W H a→Wk3 H x s 1→Wk3 H y t wy→okP W s→okP W t→(wy=1 ∨ wy = -1)→(∀ H',az H H'→Q (.bl (jm u (fZ W s 1) (fZ W t wy) m)) H')→lE vs H Q HS
inductive zU (vs:List V)(H:Hp)(Q:VK)(HS:XK):Prop
 | mk:∀ (a x:Addr) (n:Nat) (W:List (List L)) (s:P2),(vs=[.ref a,.ref x])→WyA n W H a→Sp2 H x s→okP W s→(∀ H',az H H'→Q (tx [inv (fZ W s 1 0),fZ W s 1 1]) H')→zU vs H Q HS
inductive rP (r:List L→List (List L)→P2→P2→List Lnk)(vs:List V)(H:Hp)(Q:VK)(HS:XK):Prop
 | mk:∀ (u:List L) (a x y:Addr) (n:Nat) (W:List (List L)) (s t:P2),(vs=[tx u,.ref a,.ref x,.ref y])→SK u n→WyA n W H a→Sp2 H x s→Sp2 H y t→okP W s→okP W t →
  (∀ (l:Addr) (zs:List (Addr × Lnk)) (H':Hp),H l=none→az H H'→H' l=some (.lst ((zs.map (·.1)).map V.ref))→LkA H' zs→zs.map (·.2)=r u W s t→Q (.ref l) H')→rP r vs H Q HS
def xM (u:List L)(W:List (List L))(s t:P2):List Lnk:=if cO u (inv (fZ W s 1 0)) (fZ W s 1 1) (inv (fZ W t 1 0)) (fZ W t 1 1) then [.b s t] else []
def u7 (u:List L)(W:List (List L))(s t:P2):List Lnk:=if ptB u (fZ W s 1) (fZ W t 1) (nZ W s t 1) then [.a s t (nZ W s t 1)] else []
def wg (u:List L)(W:List (List L))(s t:P2):List Lnk:=mU u W s t++(if ltP s t then u7 u W s t++xM u W s t else [])
theorem pD (u:List L)(W:List (List L))(s t:P2):(wg u W s t).Perm (lkZ u W s t):=by
 unfold wg lkZ xJ xI u7 xM
 cases ltP s t with
 | true =>
  rw [if_pos rfl,Cy,Cy]
  refine CN.trans ?_
  rw [← BF]
  exact (CN).append_right _
 | false =>
  rw [if_neg (by decide),CM,CM,if_neg (by decide),if_neg (by decide)]
  simp
inductive j4 (vs:List V)(H:Hp)(Q:VK)(HS:XK):Prop
 | mk:∀ (u:List L) (a:Addr) (n:Nat) (W:List (List L)) (i j:Int),(vs=[tx u,.ref a,.int i,.int j])→SK u n→WyA n W H a→0≤i→i < (W.length:Int)→0≤j→j < (W.length:Int) →
  (∀ (l:Addr) (zs:List (Addr × Lnk)) (H':Hp),H l=none→az H H'→H' l=some (.lst ((zs.map (·.1)).map V.ref))→LkA H' zs→(zs.map (·.2)).Perm (allL u W i j (wyZ W i).length)→((zs.map (·.2)).map Lnk.key).Pairwise qle→Q (.ref l) H')→j4 vs H Q HS
theorem fX {n:Nat}{u:List L}(U:SK u n){W:List (List L)}(hW:WyR n W){s:P2}(os:okP W s)(wy k:Int):fZ W s wy k∈u∧inv (fZ W s wy k)∈u:=by
 obtain ⟨_,_,_,_,lp,hi⟩:=hW.get os.1 os.2.1
 have:=jZ lp hi s.2 wy k
 exact ⟨(U.mem _).mpr this,(U.mem _).mpr (by rw [eC];exact this)⟩
theorem u9 {u:List L}{f g:Int→L}{n:Nat}(h:f (-1)≠g (-1))(h':f n≠g n):jm u f g n=ptB u f g n:=by
 unfold jm ptB
 rw [BD h,BD h',Cy,Cy]
theorem tF {u:List L}{f g:Int→L}:jm u f g 0=false:=rfl
theorem lF {n:Nat}{u:List L}{W:List (List L)}(hW:WyR n W){s t:P2}(os:okP W s)(ot:okP W t){wy:Int}(hwy:wy=1 ∨ wy = -1):jm u (fZ W s 1) (fZ W t wy) (if fZ W s 1 (-1)=fZ W t wy (-1) then 0 else nZ W s t wy)=ptB u (fZ W s 1) (fZ W t wy) (nZ W s t wy):=by
 by_cases e:fZ W s 1 (-1)=fZ W t wy (-1)
 ·rw [if_pos e,tF,dX e]
 ·rw [if_neg e]
  obtain ⟨_,_,Rw,_⟩:=hW.get os.1 os.2.1
  obtain ⟨_,_,Rv,_⟩:=hW.get ot.1 ot.2.1
  exact u9 e (tE Rw.ne Rv.ne hwy e).2
theorem zV (a b:Bool):(a == b)=decide (V.bl a=V.bl b):=by cases a <;> cases b <;> rfl
theorem jo {H H4:Hp}{Q:VK}{r:List Lnk}{l:Addr}(q:az H H4)(hl:H4 l=none)(k:∀ (l:Addr) (zs:List (Addr × Lnk)) (H':Hp),H l=none→az H H'→H' l=some (.lst ((zs.map (·.1)).map V.ref))→LkA H' zs→zs.map (·.2)=r→Q (.ref l) H')(e:r=[]):Q (.ref l) (upd H4 l (.lst [])) :=
 k l [] _ (q.free hl) (q.trans (az.new hl)) af (fun _ h=>absurd h (by simp)) e.symm
theorem j5 {H H4:Hp}{Q:VK}{r:List Lnk}{m:Lnk}{l c:Addr}{ys:List V}(q:az H H4)(hc:H4 c=none)(hl:(upd H4 c (.tup ys)) l=none)(hm:u5 (upd H4 c (.tup ys)) c m)(k:∀ (l:Addr) (zs:List (Addr × Lnk)) (H':Hp),H l=none→az H H'→H' l=some (.lst ((zs.map (·.1)).map V.ref))→LkA H' zs→zs.map (·.2)=r→Q (.ref l) H')(e:r=[m]):Q (.ref l) (upd (upd H4 c (.tup ys)) l (.lst [.ref c])):=by
 have q1:=q.trans (az.new (o:=.tup ys) hc)
 refine k l [(c,m)] _ (q1.free hl) (q1.trans (az.new hl)) af (fun z h=>?_) e.symm
 rw [Bu.mp h]
 exact hm.to fun _ _ e=>az.new hl _ _ e
theorem fL {H H2:Hp}{l:Addr}{o:HO}(s:az H H2)(h:H l=none):az H (upd H2 l o):=fun b u e=>by rw [aF (au e h)]; exact s b u e
theorem iA {H:Hp}{l:Addr}{xs:List V}{o:HO}(h:H l=some (.lst xs)):∀ b ys,H b=some (.tup ys)→(upd H l o) b=some (.tup ys):=fun b ys e=>by
 have:b≠l:=fun z=>by rw [z,h] at e;cases e
 rw [aF this]
 exact e
theorem iB (xs ys:List (Addr × Lnk)):((xs.map (·.1)).map V.ref)++((ys.map (·.1)).map V.ref)=((xs++ys).map (·.1)).map V.ref:=by rw [BK,BK]
theorem Be {w:List L}{j:Int}(h:0 < (w.length:Int)):atI (toS w).cps.toList (j % (w.length:Int))=some (cp (atZ w j)):=by
 have e0:=BV j (show (w.length:Int)≠0 by omega)
 have e1:=BJ j h
 refine du (k:=(j % (w.length:Int)).toNat) (by omega) ?_
 unfold atZ
 rw [By,fu (show (j % (w.length:Int)).toNat < w.length by omega)]
 rfl
theorem pE {F:List L}{x:L}(h:F.head? = some x):atI (bJ F) 0=some (tx [x]):=by
 cases F with
 | nil=>simp at h
 | cons z r =>
  have:z=x:=BA h
  subst this
  unfold atI ixN bJ
  rw [if_pos (by decide),if_pos (by simp)]
  rfl
theorem mL {f g:Int→L}{N i:Nat}(h:∀ j:Nat,j < i→f j=g j)(hi:i≤N)(he:i=N ∨ f i≠g i):frN f g 0 N=i:=by
 obtain ⟨_,h2,h3,h4⟩:=cq f g N 0
 generalize frN f g 0 N=n at h2 h3 h4 ⊢
 by_cases c:n < i
 ·exact absurd (h n c) (h4 (by omega))
 ·by_cases c2:i < n
  ·rcases he with rfl | he
   ·omega
   ·exact absurd (h3 i (Cc _) c2) he
  ·omega
theorem sg1 {w:List L}(p:Int)(k:Int):sgZ w p 1 k=atZ w (p+k):=by
 unfold sgZ
 rw [if_pos rfl,Int.one_mul]
theorem Bf {a b c d:L}{dl:List Str}(nd:dl.Nodup)(hm:∀ z,z∈dl ↔ ∃ x∈[a,b,c,d],z=toS [x]):decide ((dl.length:Int) < 4)=!decide ([a,b,c,d].Nodup):=by
 by_cases h:[a,b,c,d].Nodup
 ·rw [BD h]
  refine Bs ?_
  have nd2:([a,b,c,d].map fun x=>toS [x]).Nodup:=FY _ (fun x y n e=>n (Dn (jQ e)).1) h
  have p:([a,b,c,d].map fun x=>toS [x]).Perm dl:=(Ej nd2 nd).mpr fun z=>by
   rw [hm,B2]
   exact ⟨fun ⟨x,h1,h2⟩=>⟨x,h1,h2.symm⟩,fun ⟨x,h1,h2⟩=>⟨x,h1,h2.symm⟩⟩
  have:=p.length_eq
  rw [Bo] at this
  have:dl.length=4:=this.symm
  omega
 ·rw [Bs h]
  refine BD ?_
  have key:∀ x y z:L,(∀ v∈[a,b,c,d],v∈[x,y,z])→(dl.length:Int) < 4:=fun x y z hs=>by
   apply CP
   intro n
   have:=(cU (zs:=[toS [x],toS [y],toS [z]]) nd (fun k hk=>by
    obtain ⟨v,hv,rfl⟩:=(hm k).mp hk
    have:=hs v hv
    simp only [BU,Co,D6] at this ⊢
    rcases this with rfl | rfl | rfl
    ·exact .inl rfl
    ·exact .inr (.inl rfl)
    ·exact .inr (.inr rfl)) (by show 3≤_;omega)).length_eq
   have:3=dl.length:=this
   omega
  simp only [B7,BU,Co,D6,EW,CG,G2,not_or] at h
  by_cases e1:a=b
  ·exact key b c d (by intro v hv;simp only [BU,Co,D6] at hv ⊢;rw [e1] at hv;rcases hv with h | h | h | h <;> simp [h])
  by_cases e2:a=c
  ·exact key b c d (by intro v hv;simp only [BU,Co,D6] at hv ⊢;rw [e2] at hv;rcases hv with h | h | h | h <;> simp [h])
  by_cases e3:a=d
  ·exact key b c d (by intro v hv;simp only [BU,Co,D6] at hv ⊢;rw [e3] at hv;rcases hv with h | h | h | h <;> simp [h])
  by_cases e4:b=c
  ·exact key a c d (by intro v hv;simp only [BU,Co,D6] at hv ⊢;rw [e4] at hv;rcases hv with h | h | h | h <;> simp [h])
  by_cases e5:b=d
  ·exact key a c d (by intro v hv;simp only [BU,Co,D6] at hv ⊢;rw [e5] at hv;rcases hv with h | h | h | h <;> simp [h])
  by_cases e6:c=d
  ·exact key a b d (by intro v hv;simp only [BU,Co,D6] at hv ⊢;rw [e6] at hv;rcases hv with h | h | h | h <;> simp [h])
  exact absurd ⟨⟨e1,e2,e3⟩,⟨e4,e5⟩,e6⟩ h
def Cyc (w:List L):Prop:=Wd.Rd w∧J w w
theorem Cyc.rnd {w:List L}(h:Cyc w)(n:w≠[]):Rnd w:=⟨n,h.1,h.2⟩
theorem u_:Cyc []:=⟨trivial,fun x y h=>by simp at h⟩
theorem iC (x:L):Rnd [x]:=⟨by simp,trivial,fun a b ha hb=>by
 have ha:x=a:=by simpa using ha
 have hb:x=b:=by simpa using hb
 subst ha hb
 exact fun e=>ja _ e.symm⟩
theorem va {V:List L}{x:L}(h:Wd.Rd V)(g:∀ y,V.getLast? = some y→x≠inv y):Wd.Rd (V++[x]):=by
 rw [bK]
 refine ⟨h,trivial,fun a b ha hb=>?_⟩
 have hb:x=b:=by simpa using hb
 rw [← hb]
 exact g a ha
theorem xN {x y:L}{mid:List L}(h:Wd.Rd (x::(mid++[y]))):Wd.Rd mid:=((bK _ _).mp h.tail).1
theorem vb {x y:L}{mid:List L}(h:Wd.Rd (x::(mid++[y])))(g:x≠inv y):Cyc (x::(mid++[y])):=⟨h,fun a b ha hb=>by
 have e:x::(mid++[y])=(x::mid)++[y]:=rfl
 rw [e,List.getLast?_append,List.getLast?_singleton] at ha
 have ha:y=a:=by simpa using ha
 have hb:x=b:=by simpa using hb
 rw [← ha,← hb]
 exact g⟩
theorem vc {w:List L}(h:¬ 1 < w.length):Cyc w:=by
 match w,h with
 | [],_=>exact u_
 | [x],_=>exact ⟨(iC x).rd,(iC x).jn⟩
 | x::y::r,h=>simp at h
theorem vd {v:List L}{n:Nat}(h:Cyc (rep n v))(hn:rep n v≠[]):Cyc v:=by
 cases n with
 | zero=>exact absurd rfl hn
 | succ n=>exact ⟨(lh (h.rnd hn)).rd,(lh (h.rnd hn)).jn⟩
theorem jq {w:List L}(h:Rnd w):∀ a,Rnd (w.drop a++w.take a)
 | 0=>by rw [El,List.take_zero,CV];exact h
 | a+1=>by
  have ih:=jq h a
  by_cases c:a < w.length
  ·have e1:w.drop a=w[a]::w.drop (a+1):=Cv c
   have e2:w.take (a+1)=w.take a++[w[a]]:=by rw [Dl,fu c];rfl
   rw [e1,List.cons_append] at ih
   rw [e2,← BF]
   exact rL ih
  ·rw [DE (by omega),B6 (by omega)] at ih ⊢
   exact ih
def GR (n b:Nat)(w:List L):Prop:=Rnd w∧w.length≤b∧InM n w
theorem GR.bk {n b:Nat}{w:List L}(h:GR n b w):GR n b (bk w):=⟨tj h.1,by rw [aK]; exact h.2.1,InM.bk h.2.2⟩
theorem GR.turn {n b:Nat}{w:List L}(h:GR n b w)(a:Nat):GR n b (w.drop a++w.take a):=by
 refine ⟨jq h.1 a,by rw [Bq,Cq,BL];have:=h.2.1;omega,fun x hx=>?_⟩
 rcases B0.mp hx with hx | hx
 ·exact h.2.2 x (C0 hx)
 ·exact h.2.2 x (CS hx)
theorem ve {w:List L}{a:Nat}(h:a < w.length):atZ w (a:Int)=w[a]:=by
 unfold atZ
 rw [B5 (by omega) (by omega),Ce,By,fu h]
 rfl
def tG:Sp:=fun vs H Q _=>∃ (d c:Addr) (m:Int),vs=[.ref d,.int m]∧Tp H d c∧1≤m∧m≤6∧∀ (u:List L) (k:Nat) (H':Hp),SK u k→(k:Int)≤m→Tp H' d c→bD d H H'→Q (tx u) H'
inductive iD (vs:List V)(H:Hp)(Q:VK)(HS:XK):Prop
 | mk:∀ u,(vs=[tx u])→(u.length≤60)→(∀ (v:List L) (H':Hp),v.length≤u.length→(∀ x∈v,x∈u)→Cyc v→az H H'→Q (tx v) H')→iD vs H Q HS
theorem dA {x y:L}(n:x≠y):inv x≠inv y:=fun e=>n (by have:=BP inv e; rwa [aU,aU] at this)
structure Wlk (u:List L) (f:Int→L):Prop where
 m:∀ k,f k∈u
 i:∀ k,inv (f k)∈u
 st:∀ k,f (k+1)≠inv (f k)
theorem eS {n:Nat}{u:List L}(U:SK u n){w:List L}(R:Rnd w)(hi:InM n w){wy:Int}(hw:wy=1 ∨ wy = -1)(p:Int):Wlk u (sgZ w p wy):=by
 have lp:=Ct.mpr R.ne
 refine ⟨fun k=>(U.mem _).mpr (jZ lp hi p wy k),fun k=>(U.mem _).mpr (by rw [eC];exact jZ lp hi p wy k),fun k=>?_⟩
 unfold sgZ
 rcases hw with rfl | rfl
 ·rw [if_pos rfl,if_pos rfl,show p+1*(k+1)=(p+1*k)+1 by omega]
  exact rnd_at R _
 ·rw [if_neg (by decide),if_neg (by decide),aU]
  have:=rnd_at R (p + -1*(k+1))
  rw [show p + -1*(k+1)+1=p + -1*k by omega] at this
  exact this.symm
theorem gD {f g:Int→L}{N:Nat}:∀ j:Nat,j < frN f g 0 N→f j=g j:=fun j hj=>(cq f g N 0).2.2.1 j (Cc _) hj
theorem lG {α β:Type}{f g:α→List β}:∀ {l:List α},(∀ x∈l,f x=g x)→l.flatMap f=l.flatMap g
 | [],_=>rfl
 | x::l,h=>by rw [CQ,CQ,h x BC,lG fun y hy=>h y (Bw _ hy)]
def prs (m n:Nat):List P2:=(List.range m).flatMap fun p:Nat=>(List.range n).map fun q:Nat=>((p:Int),(q:Int))
theorem aN {m n:Nat}{s:P2}:s∈prs m n ↔ 0≤s.1∧s.1 < (m:Int)∧0≤s.2∧s.2 < (n:Int):=by
 unfold prs
 rw [De]
 constructor
 ·rintro ⟨p,hp,h⟩
  obtain ⟨q,hq,rfl⟩:=B2.mp h
  rw [CL] at hp hq
  show 0≤(p:Int)∧(p:Int) < (m:Int)∧0≤(q:Int)∧(q:Int) < (n:Int)
  omega
 ·rintro ⟨h1,h2,h3,h4⟩
  refine ⟨s.1.toNat,CL.mpr (by omega),B2.mpr ⟨s.2.toNat,CL.mpr (by omega),CY ?_ ?_⟩⟩
  ·show ((s.1.toNat:Nat):Int)=s.1
   omega
  ·show ((s.2.toNat:Nat):Int)=s.2
   omega
theorem pF {β:Type}{g:Nat→List β}(h1:∀ p,(g p).Nodup)(h2:∀ p q x,x∈g p→x∈g q→p=q):∀ {l:List Nat},l.Nodup→(l.flatMap g).Nodup
 | [],_=>CG
 | p::l,h=>by
  rw [B7] at h
  rw [CQ,EV]
  refine ⟨h1 p,pF h1 h2 h.2,fun x hx y hy e=>?_⟩
  subst e
  obtain ⟨q,hq,hy⟩:=De.mp hy
  exact h.1 (h2 p q x hx hy ▸ hq)
theorem bQ (m n:Nat):(prs m n).Nodup:=by
 refine pF (fun p=>?_) (fun p q x h1 h2=>?_) Fb
 ·refine FY _ (fun a b h e=>h ?_) Fb
  exact Gn (BP Prod.snd e)
 ·obtain ⟨a,_,rfl⟩:=B2.mp h1
  obtain ⟨b,_,e⟩:=B2.mp h2
  exact (Gn (BP Prod.fst e)).symm
theorem vf {l:List P2}:∀ {k:List P2},k.Nodup→(∀ x∈k,x∈l)→k.length≤l.length:=by
 intro k
 induction k generalizing l with
 | nil=>intro _ _;exact Cc _
 | cons x k ih =>
  intro nd h
  rw [B7] at nd
  have hx:=h x BC
  have:=ih (l:=l.erase x) nd.2 fun y hy=>(Fh (fun e=>nd.1 (by rw [← e];exact hy))).mpr (h y (Bw _ hy))
  rw [Ex hx] at this
  have:=GG hx
  show k.length+1≤_
  omega
theorem jr {k l:List P2}{g h:P2→Bool}(nd:k.Nodup)(a b:P2→P2)(H:∀ x∈k,g x=true→a x∈l∧h (a x)=true∧b (a x)=x):k.countP g≤l.countP h:=by
 rw [CT,CT,← Bo (f:=a)]
 have q:∀ x∈k.filter g,x∈k∧g x=true:=fun x hx=>BW.mp hx
 refine vf ?_ fun y hy=>?_
 ·have nf:(k.filter g).Nodup:=CA _ nd
  revert nf q
  generalize k.filter g=z
  induction z with
  | nil=>intro _ _;exact CG
  | cons x z ih =>
   intro q nf
   rw [B7] at nf
   rw [Cd,B7]
   refine ⟨fun hm=>?_,ih (fun y hy=>q y (Bw _ hy)) nf.2⟩
   obtain ⟨y,hy,e⟩:=B2.mp hm
   obtain ⟨h1,h2⟩:=q x BC
   obtain ⟨h3,h4⟩:=q y (Bw _ hy)
   have e1:=(H x h1 h2).2.2
   have e2:=(H y h3 h4).2.2
   rw [← e,e2] at e1
   exact nf.1 (e1 ▸ hy)
 ·obtain ⟨x,hx,rfl⟩:=B2.mp hy
  obtain ⟨h1,h2⟩:=q x hx
  exact BW.mpr ⟨(H x h1 h2).1,(H x h1 h2).2.1⟩
theorem cL {g h1 h2:P2→Bool}:∀ {l:List P2},(∀ x∈l,g x=(h1 x || h2 x)∧¬ (h1 x=true∧h2 x=true))→l.countP g=l.countP h1+l.countP h2
 | [],_=>rfl
 | x::l,H=>by
  have ih:=cL (l:=l) fun y hy=>H y (Bw _ hy)
  obtain ⟨e,n⟩:=H x BC
  rw [Dx,Dx,Dx,ih,e]
  cases c1:h1 x <;> cases c2:h2 x
  ·rfl
  ·simp
   omega
  ·simp
   omega
  ·exact absurd ⟨c1,c2⟩ n
def hF (u w v:List L)(s:P2):Bool:=cO u (inv (sgZ w s.1 1 0)) (sgZ w s.1 1 1) (inv (sgZ v s.2 1 0)) (sgZ v s.2 1 1)
def nW (w v:List L)(wy:Int)(s:P2):Nat:=frN (sgZ w s.1 1) (sgZ v s.2 wy) 0 (w.length+v.length)
def hP (u w v:List L)(wy:Int)(s:P2):Bool:=ptB u (sgZ w s.1 1) (sgZ v s.2 wy) (nW w v wy s)
def NN (u w v:List L):Nat:=(prs w.length v.length).countP (hF u w v)+((prs w.length v.length).countP (hP u w v 1)+(prs w.length v.length).countP (hP u w v (-1)))
theorem pG (w:List L){p q:Int}(h:p % (w.length:Int)=q % (w.length:Int))(wy:Int):sgZ w p wy=sgZ w q wy:=by
 funext k
 have e:atZ w (p+wy*k)=atZ w (q+wy*k):=by
  unfold atZ
  rw [Cz,h,← Cz]
 unfold sgZ
 rw [e]
theorem rQ {u w v:List L}{s t:P2}(h1:s.1 % (w.length:Int)=t.1 % (w.length:Int))(h2:s.2 % (v.length:Int)=t.2 % (v.length:Int))(wy:Int):hF u w v s=hF u w v t∧hP u w v wy s=hP u w v wy t∧nW w v wy s=nW w v wy t:=by
 unfold hF hP nW
 rw [pG w h1 1,pG v h2 1,pG v h2 wy]
 exact ⟨rfl,rfl,rfl⟩
theorem xO {u:List L}{e x y:L}(he:e∈u)(hx:x∈u)(hy:y∈u)(h:rfI u e x=rfI u e y):x=y:=by
 refine bw hx hy ?_
 have a1:=bo he
 have a2:=bo hx
 have a3:=bo hy
 rw [bz he hx,bz he hy] at h
 generalize u.idxOf e=a at *
 generalize u.idxOf x=b at *
 generalize u.idxOf y=c at *
 generalize u.length=n at *
 grind
theorem lH {u:List L}{e x y:L}(he:e∈u)(hx:x∈u)(hy:y∈u)(n:x≠y):decide (rfI u e y < rfI u e x)=!decide (rfI u e x < rfI u e y):=by
 have:rfI u e x≠rfI u e y:=fun z=>n (xO he hx hy z)
 rw [← decide_not,CJ]
 omega
theorem AJ (a b:Bool):((!a) == !b)=(a == b):=by cases a <;> cases b <;> rfl
theorem tH {u:List L}{f g:Int→L}(F:Wlk u f)(G:Wlk u g){n:Nat}(h:∀ j:Nat,j < n→f j=g j):ptB u g f n=ptB u f g n:=by
 unfold ptB
 by_cases hn:0 < n
 ·have e0:f 0=g 0:=h 0 hn
  have e1:f ((n:Int) - 1)=g ((n:Int) - 1):=by
   have:=h (n - 1) (by omega)
   rwa [show ((n - 1:Nat):Int)=(n:Int) - 1 by omega] at this
  have q:∀ x y:L,decide (y≠x)=decide (x≠y):=fun x y=>by
   rw [CJ]
   exact ⟨fun z e=>z e.symm,fun z e=>z e.symm⟩
  rw [q (f (-1)) (g (-1)),q (f n) (g n)]
  by_cases c1:f (-1)=g (-1)
  ·rw [Bs (p:=f (-1)≠g (-1)) (fun z=>z c1),CM,CM]
  by_cases c2:f n=g n
  ·rw [Bs (p:=f n≠g n) (fun z=>z c2),CM,CM]
  rw [← e0,← e1,lH (F.i _) (F.m _) (G.m _) c2,lH (F.m _) (F.i _) (G.i _) (dA c1),AJ]
 ·rw [Bs hn,CM,CM]
theorem lI (f g:Int→L):∀ b k,frN g f k b=frN f g k b
 | 0,_=>rfl
 | b+1,k=>by
  unfold frN
  by_cases e:f k=g k
  ·rw [if_pos e,if_pos e.symm]
   exact lI f g b _
  ·rw [if_neg e,if_neg (fun z=>e z.symm)]
theorem rR {u:List L}(nd:u.Nodup){a b c d:L}(ha:a∈u)(hb:b∈u)(hc:c∈u)(hd:d∈u):cO u c d a b=cO u a b c d∧cO u b a c d=cO u a b c d:=by
 have i:∀ {x y:L},x∈u→y∈u→(x=y ↔ u.idxOf x=u.idxOf y):=fun hx hy=>⟨fun e=>by rw [e],fun e=>bw hx hy e⟩
 have a1:=bo ha
 have a2:=bo hb
 have a3:=bo hc
 have a4:=bo hd
 unfold cO
 simp only [B7,BU,Co,D6,not_or,EW,CG,G2]
 simp only [i ha hb,i ha hc,i ha hd,i hb hc,i hb hd,i hc hd,i hc ha,i hd ha,i hc hb,i hd hb,i hb ha]
 rw [bz ha hc,bz ha hb,bz ha hd,bz hc ha,bz hc hd,bz hc hb,bz hb hc,bz hb ha,bz hb hd]
 generalize u.idxOf a=x1 at *
 generalize u.idxOf b=x2 at *
 generalize u.idxOf c=x3 at *
 generalize u.idxOf d=x4 at *
 generalize u.length=n at *
 constructor <;> grind
structure Wo (n:Nat) (w:List L):Prop where
 r:Rnd w
 i:InM n w
theorem Wo.lp {n:Nat}{w:List L}(h:Wo n w):0 < w.length:=Ct.mpr h.r.ne
theorem js {n:Nat}{u w v:List L}(U:SK u n)(A:Wo n w)(B:Wo n v)(p q:Int):hP u v w 1 (q,p)=hP u w v 1 (p,q):=by
 unfold hP nW
 show ptB u (sgZ v q 1) (sgZ w p 1) (frN (sgZ v q 1) (sgZ w p 1) 0 (v.length+w.length))=ptB u (sgZ w p 1) (sgZ v q 1) (frN (sgZ w p 1) (sgZ v q 1) 0 (w.length+v.length))
 rw [G6 v.length,lI]
 exact tH (eS U A.r A.i (.inl rfl) p) (eS U B.r B.i (.inl rfl) q) gD
theorem j6 {n:Nat}{u w v:List L}(U:SK u n)(A:Wo n w)(B:Wo n v){p q:Int}(h:hP u w v (-1) (p,q)=true):hP u v w (-1) (q - (nW w v (-1) (p,q):Nat)+1,p+(nW w v (-1) (p,q):Nat) - 1)=true∧nW v w (-1) (q - (nW w v (-1) (p,q):Nat)+1,p+(nW w v (-1) (p,q):Nat) - 1)=nW w v (-1) (p,q):=by
 have F:=eS U A.r A.i (.inl rfl) p
 have G:=eS U B.r B.i (.inr rfl) q
 have hle:nW w v (-1) (p,q)≤w.length+v.length:=by
  have:=(cq (sgZ w p 1) (sgZ v q (-1)) (w.length+v.length) 0).2.1
  unfold nW
  show frN (sgZ w p 1) (sgZ v q (-1)) 0 (w.length+v.length)≤_
  omega
 have al:∀ j:Nat,j < nW w v (-1) (p,q)→sgZ w p 1 j=sgZ v q (-1) j:=fun j hj=>gD (N:=w.length+v.length) j hj
 have h:ptB u (sgZ w p 1) (sgZ v q (-1)) (nW w v (-1) (p,q))=true:=h
 generalize hm:nW w v (-1) (p,q)=m at *
 have ef:∀ k:Int,sgZ v (q - (m:Nat)+1) 1 k=inv (sgZ v q (-1) ((m:Int) - 1 - k)):=fun k=>by
  unfold sgZ
  rw [if_pos rfl,if_neg (by decide),aU]
  congr 1
  omega
 have eg:∀ k:Int,sgZ w (p+(m:Nat) - 1) (-1) k=inv (sgZ w p 1 ((m:Int) - 1 - k)):=fun k=>by
  unfold sgZ
  rw [if_pos rfl,if_neg (by decide)]
  congr 2
  omega
 unfold ptB at h
 simp only [BZ,BE] at h
 obtain ⟨h0,h1,h2,h3⟩:=h
 have e0:sgZ w p 1 0=sgZ v q (-1) 0:=al 0 h0
 have e1:sgZ w p 1 ((m:Int) - 1)=sgZ v q (-1) ((m:Int) - 1):=by
  have:=al (m - 1) (by omega)
  rwa [show ((m - 1:Nat):Int)=(m:Int) - 1 by omega] at this
 have en:nW v w (-1) (q - (m:Nat)+1,p+(m:Nat) - 1)=m:=by
  refine mL (fun j hj=>?_) (by omega) (.inr ?_)
  ·show sgZ v (q - (m:Nat)+1) 1 j=sgZ w (p+(m:Nat) - 1) (-1) j
   rw [ef,eg]
   have:=al (m - 1 - j) (by omega)
   rw [show ((m - 1 - j:Nat):Int)=(m:Int) - 1 - j by omega] at this
   rw [this]
  ·show sgZ v (q - (m:Nat)+1) 1 m≠sgZ w (p+(m:Nat) - 1) (-1) m
   rw [ef,eg,show (m:Int) - 1 - m = -1 by omega]
   exact (dA h1).symm
 refine ⟨?_,en⟩
 unfold hP
 rw [en]
 show ptB u (sgZ v (q - (m:Nat)+1) 1) (sgZ w (p+(m:Nat) - 1) (-1)) m=true
 unfold ptB
 rw [ef,ef,ef,ef,eg,eg,show (m:Int) - 1 - -1=m by omega,show (m:Int) - 1 - m = -1 by omega,show (m:Int) - 1 - ((m:Int) - 1)=0 by omega,show (m:Int) - 1 - 0=(m:Int) - 1 by omega,aU,aU,aU]
 rw [BD h0,BD (p:=inv (sgZ v q (-1) m)≠inv (sgZ w p 1 m)) (dA h2).symm,BD (p:=inv (sgZ v q (-1) (-1))≠inv (sgZ w p 1 (-1))) (dA h1).symm,Cy,Cy,Cy]
 rw [← e0,← e1,lH (F.m 0) (F.i (-1)) (G.i (-1)) (dA h1),lH (F.i _) (F.m m) (G.m m) h2,AJ]
 rw [GU] at h3 ⊢
 exact h3.symm
def oth (w v:List L)(s:P2):P2:=((s.2 - (nW w v (-1) s:Nat)+1) % (v.length:Int),(s.1+(nW w v (-1) s:Nat) - 1) % (w.length:Int))
theorem cW (a n:Int):a % n % n=a % n:=Int.emod_emod_of_dvd _ (Int.dvd_refl _)
theorem tI {w v:List L}(hw:0 < w.length)(hv:0 < v.length)(s:P2):oth w v s∈prs v.length w.length:=by
 refine aN.mpr ⟨BV _ (by omega),BJ _ (by omega),BV _ (by omega),BJ _ (by omega)⟩
theorem dC {n:Nat}{u w v:List L}(U:SK u n)(A:Wo n w)(B:Wo n v){s:P2}(hs:s∈prs w.length v.length)(h:hP u w v (-1) s=true):hP u v w (-1) (oth w v s)=true∧nW v w (-1) (oth w v s)=nW w v (-1) s∧oth v w (oth w v s)=s:=by
 obtain ⟨p,q⟩:=s
 obtain ⟨h1,h2⟩:=j6 U A B h
 have hm:=rQ (u:=u) (w:=v) (v:=w) (s:=oth w v (p,q)) (t:=(q - (nW w v (-1) (p,q):Nat)+1,p+(nW w v (-1) (p,q):Nat) - 1)) (cW _ _) (cW _ _) (-1)
 have en:nW v w (-1) (oth w v (p,q))=nW w v (-1) (p,q):=by rw [hm.2.2,h2]
 refine ⟨by rw [hm.2.1];exact h1,en,?_⟩
 obtain ⟨a1,a2,a3,a4⟩:=aN.mp hs
 show ((((oth w v (p,q)).2 - (nW v w (-1) (oth w v (p,q)):Nat)+1) % (w.length:Int)),(((oth w v (p,q)).1+(nW v w (-1) (oth w v (p,q)):Nat) - 1) % (v.length:Int)))=(p,q)
 rw [en]
 unfold oth
 refine CY ?_ ?_
 ·show (((p+(nW w v (-1) (p,q):Nat) - 1) % (w.length:Int)) - (nW w v (-1) (p,q):Nat)+1) % (w.length:Int)=p
  rw [show ((p+(nW w v (-1) (p,q):Nat) - 1) % (w.length:Int)) - (nW w v (-1) (p,q):Nat)+1=((p+(nW w v (-1) (p,q):Nat) - 1) % (w.length:Int))+(1 - (nW w v (-1) (p,q):Nat)) by omega,DY,show p+(nW w v (-1) (p,q):Nat) - 1+(1 - (nW w v (-1) (p,q):Nat))=p by omega]
  exact B5 a1 a2
 ·show (((q - (nW w v (-1) (p,q):Nat)+1) % (v.length:Int))+(nW w v (-1) (p,q):Nat) - 1) % (v.length:Int)=q
  rw [show ((q - (nW w v (-1) (p,q):Nat)+1) % (v.length:Int))+(nW w v (-1) (p,q):Nat) - 1=((q - (nW w v (-1) (p,q):Nat)+1) % (v.length:Int))+((nW w v (-1) (p,q):Nat) - 1) by omega,DY,show q - (nW w v (-1) (p,q):Nat)+1+((nW w v (-1) (p,q):Nat) - 1)=q by omega]
  exact B5 a3 a4
def sw (s:P2):P2:=(s.2,s.1)
theorem rS {m n:Nat}{s:P2}(h:s∈prs m n):sw s∈prs n m:=by
 obtain ⟨a1,a2,a3,a4⟩:=aN.mp h
 exact aN.mpr ⟨a3,a4,a1,a2⟩
theorem xP {n:Nat}{u w v:List L}(U:SK u n)(A:Wo n w)(B:Wo n v)(s:P2):hF u v w (sw s)=hF u w v s:=by
 have F:=eS U A.r A.i (.inl rfl) s.1
 have G:=eS U B.r B.i (.inl rfl) s.2
 exact (rR U.srf.nd (F.i _) (F.m _) (G.i _) (G.m _)).1
theorem xQ {n:Nat}{u w v:List L}(U:SK u n)(A:Wo n w)(B:Wo n v):(prs w.length v.length).countP (hP u w v 1)≤(prs v.length w.length).countP (hP u v w 1) :=
 jr (bQ _ _) sw sw fun s hs h=>⟨rS hs,by show hP u v w 1 (s.2,s.1)=true;rw [js U A B];exact h,rfl⟩
theorem rT {n:Nat}{u w v:List L}(U:SK u n)(A:Wo n w)(B:Wo n v):(prs w.length v.length).countP (hP u w v (-1))≤(prs v.length w.length).countP (hP u v w (-1)) :=
 jr (bQ _ _) (oth w v) (oth v w) fun s hs h=>⟨tI A.lp B.lp s,(dC U A B hs h).1,(dC U A B hs h).2.2⟩
theorem iE {k l:List P2}{g h:P2→Bool}(nk:k.Nodup)(nl:l.Nodup)(a b:P2→P2)(H:∀ x∈k,a x∈l∧b (a x)=x∧h (a x)=g x)(H':∀ y∈l,b y∈k∧a (b y)=y):k.countP g=l.countP h:=by
 refine GM (jr nk a b fun x hx e=>⟨(H x hx).1,by rw [(H x hx).2.2];exact e,(H x hx).2.1⟩) (jr nl b a fun y hy e=>?_)
 obtain ⟨h1,h2⟩:=H' y hy
 refine ⟨h1,?_,h2⟩
 have:=(H _ h1).2.2
 rw [h2] at this
 rw [← this]
 exact e
theorem pH (w:List L)(a:Nat):(rot w a).length=w.length:=(rh w a).length_eq
theorem pI {w:List L}{a:Nat}(ha:a≤w.length)(j:Int):atZ (rot w a) j=atZ w (j+a):=by
 by_cases hw:w.length=0
 ·have:w=[]:=Dv hw
  subst this
  simp [rot,atZ]
 have e0:=BV j (show (w.length:Int)≠0 by omega)
 have e1:=BJ j (show (0:Int) < (w.length:Int) by omega)
 unfold atZ
 rw [pH,By,By,uL ha (by omega)]
 congr 2
 have:(((j % (w.length:Int)).toNat+a) % w.length:Nat)=((j+a) % (w.length:Int)).toNat:=by
  rw [Cz]
  have:(((j % (w.length:Int)).toNat+a:Nat):Int)=j % (w.length:Int)+a:=by omega
  have q:(((((j % (w.length:Int)).toNat+a) % w.length:Nat)):Int)=(j % (w.length:Int)+a % (w.length:Int)) % (w.length:Int):=by
   rw [Int.natCast_emod,this]
   rw [Int.add_emod_emod]
  omega
 rw [this]
theorem cX {m:Nat}{p c:Int}(h0:0≤p)(h1:p < (m:Int)):((p+c) % (m:Int) + -c) % (m:Int)=p:=by
 rw [DY,show p+c + -c=p by omega]
 exact B5 h0 h1
theorem cj {w:List L}(hw:0 < w.length)(j:Int):atZ (bk w) j=inv (atZ w (-1 - j)):=by
 have e0:=BV j (show (w.length:Int)≠0 by omega)
 have e1:=BJ j (show (0:Int) < (w.length:Int) by omega)
 have e2:(-1 - j) % (w.length:Int)=(w.length:Int) - 1 - j % (w.length:Int):=by
  have:-1 - j=((w.length:Int) - 1 - j % (w.length:Int))+(w.length:Int)*(-1 - j / (w.length:Int)):=by
   have:=Int.mul_ediv_add_emod j (w.length:Int)
   rw [Int.mul_sub]
   omega
  rw [this,DK]
  exact B5 (by omega) (by omega)
 unfold atZ
 rw [e2,aK]
 have hy:w[w.length - 1 - (j % (w.length:Int)).toNat]? = some (w.getD ((w.length:Int) - 1 - j % (w.length:Int)).toNat 0):=by
  rw [show w.length - 1 - (j % (w.length:Int)).toNat=((w.length:Int) - 1 - j % (w.length:Int)).toNat by omega]
  exact rj (by omega)
 rw [By,oq w (by omega) hy]
 rfl
theorem zW {w:List L}(hw:0 < w.length)(p:Int):sgZ (bk w) p 1=sgZ w (-1 - p) (-1):=by
 funext k
 unfold sgZ
 rw [if_pos rfl,if_neg (by decide),cj hw]
 congr 2
 omega
theorem Wo.bk {n:Nat}{w:List L}(h:Wo n w):Wo n (bk w):=⟨tj h.r,InM.bk h.i⟩
theorem ff {m:Nat}{p c:Int}(h0:0≤p)(h1:p < (m:Int)):(c - (c - p) % (m:Int)) % (m:Int)=p:=by
 rw [DZ,show c - (c - p)=p by omega]
 exact B5 h0 h1
theorem bkA {n:Nat}{u w v:List L}(U:SK u n)(A:Wo n w)(B:Wo n v):(prs w.length v.length).countP (hP u (bk w) v 1)=(prs w.length v.length).countP (hP u w v (-1)):=by
 have e1:(prs w.length v.length).countP (hP u (bk w) v 1)=(prs v.length w.length).countP (hP u v w (-1)):=by
  refine iE (bQ _ _) (bQ _ _) (fun s=>(s.2,(-1 - s.1) % (w.length:Int))) (fun s=>((-1 - s.2) % (w.length:Int),s.1)) (fun s hs=>?_) (fun s hs=>?_)
  ·obtain ⟨a1,a2,a3,a4⟩:=aN.mp hs
   refine ⟨aN.mpr ⟨a3,a4,BV _ (by omega),BJ _ (by omega)⟩,CY (ff a1 a2) rfl,?_⟩
   rw [(rQ (u:=u) (w:=v) (v:=w) (s:=(s.2,(-1 - s.1) % (w.length:Int))) (t:=(s.2,-1 - s.1)) rfl (cW _ _) (-1)).2.1]
   unfold hP nW
   show ptB u (sgZ v s.2 1) (sgZ w (-1 - s.1) (-1)) (frN (sgZ v s.2 1) (sgZ w (-1 - s.1) (-1)) 0 (v.length+w.length))=ptB u (sgZ (bk w) s.1 1) (sgZ v s.2 1) (frN (sgZ (bk w) s.1 1) (sgZ v s.2 1) 0 ((bk w).length+v.length))
   rw [zW A.lp,aK,G6 v.length,lI]
   exact tH (eS U A.r A.i (.inr rfl) _) (eS U B.r B.i (.inl rfl) _) gD
  ·obtain ⟨a1,a2,a3,a4⟩:=aN.mp hs
   exact ⟨aN.mpr ⟨BV _ (by omega),BJ _ (by omega),a1,a2⟩,CY rfl (ff a3 a4)⟩
 rw [e1]
 exact GM (rT U B A) (rT U A B)
theorem pJ (u:List L)(W:List (List L))(i j:Int)(m:Nat):allL u W i j m=(prs m (wyZ W j).length).flatMap fun x=>lkZ u W (i,x.1) (j,x.2):=by
 unfold allL prs qz
 rw [List.flatMap_assoc]
 refine lG fun p _=>?_
 rw [List.flatMap_map]
theorem pK {F:P2→List Lnk}{h1 h2 h3:P2→Bool}:∀ {l:List P2},(∀ x∈l,(F x).length=(h1 x).toNat+((h2 x).toNat+(h3 x).toNat))→(l.flatMap F).length=l.countP h1+(l.countP h2+l.countP h3)
 | [],_=>rfl
 | x::l,H=>by
  have ih:=pK (l:=l) fun y hy=>H y (Bw _ hy)
  have:=H x BC
  rw [CQ,Bq,ih,this,Dx,Dx,Dx]
  cases h1 x <;> cases h2 x <;> cases h3 x <;> simp <;> omega
theorem eI (b:Bool)(x:Lnk):(if b=true then [x] else []).length=b.toNat:=by cases b <;> rfl
theorem xR {u:List L}{W:List (List L)}{i j:Int}(h:i < j):(allL u W i j (wyZ W i).length).length=NN u (wyZ W i) (wyZ W j):=by
 rw [pJ]
 refine pK fun x _=>?_
 have l1:∀ q r:Int,ltP (i,q) (j,r)=true:=fun q r=>eF.mpr (.inl h)
 unfold lkZ xI xJ mU mK
 rw [l1,l1,Cy,Cy,Cy,Bq,Bq,eI,eI,eI]
 rfl
theorem vg {n:Nat}{g:P2→Bool}(h0:∀ s:P2,s.1=s.2→g s=false)(hs:∀ s,g (sw s)=g s):2*(prs n n).countP (fun s=>decide (s.1 < s.2) && g s)=(prs n n).countP g:=by
 have e1:(prs n n).countP g=(prs n n).countP (fun s=>decide (s.1 < s.2) && g s)+(prs n n).countP (fun s=>decide (s.2 < s.1) && g s):=cL fun s _=>by
  rcases Int.lt_trichotomy s.1 s.2 with h | h | h
  ·rw [BD h,Bs (show ¬ s.2 < s.1 by omega)]
   simp
  ·rw [h0 s h]
   simp
  ·rw [BD h,Bs (show ¬ s.1 < s.2 by omega)]
   simp
 have e2:(prs n n).countP (fun s=>decide (s.1 < s.2) && g s)=(prs n n).countP (fun s=>decide (s.2 < s.1) && g s):=iE (bQ _ _) (bQ _ _) sw sw (fun s h=>⟨rS h,rfl,by show (decide (s.1 < s.2) && g (sw s))=_;rw [hs]⟩) (fun s h=>⟨rS h,rfl⟩)
 omega
theorem xS {n:Nat}{u:List L}(U:SK u n){W:List (List L)}{i:Int}(A:Wo n (wyZ W i)):2*(allL u W i i (wyZ W i).length).length=NN u (wyZ W i) (wyZ W i):=by
 have e:(allL u W i i (wyZ W i).length).length=(prs (wyZ W i).length (wyZ W i).length).countP (fun s=>decide (s.1 < s.2) && hF u (wyZ W i) (wyZ W i) s)+((prs (wyZ W i).length (wyZ W i).length).countP (fun s=>decide (s.1 < s.2) && hP u (wyZ W i) (wyZ W i) 1 s)+(prs (wyZ W i).length (wyZ W i).length).countP (fun s=>decide (s.1 < (oth (wyZ W i) (wyZ W i) s).1) && hP u (wyZ W i) (wyZ W i) (-1) s)):=by
  rw [pJ]
  refine pK fun x _=>?_
  have l1:∀ q r:Int,ltP (i,q) (i,r)=decide (q < r):=fun q r=>by
   rw [BX,eF,BE]
   show i < i ∨ (i=i∧q < r) ↔ _
   omega
  unfold lkZ xI xJ mU mK
  rw [l1,l1,Bq,Bq,eI,eI,eI]
  rfl
 generalize wyZ W i=w at *
 have f1:=vg (n:=w.length) (g:=hF u w w) (fun s h=>by
  unfold hF cO
  rw [h]
  have:¬ [inv (sgZ w s.2 1 0),sgZ w s.2 1 1,inv (sgZ w s.2 1 0),sgZ w s.2 1 1].Nodup:=by simp
  rw [Bs this,CM]) (fun s=>xP U A A s)
 have f2:=vg (n:=w.length) (g:=hP u w w 1) (fun s h=>by
  unfold hP
  rw [h]
  exact dX rfl) (fun s=>js U A A s.1 s.2)
 have f3:(prs w.length w.length).countP (hP u w w (-1))=(prs w.length w.length).countP (fun s=>decide (s.1 < (oth w w s).1) && hP u w w (-1) s)+(prs w.length w.length).countP (fun s=>decide ((oth w w s).1 < s.1) && hP u w w (-1) s):=cL fun s hs=>by
  rcases Int.lt_trichotomy s.1 (oth w w s).1 with h | h | h
  ·rw [BD h,Bs (show ¬ (oth w w s).1 < s.1 by omega)]
   simp
  ·have:hP u w w (-1) s=false:=by
    rw [Ei]
    intro z
    unfold hP ptB at z
    rw [BZ,BE] at z
    refine iz (w:=w) (p:=s.1) (q:=s.2) A.r z.1 (fun j hj=>gD (N:=w.length+w.length) j hj) ?_
    have a:=aN.mp hs
    rw [B5 a.1 a.2.1,h]
    rfl
   rw [this]
   simp
  ·rw [BD h,Bs (show ¬ s.1 < (oth w w s).1 by omega)]
   simp
 have f4:∀ (c d:Int→Int→Bool),(∀ a b,c a b=d b a)→(prs w.length w.length).countP (fun s=>c s.1 (oth w w s).1 && hP u w w (-1) s)≤(prs w.length w.length).countP (fun s=>d s.1 (oth w w s).1 && hP u w w (-1) s):=fun c d hcd=>jr (bQ _ _) (oth w w) (oth w w) fun s hs h=>by
  rw [BZ] at h
  obtain ⟨q1,q2,q3⟩:=dC U A A hs h.2
  refine ⟨tI A.lp A.lp s,?_,q3⟩
  rw [q3,q1,Bool.and_true,← hcd]
  exact h.1
 have f5:=f4 (fun a b=>decide (a < b)) (fun a b=>decide (b < a)) fun _ _=>rfl
 have f6:=f4 (fun a b=>decide (b < a)) (fun a b=>decide (a < b)) fun _ _=>rfl
 rw [e]
 unfold NN
 omega
def sm {α:Type}(h:α→Int):List α→Int
 | []=>0
 | x::l=>h x+sm h l
theorem fg {α:Type}{g h:α→Int}:∀ {l:List α},(∀ x∈l,g x=h x)→sm g l=sm h l
 | [],_=>rfl
 | x::l,H=>by
  show g x+sm g l=h x+sm h l
  rw [H x BC,fg fun y hy=>H y (Bw _ hy)]
theorem tJ {α:Type}(g h:α→Int):∀ l:List α,sm (fun x=>g x+h x) l=sm g l+sm h l
 | []=>rfl
 | x::l=>by
  show g x+h x+sm (fun x=>g x+h x) l=(g x+sm g l)+(h x+sm h l)
  rw [tJ g h l]
  omega
theorem tK {α β:Type}(h:β→Int)(f:α→β):∀ l:List α,sm h (l.map f)=sm (fun x=>h (f x)) l
 | []=>rfl
 | x::l=>by
  show h (f x)+sm h (l.map f)=h (f x)+sm (fun x=>h (f x)) l
  rw [tK h f l]
theorem vh {α:Type}(h:α→Int){k l:List α}(p:k.Perm l):sm h k=sm h l:=by
 induction p with
 | nil=>rfl
 | cons x _ ih=>show h x+_=h x+_;rw [ih]
 | swap x y l=>show h y+(h x+sm h l)=h x+(h y+sm h l);omega
 | trans _ _ a b=>exact a.trans b
theorem dY {α:Type}(h:α→Int)(A:α→Bool):∀ l:List α,sm (fun x=>if A x=true then h x else 0) l=sm h (l.filter A)
 | []=>rfl
 | x::l=>by
  show (if A x=true then h x else 0)+sm (fun x=>if A x=true then h x else 0) l=_
  rw [dY h A l]
  by_cases c:A x=true
  ·rw [if_pos c,CC c]
   rfl
  ·rw [if_neg c,CF c]
   omega
theorem xT {k l:List P2}(nk:k.Nodup)(nl:l.Nodup){A B:P2→Bool}(a b:P2→P2)(H:∀ x∈k,A x=true→a x∈l∧B (a x)=true∧b (a x)=x)(H':∀ y∈l,B y=true→b y∈k∧A (b y)=true∧a (b y)=y)(h:P2→Int):sm (fun y=>if B y=true then h y else 0) l=sm (fun x=>if A x=true then h (a x) else 0) k:=by
 rw [dY,dY,← tK h a]
 refine vh h ((Ej (CA _ nl) ?_).mpr fun y=>?_)
 ·have q:∀ x∈k.filter A,x∈k∧A x=true:=fun x hx=>BW.mp hx
  have nf:(k.filter A).Nodup:=CA _ nk
  revert nf q
  generalize k.filter A=z
  induction z with
  | nil=>intro _ _;exact CG
  | cons x z ih =>
   intro q nf
   rw [B7] at nf
   rw [Cd,B7]
   refine ⟨fun hm=>?_,ih (fun y hy=>q y (Bw _ hy)) nf.2⟩
   obtain ⟨y,hy,e⟩:=B2.mp hm
   obtain ⟨h1,h2⟩:=q x BC
   obtain ⟨h3,h4⟩:=q y (Bw _ hy)
   have e1:=(H x h1 h2).2.2
   have e2:=(H y h3 h4).2.2
   rw [← e,e2] at e1
   exact nf.1 (e1 ▸ hy)
 ·rw [B2]
  constructor
  ·intro hy
   obtain ⟨h1,h2⟩:=BW.mp hy
   obtain ⟨h3,h4,h5⟩:=H' y h1 h2
   exact ⟨b y,BW.mpr ⟨h3,h4⟩,h5⟩
  ·rintro ⟨x,hx,rfl⟩
   obtain ⟨h1,h2⟩:=BW.mp hx
   obtain ⟨h3,h4,_⟩:=H x h1 h2
   exact BW.mpr ⟨h3,h4⟩
theorem jt {m n:Nat}{h:P2→Bool}(hp:∀ s t:P2,s.1 % (m:Int)=t.1 % (m:Int)→s.2 % (n:Int)=t.2 % (n:Int)→h s=h t)(c e:Int):(prs m n).countP (fun s=>h (s.1+c,s.2+e))=(prs m n).countP h:=by
 refine iE (bQ _ _) (bQ _ _) (fun s=>((s.1+c) % (m:Int),(s.2+e) % (n:Int))) (fun s=>((s.1 + -c) % (m:Int),(s.2 + -e) % (n:Int))) (fun s hs=>?_) (fun s hs=>?_)
 ·obtain ⟨a1,a2,a3,a4⟩:=aN.mp hs
  exact ⟨aN.mpr ⟨BV _ (by omega),BJ _ (by omega),BV _ (by omega),BJ _ (by omega)⟩,CY (cX a1 a2) (cX a3 a4),hp _ _ (cW _ _) (cW _ _)⟩
 ·obtain ⟨a1,a2,a3,a4⟩:=aN.mp hs
  refine ⟨aN.mpr ⟨BV _ (by omega),BJ _ (by omega),BV _ (by omega),BJ _ (by omega)⟩,CY ?_ ?_⟩
  ·have:=cX (c:=-c) a1 a2
   rw [GY] at this
   exact this
  ·have:=cX (c:=-e) a3 a4
   rw [GY] at this
   exact this
def sgn (u:List L)(x y:L):Int:=if u.idxOf x < u.idxOf y then 1 else if u.idxOf y < u.idxOf x then -1 else 0
def ch (u:List L)(a b c d:L):Int:=sgn u a c - sgn u a d - sgn u b c+sgn u b d
theorem at_mod {w:List L}{i j:Int}(h:i % (w.length:Int)=j % (w.length:Int))(c:Int):atZ w (i+c)=atZ w (j+c):=by
 unfold atZ
 rw [Cz,h,← Cz]
theorem cb {w:List L}{i j:Int}(h:i % (w.length:Int)=j % (w.length:Int)):atZ w i=atZ w j:=by
 unfold atZ
 rw [h]
def c2 (u w v:List L)(s:P2):Int:=ch u (inv (atZ w s.1)) (atZ w (s.1+1)) (inv (atZ v s.2)) (atZ v (s.2+1))
theorem vi {f g:Int→L}{a b:Nat}(ha:0 < a)(hb:0 < b)(pf:∀ k,f (k+(a:Int))=f k)(pg:∀ k,g (k+(b:Int))=g k)(h:f (-1)≠g (-1)):frN f g 0 (a+b) < a+b∧f (frN f g 0 (a+b))≠g (frN f g 0 (a+b)):=by
 obtain ⟨_,h2,h3,h4⟩:=cq f g (a+b) 0
 generalize frN f g 0 (a+b)=n at h2 h3 h4 ⊢
 by_cases c:n < a+b
 ·exact ⟨c,h4 (by omega)⟩
 ·refine absurd (iy (f:=f) (g:=g) (a:=(a:Int)) (b:=(b:Int)) (by omega) (by omega) pf pg fun k hk hl=>?_) h
  obtain ⟨m,rfl⟩:=CB hk
  exact h3 m (Cc _) (by omega)
def eA (w v:List L)(s:P2):Bool:=decide (atZ w s.1=atZ v s.2∧atZ w (s.1+1)≠atZ v (s.2+1))
def bA (w v:List L)(s:P2):Bool:=decide (atZ w (s.1+1)=atZ v (s.2+1)∧atZ w s.1≠atZ v s.2)
def nF (w v:List L)(s:P2):Nat:=nW w v 1 (s.1+1,s.2+1)
def nB (w v:List L)(s:P2):Nat:=frN (fun k=>atZ w (s.1 - k)) (fun k=>atZ v (s.2 - k)) 0 (w.length+v.length)
theorem lJ {u w v:List L}{s t:P2}(h1:s.1 % (w.length:Int)=t.1 % (w.length:Int))(h2:s.2 % (v.length:Int)=t.2 % (v.length:Int)):eA w v s=eA w v t∧bA w v s=bA w v t∧nB w v s=nB w v t∧nF w v s=nF w v t∧c2 u w v s=c2 u w v t:=by
 have q1:∀ c,(s.1+c) % (w.length:Int)=(t.1+c) % (w.length:Int):=fun c=>by rw [Cz,h1,← Cz]
 have q2:∀ c,(s.2+c) % (v.length:Int)=(t.2+c) % (v.length:Int):=fun c=>by rw [Cz,h2,← Cz]
 have e1:∀ c,atZ w (s.1+c)=atZ w (t.1+c):=fun c=>at_mod h1 c
 have e2:∀ c,atZ v (s.2+c)=atZ v (t.2+c):=fun c=>at_mod h2 c
 have e3:=cb h1
 have e4:=cb h2
 refine ⟨?_,?_,?_,?_,?_⟩
 ·unfold eA
  rw [e1,e2,e3,e4]
 ·unfold bA
  rw [e1,e2,e3,e4]
 ·unfold nB
  have f1:(fun k=>atZ w (s.1 - k))=fun k=>atZ w (t.1 - k):=by
   funext k
   exact e1 (-k)
  have f2:(fun k=>atZ v (s.2 - k))=fun k=>atZ v (t.2 - k):=by
   funext k
   exact e2 (-k)
  rw [f1,f2]
 ·exact (rQ (u:=u) (w:=w) (v:=v) (s:=(s.1+1,s.2+1)) (t:=(t.1+1,t.2+1)) (q1 1) (q2 1) 1).2.2
 ·unfold c2
  rw [e1,e2,e3,e4]
theorem fM {w v:List L}(lw:0 < w.length)(lv:0 < v.length){p q:Int}(h:bA w v (p,q)=true):∃ n:Nat,nF w v (p,q)=n∧0 < n∧n < w.length+v.length∧eA w v (p+n,q+n)=true∧nB w v (p+n,q+n)=n∧(∀ j:Nat,j < n→atZ w (p+1+j)=atZ v (q+1+j))∧atZ w (p+1+n)≠atZ v (q+1+n):=by
 unfold bA at h
 obtain ⟨h0,h1⟩:=CZ h
 dsimp only at h0 h1
 have pf:∀ (w:List L) (p k:Int),atZ w (p+(k+(w.length:Int)))=atZ w (p+k):=fun w p k=>by rw [← Int.add_assoc];exact fK _
 have e:nF w v (p,q)=frN (fun k=>atZ w (p+1+k)) (fun k=>atZ v (q+1+k)) 0 (w.length+v.length):=by
  unfold nF nW
  congr 1
  ·funext k;exact sg1 _ _
  ·funext k;exact sg1 _ _
 obtain ⟨a1,a2⟩:=vi (f:=fun k=>atZ w (p+1+k)) (g:=fun k=>atZ v (q+1+k)) lw lv (fun k=>pf w (p+1) k) (fun k=>pf v (q+1) k) (by
  show atZ w (p+1 + -1)≠atZ v (q+1 + -1)
  rw [show p+1 + -1=p by omega,show q+1 + -1=q by omega]
  exact h1)
 have a3:∀ j:Nat,j < frN (fun k=>atZ w (p+1+k)) (fun k=>atZ v (q+1+k)) 0 (w.length+v.length)→atZ w (p+1+j)=atZ v (q+1+j):=fun j hj=>gD (f:=fun k=>atZ w (p+1+k)) (g:=fun k=>atZ v (q+1+k)) j hj
 generalize frN (fun k=>atZ w (p+1+k)) (fun k=>atZ v (q+1+k)) 0 (w.length+v.length)=n at *
 have hn:0 < n:=by
  apply Nat.pos_of_ne_zero
  intro z
  subst z
  refine a2 ?_
  show atZ w (p+1+(0:Nat))=atZ v (q+1+(0:Nat))
  rw [show p+1+((0:Nat):Int)=p+1 by omega,show q+1+((0:Nat):Int)=q+1 by omega]
  exact h0
 have l1:atZ w (p+n)=atZ v (q+n):=by
  have:=a3 (n - 1) (by omega)
  rwa [show p+1+((n - 1:Nat):Int)=p+n by omega,show q+1+((n - 1:Nat):Int)=q+n by omega] at this
 refine ⟨n,e,hn,a1,BD ⟨l1,?_⟩,?_,a3,a2⟩
 ·show atZ w (p+n+1)≠atZ v (q+n+1)
  rw [show p+(n:Int)+1=p+1+n by omega,show q+(n:Int)+1=q+1+n by omega]
  exact a2
 ·refine mL (fun j hj=>?_) (by omega) (.inr ?_)
  ·have:=a3 (n - 1 - j) (by omega)
   show atZ w (p+n - j)=atZ v (q+n - j)
   rwa [show p+1+((n - 1 - j:Nat):Int)=p+n - j by omega,show q+1+((n - 1 - j:Nat):Int)=q+n - j by omega] at this
  ·show atZ w (p+n - n)≠atZ v (q+n - n)
   rw [show p+(n:Int) - n=p by omega,show q+(n:Int) - n=q by omega]
   exact h1
theorem tL {x y:L}:x=inv y ↔ inv x=y:=⟨fun e=>by rw [e,aU],fun e=>by rw [← e,aU]⟩
theorem xU {n:Nat}{u w v:List L}(U:SK u n)(A:Wo n w)(B:Wo n v):(prs w.length v.length).countP (hP u w (bk v) 1)=(prs w.length v.length).countP (hP u w v (-1)):=by
 have a1:=xQ U A B.bk
 have a2:=xQ U B.bk A
 have a3:=bkA U B A
 have a4:=rT U A B
 have a5:=rT U B A
 rw [aK] at a1 a2
 omega
structure CD (u w v:List L) (X o:P2→Bool):Prop where
 px:∀ s t:P2,s.1 % (w.length:Int)=t.1 % (w.length:Int)→s.2 % (v.length:Int)=t.2 % (v.length:Int)→X s=X t∧o s=o t
 c1:∀ p q:Int,atZ w p=atZ v q→atZ w (p+1)=atZ v (q+1)→X (p,q)=(o (p,q) != o (p+1,q+1))
 c2:∀ p q:Int,atZ w p=atZ v q→atZ w (p+1)≠atZ v (q+1)→X (p,q)=(o (p,q) != decide (rfI u (inv (atZ w p)) (atZ w (p+1)) < rfI u (inv (atZ w p)) (atZ v (q+1))))
 c3:∀ p q:Int,atZ w p≠atZ v q→atZ w (p+1)=atZ v (q+1)→X (p,q)=(o (p+1,q+1) == decide (rfI u (atZ w (p+1)) (inv (atZ w p)) < rfI u (atZ w (p+1)) (inv (atZ v q))))
def xr (f:Nat→Bool):Nat→Bool
 | 0=>f 0
 | k+1=>xr f k != f (k+1)
def cnN (f:Nat→Bool)(k:Nat):Nat:=(List.range (k+1)).countP f
theorem xV (f:Nat→Bool):∀ k,cnN f k % 2=(xr f k).toNat
 | 0=>by unfold cnN xr;cases h:f 0 <;> simp [Dp,h]
 | k+1=>by
  have ih:=xV f k
  unfold cnN at ih ⊢
  rw [Dp,FF]
  show _=(xr f k != f (k+1)).toNat
  cases h:f (k+1) <;> cases h2:xr f k <;> rw [h2] at ih <;> simp [h] at ih ⊢ <;> omega
theorem xW {u w v:List L}(lw:0 < w.length)(lv:0 < v.length){p q:Int}(h:bA w v (p,q)=true):hP u w v 1 (p+1,q+1)=(decide (rfI u (inv (atZ w (p+(nF w v (p,q):Nat)))) (atZ w (p+1+(nF w v (p,q):Nat))) < rfI u (inv (atZ w (p+(nF w v (p,q):Nat)))) (atZ v (q+1+(nF w v (p,q):Nat)))) == decide (rfI u (atZ w (p+1)) (inv (atZ w p)) < rfI u (atZ w (p+1)) (inv (atZ v q)))):=by
 obtain ⟨n,n1,n2,n3,n4,n5,n6,n7⟩:=fM lw lv h
 obtain ⟨h0,h1⟩:=CZ h
 dsimp only at h0 h1
 rw [n1]
 unfold hP
 rw [show nW w v 1 (p+1,q+1)=n from n1]
 unfold ptB
 dsimp only
 rw [sg1,sg1,sg1,sg1,sg1,sg1,show p+1 + -1=p by omega,show q+1 + -1=q by omega,show p+1+((n:Int) - 1)=p+n by omega,show p+1+(0:Int)=p+1 by omega]
 rw [BD n2,BD (p:=atZ w p≠atZ v q) h1,BD (p:=atZ w (p+1+n)≠atZ v (q+1+n)) n7,Cy,Cy,Cy]
theorem xX {u w v:List L}{p q:Int}(h:¬ bA w v (p,q)=true):hP u w v 1 (p+1,q+1)=false:=by
 unfold hP
 dsimp only
 by_cases c:sgZ w (p+1) 1 (-1)=sgZ v (q+1) 1 (-1)
 ·exact dX c
 ·rw [sg1,sg1,show p+1 + -1=p by omega,show q+1 + -1=q by omega] at c
  have h0:atZ w (p+1)≠atZ v (q+1):=fun e=>h (BD ⟨e,c⟩)
  have:nW w v 1 (p+1,q+1)=0:=by
   refine mL (fun j hj=>absurd hj (by omega)) (Cc _) (.inr ?_)
   rw [sg1,sg1]
   show atZ w (p+1+(0:Nat))≠atZ v (q+1+(0:Nat))
   rw [show p+1+((0:Nat):Int)=p+1 by omega,show q+1+((0:Nat):Int)=q+1 by omega]
   exact h0
  rw [this]
  rfl
theorem zX {u w v:List L}{X o:P2→Bool}(C:CD u w v X o)(lw:0 < w.length)(lv:0 < v.length){p q:Int}(h:bA w v (p,q)=true):xr (fun j:Nat=>X (p+j,q+j)) (nF w v (p,q))=hP u w v 1 (p+1,q+1):=by
 rw [xW lw lv h]
 obtain ⟨n,n1,n2,n3,n4,n5,n6,n7⟩:=fM lw lv h
 obtain ⟨h0,h1⟩:=CZ h
 dsimp only at h0 h1
 rw [n1]
 have step:∀ k:Nat,k < n→xr (fun j:Nat=>X (p+j,q+j)) k=(o (p+k+1,q+k+1) == decide (rfI u (atZ w (p+1)) (inv (atZ w p)) < rfI u (atZ w (p+1)) (inv (atZ v q)))):=by
  intro k
  induction k with
  | zero =>
   intro _
   show X (p+(0:Nat),q+(0:Nat))=_
   rw [show p+((0:Nat):Int)=p by omega,show q+((0:Nat):Int)=q by omega]
   exact C.c3 p q h1 h0
  | succ k ih =>
   intro hk
   have i:=ih (by omega)
   show (xr (fun j:Nat=>X (p+j,q+j)) k != X (p+(k+1:Nat),q+(k+1:Nat)))=_
   have a1:=n6 k (by omega)
   have a2:=n6 (k+1) hk
   rw [i,show p+((k+1:Nat):Int)=p+k+1 by omega,show q+((k+1:Nat):Int)=q+k+1 by omega]
   rw [C.c1 (p+k+1) (q+k+1) (by rw [show p+(k:Int)+1=p+1+k by omega,show q+(k:Int)+1=q+1+k by omega];exact a1) (by rw [show p+(k:Int)+1+1=p+1+((k+1:Nat):Int) by omega,show q+(k:Int)+1+1=q+1+((k+1:Nat):Int) by omega];exact a2)]
   generalize o (p+k+1,q+k+1)=x
   generalize o (p+k+1+1,q+k+1+1)=y
   generalize decide (rfI u (atZ w (p+1)) (inv (atZ w p)) < rfI u (atZ w (p+1)) (inv (atZ v q)))=z
   cases x <;> cases y <;> cases z <;> rfl
 obtain ⟨m,rfl⟩:∃ m,n=m+1:=⟨n - 1,by omega⟩
 show (xr (fun j:Nat=>X (p+j,q+j)) m != X (p+(m+1:Nat),q+(m+1:Nat)))=_
 rw [step m (by omega),show p+(m:Int)+1=p+(m+1:Nat) by omega,show q+(m:Int)+1=q+(m+1:Nat) by omega]
 have a1:=n6 m (by omega)
 have e1:p+((m+1:Nat):Int)+1=p+1+((m+1:Nat):Int):=by omega
 have e2:q+((m+1:Nat):Int)+1=q+1+((m+1:Nat):Int):=by omega
 rw [C.c2 (p+(m+1:Nat)) (q+(m+1:Nat)) (by rw [show p+((m+1:Nat):Int)=p+1+m by omega,show q+((m+1:Nat):Int)=q+1+m by omega];exact a1) (by rw [e1,e2];exact n7),e1,e2]
 generalize o (p+(m+1:Nat),q+(m+1:Nat))=x
 generalize decide (rfI u (inv (atZ w (p+(m+1:Nat)))) (atZ w (p+1+(m+1:Nat))) < rfI u (inv (atZ w (p+(m+1:Nat)))) (atZ v (q+1+(m+1:Nat))))=y
 generalize decide (rfI u (atZ w (p+1)) (inv (atZ w p)) < rfI u (atZ w (p+1)) (inv (atZ v q)))=z
 cases x <;> cases y <;> cases z <;> rfl
def mdS (w v:List L)(s:P2):P2:=(s.1 % (w.length:Int),s.2 % (v.length:Int))
def dT (w v:List L)(s:P2):Bool:=decide (atZ w s.1=atZ v s.2 ∨ atZ w (s.1+1)=atZ v (s.2+1))
def evr (w v:List L)(s:P2):Bool:=decide (nB w v s=w.length+v.length)
theorem zY (w v:List L)(s:P2):nB w v s≤w.length+v.length:=by
 have:=(cq (fun k=>atZ w (s.1 - k)) (fun k=>atZ v (s.2 - k)) (w.length+v.length) 0).2.1
 unfold nB
 omega
theorem tM {w v:List L}{s:P2}(j:Nat)(h:j < nB w v s):atZ w (s.1 - j)=atZ v (s.2 - j):=gD (f:=fun k=>atZ w (s.1 - k)) (g:=fun k=>atZ v (s.2 - k)) j h
theorem xY {w v:List L}{s:P2}(h:nB w v s < w.length+v.length):atZ w (s.1 - (nB w v s:Nat))≠atZ v (s.2 - (nB w v s:Nat)):=(cq (fun k=>atZ w (s.1 - k)) (fun k=>atZ v (s.2 - k)) (w.length+v.length) 0).2.2.2 (by rw [FD]; exact h)
theorem tN {w v:List L}{s t:P2}(h1:s.1 % (w.length:Int)=t.1 % (w.length:Int))(h2:s.2 % (v.length:Int)=t.2 % (v.length:Int)):dT w v s=dT w v t:=by
 unfold dT
 rw [at_mod h1 1,at_mod h2 1,cb h1,cb h2]
theorem tO {w v:List L}(lw:0 < w.length)(lv:0 < v.length){p q:Int}(h:bA w v (p,q)=true){j:Nat}(hj:j≤nF w v (p,q)):dT w v (p+j,q+j)=true∧nB w v (p+j,q+j)=j∧j < w.length+v.length:=by
 obtain ⟨n,n1,n2,n3,n4,n5,n6,n7⟩:=fM lw lv h
 obtain ⟨h0,h1⟩:=CZ h
 dsimp only at h0 h1
 rw [n1] at hj
 refine ⟨BD ?_,?_,by omega⟩
 ·dsimp only
  by_cases z:j=0
  ·subst z
   refine .inr ?_
   rw [show p+((0:Nat):Int)+1=p+1 by omega,show q+((0:Nat):Int)+1=q+1 by omega]
   exact h0
  ·refine .inl ?_
   have:=n6 (j - 1) (by omega)
   rwa [show p+1+((j - 1:Nat):Int)=p+j by omega,show q+1+((j - 1:Nat):Int)=q+j by omega] at this
 ·refine mL (fun k hk=>?_) (by omega) (.inr ?_)
  ·have:=n6 (j - 1 - k) (by omega)
   show atZ w (p+j - k)=atZ v (q+j - k)
   rwa [show p+1+((j - 1 - k:Nat):Int)=p+j - k by omega,show q+1+((j - 1 - k:Nat):Int)=q+j - k by omega] at this
  ·show atZ w (p+j - j)≠atZ v (q+j - j)
   rw [show p+(j:Int) - j=p by omega,show q+(j:Int) - j=q by omega]
   exact h1
theorem vj {w v:List L}(lw:0 < w.length)(lv:0 < v.length){p q:Int}(hd:dT w v (p,q)=true)(he:evr w v (p,q)=false):bA w v (p - (nB w v (p,q):Nat),q - (nB w v (p,q):Nat))=true∧nB w v (p,q)≤nF w v (p - (nB w v (p,q):Nat),q - (nB w v (p,q):Nat)):=by
 have hl:=zY w v (p,q)
 have hne:nB w v (p,q)≠w.length+v.length:=FE he
 have h1:=xY (w:=w) (v:=v) (s:=(p,q)) (by omega)
 have ha:=fun j h=>tM (w:=w) (v:=v) (s:=(p,q)) j h
 dsimp only at h1 ha
 have hd:=CZ hd
 dsimp only at hd
 generalize nB w v (p,q)=n at *
 have h0:atZ w (p - n+1)=atZ v (q - n+1):=by
  by_cases z:n=0
  ·subst z
   rw [show p - ((0:Nat):Int)=p by omega,show q - ((0:Nat):Int)=q by omega] at h1 ⊢
   exact hd.resolve_left h1
  ·have:=ha (n - 1) (by omega)
   rwa [show p - ((n - 1:Nat):Int)=p - n+1 by omega,show q - ((n - 1:Nat):Int)=q - n+1 by omega] at this
 have hb:bA w v (p - n,q - n)=true:=BD ⟨h0,h1⟩
 refine ⟨hb,?_⟩
 obtain ⟨m,m1,m2,m3,m4,m5,m6,m7⟩:=fM lw lv hb
 rw [m1]
 apply CP
 intro hc
 refine m7 ?_
 have:=ha (n - 1 - m) (by omega)
 rwa [show p - ((n - 1 - m:Nat):Int)=p - n+1+m by omega,show q - ((n - 1 - m:Nat):Int)=q - n+1+m by omega] at this
theorem iF {α β:Type}{g:α→List β}:∀ {l:List α},(∀ p∈l,(g p).Nodup)→(∀ p∈l,∀ q∈l,∀ x,x∈g p→x∈g q→p=q)→l.Nodup→(l.flatMap g).Nodup
 | [],_,_,_=>CG
 | p::l,h1,h2,h=>by
  rw [B7] at h
  rw [CQ,EV]
  refine ⟨h1 p BC,iF (fun q hq=>h1 q (Bw _ hq)) (fun q hq r hr=>h2 q (Bw _ hq) r (Bw _ hr)) h.2,fun x hx y hy e=>?_⟩
  subst e
  obtain ⟨q,hq,hy⟩:=De.mp hy
  exact h.1 (h2 p BC q (Bw _ hq) x hx hy ▸ hq)
theorem lK {α β:Type}(X:β→Bool)(g:α→List β):∀ l:List α,(((l.flatMap g).countP X:Nat):Int)=sm (fun b=>(((g b).countP X:Nat):Int)) l
 | []=>rfl
 | b::l=>by
  rw [CQ,FF]
  show _=(((g b).countP X:Nat):Int)+sm _ l
  rw [← lK X g l]
  omega
def Bgs (w v:List L):List P2:=(prs w.length v.length).filter (bA w v)
def Xc (w v:List L)(X:P2→Bool)(b:P2):Nat:=cnN (fun j:Nat=>X (b.1+j,b.2+j)) (nF w v b)
theorem pL {u w v:List L}{X o:P2→Bool}(C:CD u w v X o)(lw:0 < w.length)(lv:0 < v.length):(((prs w.length v.length).countP (fun s=>(dT w v s && !evr w v s) && X s):Nat):Int)=sm (fun b=>((Xc w v X b:Nat):Int)) (Bgs w v):=by
 have mk:∀ (x y:Int),(x % (w.length:Int),y % (v.length:Int))∈prs w.length v.length:=fun x y=>aN.mpr ⟨BV _ (by omega),BJ _ (by omega),BV _ (by omega),BJ _ (by omega)⟩
 have md:∀ x y:Int,∀ c:Int,(x % (w.length:Int) - c) % (w.length:Int)=(x - c) % (w.length:Int)∧(y % (v.length:Int) - c) % (v.length:Int)=(y - c) % (v.length:Int):=fun x y c=>⟨FZ ..,FZ ..⟩
 have bk:∀ b∈Bgs w v,∀ j:Nat,j≤nF w v b→nB w v (mdS w v (b.1+j,b.2+j))=j∧mdS w v ((mdS w v (b.1+j,b.2+j)).1 - (nB w v (mdS w v (b.1+j,b.2+j)):Nat),(mdS w v (b.1+j,b.2+j)).2 - (nB w v (mdS w v (b.1+j,b.2+j)):Nat))=b:=fun b hb j hj=>by
  obtain ⟨h1,h2⟩:=BW.mp hb
  obtain ⟨a1,a2,a3,a4⟩:=aN.mp h1
  obtain ⟨_,e,_⟩:=tO lw lv (p:=b.1) (q:=b.2) h2 hj
  have q:=(lJ (u:=u) (w:=w) (v:=v) (s:=mdS w v (b.1+j,b.2+j)) (t:=(b.1+j,b.2+j)) (cW _ _) (cW _ _)).2.2.1
  rw [q,e]
  refine ⟨rfl,CY ?_ ?_⟩
  ·show ((b.1+j) % (w.length:Int) - j) % (w.length:Int)=b.1
   exact cX a1 a2
  ·show ((b.2+j) % (v.length:Int) - j) % (v.length:Int)=b.2
   exact cX a3 a4
 have pm:((Bgs w v).flatMap fun b=>(List.range (nF w v b+1)).map fun j:Nat=>mdS w v (b.1+j,b.2+j)).Perm ((prs w.length v.length).filter fun s=>dT w v s && !evr w v s):=by
  refine (Ej ?_ (CA _ (bQ _ _))).mpr fun s=>?_
  ·refine iF (fun b hb=>?_) (fun b hb c hc x hx hy=>?_) (CA _ (bQ _ _))
   ·have nr:(List.range (nF w v b+1)).Nodup:=Fb
    have key:∀ l:List Nat,(∀ j∈l,j≤nF w v b)→l.Nodup→(l.map fun j:Nat=>mdS w v (b.1+j,b.2+j)).Nodup:=by
     intro l
     induction l with
     | nil=>intro _ _;exact CG
     | cons x l ih =>
      intro hl nl
      rw [B7] at nl
      rw [Cd,B7]
      refine ⟨fun hm=>?_,ih (fun j hj=>hl j (Bw _ hj)) nl.2⟩
      obtain ⟨y,hy,e⟩:=B2.mp hm
      have e1:=(bk b hb x (hl x BC)).1
      have e2:=(bk b hb y (hl y (Bw _ hy))).1
      rw [← e,e2] at e1
      exact nl.1 (e1 ▸ hy)
    exact key _ (fun j hj=>by have:=CL.mp hj;omega) nr
   ·obtain ⟨i,hi,rfl⟩:=B2.mp hx
    obtain ⟨j,hj,e⟩:=B2.mp hy
    rw [CL] at hi hj
    have e1:=(bk b hb i (by omega)).2
    have e2:=(bk c hc j (by omega)).2
    rw [e] at e2
    exact e1.symm.trans e2
  ·rw [De,BW]
   constructor
   ·rintro ⟨b,hb,hs⟩
    obtain ⟨j,hj,rfl⟩:=B2.mp hs
    rw [CL] at hj
    obtain ⟨h1,h2⟩:=BW.mp hb
    obtain ⟨d1,d2,d3⟩:=tO lw lv (p:=b.1) (q:=b.2) h2 (j:=j) (by
     show j≤nF w v b
     omega)
    refine ⟨mk _ _,?_⟩
    rw [tN (s:=mdS w v (b.1+j,b.2+j)) (t:=(b.1+j,b.2+j)) (cW _ _) (cW _ _),d1,Cy]
    unfold evr
    rw [(bk b hb j (by omega)).1,Bs (by omega)]
    rfl
   ·rintro ⟨hs,hd⟩
    rw [BZ,EX] at hd
    obtain ⟨b1,b2⟩:=vj lw lv (p:=s.1) (q:=s.2) hd.1 hd.2
    obtain ⟨a1,a2,a3,a4⟩:=aN.mp hs
    have q:=lJ (u:=u) (w:=w) (v:=v) (s:=mdS w v (s.1 - (nB w v s:Nat),s.2 - (nB w v s:Nat))) (t:=(s.1 - (nB w v s:Nat),s.2 - (nB w v s:Nat))) (cW _ _) (cW _ _)
    refine ⟨mdS w v (s.1 - (nB w v s:Nat),s.2 - (nB w v s:Nat)),BW.mpr ⟨mk _ _,by rw [q.2.1];exact b1⟩,B2.mpr ⟨nB w v s,CL.mpr ?_,CY ?_ ?_⟩⟩
    ·rw [q.2.2.2.1]
     have b2:nB w v s≤nF w v (s.1 - (nB w v s:Nat),s.2 - (nB w v s:Nat)):=b2
     omega
    ·show ((s.1 - (nB w v s:Nat)) % (w.length:Int)+(nB w v s:Nat)) % (w.length:Int)=s.1
     have:=cX (c:=-((nB w v s:Nat):Int)) a1 a2
     rw [GY] at this
     exact this
    ·show ((s.2 - (nB w v s:Nat)) % (v.length:Int)+(nB w v s:Nat)) % (v.length:Int)=s.2
     have:=cX (c:=-((nB w v s:Nat):Int)) a3 a4
     rw [GY] at this
     exact this
 have e1:(prs w.length v.length).countP (fun s=>(dT w v s && !evr w v s) && X s)=((prs w.length v.length).filter fun s=>dT w v s && !evr w v s).countP X:=by
  rw [List.countP_filter]
  refine BP (fun f=>List.countP f _) (funext fun s=>?_)
  exact Bool.and_comm _ _
 rw [e1,← pm.countP_eq,lK]
 refine fg fun b _=>?_
 congr 1
 unfold Xc cnN
 rw [List.countP_map]
 refine BP (fun f=>List.countP f _) (funext fun j=>?_)
 exact (C.px _ _ (cW _ _) (cW _ _)).1
def hB (u w v:List L)(b:P2):Bool:=hP u w v 1 (b.1+1,b.2+1)
theorem yO {u w v:List L}{X o:P2→Bool}(C:CD u w v X o)(lw:0 < w.length)(lv:0 < v.length){b:P2}(hb:b∈Bgs w v):∃ d:Nat,Xc w v X b=(hB u w v b).toNat+2*d:=by
 have h:=(BW.mp hb).2
 have e1:=xV (fun j:Nat=>X (b.1+j,b.2+j)) (nF w v b)
 have e2:xr (fun j:Nat=>X (b.1+j,b.2+j)) (nF w v b)=hB u w v b:=zX C lw lv (p:=b.1) (q:=b.2) h
 rw [e2] at e1
 have e3:Xc w v X b % 2=(hB u w v b).toNat:=e1
 refine ⟨Xc w v X b / 2,?_⟩
 omega
theorem ju {u w v:List L}:(((prs w.length v.length).countP (hP u w v 1):Nat):Int)=sm (fun b=>(((hB u w v b).toNat:Nat):Int)) (Bgs w v):=by
 rw [← jt (m:=w.length) (n:=v.length) (h:=hP u w v 1) (fun s t h1 h2=>(rQ h1 h2 1).2.1) 1 1]
 unfold Bgs
 have key:∀ l:List P2,((l.countP (fun s=>hP u w v 1 (s.1+1,s.2+1)):Nat):Int)=sm (fun b=>(((hB u w v b).toNat:Nat):Int)) (l.filter (bA w v)):=by
  intro l
  induction l with
  | nil=>rfl
  | cons s l ih =>
   rw [Dx]
   by_cases h:bA w v s=true
   ·rw [CC h]
    show _=(((hB u w v s).toNat:Nat):Int)+sm _ _
    rw [← ih]
    unfold hB
    cases hP u w v 1 (s.1+1,s.2+1) <;> simp <;> omega
   ·rw [CF h,← ih]
    have:=xX (u:=u) (w:=w) (v:=v) (p:=s.1) (q:=s.2) h
    rw [this]
    simp
 exact key _
theorem pM {f g:P2→Int}:∀ {l:List P2},(∀ b∈l,∃ d:Nat,f b=g b+2*(d:Int))→∃ d:Nat,sm f l=sm g l+2*(d:Int)
 | [],_=>⟨0,rfl⟩
 | b::l,H=>by
  obtain ⟨d,e⟩:=pM (l:=l) fun x hx=>H x (Bw _ hx)
  obtain ⟨d',e'⟩:=H b BC
  refine ⟨d+d',?_⟩
  show f b+sm f l=g b+sm g l+2*((d+d':Nat):Int)
  rw [e,e']
  omega
theorem eJ {w v:List L}{s:P2}(h:evr w v s=true)(j:Nat)(hj:j < w.length+v.length):atZ w (s.1 - j)=atZ v (s.2 - j):=tM j (by rw [CZ h]; exact hj)
theorem iG {w v:List L}(lw:0 < w.length)(lv:0 < v.length){p q:Int}(h:evr w v (p,q)=true):evr w v (p+1,q+1)=true∧atZ w (p+1)=atZ v (q+1):=by
 have pf:∀ (w:List L) (p k:Int),atZ w (p - (k+(w.length:Int)))=atZ w (p - k):=fun w p k=>by
  rw [← fK (p - (k+(w.length:Int)))]
  congr 1
  omega
 have e:=iy (f:=fun k=>atZ w (p - k)) (g:=fun k=>atZ v (q - k)) (a:=(w.length:Int)) (b:=(v.length:Int)) (by omega) (by omega) (fun k=>pf w p k) (fun k=>pf v q k) (fun k hk hl=>by
  obtain ⟨m,rfl⟩:=CB hk
  exact eJ h m (by omega))
 rw [show p - -1=p+1 by omega,show q - -1=q+1 by omega] at e
 refine ⟨BD ?_,e⟩
 refine mL (fun j hj=>?_) (BB _) (.inl rfl)
 show atZ w (p+1 - j)=atZ v (q+1 - j)
 by_cases z:j=0
 ·subst z
  rw [show p+1 - ((0:Nat):Int)=p+1 by omega,show q+1 - ((0:Nat):Int)=q+1 by omega]
  exact e
 ·have:=eJ h (j - 1) (by omega)
  dsimp only at this
  rwa [show p - ((j - 1:Nat):Int)=p+1 - j by omega,show q - ((j - 1:Nat):Int)=q+1 - j by omega] at this
theorem tP {w v:List L}(lw:0 < w.length)(lv:0 < v.length){p q:Int}(h:evr w v (p,q)=true):∀ k:Nat,evr w v (p+k,q+k)=true
 | 0=>by rw [show p+((0:Nat):Int)=p by omega,show q+((0:Nat):Int)=q by omega];exact h
 | k+1=>by
  have:=(iG lw lv (tP lw lv h k)).1
  rwa [show p+(k:Int)+1=p+((k+1:Nat):Int) by omega,show q+(k:Int)+1=q+((k+1:Nat):Int) by omega] at this
theorem pN {w v:List L}{s t:P2}(h1:s.1 % (w.length:Int)=t.1 % (w.length:Int))(h2:s.2 % (v.length:Int)=t.2 % (v.length:Int)):evr w v s=evr w v t:=by
 unfold evr
 rw [(lJ (u:=[]) h1 h2).2.2.1]
theorem xZ {w v:List L}(lw:0 < w.length)(lv:0 < v.length)(p q:Int):evr w v (p+1,q+1)=evr w v (p,q):=by
 rw [BX]
 refine ⟨fun h=>?_,fun h=>(iG lw lv h).1⟩
 have hp:0 < w.length*v.length:=Nat.mul_pos lw lv
 have:=tP lw lv h (w.length*v.length - 1)
 rw [show p+1+((w.length*v.length - 1:Nat):Int)=p+(w.length:Int)*(v.length:Int) by rw [← Int.natCast_mul];omega,show q+1+((w.length*v.length - 1:Nat):Int)=q+(v.length:Int)*(w.length:Int) by rw [Int.mul_comm,← Int.natCast_mul];omega] at this
 rw [pN (s:=(p+(w.length:Int)*(v.length:Int),q+(v.length:Int)*(w.length:Int))) (t:=(p,q)) (DK ..) (DK ..)] at this
 exact this
theorem vk {u w v:List L}{X o:P2→Bool}(C:CD u w v X o)(lw:0 < w.length)(lv:0 < v.length):∃ e:Nat,(prs w.length v.length).countP (fun s=>evr w v s && X s)=2*e:=by
 have eX:∀ s:P2,evr w v s=true→X s=(o s != o (s.1+1,s.2+1)):=fun s h=>by
  have h0:=eJ h 0 (by omega)
  rw [show s.1 - ((0:Nat):Int)=s.1 by omega,show s.2 - ((0:Nat):Int)=s.2 by omega] at h0
  exact C.c1 s.1 s.2 h0 (iG lw lv (p:=s.1) (q:=s.2) h).2
 have k1:(prs w.length v.length).countP (fun s=>evr w v s && X s)=(prs w.length v.length).countP (fun s=>evr w v s && (o s && !o (s.1+1,s.2+1)))+(prs w.length v.length).countP (fun s=>evr w v s && (!o s && o (s.1+1,s.2+1))):=cL fun s _=>by
  cases h:evr w v s with
  | false=>simp
  | true=>rw [eX s h];cases o s <;> cases o (s.1+1,s.2+1) <;> simp
 have k2:(prs w.length v.length).countP (fun s=>evr w v s && o s)=(prs w.length v.length).countP (fun s=>evr w v s && (o s && !o (s.1+1,s.2+1)))+(prs w.length v.length).countP (fun s=>evr w v s && (o s && o (s.1+1,s.2+1))):=cL fun s _=>by
  cases evr w v s <;> cases o s <;> cases o (s.1+1,s.2+1) <;> simp
 have k3:(prs w.length v.length).countP (fun s=>evr w v s && o (s.1+1,s.2+1))=(prs w.length v.length).countP (fun s=>evr w v s && (!o s && o (s.1+1,s.2+1)))+(prs w.length v.length).countP (fun s=>evr w v s && (o s && o (s.1+1,s.2+1))):=cL fun s _=>by
  cases evr w v s <;> cases o s <;> cases o (s.1+1,s.2+1) <;> simp
 have k4:=jt (m:=w.length) (n:=v.length) (h:=fun s=>evr w v s && o s) (fun s t h1 h2=>by rw [pN h1 h2,(C.px s t h1 h2).2]) 1 1
 have k5:(prs w.length v.length).countP (fun s:P2=>evr w v (s.1+1,s.2+1) && o (s.1+1,s.2+1))=(prs w.length v.length).countP (fun s=>evr w v s && o (s.1+1,s.2+1)):=BP (fun f=>List.countP f _) (funext fun s=>by rw [xZ lw lv s.1 s.2])
 refine ⟨(prs w.length v.length).countP (fun s=>evr w v s && (o s && !o (s.1+1,s.2+1))),?_⟩
 rw [k5] at k4
 omega
theorem x6 {w v:List L}(lw:0 < w.length){s:P2}(h:evr w v s=true):dT w v s=true:=by
 have h0:=eJ h 0 (by omega)
 rw [show s.1 - ((0:Nat):Int)=s.1 by omega,show s.2 - ((0:Nat):Int)=s.2 by omega] at h0
 exact BD (.inl h0)
theorem tQ {w v:List L}{X:P2→Bool}(lw:0 < w.length):(prs w.length v.length).countP (fun s=>dT w v s && X s)=(prs w.length v.length).countP (fun s=>(dT w v s && !evr w v s) && X s)+(prs w.length v.length).countP (fun s=>evr w v s && X s):=cL fun s _=>by
 cases h:evr w v s with
 | false=>simp
 | true=>rw [x6 lw h];simp
theorem jv {u w v:List L}{X o:P2→Bool}(C:CD u w v X o)(lw:0 < w.length)(lv:0 < v.length):∃ d:Nat,(prs w.length v.length).countP (fun s=>dT w v s && X s)=(prs w.length v.length).countP (hP u w v 1)+2*d:=by
 obtain ⟨e,he⟩:=vk C lw lv
 have f1:=pL C lw lv
 have f2:=ju (u:=u) (w:=w) (v:=v)
 obtain ⟨d,hd⟩:=pM (f:=fun b=>((Xc w v X b:Nat):Int)) (g:=fun b=>(((hB u w v b).toNat:Nat):Int)) (l:=Bgs w v) fun b hb=>by
  obtain ⟨d,h⟩:=yO C lw lv hb
  exact ⟨d,by show ((Xc w v X b:Nat):Int)=_;rw [h];omega⟩
 have f3:=tQ (v:=v) (X:=X) lw
 exact ⟨d+e,by omega⟩
theorem vm {s t:P2}(n:s≠t):ltP s t=!ltP t s:=by
 have h1:=eF (s:=s) (t:=t)
 have h2:=eF (s:=t) (t:=s)
 have:¬ (s.1=t.1∧s.2=t.2):=fun h=>n (CY h.1 h.2)
 rw [BX,EX,Ei,h1,ne_eq,h2]
 omega
theorem lL {l:List P2}(nd:l.Nodup){μ:P2→P2}(H:∀ b∈l,μ b∈l∧μ (μ b)=b∧μ b≠b){f:P2→Int}(hf:∀ b∈l,f (μ b)=f b):sm f l=2*sm f (l.filter fun b=>ltP b (μ b)):=by
 have e1:sm f l=sm (fun b=>(if ltP b (μ b)=true then f b else 0)+(if ltP (μ b) b=true then f b else 0)) l:=fg fun b hb=>by
  rw [vm (H b hb).2.2]
  cases ltP b (μ b) <;> simp
 rw [e1,tJ]
 have e2:=xT (k:=l) (l:=l) nd nd (A:=fun b=>ltP b (μ b)) (B:=fun b=>ltP (μ b) b) μ μ (fun x hx h=>⟨(H x hx).1,by rw [(H x hx).2.1];exact h,(H x hx).2.1⟩) (fun x hx h=>⟨(H x hx).1,by rw [(H x hx).2.1];exact h,(H x hx).2.1⟩) f
 rw [e2]
 have e3:sm (fun x=>if ltP x (μ x)=true then f (μ x) else 0) l=sm (fun x=>if ltP x (μ x)=true then f x else 0) l:=fg fun b hb=>by rw [hf b hb]
 rw [e3,dY]
 omega
theorem jw {u w v:List L}{X o:P2→Bool}(C:CD u w v X o)(lw:0 < w.length)(lv:0 < v.length){μ:P2→P2}(H:∀ b∈Bgs w v,μ b∈Bgs w v∧μ (μ b)=b∧μ b≠b)(hX:∀ b∈Bgs w v,Xc w v X (μ b)=Xc w v X b)(h0:(prs w.length v.length).countP (fun s=>evr w v s && X s)=0):∃ d:Nat,(prs w.length v.length).countP (fun s=>dT w v s && X s)=(prs w.length v.length).countP (hP u w v 1)+4*d:=by
 have nd:(Bgs w v).Nodup:=CA _ (bQ _ _)
 have hh:∀ b∈Bgs w v,hB u w v (μ b)=hB u w v b:=fun b hb=>by
  obtain ⟨d1,e1⟩:=yO C lw lv hb
  obtain ⟨d2,e2⟩:=yO C lw lv (H b hb).1
  rw [hX b hb,e1] at e2
  cases h1:hB u w v b <;> cases h2:hB u w v (μ b) <;> rw [h1,h2] at e2 <;> simp at e2 ⊢ <;> omega
 have g1:=lL nd H (f:=fun b=>((Xc w v X b:Nat):Int)) fun b hb=>by show ((Xc w v X (μ b):Nat):Int)=_;rw [hX b hb]
 have g2:=lL nd H (f:=fun b=>(((hB u w v b).toNat:Nat):Int)) fun b hb=>by show (((hB u w v (μ b)).toNat:Nat):Int)=_;rw [hh b hb]
 obtain ⟨d,hd⟩:=pM (f:=fun b=>((Xc w v X b:Nat):Int)) (g:=fun b=>(((hB u w v b).toNat:Nat):Int)) (l:=(Bgs w v).filter fun b=>ltP b (μ b)) fun b hb=>by
  obtain ⟨d,h⟩:=yO C lw lv (BW.mp hb).1
  exact ⟨d,by show ((Xc w v X b:Nat):Int)=_;rw [h];omega⟩
 have f1:=pL C lw lv
 have f2:=ju (u:=u) (w:=w) (v:=v)
 have f3:=tQ (v:=v) (X:=X) lw
 exact ⟨d,by omega⟩
theorem mM {u w:List L}{X o:P2→Bool}(C:CD u w w X o)(lw:0 < w.length)(sy:∀ s,X (sw s)=X s)(dg:∀ s∈prs w.length w.length,evr w w s=true→X s=false):∃ d:Nat,(prs w.length w.length).countP (fun s=>dT w w s && X s)=(prs w.length w.length).countP (hP u w w 1)+4*d:=by
 refine jw C lw lw (μ:=sw) (fun b hb=>?_) (fun b hb=>?_) ?_
 ·obtain ⟨h1,h2⟩:=BW.mp hb
  obtain ⟨a1,a2⟩:=CZ h2
  refine ⟨BW.mpr ⟨rS h1,BD ⟨a1.symm,fun e=>a2 e.symm⟩⟩,rfl,fun e=>a2 ?_⟩
  have:b.2=b.1:=BP Prod.fst e
  rw [this]
 ·have e:nF w w (sw b)=nF w w b:=by
   unfold nF nW
   exact lI _ _ _ _
  unfold Xc
  rw [e]
  congr 1
  funext j
  exact sy (b.1+j,b.2+j)
 ·refine List.countP_eq_zero.mpr fun s hs h=>?_
  rw [BZ] at h
  rw [dg s hs h.1] at h
  exact absurd h.2 (by decide)
def mN (s:P2):P2:=(-2 - s.2,-2 - s.1)
theorem iH {w:List L}(lw:0 < w.length)(p q:Int):(atZ w (-2 - q)=atZ (bk w) (-2 - p)) ↔ (atZ w (p+1)=atZ (bk w) (q+1)):=by
 rw [cj lw,cj lw,show -1 - (-2 - p)=p+1 by omega,show -1 - (q+1) = -2 - q by omega]
 exact ⟨fun e=>by rw [e,aU],fun e=>by rw [e,aU]⟩
theorem x8 {f g:Nat→Bool}{n:Nat}(h:∀ j,j≤n→f j=g (n - j)):cnN f n=cnN g n:=by
 unfold cnN
 have e:(List.range (n+1)).map (fun j=>n - j)=(List.range (n+1)).reverse:=by
  refine List.ext_getElem (by simp) fun i h1 h2=>?_
  simp
 have p:((List.range (n+1)).map (fun j=>n - j)).countP g=(List.range (n+1)).countP g:=by rw [e];exact (F0 _).countP_eq g
 rw [← p,List.countP_map]
 refine F_ fun j hj=>?_
 rw [CL] at hj
 rw [h j (by omega)]
 rfl
theorem x9 {w:List L}(R:Rnd w)(s:P2):evr w (bk w) s=false:=by
 have lw:=Ct.mpr R.ne
 rw [Ei]
 intro h
 have e0:=BV (s.1+s.2+1) (show (w.length:Int)≠0 by omega)
 have e1:=BJ (s.1+s.2+1) (show (0:Int) < (w.length:Int) by omega)
 -- how many uJ lie between both places
 obtain ⟨n,hn0,hn1,hn⟩:∃ n:Nat,0 < n∧n≤w.length∧((n:Int) - (s.1+s.2+2)) % (w.length:Int)=0:=by
  have f0:=BV (s.1+s.2+1) (show (w.length:Int)≠0 by omega)
  refine ⟨((s.1+s.2+1) % (w.length:Int)).toNat+1,by omega,by omega,?_⟩
  have:((((s.1+s.2+1) % (w.length:Int)).toNat+1:Nat):Int) - (s.1+s.2+2)=(s.1+s.2+1) % (w.length:Int) - (s.1+s.2+1):=by omega
  rw [this,FZ,Int.sub_self]
  rfl
 refine iz (w:=w) (p:=s.1 - n+1) (q:=-2 - s.2+n) (n:=n) R hn0 (fun j hj=>?_) ?_
 ·have:=eJ h (n - 1 - j) (by rw [aK];omega)
  rw [cj lw] at this
  unfold sgZ
  rw [if_pos rfl,if_neg (by decide),show s.1 - (n:Int)+1+1*(j:Int)=s.1 - ((n - 1 - j:Nat):Int) by omega,this]
  congr 2
  omega
 ·have e:-2 - s.2+(n:Int) - n+1=(s.1 - n+1)+((n:Int) - (s.1+s.2+2)):=by omega
  rw [e,Cz,hn,FG,cW]
theorem jx {u w:List L}{X o:P2→Bool}(C:CD u w (bk w) X o)(R:Rnd w)(sy:∀ s,X (mN s)=X s):∃ d:Nat,(prs w.length (bk w).length).countP (fun s=>dT w (bk w) s && X s)=(prs w.length (bk w).length).countP (hP u w (bk w) 1)+4*d:=by
 have lw:=Ct.mpr R.ne
 have lb:0 < (bk w).length:=by rw [aK];exact lw
 have hbl:=aK w
 have key:∀ b:P2,b∈Bgs w (bk w)→∃ n:Nat,nF w (bk w) b=n∧bA w (bk w) (mN (b.1+n,b.2+n))=true∧nF w (bk w) (mN (b.1+n,b.2+n))=n∧0 < n∧(∀ j:Nat,j < n→atZ w (b.1+1+j)=atZ (bk w) (b.2+1+j)):=fun b hb=>by
  obtain ⟨h1,h2⟩:=BW.mp hb
  obtain ⟨n,n1,n2,n3,n4,n5,n6,n7⟩:=fM lw lb (p:=b.1) (q:=b.2) h2
  obtain ⟨a1,a2⟩:=CZ h2
  refine ⟨n,n1,BD ⟨?_,?_⟩,?_,n2,n6⟩
  ·have:=(iH lw (b.1+n - 1) (b.2+n - 1)).mpr (by
    rw [show b.1+(n:Int) - 1+1=b.1+1+((n - 1:Nat):Int) by omega,show b.2+(n:Int) - 1+1=b.2+1+((n - 1:Nat):Int) by omega]
    exact n6 (n - 1) (by omega))
   show atZ w (-2 - (b.2+n)+1)=atZ (bk w) (-2 - (b.1+n)+1)
   rwa [show -2 - (b.2+(n:Int) - 1) = -2 - (b.2+n)+1 by omega,show -2 - (b.1+(n:Int) - 1) = -2 - (b.1+n)+1 by omega] at this
  ·intro e
   have:=(iH lw (b.1+n) (b.2+n)).mp e
   rw [show b.1+(n:Int)+1=b.1+1+n by omega,show b.2+(n:Int)+1=b.2+1+n by omega] at this
   exact n7 this
  ·unfold nF nW
   refine mL (fun k hk=>?_) (by omega) (.inr ?_)
   ·rw [sg1,sg1]
    have:=(iH lw (b.1+n - 1 - k) (b.2+n - 1 - k)).mpr (by
     rw [show b.1+(n:Int) - 1 - k+1=b.1+1+((n - 1 - k:Nat):Int) by omega,show b.2+(n:Int) - 1 - k+1=b.2+1+((n - 1 - k:Nat):Int) by omega]
     exact n6 (n - 1 - k) (by omega))
    show atZ w (-2 - (b.2+n)+1+k)=atZ (bk w) (-2 - (b.1+n)+1+k)
    rwa [show -2 - (b.2+(n:Int) - 1 - k) = -2 - (b.2+n)+1+k by omega,show -2 - (b.1+(n:Int) - 1 - k) = -2 - (b.1+n)+1+k by omega] at this
   ·rw [sg1,sg1]
    intro e
    have e:atZ w (-2 - (b.2+n)+1+n)=atZ (bk w) (-2 - (b.1+n)+1+n):=e
    rw [show -2 - (b.2+(n:Int))+1+n = -2 - (b.2 - 1) by omega,show -2 - (b.1+(n:Int))+1+n = -2 - (b.1 - 1) by omega] at e
    have:=(iH lw (b.1 - 1) (b.2 - 1)).mp e
    rw [show b.1 - 1+1=b.1 by omega,show b.2 - 1+1=b.2 by omega] at this
    exact a2 this
 have md:∀ b:P2,b∈Bgs w (bk w)→∀ n:Nat,nF w (bk w) (mdS w (bk w) (mN (b.1+n,b.2+n)))=nF w (bk w) (mN (b.1+n,b.2+n))∧bA w (bk w) (mdS w (bk w) (mN (b.1+n,b.2+n)))=bA w (bk w) (mN (b.1+n,b.2+n)):=fun b _ n=>by
  have q:=lJ (u:=u) (w:=w) (v:=bk w) (s:=mdS w (bk w) (mN (b.1+n,b.2+n))) (t:=mN (b.1+n,b.2+n)) (cW _ _) (cW _ _)
  exact ⟨q.2.2.2.1,q.2.1⟩
 refine jw C lw lb (μ:=fun b=>mdS w (bk w) (mN (b.1+(nF w (bk w) b:Nat),b.2+(nF w (bk w) b:Nat)))) (fun b hb=>?_) (fun b hb=>?_) ?_
 ·obtain ⟨n,n1,n2,n3,n4,n5⟩:=key b hb
  obtain ⟨a1,a2,a3,a4⟩:=aN.mp (BW.mp hb).1
  rw [hbl] at a4
  rw [n1]
  refine ⟨BW.mpr ⟨aN.mpr ⟨BV _ (by omega),BJ _ (by omega),BV _ (by omega),BJ _ (by omega)⟩,by rw [(md b hb n).2];exact n2⟩,?_,fun e=>?_⟩
  ·rw [(md b hb n).1,n3]
   refine CY ?_ ?_
   ·show (-2 - ((-2 - (b.1+n)) % ((bk w).length:Int)+n)) % (w.length:Int)=b.1
    rw [hbl,show -2 - ((-2 - (b.1+(n:Int))) % (w.length:Int)+n)=(-2 - n) - (-2 - (b.1+(n:Int))) % (w.length:Int) by omega,DZ,show -2 - (n:Int) - (-2 - (b.1+n))=b.1 by omega]
    exact B5 a1 a2
   ·show (-2 - ((-2 - (b.2+n)) % (w.length:Int)+n)) % ((bk w).length:Int)=b.2
    rw [hbl,show -2 - ((-2 - (b.2+(n:Int))) % (w.length:Int)+n)=(-2 - n) - (-2 - (b.2+(n:Int))) % (w.length:Int) by omega,DZ,show -2 - (n:Int) - (-2 - (b.2+n))=b.2 by omega]
    exact B5 a3 a4
  ·have e1:(-2 - (b.2+n)) % (w.length:Int)=b.1:=BP Prod.fst e
   refine iz (w:=w) (p:=b.1+1) (q:=-2 - b.2) (n:=n) R n4 (fun j hj=>?_) ?_
   ·have:=n5 j hj
    rw [cj lw] at this
    unfold sgZ
    rw [if_pos rfl,if_neg (by decide),show b.1+1+1*(j:Int)=b.1+1+j by omega,this]
    congr 2
    omega
   ·rw [show -2 - b.2 - (n:Int)+1=(-2 - (b.2+n))+1 by omega,Cz,e1,← B5 a1 a2,← Cz,DY]
 ·obtain ⟨n,n1,n2,n3,n4,n5⟩:=key b hb
  rw [n1]
  unfold Xc
  rw [(md b hb n).1,n3,n1]
  refine x8 fun j hj=>?_
  have e:=(C.px ((mdS w (bk w) (mN (b.1+n,b.2+n))).1+j,(mdS w (bk w) (mN (b.1+n,b.2+n))).2+j) (mN (b.1+(n - j:Nat),b.2+(n - j:Nat))) (by
   show ((-2 - (b.2+n)) % (w.length:Int)+j) % (w.length:Int)=(-2 - (b.2+(n - j:Nat))) % (w.length:Int)
   rw [DY]
   congr 1
   omega) (by
   show ((-2 - (b.1+n)) % ((bk w).length:Int)+j) % ((bk w).length:Int)=(-2 - (b.1+(n - j:Nat))) % ((bk w).length:Int)
   rw [DY]
   congr 1
   omega)).1
  rw [e,sy]
 ·refine List.countP_eq_zero.mpr fun s hs h=>?_
  rw [x9 R s] at h
  exact absurd h (by simp)
def dG (w v:List L)(s:P2):Bool:=decide (inv (atZ w s.1)=atZ v (s.2+1) ∨ atZ w (s.1+1)=inv (atZ v s.2))
def d4 (w v:List L)(s:P2):Bool:=decide ([inv (atZ w s.1),atZ w (s.1+1),inv (atZ v s.2),atZ v (s.2+1)].Nodup)
structure XD (u w v:List L) (X:P2→Bool):Prop where
 al:∃ o,CD u w v X o
 ag:∃ o,CD u w (bk v) (fun s=>X (s.1,-2 - s.2)) o
 fr:∀ s,d4 w v s=true→X s=hF u w v s
theorem x_ {u w v:List L}{X:P2→Bool}(D:XD u w v X)(s:P2):(d4 w v s && X s)=hF u w v s:=by
 cases h:d4 w v s with
 | true=>rw [Cy];exact D.fr s h
 | false =>
  have h:=FE h
  rw [CM]
  unfold hF cO
  rw [sg1,sg1,sg1,sg1,FG,FG,Bs h,CM]
theorem lM {w v:List L}(A:Rnd w)(B:Rnd v)(X:P2→Bool):(prs w.length v.length).countP X=(prs w.length v.length).countP (fun s=>d4 w v s && X s)+((prs w.length v.length).countP (fun s=>dT w v s && X s)+(prs w.length v.length).countP (fun s=>dG w v s && X s)):=by
 have e1:(prs w.length v.length).countP X=(prs w.length v.length).countP (fun s=>d4 w v s && X s)+(prs w.length v.length).countP (fun s=>!d4 w v s && X s):=cL fun s _=>by
  cases d4 w v s <;> simp
 have e2:(prs w.length v.length).countP (fun s=>!d4 w v s && X s)=(prs w.length v.length).countP (fun s=>dT w v s && X s)+(prs w.length v.length).countP (fun s=>dG w v s && X s):=cL fun s _=>by
  have n1:atZ w (s.1+1)≠inv (atZ w s.1):=rnd_at A s.1
  have n2:atZ v (s.2+1)≠inv (atZ v s.2):=rnd_at B s.2
  have i1:(atZ w s.1=atZ v s.2) ↔ (inv (atZ w s.1)=inv (atZ v s.2)):=⟨fun e=>by rw [e],fun e=>by have:=BP inv e;rwa [aU,aU] at this⟩
  have k:(!d4 w v s)=(dT w v s || dG w v s)∧¬ (dT w v s=true∧dG w v s=true):=by
   unfold d4 dT dG
   rw [BX]
   simp only [EX,D5,Bool.or_eq_true,Cf,B7,BU,Co,D6,not_or,EW,CG,G2]
   rw [i1]
   generalize inv (atZ w s.1)=a at *
   generalize atZ w (s.1+1)=b at *
   generalize inv (atZ v s.2)=c at *
   generalize atZ v (s.2+1)=d at *
   clear i1
   constructor
   ·grind
   ·grind
  obtain ⟨k1,k2⟩:=k
  rw [k1]
  refine ⟨by cases dT w v s <;> cases dG w v s <;> simp,fun h=>k2 ?_⟩
  rw [BZ,BZ] at h
  exact ⟨h.1.1,h.2.1⟩
 omega
theorem yd {w v:List L}(lv:0 < v.length)(X:P2→Bool)(hX:∀ s t:P2,s.1 % (w.length:Int)=t.1 % (w.length:Int)→s.2 % (v.length:Int)=t.2 % (v.length:Int)→X s=X t):(prs w.length v.length).countP (fun s=>dG w v s && X s)=(prs w.length (bk v).length).countP (fun s=>dT w (bk v) s && X (s.1,-2 - s.2)):=by
 rw [aK]
 refine iE (bQ _ _) (bQ _ _) (fun s=>(s.1,(-2 - s.2) % (v.length:Int))) (fun s=>(s.1,(-2 - s.2) % (v.length:Int))) (fun s hs=>?_) (fun s hs=>?_)
 ·obtain ⟨a1,a2,a3,a4⟩:=aN.mp hs
  refine ⟨aN.mpr ⟨a1,a2,BV _ (by omega),BJ _ (by omega)⟩,CY rfl (ff a3 a4),?_⟩
  have e1:dT w (bk v) (s.1,(-2 - s.2) % (v.length:Int))=dG w v s:=by
   rw [tN (s:=(s.1,(-2 - s.2) % (v.length:Int))) (t:=(s.1,-2 - s.2)) rfl (by rw [aK];exact cW _ _)]
   unfold dT dG
   dsimp only
   rw [cj lv,cj lv,show -1 - (-2 - s.2)=s.2+1 by omega,show -1 - (-2 - s.2+1)=s.2 by omega]
   refine CJ.mpr ⟨fun h=>h.imp tL.mp id,fun h=>h.imp tL.mpr id⟩
  have e2:X (s.1,-2 - (-2 - s.2) % (v.length:Int))=X s:=hX _ _ rfl (by
   show (-2 - (-2 - s.2) % (v.length:Int)) % (v.length:Int)=s.2 % (v.length:Int)
   rw [DZ,show -2 - (-2 - s.2)=s.2 by omega])
  dsimp only
  rw [e1,e2]
 ·obtain ⟨a1,a2,a3,a4⟩:=aN.mp hs
  exact ⟨aN.mpr ⟨a1,a2,BV _ (by omega),BJ _ (by omega)⟩,CY rfl (ff a3 a4)⟩
theorem pO {k:Nat}{u w v:List L}{X:P2→Bool}(U:SK u k)(A:Wo k w)(B:Wo k v)(D:XD u w v X):∃ d:Nat,(prs w.length v.length).countP X=NN u w v+2*d:=by
 obtain ⟨o,C1⟩:=D.al
 obtain ⟨o',C2⟩:=D.ag
 obtain ⟨d1,h1⟩:=jv C1 A.lp B.lp
 obtain ⟨d2,h2⟩:=jv C2 A.lp (by rw [aK];exact B.lp)
 have e1:=lM A.r B.r X
 have e2:=yd (w:=w) B.lp X fun s t h1 h2=>(C1.px s t h1 h2).1
 have e3:(prs w.length v.length).countP (fun s=>d4 w v s && X s)=(prs w.length v.length).countP (hF u w v):=BP (fun f=>List.countP f _) (funext fun s=>x_ D s)
 have e4:=xU U A B
 rw [aK,e4] at h2
 rw [aK] at e2
 unfold NN
 exact ⟨d1+d2,by omega⟩
theorem mO {k:Nat}{u w:List L}{X:P2→Bool}(U:SK u k)(A:Wo k w)(D:XD u w w X)(sy:∀ s,X (sw s)=X s)(dg:∀ s∈prs w.length w.length,evr w w s=true→X s=false)(d0:∀ s:P2,s.1=s.2→X s=false):∃ d:Nat,2*(prs w.length w.length).countP (fun s=>decide (s.1 < s.2) && X s)=NN u w w+4*d:=by
 obtain ⟨o,C1⟩:=D.al
 obtain ⟨o',C2⟩:=D.ag
 obtain ⟨d1,h1⟩:=mM C1 A.lp sy dg
 obtain ⟨d2,h2⟩:=jx C2 A.r fun s=>by
  show X (-2 - s.2,-2 - (-2 - s.1))=X (s.1,-2 - s.2)
  rw [show -2 - (-2 - s.1)=s.1 by omega]
  exact sy (s.1,-2 - s.2)
 have e1:=lM A.r A.r X
 have e2:=yd (w:=w) A.lp X fun s t h1 h2=>(C1.px s t h1 h2).1
 have e3:(prs w.length w.length).countP (fun s=>d4 w w s && X s)=(prs w.length w.length).countP (hF u w w):=BP (fun f=>List.countP f _) (funext fun s=>x_ D s)
 have e4:=xU U A A
 rw [aK,e4] at h2
 rw [aK] at e2
 have e5:=vg (n:=w.length) (g:=X) d0 sy
 rw [e5]
 unfold NN
 exact ⟨d1+d2,by omega⟩
structure Pos (u:List L) (In:L→P2→Prop) (P:L→P2→Nat):Prop where
 iv:∀ x s,In x s→In (inv x) s
 lt:∀ x y s t,x∈u→y∈u→x≠y→In x s→In y t→(P x s < P y t ↔ u.idxOf x < u.idxOf y)
 rv:∀ x s t,x∈u→In x s→In x t→(P x s < P x t ↔ P (inv x) t < P (inv x) s)
 eq:∀ x s t,x∈u→In x s→In x t→P x s=P x t→s=t
def mtB (a b c d:Nat):Bool:=decide (min a b < c∧c < max a b) != decide (min a b < d∧d < max a b)
theorem zZ (a b c d:Nat):mtB a b d c=mtB a b c d:=by
 unfold mtB
 cases decide (min a b < c∧c < max a b) <;> cases decide (min a b < d∧d < max a b) <;> rfl
theorem vn {u:List L}{In:L→P2→Prop}{P:L→P2→Nat}(O:Pos u In P){a b c d:L}{s1 s2 t1 t2:P2}(ha:a∈u)(hb:b∈u)(hc:c∈u)(hd:d∈u)(i1:In a s1)(i2:In b s2)(i3:In c t1)(i4:In d t2)(nd:[a,b,c,d].Nodup):mtB (P a s1) (P b s2) (P c t1) (P d t2)=cO u a b c d:=by
 unfold cO
 rw [BD nd,Cy]
 simp only [B7,BU,Co,D6,not_or] at nd
 obtain ⟨⟨m1,m2,m3⟩,⟨m4,m5⟩,m6,_⟩:=nd
 have o1:=O.lt a b s1 s2 ha hb m1 i1 i2
 have o2:=O.lt a c s1 t1 ha hc m2 i1 i3
 have o3:=O.lt a d s1 t2 ha hd m3 i1 i4
 have o4:=O.lt b c s2 t1 hb hc m4 i2 i3
 have o5:=O.lt b d s2 t2 hb hd m5 i2 i4
 have p1:=O.lt b a s2 s1 hb ha (fun e=>m1 e.symm) i2 i1
 have p2:=O.lt c a t1 s1 hc ha (fun e=>m2 e.symm) i3 i1
 have p3:=O.lt d a t2 s1 hd ha (fun e=>m3 e.symm) i4 i1
 have p4:=O.lt c b t1 s2 hc hb (fun e=>m4 e.symm) i3 i2
 have p5:=O.lt d b t2 s2 hd hb (fun e=>m5 e.symm) i4 i2
 have n1:u.idxOf a≠u.idxOf b:=fun e=>m1 (bw ha hb e)
 have n2:u.idxOf a≠u.idxOf c:=fun e=>m2 (bw ha hc e)
 have n3:u.idxOf a≠u.idxOf d:=fun e=>m3 (bw ha hd e)
 have n4:u.idxOf b≠u.idxOf c:=fun e=>m4 (bw hb hc e)
 have n5:u.idxOf b≠u.idxOf d:=fun e=>m5 (bw hb hd e)
 have l1:=bo ha
 have l2:=bo hb
 have l3:=bo hc
 have l4:=bo hd
 rw [bz ha hc,bz ha hb,bz ha hd]
 unfold mtB
 generalize P a s1=A at *
 generalize P b s2=B at *
 generalize P c t1=C at *
 generalize P d t2=D at *
 generalize u.idxOf a=x1 at *
 generalize u.idxOf b=x2 at *
 generalize u.idxOf c=x3 at *
 generalize u.idxOf d=x4 at *
 generalize u.length=n at *
 rw [BX,Ey,Ey,ne_eq,ne_eq,CJ,CJ]
 grind
theorem pP (a b:Nat):mtB a b a b=false:=by
 unfold mtB
 rw [Bs (by omega),Bs (by omega)]
 rfl
theorem Pos.ne {u:List L}{In:L→P2→Prop}{P:L→P2→Nat}(O:Pos u In P){x y:L}{s t:P2}(hx:x∈u)(hy:y∈u)(i:In x s)(j:In y t)(n:x≠y ∨ s≠t):P x s≠P y t:=by
 by_cases e:x=y
 ·subst e
  intro h
  exact n.elim (fun z=>z rfl) fun z=>z (O.eq x s t hx i j h)
 ·have o1:=O.lt x y s t hx hy e i j
  have o2:=O.lt y x t s hy hx (fun z=>e z.symm) j i
  have:u.idxOf x≠u.idxOf y:=fun z=>e (bw hx hy z)
  omega
theorem z6 {u:List L}{In:L→P2→Prop}{P:L→P2→Nat}(O:Pos u In P){x y:L}{s t s' t':P2}(hx:x∈u)(hX:inv x∈u)(hy:y∈u)(n:inv x≠y)(i1:In x s)(i2:In x t)(i3:In y s')(i4:In y t')(ns:s≠t)(ns':s'≠t'):mtB (P (inv x) s) (P y s') (P (inv x) t) (P y t')=(decide (P x s < P x t) != decide (P y s' < P y t')):=by
 have a1:=O.lt (inv x) y s s' hX hy n (O.iv x s i1) i3
 have a2:=O.lt (inv x) y s t' hX hy n (O.iv x s i1) i4
 have a3:=O.lt (inv x) y t s' hX hy n (O.iv x t i2) i3
 have a4:=O.lt (inv x) y t t' hX hy n (O.iv x t i2) i4
 have b1:=O.lt y (inv x) s' s hy hX (fun e=>n e.symm) i3 (O.iv x s i1)
 have b2:=O.lt y (inv x) t' s hy hX (fun e=>n e.symm) i4 (O.iv x s i1)
 have b3:=O.lt y (inv x) s' t hy hX (fun e=>n e.symm) i3 (O.iv x t i2)
 have b4:=O.lt y (inv x) t' t hy hX (fun e=>n e.symm) i4 (O.iv x t i2)
 have r1:=O.rv x s t hx i1 i2
 have e1:=O.ne hX hX (O.iv x s i1) (O.iv x t i2) (.inr ns)
 have e2:=O.ne hy hy i3 i4 (.inr ns')
 have ni:u.idxOf (inv x)≠u.idxOf y:=fun z=>n (bw hX hy z)
 unfold mtB
 generalize P (inv x) s=A at *
 generalize P (inv x) t=B at *
 generalize P y s'=C at *
 generalize P y t'=D at *
 generalize P x s=E at *
 generalize P x t=F at *
 generalize u.idxOf (inv x)=p at *
 generalize u.idxOf y=q at *
 rw [BX,Ey,Ey,ne_eq,ne_eq,CJ,CJ]
 by_cases h:p < q
 ·have h':¬ q < p:=by omega
  simp only [h,h',iff_true,G7] at a1 a2 a3 a4 b1 b2 b3 b4
  omega
 ·have h':q < p:=by omega
  simp only [h,h',iff_true,G7] at a1 a2 a3 a4 b1 b2 b3 b4
  omega
theorem z7 {u:List L}{In:L→P2→Prop}{P:L→P2→Nat}(O:Pos u In P){x b d:L}{s t s' t':P2}(hx:x∈u)(hX:inv x∈u)(hb:b∈u)(hd:d∈u)(n1:inv x≠b)(n2:inv x≠d)(n3:b≠d)(i1:In x s)(i2:In x t)(i3:In b s')(i4:In d t')(ns:s≠t):mtB (P (inv x) s) (P b s') (P (inv x) t) (P d t')=(decide (P x s < P x t) != decide (rfI u (inv x) b < rfI u (inv x) d)):=by
 have a1:=O.lt (inv x) b s s' hX hb n1 (O.iv x s i1) i3
 have a2:=O.lt (inv x) d s t' hX hd n2 (O.iv x s i1) i4
 have a3:=O.lt (inv x) b t s' hX hb n1 (O.iv x t i2) i3
 have a4:=O.lt (inv x) d t t' hX hd n2 (O.iv x t i2) i4
 have b1:=O.lt b (inv x) s' s hb hX (fun e=>n1 e.symm) i3 (O.iv x s i1)
 have b2:=O.lt d (inv x) t' s hd hX (fun e=>n2 e.symm) i4 (O.iv x s i1)
 have b3:=O.lt b (inv x) s' t hb hX (fun e=>n1 e.symm) i3 (O.iv x t i2)
 have b4:=O.lt d (inv x) t' t hd hX (fun e=>n2 e.symm) i4 (O.iv x t i2)
 have c1:=O.lt b d s' t' hb hd n3 i3 i4
 have c2:=O.lt d b t' s' hd hb (fun e=>n3 e.symm) i4 i3
 have r1:=O.rv x s t hx i1 i2
 have e1:=O.ne hX hX (O.iv x s i1) (O.iv x t i2) (.inr ns)
 have m1:u.idxOf (inv x)≠u.idxOf b:=fun z=>n1 (bw hX hb z)
 have m2:u.idxOf (inv x)≠u.idxOf d:=fun z=>n2 (bw hX hd z)
 have m3:u.idxOf b≠u.idxOf d:=fun z=>n3 (bw hb hd z)
 have l1:=bo hX
 have l2:=bo hb
 have l3:=bo hd
 rw [bz hX hb,bz hX hd]
 unfold mtB
 generalize P (inv x) s=A at *
 generalize P (inv x) t=B at *
 generalize P b s'=C at *
 generalize P d t'=D at *
 generalize P x s=E at *
 generalize P x t=F at *
 generalize u.idxOf (inv x)=p at *
 generalize u.idxOf b=q at *
 generalize u.idxOf d=r at *
 generalize u.length=n at *
 rw [BX,Ey,Ey,ne_eq,ne_eq,CJ,CJ]
 rcases DQ m1 with h1 | h1 <;> rcases DQ m2 with h2 | h2 <;> rcases DQ m3 with h3 | h3 <;> (simp only [h1,h2,h3,E5 h1,E5 h2,E5 h3,iff_true,G7,D0 h1,D0 h2,DH] at a1 a2 a3 a4 b1 b2 b3 b4 c1 c2 ⊢) <;> (try rw [if_neg (by omega)]) <;> (try rw [if_neg (by omega)]) <;> omega
theorem z8 {u:List L}{In:L→P2→Prop}{P:L→P2→Nat}(O:Pos u In P){a c y:L}{s t s' t':P2}(ha:a∈u)(hc:c∈u)(hy:y∈u)(n1:a≠y)(n2:c≠y)(n3:a≠c)(i1:In a s)(i2:In c t)(i3:In y s')(i4:In y t')(ns:s'≠t'):mtB (P a s) (P y s') (P c t) (P y t')=(decide (P y s' < P y t') == decide (rfI u y a < rfI u y c)):=by
 have a1:=O.lt a y s s' ha hy n1 i1 i3
 have a2:=O.lt a y s t' ha hy n1 i1 i4
 have a3:=O.lt c y t s' hc hy n2 i2 i3
 have a4:=O.lt c y t t' hc hy n2 i2 i4
 have b1:=O.lt y a s' s hy ha (fun e=>n1 e.symm) i3 i1
 have b2:=O.lt y a t' s hy ha (fun e=>n1 e.symm) i4 i1
 have b3:=O.lt y c s' t hy hc (fun e=>n2 e.symm) i3 i2
 have b4:=O.lt y c t' t hy hc (fun e=>n2 e.symm) i4 i2
 have c1:=O.lt a c s t ha hc n3 i1 i2
 have c2:=O.lt c a t s hc ha (fun e=>n3 e.symm) i2 i1
 have e1:=O.ne hy hy i3 i4 (.inr ns)
 have m1:u.idxOf a≠u.idxOf y:=fun z=>n1 (bw ha hy z)
 have m2:u.idxOf c≠u.idxOf y:=fun z=>n2 (bw hc hy z)
 have m3:u.idxOf a≠u.idxOf c:=fun z=>n3 (bw ha hc z)
 have l1:=bo ha
 have l2:=bo hc
 have l3:=bo hy
 rw [bz hy ha,bz hy hc]
 unfold mtB
 generalize P a s=A at *
 generalize P c t=B at *
 generalize P y s'=C at *
 generalize P y t'=D at *
 generalize u.idxOf a=p at *
 generalize u.idxOf c=q at *
 generalize u.idxOf y=r at *
 generalize u.length=n at *
 rw [BX,Ey,GU,ne_eq,CJ,CJ]
 rcases DQ m1 with h1 | h1 <;> rcases DQ m2 with h2 | h2 <;> rcases DQ m3 with h3 | h3 <;> (simp only [h1,h2,h3,E5 h1,E5 h2,E5 h3,iff_true,G7,D0 h1,D0 h2,DH] at a1 a2 a3 a4 b1 b2 b3 b4 c1 c2 ⊢) <;> (try rw [if_neg (by omega)]) <;> (try rw [if_neg (by omega)]) <;> omega
def Xp (P:L→P2→Nat)(w v:List L)(s t:Int→P2)(z:P2):Bool:=mtB (P (inv (atZ w z.1)) (s z.1)) (P (atZ w (z.1+1)) (s (z.1+1))) (P (inv (atZ v z.2)) (t z.2)) (P (atZ v (z.2+1)) (t (z.2+1)))
theorem ye {k:Nat}{u w v:List L}{In:L→P2→Prop}{P:L→P2→Nat}(O:Pos u In P)(U:SK u k)(A:Wo k w)(B:Wo k v){s t:Int→P2}(hs:∀ p,In (atZ w p) (s p))(ht:∀ q,In (atZ v q) (t q))(ps:∀ p q:Int,p % (w.length:Int)=q % (w.length:Int)→s p=s q)(pt:∀ p q:Int,p % (v.length:Int)=q % (v.length:Int)→t p=t q)
  (on:∀ p q,s p=t q→atZ w p=atZ v q→s (p+1)=t (q+1)∧atZ w (p+1)=atZ v (q+1)) (bf:∀ p q,s (p+1)=t (q+1)→atZ w (p+1)=atZ v (q+1)→s p=t q∧atZ w p=atZ v q):CD u w v (Xp P w v s t) (fun z=>decide (P (atZ w z.1) (s z.1) < P (atZ w z.1) (t z.2))):=by
 have lw:=A.lp
 have lv:=B.lp
 have am:∀ j,atZ w j∈u:=fun j=>(U.mem _).mpr (A.i _ (eG lw j))
 have bm:∀ j,atZ v j∈u:=fun j=>(U.mem _).mpr (B.i _ (eG lv j))
 have iv:=U.srf.iv
 have r1:=rnd_at A.r
 have r2:=rnd_at B.r
 refine ⟨fun z y h1 h2=>?_,fun p q e1 e2=>?_,fun p q e1 e2=>?_,fun p q e1 e2=>?_⟩
 ·have q1:(z.1+1) % (w.length:Int)=(y.1+1) % (w.length:Int):=by rw [Cz,h1,← Cz]
  have q2:(z.2+1) % (v.length:Int)=(y.2+1) % (v.length:Int):=by rw [Cz,h2,← Cz]
  unfold Xp
  rw [at_mod h1 1,at_mod h2 1,cb h1,cb h2,ps _ _ h1,ps _ _ q1,pt _ _ h2,pt _ _ q2]
  exact ⟨rfl,rfl⟩
 ·unfold Xp
  dsimp only
  rw [← e1,← e2]
  by_cases c:s p=t q
  ·obtain ⟨c1,_⟩:=on p q c e1
   rw [← c,← c1,pP,Bs (by omega),Bs (by omega)]
   rfl
  ·have c':s (p+1)≠t (q+1):=fun z=>c (bf p q z e2).1
   exact z6 O (am p) (iv _ (am p)) (am (p+1)) (r1 p).symm (hs p) (by rw [e1];exact ht q) (hs (p+1)) (by rw [e2];exact ht (q+1)) c c'
 ·unfold Xp
  dsimp only
  rw [← e1]
  have c:s p≠t q:=fun z=>e2 (on p q z e1).2
  exact z7 O (am p) (iv _ (am p)) (am (p+1)) (bm (q+1)) (r1 p).symm (by rw [e1];exact (r2 q).symm) e2 (hs p) (by rw [e1];exact ht q) (hs (p+1)) (ht (q+1)) c
 ·unfold Xp
  dsimp only
  rw [← e2]
  have c:s (p+1)≠t (q+1):=fun z=>e1 (bf p q z e2).2
  exact z8 O (iv _ (am p)) (iv _ (bm q)) (am (p+1)) (r1 p).symm (by rw [e2];exact (r2 q).symm) (dA e1) (O.iv _ _ (hs p)) (O.iv _ _ (ht q)) (hs (p+1)) (by rw [e2];exact ht (q+1)) c
theorem yf {k:Nat}{u w v:List L}{In:L→P2→Prop}{P:L→P2→Nat}(O:Pos u In P)(U:SK u k)(A:Wo k w)(B:Wo k v){s t:Int→P2}(hs:∀ p,In (atZ w p) (s p))(ht:∀ q,In (atZ v q) (t q))(ps:∀ p q:Int,p % (w.length:Int)=q % (w.length:Int)→s p=s q)(pt:∀ p q:Int,p % (v.length:Int)=q % (v.length:Int)→t p=t q)
  (on:∀ p q,s p=t q→atZ w p=atZ v q∧s (p+1)=t (q+1)) (bf:∀ p q,s (p+1)=t (q+1)→s p=t q):XD u w v (Xp P w v s t):=by
 have lw:=A.lp
 have lv:=B.lp
 have am:∀ j,atZ w j∈u:=fun j=>(U.mem _).mpr (A.i _ (eG lw j))
 have bm:∀ j,atZ v j∈u:=fun j=>(U.mem _).mpr (B.i _ (eG lv j))
 have iv:=U.srf.iv
 have nn:∀ p q,s p=t q→atZ w p≠inv (atZ v q):=fun p q e=>by rw [(on p q e).1];exact (ja _).symm
 have lb:(bk v).length=v.length:=aK v
 refine ⟨⟨_,ye O U A B hs ht ps pt (fun p q e1 _=>⟨(on p q e1).2,(on _ _ (on p q e1).2).1⟩) fun p q e1 _=>⟨bf p q e1,(on p q (bf p q e1)).1⟩⟩,?_,fun z hz=>?_⟩
 ·have C:=ye (v:=bk v) O U A B.bk (s:=s) (t:=fun q=>t (-1 - q)) hs (fun q=>by rw [cj lv];exact O.iv _ _ (ht _)) ps (fun p q e=>pt _ _ (by
   rw [lb] at e
   rw [GN,e,← GN])) (fun p q e1 e2=>by
   rw [cj lv] at e2
   exact absurd e2 (nn _ _ e1)) (fun p q e1 e2=>by
   rw [cj lv] at e2
   exact absurd e2 (nn _ _ e1))
  have e:Xp P w (bk v) s (fun q=>t (-1 - q))=fun z=>Xp P w v s t (z.1,-2 - z.2):=by
   funext z
   unfold Xp
   dsimp only
   rw [cj lv,cj lv,aU,zZ,show -1 - (z.2+1) = -2 - z.2 by omega,show -1 - z.2 = -2 - z.2+1 by omega]
  rw [e] at C
  exact ⟨_,C⟩
 ·unfold hF
  rw [sg1,sg1,sg1,sg1,FG,FG]
  exact vn O (iv _ (am _)) (am _) (iv _ (bm _)) (bm _) (O.iv _ _ (hs _)) (hs _) (O.iv _ _ (ht _)) (ht _) (CZ hz)
end Kx
namespace PySem
end PySem
namespace L2
open PySem PySem.Spec PyProof.Rows Wd
section
variable {X:Cx}
end
end L2
namespace HT
open PySem PySem.Spec PyProof.Rows
section
variable {prog:Program} {w:World} {A:Around} {E:Value→Shared→Prop} {s:Shared}
end
end HT
namespace L2
open PySem PySem.Spec PyProof.Rows Wd
section
variable {X:Cx}
end
end L2
namespace L2
open PySem PySem.Spec PyProof.Rows
end L2
namespace Kx
open PySem PySem.Spec PyProof.Rows L2 Wd Tv
def yg (a b c d:Nat):Bool:=decide (min a b < c∧c < max a b) != decide (min a b < d∧d < max a b)
end Kx
namespace Tv
open PySem PyProof.Rows
section
variable {prog:Program} {w:World} {A:Around} {E:Value→Shared→Prop} {s:Shared}
end
end Tv
namespace L2
open PySem PySem.Spec PyProof.Rows Wd Tv
section
variable {X:Cx}
end
end L2
namespace Kx
open PySem PySem.Spec PyProof.Rows L2 Wd
def fst (c:Option (Int × Int)):Int:=match c with | some (i,_)=>i | none=>0
end Kx
namespace L2
open PySem PySem.Spec PyProof.Rows Wd
section
variable {X:Cx}
end
end L2
namespace HT
open PySem PySem.Spec PyProof.Rows PySem.SeqAt
end HT
namespace L2
open PySem PySem.Spec PyProof.Rows Wd
section
variable {X:Cx}
end
end L2
namespace L2
open PySem PySem.Spec PyProof.Rows
section
variable {M:Model} {A:Around} {E:Value→Shared→Prop} {s:Shared}
end
def exo (a C:Addr)(d:Option Addr)(b c:Bool):Heap→Prop:=fun h =>
 ∃ oe vs,h.get? a=some oe∧oe.cls = .ref C∧oe.dict=d∧oe.data = .fields vs∧vs.size=6∧(b=true→vs[1]? = some .none)∧(c=true→vs[2]? = some .none)
abbrev Exo (a C:Addr)(d:Option Addr)(b:Bool)(c:Bool:=false):HO:=.ext (exo a C d b c)
section
variable {P:Program} {w:World} {H:Hp} {h h':Heap} {fs:List Addr} {e C:Addr} {d:Option Addr} {b cx:Bool} {fl:Value}
end
section
variable {P:Program} {w:World} {K:PySem.W.Frag} {mg:Str→Option Value} {base:Heap} {N:List Str} {qual:Str} {scope:Scope} {f:Addr} {cd:Value} {A:Around} {outer:List Env} {s:Shared} {H:Hp} {E:XK}
end
section
variable {prog:Program} {w:World} {A:Around} {E:Value→Shared→Prop} {h:Heap} {g:Array GenState} {d:Drawn} {t:Nat} {os:OsState} {K:PySem.W.Frag} {C fI:Addr} {bm:List Value}
end
section
variable {X:Cx} {k:Nat} {f C:Addr} {fd:FuncData} {ps:List Str} {sp:Sp} {x:Str} {p pos:Pos} {e:Expr} {es:List Expr} {t:TA} {bm:List Value}
end
end L2
namespace L2
open PySem PySem.Spec PyProof.Rows Builtin Builtin.ObjectAttr
section
variable {prog:Program} {w:World} {A:Around} {E:Value→Shared→Prop} {h:Heap} {g:Array GenState} {d:Drawn} {t:Nat} {os:OsState} {K:PySem.W.Frag} {C e:Addr} {bm:List Value} {oe:Obj} {vs:Array Value}
section
variable {name:Str} {v:Value} {mA:Str→Option Value}
end
end
end L2
namespace L2
open PySem PySem.Spec PyProof.Rows
def xdt (d:Addr)(fs:List (Str × V)):Heap→Prop:=fun h=>∃ mA,h.Ns1 d mA∧(∀ f,mZ (fs.lookup f) (mA f))∧PySem.Within mA (fs.map (·.1))
abbrev Xdt (d:Addr)(fs:List (Str × V)):HO:=.ext (xdt d fs)
section
variable {X:Cx} {Hz:List (Addr × Obj)} {σ:St} {H:Hp} {s:Shared} {A:Around} {E:Value→Shared→Prop} {a C:Addr} {b cx:Bool} {f:Str} {y:V} {u:Value} {Q:Unit→Shared→Prop}
end
section
variable {X:Cx} {o e value:Expr} {es:List Expr} {f x:Str} {p pos pos' apos:Pos} {ta tv te:TE} {t:TA} {R:Addr} {E:XK}
end
section
variable {prog:Program} {w:World} {A:Around} {E:Value→Shared→Prop} {s:Shared} {K:PySem.W.Frag} {C a:Addr} {bm:List Value} {oe:Obj} {od:Option Obj} {name:Str} {fill expr:Bool} {tk:Tok}
end
section
variable {X:Cx} {Hz:List (Addr × Obj)} {σ:St} {H:Hp} {s:Shared} {A:Around} {E:Value→Shared→Prop} {a C dx:Addr} {b cx:Bool} {fs:List (Str × V)} {f:Str} {v:V}
end
section
variable {X:Cx} {e:Expr} {f:Str} {pos:Pos} {ta:TE}
end
section
variable {X:Cx} {Hz:List (Addr × Obj)} {σ:St} {H:Hp} {s:Shared}
end
section
variable {M:Model} {A:Around} {E:Value→Shared→Prop} {s:Shared}
end
section
variable {X:Cx} {E:XK} {x:Str} {ps:List Str} {k j:Nat} {sp:Sp} {e a b:Expr} {es:List Expr} {t:TA} {te tb:TE} {tt:TT} {p pos pos':Pos}
end
section
variable {K:PySem.W.Frag} {C R N:Addr} {dd d0:Option Addr} {c0 oc:Value} {cd cdR:ClassData} {k0 k1 k2 k3 k5:Option Value} {sl sl':Array (Option Value)} {es:Array DictEntry} {n:Nat} {bm bm':List Value}
end
section
variable {X:Cx} {x:Str} {C:Addr} {names:List Str} {k j:Nat} {e:Expr} {es:List Expr} {t:TA} {p pos:Pos}
end
section
variable {K:PySem.W.Frag} {C dx a:Addr} {b:Bool} {H:Hp}
end
section
variable {X:Cx} {K:PySem.W.Frag} {e:Expr} {f:Str} {pos:Pos} {ta:TE}
end
section
variable {X:Cx} {E:XK} {e a b c:Expr} {te ta tb:TE} {tA:TT} {pos:Pos}
end
section
variable {X:Cx} {x:Str} {ps:List Str} {k j:Nat} {sp:Sp} {e:Expr} {es:List Expr} {t:TA} {p pos:Pos}
end
section
variable {prog:Program} {w:World} {A:Around} {E:Value→Shared→Prop} {h:Heap} {g:Array GenState} {d:Drawn} {t:Nat} {os:OsState} {K:PySem.W.Frag} {C:Addr} {bm:List Value}
end
end L2
namespace Kx
open PySem PySem.Spec PyProof.Rows L2 Wd
theorem dec_int (j n:Nat):decide (V.int (0+(j:Int))=V.int (n:Int))=decide (n=j):=by
 by_cases e:n=j
 ·subst e;simp
 ·rw [Bs e,Bs]
  intro z
  have:=V.int.inj z
  omega
end Kx
namespace L2
open PySem PySem.Spec PyProof.Rows
open Builtin
section
variable {X:Cx}
end
end L2
namespace Wd
def cP (W:List (List L)):List (Int × Int):=(List.range W.length).flatMap fun i=>(List.range (W.getD i []).length).map fun p:Nat=>((i:Int),(p:Int))
def ltS (W:List (List L))(p:Int × Int):Nat:=((W.getD p.1.toNat []).getD p.2.toNat 0).val % 6
def okS (W:List (List L))(p:Int × Int):Bool:=decide (0≤p.1) && decide (p.1 < W.length) && (decide (0≤p.2) && decide (p.2 < (W.getD p.1.toNat []).length))
theorem cY {W:List (List L)}{p:Int × Int}:p∈cP W ↔ okS W p=true:=by
 unfold cP okS
 rw [De]
 simp only [BZ,Cf]
 constructor
 ·rintro ⟨i,hi,h⟩
  obtain ⟨q,hq,rfl⟩:=B2.mp h
  rw [CL] at hi hq
  simp only [Ce]
  omega
 ·rintro ⟨⟨h1,h2⟩,h3,h4⟩
  refine ⟨p.1.toNat,CL.mpr (by omega),B2.mpr ⟨p.2.toNat,CL.mpr (by omega),?_⟩⟩
  exact CY (by show ((p.1.toNat:Nat):Int)=p.1;omega) (by show ((p.2.toNat:Nat):Int)=p.2;omega)
def ltp (p q:Int × Int):Prop:=p.1 < q.1 ∨ (p.1=q.1∧p.2 < q.2)
theorem rV (i:Nat)(n:Nat):((List.range n).map fun p:Nat=>((i:Int),(p:Int))).Pairwise ltp:=by
 rw [List.pairwise_map]
 refine Ga ?_ EM
 intro a b h
 exact .inr ⟨rfl,by show ((a:Nat):Int) < (b:Nat);omega⟩
theorem iI (W:List (List L)):(cP W).Pairwise ltp:=by
 unfold cP
 rw [List.pairwise_flatMap]
 refine ⟨fun i _=>rV i _,?_⟩
 refine Ga ?_ EM
 intro a b h x hx y hy
 obtain ⟨p,_,rfl⟩:=B2.mp hx
 obtain ⟨q,_,rfl⟩:=B2.mp hy
 exact .inl (by show ((a:Nat):Int) < (b:Nat);omega)
theorem j7 {l:List (Int × Int)}(h:l.Pairwise ltp):l.Nodup:=by
 refine Ga ?_ h
 rintro a b h rfl
 unfold ltp at h
 omega
def yP (W:List (List L))(l:Nat):List (Int × Int):=(cP W).filter fun p=>decide (ltS W p=l)
theorem rX (W:List (List L))(l:Nat):(yP W l).Pairwise ltp:=(iI W).filter _
abbrev Sg1:=Option (Int × Int)
def prs (cs:List Sg1):List (Int × Int):=cs.filterMap id
def okL (W:List (List L))(l:Nat):Sg1→Bool
 | some p=>okS W p && decide (ltS W p=l)
 | none=>false
def z_ (W:List (List L))(l:Nat):Option (List Sg1)→Bool
 | some cs=>cs.all (okL W l)
 | none=>false
def allL (W:List (List L)):Nat→List (Option (List Sg1))→Bool
 | _,[]=>true
 | l,c::r=>z_ W l c && allL W (l+1) r
end Wd
namespace L2
open PySem PySem.Spec PyProof.Rows
theorem fY {X:Cx}{K:PySem.W.Frag}(hK:X.K=K):dE X (.type "tuple") (bX K):=by subst hK; exact cH
end L2
namespace Kx
open PySem PySem.Spec PyProof.Rows L2 Wd
theorem Tp.nt {H:Hp}{d c a:Addr}{xs:List V}(F:Tp H d c)(h:H a=some (.tup xs)):a≠d:=by
 obtain ⟨i,l,t,ns,h1,_⟩:=F.ex
 exact eW h h1 (by intro z;cases z)
structure Wy4 (n:Nat) (W:List (List L)) (H:Hp) (a:Addr):Prop where
 at_:H a=some (.tup (W.map tx))
 le:W.length≤4
 lo:1≤W.length
 ws:∀ w∈W,w≠[]∧w.length≤15∧InM n w
theorem Wy4.same {n:Nat}{W:List (List L)}{H H':Hp}{a:Addr}(h:Wy4 n W H a)(s:az H H'):Wy4 n W H' a:=⟨s _ _ h.at_,h.le,h.lo,h.ws⟩
def StA (H:Hp)(zs:List (Addr × Int × Int)):Prop:=∀ z∈zs,H z.1=some (.tup [.int z.2.1,.int z.2.2])
theorem StA.same {H H':Hp}{zs:List (Addr × Int × Int)}(h:StA H zs)(s:az H H'):StA H' zs:=fun z hz=>s _ _ (h z hz)
theorem StA.app {H:Hp}{zs ys:List (Addr × Int × Int)}(h:StA H zs)(g:StA H ys):StA H (zs++ys):=fun z hz=>(B0.mp hz).elim (h z) (g z)
inductive rY (vs:List V)(H:Hp)(Q:VK)(HS:XK):Prop
 | mk:∀ (a:Addr) (n:Nat) (W:List (List L)),(vs=[.ref a])→(Wy4 n W H a)→(∀ (l:Addr) (zs:List (Addr × Int × Int)) (H':Hp),H l=none→az H H'→H' l=some (.lst ((zs.map (·.1)).map V.ref))→StA H' zs→zs.map (·.2)=cP W→Q (.ref l) H')→rY vs H Q HS
end Kx
namespace PySem
open Sem (wp)
section
variable {prog:Program} {w:World}
def bL (prog:Program)(w:World)(h:Heap)(k:Str × List Int)(a:Addr):Prop :=
 ∃ o t b n,h.get? a=some o∧o.cls = .type "tuple"∧o.data = .seq #[.str k.1 t,.ref b] n∧IsTupleKey (intKind prog w) h k.2 b∧PyData.strOk k.1=true
def lN (prog:Program)(w:World)(k:Str × List Int):Int:=reduceHash (Builtin.Tuple.tupleHashOf [hashStr w k.1,tupleKeyHash (intKind prog w) k.2])
theorem bL.typeIs {s:Shared}{k:Str × List Int}{a:Addr}(x:bL prog w s.heap k a):s.TypeIs (.ref a) "tuple":=let ⟨o,_,_,_,ho,hc,_⟩:=x; ⟨o,ho,hc⟩
theorem bL.inj {h:Heap}{a:Addr}{x y:Str × List Int}(hx:bL prog w h x a)(hy:bL prog w h y a):x=y:=by
 obtain ⟨o,t,b,n,ho,_,hd,hi,_⟩:=hx
 obtain ⟨o',t',b',n',Iy,_,hd',hi',_⟩:=hy
 obtain rfl:o=o':=BA (ho.symm.trans Iy)
 rw [hd] at hd'
 have e:=hd'
 injection e with h1 _
 have h2:=BP Array.toList h1
 simp only [Fp,Value.str.injEq,Value.ref.injEq,G2] at h2
 obtain ⟨⟨e1,_⟩,e2⟩:=h2
 subst e2
 exact CY e1 (hi.inj hi')
theorem bL.keeps {h h':Heap}{k:Str × List Int}{a d:Addr}{o:Obj}{es ep}(x:bL prog w h k a)(ho:h.get? d=some o)(hd:o.data = .dict es ep)(hs:Heap.SameBut d h h'):bL prog w h' k a:=by
 obtain ⟨o',t,b,n,Iy,hc,hd',hi,ok⟩:=x
 have hne:a≠d:=by
  rintro rfl
  obtain rfl:o'=o:=BA (Iy.symm.trans ho)
  rw [hd] at hd';exact nomatch hd'
 exact ⟨o',t,b,n,(hs.2 a hne).trans Iy,hc,hd',hi.keeps ho hd hs,ok⟩
variable {A:Around} {E:Value→Shared→Prop} {s:Shared}
theorem eK {k:Str × List Int}{a:Addr}{Q:Int→Shared→Prop}(hu:A.units+8 < cLine)(hk:bL prog w s.heap k a)(h:Q (lN prog w k) { s with toks:=s.toks+(k.2.length+3) }) :
  wpAny (model prog w) A (pyHash (.ref a)) Q E s:=by
 have ty:=hk.typeIs
 have sl:=F.slot_tuple_hash
 obtain ⟨o,t,b,n,at_,_,dat,inner,_⟩:=hk
 have room:A.units < cLine:=by omega
 generalize hm:Builtin.Tuple.tupleHashOf [hashStr w k.1,tupleKeyHash (intKind prog w) k.2]=m
 have h:Q (reduceHash m) { s with toks:=s.toks+1+(k.2.length+1)+1 }:=by
  rw [← hm,show s.toks+1+(k.2.length+1)+1=s.toks+(k.2.length+3) by omega]
  exact h
 unfold pyHash pyHashByItsType
 refine Bp (wpAny_cRoomFor_or (.inr room) (Bp (DV ty sl.lookup ?_)))
 rw [show (some (Value.builtin "tuple.__hash__") == some Value.none)=false from beq_builtin_none ..]
 refine Bp (DV ty sl.lookup (Bp (wpAny_callSpecialIfBoundUnlessNone?_slot ty sl (CI sl ty F.entry_tuple_hash (show wpAny _ A.in1 (Builtin.Tuple.tupleItemsOf (Value.ref a) >>= _) _ E s from Bp (wpAny_tupleItemsOf at_ dat (Bp ?_))) (F.args_tuple_hash_1 _)))))
 rw [← Array.forIn_toList]
 show wpAny _ _ (forIn [Value.str k.1 t,Value.ref b] _ _) _ _ _
 rw [EC]
 refine Bp (Bp (wpAny_pyHash_str (Br ?_)))
 dsimp only
 rw [EC]
 refine Bp (Bp (wpAny_pyHash_tuple (knd:=intKind prog w) (s:={ s with toks:=s.toks+1 }) (by show A.units+1 < cLine;omega) inner (Br ?_)))
 dsimp only
 rw [List.forIn_nil]
 refine Br (wpAny_ret_mkInt ?_)
 dsimp only
 rw [show Builtin.Tuple.tupleHashOf ((#[].push (hashStr w k.1)).push (tupleKeyHash (intKind prog w) k.2)).toList=m from hm]
 unfold reduceHash at h
 unfold pyHashByItsType.reduced
 split at h
 ·rename_i c
  rw [if_pos c]
  exact Br h
 ·rename_i c
  rw [if_neg c]
  exact Bp (DM (Br h))
def dZ (k:Str × List Int):PyData:=.tuple [.str k.1,.tuple (k.2.map .int)]
theorem jy {h:Heap}:∀ {ks:List Int} {vs:List Value},ItemsAre (intKind prog w) ks vs→ReadsAll h vs (ks.map .int) []
 | _,_,.nil=>.nil
 | _,_,.cons q r=>by
  obtain ⟨t,rfl⟩:=Value.isInt_shape q
  exact .cons (as:=[]) (bs:=[]) (.int _ _) (jy r)
theorem bL.reads {h:Heap}{k:Str × List Int}{a:Addr}(q:bL prog w h k a):Reads h (.ref a) (dZ k) []:=by
 obtain ⟨o,t,b,n,h1,h2,h3,⟨o2,HE,n2,g1,g2,g3,g4⟩,_⟩:=q
 exact .tuple h1 h2 h3 (.cons (as:=[]) (bs:=[]) (.str _ _) (.cons (as:=[]) (bs:=[]) (.tuple g1 g2 g3 (jy g4)) .nil))
theorem iJ:∀ x y:List Int,PyData.eqvAll (x.map .int) (y.map .int)=decide (x=y)
 | [],[]=>rfl
 | [],_::_=>rfl
 | _::_,[]=>rfl
 | a::x,b::y=>by
  show ((a == b) && PyData.eqvAll (x.map .int) (y.map .int))=_
  rw [iJ x y,BX]
  simp
theorem lO (x y:Str × List Int):PyData.eqv (dZ x) (dZ y)=decide (x=y):=by
 show ((x.1 == y.1) && (PyData.eqvAll (x.2.map .int) (y.2.map .int) && true))=_
 rw [iJ,BX]
 simp [Prod.ext_iff]
theorem iK:∀ x:List Int,PyData.canLayAll0 (x.map .int)=true
 | []=>rfl
 | a::x=>by
  rw [Cd,PyData.canLayAll0,iK x]
  rfl
theorem bL.ok {h:Heap}{k:Str × List Int}{a:Addr}(q:bL prog w h k a):PyData.strOk k.1=true:=let ⟨_,_,_,_,_,_,_,_,ok⟩:=q; ok
theorem fh {x:Str × List Int}(ok:PyData.strOk x.1=true):(dZ x).canLay0=true:=by
 unfold dZ PyData.canLay0
 rw [PyData.canLayAll0,PyData.canLayAll0,PyData.canLayAll0]
 have:(PyData.tuple (x.2.map .int)).canLay0=true:=by unfold PyData.canLay0;exact iK x.2
 rw [this]
 simp [PyData.canLay0,ok]
theorem fN:∀ x:List Int,PyData.depthAll (x.map .int)=0
 | []=>rfl
 | a::x=>by
  show max 0 (PyData.depthAll (x.map .int))=0
  rw [fN x]
  rfl
theorem jz (x:Str × List Int):(dZ x).depth≤2:=by
 show max 0 (max (PyData.depthAll (x.2.map .int)+1) 0)+1≤2
 rw [fN]
 decide
theorem eL {x y:Str × List Int}{a b:Addr}{Q:Bool→Shared→Prop}(hu:A.units+8 < cLine)(hx:bL prog w s.heap x a)(hy:bL prog w s.heap y b)(h:Q (decide (x=y)) s) :
  wpAny (model prog w) A (eqBool (.ref a) (.ref b)) Q E s:=by
 have d:=jz x
 refine GB _ _ A s _ _ _ _ hx.reads hy.reads (fh hx.ok) (fh hy.ok) (by omega) prog w E Q ?_
 rw [lO]
 exact h
theorem fO {m:Nat}{a:Addr}{o:Obj}{HE:Array Value}{n:Nat}{Q:Bool→Shared→Prop}(g:s.heap.get? a=some o)(c:o.cls = .type "tuple")(dt:o.data = .seq HE n)(all:∀ v∈HE.toList,∀ R:Bool→Shared→Prop,R true s→wpAny (model prog w) A (eqIsQuiet m v) R E s)
  (fin:Q true s):wpAny (model prog w) A (eqIsQuiet (m+1) (.ref a)) Q E s:=by
 have ty:s.TypeIs (.ref a) "tuple":=⟨o,g,c⟩
 unfold eqIsQuiet
 refine Bp (DV ty F.slot_tuple_eq.lookup (show wpAny _ A (isInstance (Value.ref a) (Value.type "tuple") >>= _) Q E s from Bp (Gv ty isSubtype_tuple_tuple ?_)))
 simp only [Eg,BR,↓reduceIte]
 refine Bp (wpAny_seqItems g dt (Bp (show wpAny _ A (forIn HE _ _) _ E s from ?_)))
 rw [← Array.forIn_toList]
 generalize HE.toList=vs at all
 induction vs with
 | nil=>rw [List.forIn_nil];exact Br (Br fin)
 | cons v r ih =>
  rw [EC]
  refine Bp (Bp (all v BC _ ?_))
  simp only [Eg,BR,↓reduceIte]
  exact Br (ih fun u hu=>all u (Bw _ hu))
theorem fP {m:Nat}{v:Value}{R:Bool→Shared→Prop}(c:carriedByValue v=true)(r:R true s):wpAny (model prog w) A (eqIsQuiet m v) R E s:=by
 rw [eqIsQuiet_byValue m c]
 exact Br r
theorem c7 {k:Str × List Int}{a:Addr}{Q:Bool→Shared→Prop}(hk:bL prog w s.heap k a)(h:Q true s):wpAny (model prog w) A (eqIsQuiet 8 (.ref a)) Q E s:=by
 obtain ⟨o,t,b,n,h1,h2,h3,⟨o2,HE,n2,g1,g2,g3,g4⟩,_⟩:=hk
 refine fO h1 h2 h3 (fun v hv R r=>?_) h
 simp only [BU,Co,D6] at hv
 rcases hv with rfl | rfl
 ·exact fP rfl r
 ·exact fO g1 g2 g3 (fun u hu R r=>fP (g4.byValue u hu) r) r
end
def rZ (prog:Program)(w:World):HeapKind prog w (Str × List Int) where
 is:=bL prog w
 hash:=lN prog w
 draws:=fun k=>k.2.length+3
 room:=fun A=>A.units+8 < cLine
 inj:=fun hx hy=>hx.inj hy
 keeps:=fun x ho hd hs=>x.keeps ho hd hs
 pyHash:=fun hu hk h=>eK hu hk h
 eqBool:=fun hu hx hy h=>eL hu hx hy h
 quiet:=fun hk h=>c7 hk h
end PySem
namespace L2
open PySem PySem.Spec PyProof.Rows
abbrev NE:=(Str × List Int) × Addr × Int
inductive NEs:List NE→List ((Str × List Int) × Addr × Value)→Prop
 | nil:NEs [] []
 | cons {k:Str × List Int} {a:Addr} {i:Int} {t:Tok} {es:List NE} {xs:List ((Str × List Int) × Addr × Value)} (h:NEs es xs):NEs ((k,a,i)::es) ((k,a,.int i t)::xs)
def nd (P:Program)(w:World)(d:Addr)(es:List NE):Heap→Prop:=fun h =>
 es.length≤sizeLine∧(d == sysModules)=false∧(es.map (·.1)).Nodup∧∃ xs,NEs es xs∧∃ o en ep,h.get? d=some o∧o.ExactDict∧o.data = .dict en ep∧en.toList=xs.map (entryOfKey (rZ P w))
section
variable {X:Cx} {Hz:List (Addr × Obj)} {σ:St} {H:Hp} {s:Shared} {d b:Addr} {es:List NE} {k:Str × List Int} {A:Around} {E:Value→Shared→Prop}
end
section
variable {X:Cx} {pos pos':Pos} {o i value:Expr} {td ty tv:TE}
end
end L2
namespace Wd
open PySem L2
def lcp:List L→List L→List L
 | x::u,y::v=>if x=y then x::lcp u v else []
 | _,_=>[]
def Bg (t o:List L):Bool:=decide (o≠t) && decide (t.length≤6*(lcp t o).length)
theorem btw:∀ {p x y z:List Nat},p <+: x→p <+: z→x≤y→y≤z→p <+: y
 | [],_,_,_,_,_,_,_=>List.nil_prefix
 | a::p,[],_,_,h,_,_,_=>by simp at h
 | a::p,_::_,_,[],_,h,_,_=>by simp at h
 | a::p,x::xs,[],z::zs,_,_,h,_=>by simp at h
 | a::p,x::xs,y::ys,z::zs,h,g,h1,h2=>by
  obtain ⟨e1,h3⟩:=E6.mp h
  obtain ⟨e2,h4⟩:=E6.mp g
  subst e1 e2
  rw [List.cons_le_cons_iff] at h1 h2
  have e:a=y:=by
   rcases h1 with h1 | h1
   ·rcases h2 with h2 | h2
    ·omega
    ·exact h2.1.symm
   ·exact h1.1
  subst e
  have h1:=(h1.resolve_left (CW _)).2
  have h2:=(h2.resolve_left (CW _)).2
  exact E6.mpr ⟨rfl,btw h3 h4 h1 h2⟩
end Wd
namespace Kx
open PySem PySem.Spec PyProof.Rows L2 Wd
theorem nl:¬ ("letter":Str) = "number":=by decide +kernel
theorem nt:¬ ("turn":Str) = "number":=by decide +kernel
theorem tl:¬ ("turn":Str) = "letter":=by decide +kernel
end Kx
namespace Wd
open PySem L2
end Wd
namespace Kx
open PySem L2 Wd
end Kx
namespace PySem
open Sem (wp)
section
variable {prog:Program} {w:World} {A:Around} {E:Value→Shared→Prop} {s:Shared} {z TI TO i1 i2:Addr} {x y:Str} {t u:Tok} {k c d:Nat} {a b:Value}
end
end PySem
namespace L2
open PySem PySem.Spec PyProof.Rows
section
variable {X:Cx}
end
end L2
namespace Wd
end Wd
namespace Kx
open PySem PySem.Spec PyProof.Rows L2 Wd
def iv (r:List Nat):List V:=r.map fun i:Nat=>V.int (i:Int)
end Kx
namespace L2
open PySem PySem.Spec PyProof.Rows Wd
section
variable {X:Cx}
end
end L2
namespace Kx
open PySem PySem.Spec PyProof.Rows L2 Wd
def oL (o:Option (List L)):List V:=o.toList.map tx
theorem at1 {α:Type}(a b:α)(t:List α):atI (a::b::t) (1:Int)=some b:=bM (j:=1) rfl
theorem at2 {α:Type}(a b c:α)(t:List α):atI (a::b::c::t) (2:Int)=some c:=bM (j:=2) rfl
end Kx
namespace L2
open PySem PySem.Spec PyProof.Rows Wd
end L2
namespace Kx
open PySem PySem.Spec PyProof.Rows L2 Wd
def XP (C:Addr)(H:Hp)(a:Addr)(z:Str)(k:Nat):Prop:=∃ dx,H a=some (Exo a C (some dx) false)∧H dx=some (Xdt dx [("word",.str z),("at",.int (k:Nat))])
end Kx
namespace L2
open PySem PySem.Spec PyProof.Rows
theorem gE {α β:Type}{R:α→β→Prop}:∀ {xs:List α} {ys:List β},Paired R xs ys→∀ {i:Nat} {x:α},xs[i]? = some x→∃ y,ys[i]? = some y∧R x y
 | _,_,.nil,i,x,h=>by simp at h
 | _,_,.cons r q,0,x,h=>by cases h;exact ⟨_,rfl,r⟩
 | _,_,.cons r q,i+1,x,h=>gE q (i:=i) (by simpa using h)
section
variable {X:Cx} {tg:Expr}
end
end L2
namespace PySem
open Sem (wp)
section
variable {prog:Program} {w:World} {A:Around} {E:Value→Shared→Prop} {s:Shared}
theorem r6 {it d:Addr}{i ep:Nat}{od:Obj}{es:Array DictEntry}{Q:Option Value→Shared→Prop}(st:s.heap.IsKeyIter it d i es.size ep)(g:s.heap.get? d=some od)(dt:od.data = .dict es ep)(hi:i < es.size)
  (fin:∀ h',h'.IsKeyIter it d (i+1) es.size ep→Heap.SameBut it s.heap h'→Q (some es[i].key) { s with heap:=h' }):wpAny (model prog w) A (pyNext (.ref it)) Q E s:=by
 have ty:=st.typeIs
 have sl:=Fi
 obtain ⟨o,ho,hc,hd⟩:=id st
 unfold pyNext
 refine Bp (EE (Da (name:=Str.ofString "__next__") ty sl (CI sl ty Fc ?_ (E7 _))))
 obtain ⟨hp,gn,dr,tk,os⟩:=s
 repeat (first | with_reducible refine EY ho ?_ | with_reducible refine EY g ?_ | wp_step)
 have own:Builtin.Dict_items.ownsTuple ((Manifest.find? "dict_keyiterator").elim "dict_keyiterator" fun x=>x.tpName)=false:=by kernel_rfl
 have fl:wpAny (model prog w) A.in1 (match o.data with | Data.fields vs=>pure vs | x=>unsupported "internal:no-fields") (fun a s'=>a=#[Value.ref d,Value.int (↑i) 0,Value.int (↑es.size) 0,Value.int (↑ep) 0]∧s'=⟨hp,gn,dr,tk,os⟩) (fun _ _=>False) ⟨hp,gn,dr,tk,os⟩:=by
  rw [hd]
  exact Br ⟨rfl,rfl⟩
 refine Dh fl (fun a s' q=>?_) fun _ _ q=>q.elim
 obtain ⟨rfl,rfl⟩:=q
 rw [own]
 show wpAny _ _ (if (Value.ref d == Value.none)=true then _ else _) _ _ _
 rw [if_neg (by intro z;cases z)]
 refine Bp (Br (Bp (Gb g dt ?_)))
 dsimp only
 rw [if_neg (by simp)]
 refine Bp (Br (Bp (GO g dt ?_)))
 rw [if_neg (by simp)]
 refine Br ?_
 dsimp only
 rw [if_neg (by omega),Ce,Ek hi]
 dsimp only
 let up:=fun x:Array Value=>x.setIfInBounds 1 (rawInt ((i:Int)+1))
 have HX:(hp.update it (Obj.mapFields up)).IsKeyIter it d (i+1) es.size ep:=by
  refine ⟨_,DO _ ho (E2 (DP hd _)),?_,?_⟩
  ·rw [Obj.cls_mapFields];exact hc
  ·rw [DP hd];simp [up,rawInt]
 refine Bp (Bp (Fd ty (Br (Bp (wpAny_isOneOf_keyiter ty (show wpAny _ _ (setField (Value.ref it) 1 (rawInt ((i:Int)+1)) >>= _) _ _ _ from Bp (EZ ho hd (by simp) ?_)))))))
 refine Bp (Cw (Bp (wpAny_isOneOf_keyiter (s:=⟨hp.update it (Obj.mapFields up),gn,dr,tk,os⟩) HX.typeIs (show wpAny _ _ (pure es[i].key) _ _ _ from Br (Br ⟨_,rfl,Br (fin _ HX (D2 ..))⟩)))))
theorem vo {it d:Addr}{i ep:Nat}{od:Obj}{es:Array DictEntry}{Q:Option Value→Shared→Prop}(hh:A.handled=none)(st:s.heap.IsKeyIter it d i es.size ep)(g:s.heap.get? d=some od)(dt:od.data = .dict es ep)(hi:es.size≤i)
  (fin:∀ h',Heap.ExtBut it s.heap h'→Q none { s with heap:=h' }):wpAny (model prog w) A (pyNext (.ref it)) Q E s:=by
 have ty:=st.typeIs
 have sl:=Fi
 obtain ⟨o,ho,hc,hd⟩:=id st
 unfold pyNext
 refine Bp (EE (Da (name:=Str.ofString "__next__") ty sl (CI sl ty Fc ?_ (E7 _))))
 obtain ⟨hp,gn,dr,tk,os⟩:=s
 repeat (first | with_reducible refine EY ho ?_ | with_reducible refine EY g ?_ | wp_step)
 have own:Builtin.Dict_items.ownsTuple ((Manifest.find? "dict_keyiterator").elim "dict_keyiterator" fun x=>x.tpName)=false:=by kernel_rfl
 have fl:wpAny (model prog w) A.in1 (match o.data with | Data.fields vs=>pure vs | x=>unsupported "internal:no-fields") (fun a s'=>a=#[Value.ref d,Value.int (↑i) 0,Value.int (↑es.size) 0,Value.int (↑ep) 0]∧s'=⟨hp,gn,dr,tk,os⟩) (fun _ _=>False) ⟨hp,gn,dr,tk,os⟩:=by
  rw [hd]
  exact Br ⟨rfl,rfl⟩
 refine Dh fl (fun a s' q=>?_) fun _ _ q=>q.elim
 obtain ⟨rfl,rfl⟩:=q
 rw [own]
 show wpAny _ _ (if (Value.ref d == Value.none)=true then _ else _) _ _ _
 rw [if_neg (by intro z;cases z)]
 refine Bp (Br (Bp (Gb g dt ?_)))
 dsimp only
 rw [if_neg (by simp)]
 refine Bp (Br (Bp (GO g dt ?_)))
 rw [if_neg (by simp)]
 refine Br ?_
 dsimp only
 rw [if_neg (by omega),Ce,Array.getElem?_eq_none hi]
 dsimp only
 refine Bp (Bp (Fd ty (Br (show wpAny _ _ (setField (Value.ref it) 0 Value.none >>= _) _ _ _ from Bp (EZ ho hd (by simp) ?_)))))
 have hh1:A.in1.handled=none:=hh
 simp only [newExc,newTuple,raiseNew]
 refine Bp (Bp (DB (Bp (m:=firstArgMember _ _) (EU (a:=Value.none) rfl (DB (Bp (wpAny_handled ?_)) (by size_fits)))) (by size_fits)))
 rw [hh1]
 exact wpAny_throw (Bp (Gv (T:="StopIteration") (b:=true) ⟨_,BI _ rfl,rfl⟩ isSubtype_stop (Br (fin _ (((D2 ..).extBut.push _).push _)))))
theorem lP {d:Addr}{ep:Nat}{od:Obj}{es:Array DictEntry}{Q:Value→Shared→Prop}(hd:(d == sysModules)=false)(g:s.heap.get? d=some od)(ex:od.ExactDict)(dt:od.data = .dict es ep)
  (fin:Q (.ref s.heap.objs.size) { s with heap:=s.heap.push { cls:=.type "dict_keyiterator",data:=.fields #[.ref d,.int 0 0,.int es.size 0,.int ep 0] } }):wpAny (model prog w) A (pyIter (.ref d)) Q E s:=by
 have ty:s.TypeIs (.ref d) "dict":=⟨od,g,ex.1⟩
 have sl:=F.slot_dict_iter
 refine wpAny_pyIter_slot ty sl (CI sl ty F.entry_dict_iter ?_ (F.args_dict_iter_1 _))
 unfold Builtin.«dict.__iter__» Builtin.Dict.dictSlotNone
 refine Bp (Bp (wpAny_notOrdered_dict ty (show wpAny _ _ (pure (Value.ref d)) _ _ s from Br (show wpAny _ _ (Builtin.Dict.showsAll d >>= _) _ _ s from ?_))))
 unfold Builtin.Dict.showsAll
 rw [if_neg (by rw [hd];intro z;cases z)]
 refine Bp (Br (Bp (Gb g dt (Bp (GO g dt (Bp (DB (Br ⟨_,rfl,"dict_keyiterator",_,⟨_,BI _ rfl,rfl⟩,Fi.lookup,?_⟩))))))))
 simpa [rawInt] using fin
end
end PySem
namespace L2
open PySem PySem.Spec PyProof.Rows
def vp (d:Addr)(o:Obj)(HG:List (List Key × V)):It:=⟨fun i H=>i < HG.length∧H d=some (.frz o (.dT HG)),fun i H x H'=>H'=H∧∃ k v b,HG[i]? = some (k,v)∧x = .ref b∧H b=some (.tup (k.map kV)),fun i H=>i=HG.length∧H d=some (.frz o (.dT HG))⟩
theorem pQ {P:Program}{w:World}{H:Hp}{h:Heap}{d:Addr}{o:Obj}{HG:List (List Key × V)}{es:Array DictEntry}{ep:Nat}(hok:HOk P w H h)(e:H d=some (.frz o (.dT HG)))(he:o.data = .dict es ep) :
  h.get? d=some o∧∃ xs,KT H HG xs∧es.toList=xs.map (entryOfKey (tupleKind (bu P w))):=by
 obtain ⟨g,z,hd,xs,rel,o',es',ep',g',ex,dt,r,_⟩:=hok d _ e
 rw [g] at g'
 cases g'
 rw [he] at dt
 cases dt
 exact ⟨g,xs,rel,r⟩
theorem gF {P:Program}{w:World}{K:PySem.W.Frag}{tg:Expr}{d it:Addr}{o:Obj}{es:Array DictEntry}{ep:Nat}{HG:List (List Key × V)}(he:o.data = .dict es ep)(hz:es.size=HG.length):wb P w K tg (vp d o HG) [it] it (fun i h=>h.IsKeyIter it d i es.size ep) where
 mem:=by simp
 obj:=fun i h st b hb=>by
  have e:b=it:=by simpa using hb
  subst e
  obtain ⟨o,e,c,dd⟩:=st
  exact ⟨o,e,fun v z=>by rw [dd] at z;cases z⟩
 keep:=fun i h h' st kk=>st.at (kk it (by simp))
 item:=by
  intro X hP hw hK hc i Hz s σ H E I hf st hg
  subst hP hw hK
  obtain ⟨hi,e⟩:=hg
  obtain ⟨f0,f1,f2,f3,f4,f5⟩:=hf it (by simp)
  obtain ⟨g,xs,rel,r⟩:=pQ I.hok e he
  obtain ⟨p,hp⟩:∃ p,HG[i]? = some p:=⟨_,fu hi⟩
  obtain ⟨p',hp',ek,eb,rv⟩:=gE rel hp
  have hi2:i < es.size:=by omega
  have key:es[i].key = .ref p'.2.1:=by
   have q:es.toList[i]? = some (entryOfKey (tupleKind (bu X.prog X.w)) p'):=by rw [r,BH,hp'];rfl
   have q2:es.toList[i]? = some es[i]:=by rw [Cj,Ek hi2]
   rw [q2] at q
   rw [BA q]
   rfl
  refine r6 st g he hi2 fun h' HF hsb=>⟨_,rfl,?_⟩
  refine letGo_keyiter (s':={ s with heap:=h' }) HF ⟨.ref p'.2.1,H,?_,key,⟨rfl,p.1,p.2,p'.2.1,hp,rfl,eb⟩,HF,fun b hb=>(hf b hb).1⟩
  exact I.turned (t':=s.toks) (fun b o hb e=>by rw [hsb.2 b hb];exact e) f0 f1 f3 f4 f5
 done:=by
  intro X hP hw hK hc i Hz s σ H E I hf st hg
  subst hP hw hK
  obtain ⟨hi,e⟩:=hg
  obtain ⟨f0,f1,f2,f3,f4,f5⟩:=hf it (by simp)
  obtain ⟨g,xs,rel,r⟩:=pQ I.hok e he
  refine vo (I.ok.hd hc) st g he (by omega) fun h' hx=>⟨rfl,?_⟩
  exact I.turned (t':=s.toks) (fun b o hb e=>hx b o hb e) f0 f1 f3 f4 f5
 self:=fun A i s Q E st h=>wpAny_pyIter_keyiter st h
section
variable {X:Cx} {tg:Expr}
inductive lQ (R:It→Hp→Prop)(x:V)(H1:Hp):Prop
 | mk:∀ d HG,(x = .ref d)→(Rd H1 d (.dT HG))→(∀ o H2,H2 d=some (.frz o (.dT HG))→(∀ b,b≠d→H2 b=H1 b)→R (vp d o HG) H2)→lQ R x H1
def yh (tl:TE):TI:=fun σ H R=>tl σ H (lQ R)
theorem r_ {l:Expr}{tl:TE}(hl:PE X l tl):PI X tg l (yh tl):=by
 intro Hz s σ H R I h
 refine thn (hl Hz s σ H _ I h) fun v s1 zq1=>?_
 obtain ⟨x,H1,I1,r1,d,HG,rfl,e,q⟩:=zq1
 cases r1
 rcases e with e | ⟨o,e⟩
 ·obtain ⟨z,hd,xs,rel,o,es,ep,g,ex,he,r,nd⟩:=(show bW X.prog X.w H1 s1.heap d (.dT HG) from I1.hok d _ e)
  have hz:es.size=HG.length:=by rw [← Bx,r,Bo];exact (EB rel).symm
  have I2:Inv X Hz σ (upd H1 d (.frz o (.dT HG))) s1:=by
   refine jO (t':=s1.toks) I1 (by rw [e];exact True.intro) ⟨rfl,fun _ _=>rfl⟩ ⟨o,g⟩ ⟨g,z,hd,xs,KT.keeps rel fun c ys ec=>?_,o,es,ep,g,ex,he,r,nd⟩
   rw [aF (eW ec e (fun z=>nomatch z))]
   exact ec
  refine lP hd g ex he ?_
  refine ⟨s1.heap.objs.size,[s1.heap.objs.size],_,vp d o HG,_,rfl,I2.kept (t':=s1.toks) fun b o e=>Bz _ e,gF he hz,⟨_,BI _ rfl,rfl,rfl⟩,fun b hb=>?_,q o _ af fun b nb=>aF nb⟩
  have e:b=s1.heap.objs.size:=by simpa using hb
  subst e
  exact I2.fpOk (BB _) (I2.hok.fresh (BB _))
 ·obtain ⟨g,z,hd,xs,rel,o',es,ep,g',ex,he,r,nd⟩:=I1.hok d _ e
  rw [g] at g'
  cases g'
  have hz:es.size=HG.length:=by rw [← Bx,r,Bo];exact (EB rel).symm
  refine lP hd g ex he ?_
  refine ⟨s1.heap.objs.size,[s1.heap.objs.size],_,vp d o HG,_,rfl,I1.kept (t':=s1.toks) fun b o e=>Bz _ e,gF he hz,⟨_,BI _ rfl,rfl,rfl⟩,fun b hb=>?_,q o _ e fun b _=>rfl⟩
  have e:b=s1.heap.objs.size:=by simpa using hb
  subst e
  exact I1.fpOk (BB _) (I1.hok.fresh (BB _))
end
end L2
namespace PySem
open Sem (wp)
namespace F
end F
section
variable {prog:Program} {w:World} {A:Around} {E:Value→Shared→Prop} {s:Shared} {a:Addr} {HE:Array Value} {n:Nat} {sl:Array (Option Value)}
end
end PySem
namespace L2
open PySem PySem.Spec PyProof.Rows Wd
theorem ints_of:∀ {ns:List Int} {us:List Value},a8 (ns.map V.int) us→∃ ps:List (Int × Tok),us=ps.map (fun p=>Value.int p.1 p.2)∧ps.map Prod.fst=ns
 | [],_,.nil=>⟨[],rfl,rfl⟩
 | n::ns,_,.cons r q=>by
  obtain ⟨ps,rfl,e⟩:=ints_of q
  obtain ⟨t,rfl⟩:=r
  exact ⟨(n,t)::ps,rfl,by rw [Cd,e]⟩
section
variable {X:Cx}
end
section
variable {P:Program} {w:World} {A:Around} {E:Value→Shared→Prop} {I:Addr} {fp wr:List Addr} {G:Array GenState→Array GenState→Prop} {n:Nat} {Pv:Nat→Value→Prop} {St':Nat→Shared→Prop}
end
section
variable {X:Cx}
end
end L2
namespace Kx
open PySem PySem.Spec PyProof.Rows L2 Wd
def se (W:List (List L))(i:Nat):List (Int × Int):=(List.range i).flatMap fun i=>(List.range (W.getD i []).length).map fun p:Nat=>((i:Int),(p:Int))
theorem jA (W:List (List L))(i:Nat):se W (i+1)=se W i++(List.range (W.getD i []).length).map fun p:Nat=>((i:Int),(p:Int)):=by
 unfold se
 rw [Dp,Dm,CQ,Fe,CV]
theorem d5 {W:List (List L)}(h:∀ w∈W,w.length≤15):∀ i,(se W i).length≤15*i
 | 0=>BB _
 | i+1=>by
  rw [jA,Bq,Bo,Gc]
  have:=d5 h i
  have g:(W.getD i []).length≤15:=by
   rw [By]
   cases e:W[i]? with
   | none=>exact Cc _
   | some w=>exact h w (BQ e)
  omega
theorem vq {W:List (List L)}{i:Nat}{w:List L}(h:W[i]? = some w):W.getD i []=w:=by rw [By,h]; rfl
theorem jB {W:List (List L)}{i:Nat}{w:List L}{zs ys:List (Addr × Int × Int)}(hw:W[i]? = some w)(h1:zs.map (·.2)=se W i)(h2:ys.map (·.2)=(List.range w.length).map fun p:Nat=>((i:Int),(p:Int))):(zs++ys).map (·.2)=se W (i+1):=by
 rw [BK,h1,h2,jA,vq hw]
theorem j8 {W:List (List L)}{i:Int}(h0:0≤i)(h1:i < W.length):atI (W.map tx) i=some (tx (W.getD i.toNat [])):=by
 have hi:i.toNat < W.length:=by omega
 have:=bM (xs:=W.map tx) (j:=i.toNat) (v:=tx (W.getD i.toNat [])) (by rw [BH,fu hi,By,fu hi];rfl)
 rwa [show ((i.toNat:Nat):Int)=i by omega] at this
theorem pR {w:List L}{j:Int}(h0:0≤j)(h1:j < w.length):atI (toS w).cps.toList j=some (cp (w.getD j.toNat 0)):=by
 have hj:j.toNat < w.length:=by omega
 refine du (k:=j.toNat) (by omega) ?_
 rw [By,fu hj]
 rfl
theorem lS {n:Nat}{W:List (List L)}{H:Hp}{a:Addr}(hW:Wy4 n W H a)(i:Nat):(W.getD i []).length≤15:=by
 rw [By]
 cases e:W[i]? with
 | none=>exact Cc _
 | some w=>exact (hW.ws w (BQ e)).2.1
theorem tR (x:L):Txt.lower (toS [x])=toS [⟨x.val % 6,by omega⟩]:=by
 have:∀ x:L,Txt.lower (toS [x])=toS [⟨x.val % 6,by omega⟩]:=by decide +kernel
 exact this x
theorem tS {x:L}(h:x.val < 6):∃ rest,Builtin.Str.occurrences ("abcdef":Str) (toS [x]) 0 ("abcdef":Str).length 1=x.val::rest:=by
 have q:∀ x:L,x.val < 6→x∈([0,1,2,3,4,5]:List L)∧([0,1,2,3,4,5]:List L).idxOf x=x.val:=by decide
 obtain ⟨h1,h2⟩:=q x h
 obtain ⟨r,e⟩:=kQ h1
 rw [uD,h2] at e
 exact ⟨r,e⟩
def yi (W:List (List L))(ps:List (Int × Int))(H:Hp)(m:Nat)(q:Addr):Prop:=∃ row:List (Addr × Int × Int),H q=some (.lst ((row.map (·.1)).map V.ref))∧StA H row∧(row.map (·.2)).Perm (ps.filter fun p=>decide (ltS W p=m))
theorem yi.to {W:List (List L)}{ps:List (Int × Int)}{H H':Hp}{m:Nat}{q:Addr}(h:yi W ps H m q)(k1:∀ xs,H q=some (.lst xs)→H' q=some (.lst xs))(k2:∀ a xs,H a=some (.tup xs)→H' a=some (.tup xs)):yi W ps H' m q:=by
 obtain ⟨row,h1,h2,h3⟩:=h
 exact ⟨row,k1 _ h1,fun z hz=>k2 _ _ (h2 z hz),h3⟩
structure Dw (n:Nat) (W:List (List L)) (H:Hp) (r:Addr) (rows:List (List (Int × Int))):Prop where
 ex:∃ bs:List Addr,H r=some (.tup (bs.map V.ref))∧bs.length=n∧∀ (i:Nat) (b:Addr),bs[i]? = some b→∃ row:List (Addr × Int × Int),H b=some (.tup ((row.map (·.1)).map V.ref))∧StA H row∧rows[i]? = some (row.map (·.2))
 len:rows.length=n
 pm:∀ (i:Nat) (row:List (Int × Int)),rows[i]? = some row→row.Perm (yP W i)
inductive j9 (vs:List V)(H:Hp)(Q:VK)(HS:XK):Prop
 | mk:∀ (d c:Addr) (u:List L) (n:Nat) (a:Addr) (W:List (List L)),(vs=[.ref d,tx u,.ref a])→(Tp H d c)→(SK u n)→(Wy4 n W H a)→(∀ (r:Addr) (rows:List (List (Int × Int))) (H':Hp),Tp H' d c→bD d H H'→Dw n W H' r rows→Q (.ref r) H')→j9 vs H Q HS
theorem pS {n:Nat}{W:List (List L)}(hW:∀ w∈W,InM n w){p:Int × Int}(o:okS W p=true):ltS W p < n:=by
 unfold okS at o
 simp only [BZ,Cf] at o
 obtain ⟨⟨o1,o2⟩,o3,o4⟩:=o
 have hi:p.1.toNat < W.length:=by omega
 have g:W.getD p.1.toNat []=W[p.1.toNat]:=by rw [By,fu hi];rfl
 unfold ltS
 rw [g] at o4 ⊢
 have hj:p.2.toNat < W[p.1.toNat].length:=by omega
 rw [By,fu hj]
 exact hW _ (Ck hi) _ (Ck hj)
def nxZ (W:List (List L))(p:Int × Int):Int × Int:=(p.1,(p.2+1) % ((W.getD p.1.toNat []).length:Int))
def eU (rows:List (List (Int × Int)))(x:L):List (Int × Int):=if x.val < 6 then rows.getD (x.val % 6) [] else (rows.getD (x.val % 6) []).reverse
theorem Dw.same {n:Nat}{W:List (List L)}{H H':Hp}{r:Addr}{rows:List (List (Int × Int))}(h:Dw n W H r rows)(s:az H H'):Dw n W H' r rows:=by
 obtain ⟨⟨bs,h1,h2,h3⟩,h4,h5⟩:=h
 exact ⟨⟨bs,s _ _ h1,h2,fun i b e=>let ⟨row,g1,g2,g3⟩:=h3 i b e;⟨row,s _ _ g1,g2.same s,g3⟩⟩,h4,h5⟩
abbrev Pt:=Addr × L × Addr × Int × Int
def PtA (H:Hp)(zs:List Pt):Prop:=∀ z∈zs,H z.1=some (.tup [tx [z.2.1],.ref z.2.2.1])∧H z.2.2.1=some (.tup [.int z.2.2.2.1,.int z.2.2.2.2])
theorem PtA.to {H H':Hp}{zs:List Pt}(h:PtA H zs)(k:∀ a xs,H a=some (.tup xs)→H' a=some (.tup xs)):PtA H' zs:=fun z hz=>⟨k _ _ (h z hz).1,k _ _ (h z hz).2⟩
theorem PtA.app {H:Hp}{zs ys:List Pt}(h:PtA H zs)(g:PtA H ys):PtA H (zs++ys):=fun z hz=>(B0.mp hz).elim (h z) (g z)
def ptZ (z:Pt):L × (Int × Int):=(z.2.1,z.2.2.2)
def bS (rows:List (List (Int × Int)))(u:List L):List (L × (Int × Int)):=u.flatMap fun x=>(eU rows x).map fun p=>(x,p)
theorem lU {n:Nat}{W:List (List L)}{H H':Hp}{a r:Addr}{rows:List (List (Int × Int))}(hW:Wy4 n W H a)(dw:Dw n W H' r rows)(x:L):(eU rows x).length≤60:=by
 have g:(rows.getD (x.val % 6) []).length≤60:=by
  rw [By]
  cases e:rows[x.val % 6]? with
  | none=>exact Cc _
  | some row =>
   show row.length≤60
   rw [(dw.pm _ _ e).length_eq]
   refine Cr (Ed _ _) ?_
   have:=d5 (fun w hw=>(hW.ws w hw).2.1) W.length
   have hle:=hW.le
   have:(cP W).length≤15*W.length:=this
   omega
 unfold eU
 split
 ·exact g
 ·rw [Et];exact g
inductive j_ (vs:List V)(H:Hp)(Q:VK)(HS:XK):Prop
 | mk:∀ (u:List L) (r:Addr) (n:Nat) (W:List (List L)) (rows:List (List (Int × Int))),(vs=[tx u,.ref r])→(SK u n)→(Dw n W H r rows)→(∀ x,(eU rows x).length≤60)→(∀ (l:Addr) (zs:List Pt) (H':Hp),H l=none→az H H'→H' l=some (.lst ((zs.map (·.1)).map V.ref))→PtA H' zs→zs.map ptZ=bS rows u→Q (.ref l) H')→j_ vs H Q HS
theorem vt {t u:TS}{D:gI}{σ:L2.St}{H:Hp}(R:L2.St→Hp→Prop)(h1:∀ D':gI,(∀ σ2 H2,R σ2 H2→D'.nx σ2 H2)→t D' σ H)(h2:∀ σ2 H2,R σ2 H2→u D σ2 H2):yS t u D σ H:=h1 _ h2
theorem vw {nx:L2.St→Hp→Prop}{rt:VK}{bk ct:L2.St→Hp→Prop}{i:Nat}{σ:L2.St}{x:V}{H:Hp}(h:nx (σ.set i (some x)) H):fj (ma i) ⟨nx,rt,bk,ct⟩ σ x H:=h
theorem mP {zs:List Int}{a b:Nat}(p:zs.Perm [(a:Int),(b:Int)])(so:zs.Pairwise (· ≤ ·)):zs=[((min a b:Nat):Int),((max a b:Nat):Int)]:=by
 have hl:=p.length_eq
 match zs,hl with
 | [x,y],_ =>
  have hxy:x≤y:=by
   have:=Du.mp so
   exact this.1 y BC
  have hx:x=a ∨ x=b:=by
   have:=p.mem_iff.mp (BC (a:=x) (l:=[y]))
   simpa using this
  have hy:y=a ∨ y=b:=by
   have:=p.mem_iff.mp (Bw x (BC (a:=y) (l:=[])))
   simpa using this
  have ha:(a:Int)=x ∨ (a:Int)=y:=by
   have:=p.mem_iff.mpr (BC (a:=(a:Int)) (l:=[(b:Int)]))
   simpa using this
  have hb:(b:Int)=x ∨ (b:Int)=y:=by
   have:=p.mem_iff.mpr (Bw (a:Int) (BC (a:=(b:Int)) (l:=[])))
   simpa using this
  have:((min a b:Nat):Int)=x∧((max a b:Nat):Int)=y:=by omega
  rw [this.1,this.2]
inductive vx (vs:List V)(H:Hp)(Q:VK)(HS:XK):Prop
 | mk:∀ (p q:Addr) (x y:V) (a b c d:Nat),(vs=[.ref p,.ref q])→(H p=some (.tup [x,.int (a:Int),.int (b:Int)]))→(H q=some (.tup [y,.int (c:Int),.int (d:Int)]))→(∀ H',az H H'→Q (.bl (yg a b c d)) H')→vx vs H Q HS
def btw (lo hi:Nat)(z:Nat):Bool:=decide (lo < z∧z < hi)
theorem vy (lo hi c d:Nat):decide (V.int ((([c,d].filter (btw lo hi)).length:Nat):Int)=V.int 1)=(btw lo hi c != btw lo hi d):=by
 cases h1:btw lo hi c <;> cases h2:btw lo hi d
 ·rw [CF (by rw [h1];decide),CF (by rw [h2];decide)];rfl
 ·rw [CF (by rw [h1];decide),CC h2];rfl
 ·rw [CC h1,CF (by rw [h2];decide)];rfl
 ·rw [CC h1,CC h2];rfl
abbrev Cx5:=Addr × (Addr × Int × Int) × (Addr × Int × Int)
def CrA (H:Hp)(zs:List Cx5):Prop:=∀ z∈zs,H z.1=some (.tup [.ref z.2.1.1,.ref z.2.2.1])∧H z.2.1.1=some (.tup [.int z.2.1.2.1,.int z.2.1.2.2])∧H z.2.2.1=some (.tup [.int z.2.2.2.1,.int z.2.2.2.2])
theorem CrA.same {H H':Hp}{zs:List Cx5}(h:CrA H zs)(s:az H H'):CrA H' zs:=fun z hz=>⟨s _ _ (h z hz).1,s _ _ (h z hz).2.1,s _ _ (h z hz).2.2⟩
def crZ (z:Cx5):(Int × Int) × (Int × Int):=(z.2.1.2,z.2.2.2)
def lV (i j:Int)(c:(Int × Int) × (Int × Int)):Bool:=[c.1.1,c.2.1].isPerm [i,j]
inductive iL (vs:List V)(H:Hp)(Q:VK)(HS:XK):Prop
 | mk:∀ (l:Addr) (zs:List Cx5) (i j:Int),(vs=[.ref l,.int i,.int j])→(H l=some (.lst ((zs.map (·.1)).map V.ref)))→(CrA H zs)→(zs.length≤4000)→(∀ H',az H H'→Q (.int (((zs.map crZ).countP (lV i j):Nat):Int)) H')→iL vs H Q HS
theorem kc {H:Hp}:∀ r:List Int,Dts H (r.map V.int) (r.map .int)
 | []=>.nil
 | i::r=>.cons (.int _) (kc r)
theorem vz {H:Hp}{p q:Addr}{Q:VK}{r t:List Int}(h1:H p=some (.lst (r.map V.int)))(h2:H q=some (.lst (t.map V.int)))(h:Q (.bl (decide (r=t))) H):zK (.ref p) (.ref q) H Q:=by
 have lay:∀ r:List Int,(PyData.list (r.map .int)).canLay0=true:=fun r=>by unfold PyData.canLay0;exact iK r
 refine ⟨_,_,.lst h1 (kc r),.lst h2 (kc t),lay _,lay _,?_,?_⟩
 ·show PyData.depthAll (r.map .int)+1≤10
  rw [fN]
  decide
 ·show Q (.bl (PyData.eqvAll (r.map .int) (t.map .int))) H
  rw [iJ]
  exact h
theorem pT {a b x y:List Int}(p:a.Perm x)(q:b.Perm y)(ha:a.Pairwise (· ≤ ·))(hb:b.Pairwise (· ≤ ·)):decide (a=b)=x.isPerm y:=by
 rw [BX,Cf,Fu]
 constructor
 ·rintro rfl
  exact p.symm.trans q
 ·intro r
  exact List.Perm.eq_of_pairwise (fun x y _ _ h1 h2=>Int.le_antisymm h1 h2) ha hb (p.trans (r.trans q.symm))
theorem CrA.to {H H':Hp}{zs:List Cx5}(h:CrA H zs)(k:∀ a xs,H a=some (.tup xs)→H' a=some (.tup xs)):CrA H' zs:=fun z hz=>⟨k _ _ (h z hz).1,k _ _ (h z hz).2.1,k _ _ (h z hz).2.2⟩
theorem CrA.app {H:Hp}{zs ys:List Cx5}(h:CrA H zs)(g:CrA H ys):CrA H (zs++ys):=fun z hz=>(B0.mp hz).elim (h z) (g z)
theorem pU {n:Nat}{W:List (List L)}{H:Hp}{a:Addr}(hW:Wy4 n W H a):(cP W).length≤60:=by
 have:=d5 (fun w hw=>(hW.ws w hw).2.1) W.length
 have e:(cP W).length=(se W W.length).length:=rfl
 have hle:=hW.le
 omega
def ltZ (W:List (List L))(p:Int × Int):L:=(W.getD p.1.toNat []).getD p.2.toNat 0
def mV (z:L × (Int × Int)):Str × List Int:=(toS [z.1],[z.2.1,z.2.2])
theorem sf {y z:L × (Int × Int)}(h:mV y=mV z):y=z:=by
 obtain ⟨a,b,c⟩:=y
 obtain ⟨a',b',c'⟩:=z
 have h1:toS [a]=toS [a']:=BP Prod.fst h
 have h2:[b,c]=[b',c']:=BP Prod.snd h
 have h1:=jQ h1
 cases h1
 cases h2
 rfl
theorem pV (z:L × (Int × Int)):PyData.strOk (mV z).1=true:=by
 have q:∀ x:L,PyData.strOk (toS [x])=true:=by decide +kernel
 exact q z.1
def cdZ (pts:List (L × (Int × Int)))(W:List (List L))(p:Int × Int):Nat × Nat:=(pts.idxOf (inv (ltZ W p),p),pts.idxOf (ltZ W (nxZ W p),nxZ W p))
def crB (pts:List (L × (Int × Int)))(W:List (List L))(p q:Int × Int):Bool:=yg (cdZ pts W p).1 (cdZ pts W p).2 (cdZ pts W q).1 (cdZ pts W q).2
theorem vA {n:Nat}{W:List (List L)}{H:Hp}{r:Addr}{rows:List (List (Int × Int))}(dw:Dw n W H r rows)(x:L):(eU rows x).Nodup:=by
 have g:(rows.getD (x.val % 6) []).Nodup:=by
  rw [By]
  cases e:rows[x.val % 6]? with
  | none=>exact CG
  | some row=>exact (dw.pm _ _ e).nodup_iff.mpr (j7 (rX W _))
 unfold eU
 split
 ·exact g
 ·exact (F0 _).nodup_iff.mpr g
theorem lX {n:Nat}{W:List (List L)}{H:Hp}{r:Addr}{rows:List (List (Int × Int))}(dw:Dw n W H r rows){x:L}(hx:x.val % 6 < n){p:Int × Int}(ok:okS W p=true)(h:ltS W p=x.val % 6):p∈eU rows x:=by
 have hl:x.val % 6 < rows.length:=by rw [dw.len];exact hx
 have e:rows[x.val % 6]? = some rows[x.val % 6]:=fu hl
 have m:p∈rows[x.val % 6]:=by
  rw [(dw.pm _ _ e).mem_iff]
  unfold yP
  rw [BW]
  exact ⟨cY.mpr ok,by simpa using h⟩
 unfold eU
 rw [By,e,Option.getD_some]
 split
 ·exact m
 ·exact Ep.mpr m
theorem pX {n:Nat}{W:List (List L)}{H:Hp}{r:Addr}{rows:List (List (Int × Int))}{u:List L}(U:SK u n)(dw:Dw n W H r rows){x:L}(hx:x.val % 6 < n){p:Int × Int}(ok:okS W p=true)(h:ltS W p=x.val % 6):(x,p)∈bS rows u:=by
 unfold bS
 rw [De]
 exact ⟨x,(U.mem x).mpr hx,B2.mpr ⟨p,lX dw hx ok h,rfl⟩⟩
theorem vB {W:List (List L)}{p:Int × Int}(ok:okS W p=true):okS W (nxZ W p)=true:=by
 unfold okS at ok ⊢
 unfold nxZ
 simp only [BZ,Cf] at ok ⊢
 obtain ⟨⟨h1,h2⟩,h3,h4⟩:=ok
 have hp:0 < ((W.getD p.1.toNat []).length:Int):=by omega
 exact ⟨⟨h1,h2⟩,BV _ (by omega),BJ _ hp⟩
theorem Ab {n:Nat}{W:List (List L)}{H:Hp}{r:Addr}{rows:List (List (Int × Int))}{u:List L}(U:SK u n)(dw:Dw n W H r rows)(hW:∀ w∈W,InM n w){p:Int × Int}(ok:okS W p=true):(inv (ltZ W p),p)∈bS rows u∧(ltZ W (nxZ W p),nxZ W p)∈bS rows u:=by
 have l1:=pS hW ok
 have l2:=pS hW (vB ok)
 exact ⟨pX U dw (by rw [eC];exact l1) ok (by rw [eC];rfl),pX U dw l2 (vB ok) rfl⟩
def crT (f:Int × Int→Int × Int→Bool)(zs:List (Int × Int))(i:Nat):List ((Int × Int) × (Int × Int)):=(List.range i).flatMap fun k=>((zs.drop (k+1)).filter (f (zs.getD k (0,0)))).map fun q=>(zs.getD k (0,0),q)
theorem si {f:Int × Int→Int × Int→Bool}{zs:List (Int × Int)}{i:Nat}{p:Int × Int}(h:zs[i]? = some p):crT f zs (i+1)=crT f zs i++((zs.drop (i+1)).filter (f p)).map fun q=>(p,q):=by
 unfold crT
 rw [Dp,Dm,CQ,Fe,CV,By,h]
 rfl
theorem sj {p q:Int × Int}(h:ltp p q):¬ ltp q p:=by unfold ltp at *; omega
theorem yj {f:Int × Int→Int × Int→Bool}{zs:List (Int × Int)}(h:zs.Pairwise ltp){i:Nat}(hi:i≤zs.length){c:(Int × Int) × (Int × Int)}(hc:c∈crT f zs i):ltp c.1 c.2∧c.1∈zs∧c.2∈zs:=by
 unfold crT at hc
 obtain ⟨k,hk,hc⟩:=De.mp hc
 have hk:k < zs.length:=by have:=CL.mp hk;omega
 obtain ⟨q,hq,rfl⟩:=B2.mp hc
 have hq:=(BW.mp hq).1
 have e:zs.getD k (0,0)=zs[k]:=by rw [By,fu hk];rfl
 rw [e]
 refine ⟨?_,Ck hk,C0 hq⟩
 have hd:=h.sublist (FV k zs)
 rw [Cv hk] at hd
 exact (Du.mp hd).1 q hq
theorem ke {f:Int × Int→Int × Int→Bool}{zs:List (Int × Int)}:∀ i,(crT f zs i).length≤i*zs.length
 | 0=>Cc _
 | i+1=>by
  have ih:=ke (f:=f) (zs:=zs) i
  unfold crT at ih ⊢
  rw [Dp,Dm,CQ,Fe,CV,Bq,Bo,E3]
  have:=Ed (f (zs.getD i (0,0))) (zs.drop (i+1))
  rw [Cq] at this
  omega
theorem lY {a b i j:Int}(h:a≤b):[a,b].isPerm [i,j]=decide ((a,b)=(min i j,max i j)):=by
 rw [BX,Fu,BE,Gj]
 constructor
 ·intro p
  have h1:=p.mem_iff.mp (BC (a:=a) (l:=[b]))
  have h2:=p.mem_iff.mp (Bw a (BC (a:=b) (l:=[])))
  have h3:=p.mem_iff.mpr (BC (a:=i) (l:=[j]))
  have h4:=p.mem_iff.mpr (Bw i (BC (a:=j) (l:=[])))
  simp only [BU,Co,D6] at h1 h2 h3 h4
  omega
 ·rintro ⟨h1,h2⟩
  by_cases c:i≤j
  ·rw [h1,h2,GQ c,GC c]
  ·rw [h1,h2,Int.min_eq_right (by omega),Int.max_eq_left (by omega)]
   exact List.Perm.swap _ _ _
def Bh (p:Int × Int):PyData:=.tuple ([p.1,p.2].map .int)
theorem yk {H:Hp}{a:Addr}{i j:Int}(h:H a=some (.tup [.int i,.int j])):Dt H (.ref a) (Bh (i,j)):=.tup h (.cons (.int _) (.cons (.int _) .nil))
theorem Ac {H:Hp}{zs:List Pt}(h:PtA H zs):Dts H ((zs.map (·.1)).map V.ref) ((zs.map ptZ).map fun z=>dZ (mV z)):=by
 induction zs with
 | nil=>exact .nil
 | cons z r ih =>
  have h1:=h z BC
  exact .cons (.tup h1.1 (.cons (.str _) (.cons (yk h1.2) .nil))) (ih fun y hy=>h y (Bw _ hy))
theorem pY (rows:List (List (Int × Int)))(h:∀ x,(eU rows x).length≤60):∀ u:List L,(bS rows u).length≤60*u.length
 | []=>Cc _
 | x::r=>by
  have ih:=pY rows h r
  unfold bS at ih ⊢
  rw [CQ,Bq,Bo,Cn]
  have:=h x
  omega
theorem jC {α:Type}{l:List α}{i:Nat}{x:α}(h:l[i]? = some x):l.take (i+1)=l.take i++[x]:=by
 rw [Dl,h]
 rfl
abbrev Ln5:=Addr × (Addr × Int × Int) × Nat × Nat
def LnA (H:Hp)(zs:List Ln5):Prop:=∀ z∈zs,H z.1=some (.tup [.ref z.2.1.1,.int (z.2.2.1:Int),.int (z.2.2.2:Int)])∧H z.2.1.1=some (.tup [.int z.2.1.2.1,.int z.2.1.2.2])
theorem LnA.to {H H':Hp}{zs:List Ln5}(h:LnA H zs)(k:∀ a xs,H a=some (.tup xs)→H' a=some (.tup xs)):LnA H' zs:=fun z hz=>⟨k _ _ (h z hz).1,k _ _ (h z hz).2⟩
theorem LnA.same {H H':Hp}{zs:List Ln5}(h:LnA H zs)(s:az H H'):LnA H' zs:=h.to fun _ _ e=>s _ _ e
def lnZ (pts:List (L × (Int × Int)))(W:List (List L))(p:Int × Int):(Int × Int) × Nat × Nat:=(p,cdZ pts W p)
inductive fQ (vs:List V)(H:Hp)(Q:VK)(HS:XK):Prop
 | mk:∀ (u:List L) (a r:Addr) (n:Nat) (W:List (List L)) (rows:List (List (Int × Int))),(vs=[tx u,.ref a,.ref r])→(SK u n)→(Wy4 n W H a)→(Dw n W H r rows)→(∀ (l:Addr) (zs:List Ln5) (H':Hp),H l=none→az H H'→H' l=some (.lst ((zs.map (·.1)).map V.ref))→LnA H' zs→zs.map (fun z=>(z.2.1.2,z.2.2))=(cP W).map (lnZ (bS rows u) W)→Q (.ref l) H')→fQ vs H Q HS
theorem jD:∀ zs:List (L × (Int × Int)),PyData.canLayAll0 (zs.map fun z=>dZ (mV z))=true
 | []=>rfl
 | z::r=>by rw [Cd,PyData.canLayAll0,jD r,fh (pV z)];rfl
theorem gG:∀ zs:List (L × (Int × Int)),PyData.depthAll (zs.map fun z=>dZ (mV z))≤2
 | []=>Cc _
 | z::r=>by
  have:=gG r
  have h:=jz (mV z)
  show max (dZ (mV z)).depth (PyData.depthAll (r.map fun z=>dZ (mV z)))≤2
  omega
theorem jE {α:Type}[BEq α][LawfulBEq α]{a:α}:∀ {l:List α} {i:Nat} (h:i < l.length),l[i]=a→l.idxOf a≤i
 | [],_,h,_=>absurd h (Nat.not_lt_zero _)
 | x::r,i,h,e=>by
  rw [EG]
  cases c:x == a with
  | true=>exact Cc _
  | false =>
   cases i with
   | zero =>
    have e:x=a:=e
    rw [e,Gu] at c
    cases c
   | succ i=>exact Nat.succ_le_succ (jE (l:=r) (by simpa using h) e)
theorem p6 {H:Hp}{l b c:Addr}{zs:List Pt}{x:L}{p:Int × Int}{Q:VK}(hl:H l=some (.lst ((zs.map (·.1)).map V.ref)))(hz:PtA H zs)(hn:zs.length≤1000)(hb:H b=some (.tup [tx [x],.ref c]))(hc:H c=some (.tup [.int p.1,.int p.2]))(hm:(x,p)∈zs.map ptZ)(h:Q (.int (((zs.map ptZ).idxOf (x,p):Nat):Int)) H):xG (.ref l) [.ref b] H Q:=by
 have hd:Dt H (.ref b) (dZ (mV (x,p))):=.tup hb (.cons (.str _) (.cons (yk hc) .nil))
 have hi:=Ci hm
 have ge:∀ i (hi:i < (zs.map ptZ).length),(((zs.map ptZ).map fun z=>dZ (mV z))[i]?).map (fun d=>PyData.eqv d (dZ (mV (x,p))))=some (decide ((zs.map ptZ)[i]=(x,p))):=fun i hi=>by
  rw [BH,fu hi,Option.map_some,Option.map_some,lO]
  congr 1
  rw [BX,BE,BE]
  exact ⟨sf,fun e=>by rw [e]⟩
 refine ⟨l,_,_,_,_,_,rfl,rfl,hl,Ac hz,hd,jD _,fh (pV _),Cr (gG _) (by decide),by rw [Bo,Bo];omega,?_,fun i HP=>?_,h⟩
 ·rw [ge _ hi,BD (Dc hi)]
 ·have hi2:i < (zs.map ptZ).length:=by omega
  rw [ge _ hi2,Bs]
  intro e
  have:=jE hi2 e
  omega
inductive iM (vs:List V)(H:Hp)(Q:VK)(HS:XK):Prop
 | mk:∀ (u:List L) (a r:Addr) (n:Nat) (W:List (List L)) (rows:List (List (Int × Int))),(vs=[tx u,.ref a,.ref r])→(SK u n)→(Wy4 n W H a)→(Dw n W H r rows)→(∀ (l:Addr) (zs:List Cx5) (H':Hp),H l=none→az H H'→H' l=some (.lst ((zs.map (·.1)).map V.ref))→CrA H' zs→zs.map crZ=crT (crB (bS rows u) W) (cP W) (cP W).length→Q (.ref l) H')→iM vs H Q HS
theorem p7 {xs:List V}{i:Nat}(h:i+1≤xs.length):eZ xs (some ((i:Int)+1)) none=xs.drop (i+1):=by
 have e:HT.sIx xs.length 0 (some ((i:Int)+1))=i+1:=by
  unfold HT.sIx
  simp only []
  split <;> omega
 have e2:HT.sIx xs.length xs.length none=xs.length:=rfl
 unfold eZ
 rw [e,e2,B6 (by rw [Cq];omega)]
def vC (rows:List (List (Int × Int))):List L→L→Nat
 | [],_=>0
 | z::r,x=>if z=x then 0 else (eU rows z).length+vC rows r x
theorem p8 {x:L}{s:Int × Int}:∀ {l:List (Int × Int)},s∈l→(l.map fun p=>(x,p)).idxOf (x,s)=l.idxOf s
 | p::l,h=>by
  rw [Cd,EG,EG]
  by_cases e:p=s
  ·subst e
   simp
  ·have e2:¬ (x,p)=(x,s):=fun z=>e (BP Prod.snd z)
   rw [D1.mpr e,D1.mpr e2]
   have hs:s∈l:=by
    rcases BU.mp h with h | h
    ·exact absurd h.symm e
    ·exact h
   show (l.map fun p=>(x,p)).idxOf (x,s)+1=l.idxOf s+1
   rw [p8 hs]
theorem cM {rows:List (List (Int × Int))}{x:L}{s:Int × Int}(hs:s∈eU rows x):∀ {u:List L},x∈u→(bS rows u).idxOf (x,s)=vC rows u x+(eU rows x).idxOf s
 | z::r,hx=>by
  show ((((eU rows z).map fun p=>(z,p))++bS rows r)).idxOf (x,s)=(if z=x then 0 else (eU rows z).length+vC rows r x)+_
  rw [List.idxOf_append]
  by_cases e:z=x
  ·subst e
   rw [if_pos (B2.mpr ⟨s,hs,rfl⟩),if_pos rfl,p8 hs]
   omega
  ·rw [if_neg (fun h=>by obtain ⟨p,_,q⟩:=B2.mp h;exact e (BP Prod.fst q)),if_neg e,Bo]
   have hx:x∈r:=by
    rcases BU.mp hx with h | h
    ·exact absurd h.symm e
    ·exact h
   rw [cM hs hx]
   omega
theorem p9 {rows:List (List (Int × Int))}{x y:L}:∀ {u:List L},u.Nodup→x∈u→y∈u→u.idxOf x < u.idxOf y→vC rows u x+(eU rows x).length≤vC rows u y
 | z::r,nd,hx,hy,h=>by
  rw [B7] at nd
  show (if z=x then 0 else (eU rows z).length+vC rows r x)+_≤(if z=y then 0 else (eU rows z).length+vC rows r y)
  by_cases e1:z=x
  ·subst e1
   have e2:¬ z=y:=fun e=>by subst e;omega
   rw [if_pos rfl,if_neg e2]
   omega
  ·by_cases e2:z=y
   ·subst e2
    have:(z::r).idxOf z=0:=by simp [EG]
    omega
   ·rw [if_neg e1,if_neg e2]
    have hx:x∈r:=by
     rcases BU.mp hx with h | h
     ·exact absurd h.symm e1
     ·exact h
    have hy:y∈r:=by
     rcases BU.mp hy with h | h
     ·exact absurd h.symm e2
     ·exact h
    rw [kR e1,kR e2] at h
    have:=p9 (rows:=rows) nd.2 hx hy (by omega)
    omega
theorem kf (rows:List (List (Int × Int)))(x:L):eU rows (inv x)=(eU rows x).reverse:=by
 have e:=jV x
 have m:=eC x
 have:=x.isLt
 unfold eU
 rw [m]
 by_cases h:x.val < 6
 ·rw [if_pos h] at e
  rw [if_pos h,if_neg (by omega)]
 ·rw [if_neg h] at e
  rw [if_neg h,if_pos (by omega),List.reverse_reverse]
theorem lZ {l:List (Int × Int)}(nd:l.Nodup){s:Int × Int}(h:s∈l):l.reverse.idxOf s=l.length - 1 - l.idxOf s:=by
 have HK:=Ci h
 have hg:l.reverse[l.length - 1 - l.idxOf s]? = some s:=by
  rw [Eb (by omega),show l.length - 1 - (l.length - 1 - l.idxOf s)=l.idxOf s by omega,fu HK]
  exact BP some (Dc HK)
 obtain ⟨hi,e⟩:=Bv.mp hg
 have nr:l.reverse.Nodup:=(F0 l).nodup_iff.mpr nd
 have:=List.Nodup.idxOf_getElem nr _ hi
 rw [e] at this
 exact this
def InZ (W:List (List L))(x:L)(s:P2):Prop:=okS W s=true∧ltS W s=x.val % 6
theorem sk {l:List (Int × Int)}{s t:Int × Int}(hs:s∈l)(ht:t∈l)(h:l.idxOf s=l.idxOf t):s=t:=by
 have h1:=Dc (Ci hs)
 have h2:=Dc (Ci ht)
 rw [← h1,← h2]
 simp only [h]
theorem tT {n:Nat}{u:List L}{W:List (List L)}{H:Hp}{r:Addr}{rows:List (List (Int × Int))}(U:SK u n)(dw:Dw n W H r rows):Pos u (InZ W) (fun x s=>(bS rows u).idxOf (x,s)):=by
 have mem:∀ {x s},x∈u→InZ W x s→s∈eU rows x:=fun hx i=>lX dw ((U.mem _).mp hx) i.1 i.2
 refine ⟨fun x s i=>⟨i.1,by rw [eC];exact i.2⟩,fun x y s t hx hy n i j=>?_,fun x s t hx i j=>?_,fun x s t hx i j e=>?_⟩
 ·have ms:=mem hx i
  have mt:=mem hy j
  have l1:=Ci ms
  have l2:=Ci mt
  rw [cM ms hx,cM mt hy]
  have ni:u.idxOf x≠u.idxOf y:=fun z=>n (bw hx hy z)
  constructor
  ·intro h
   apply CP
   intro c
   have:=p9 (rows:=rows) U.srf.nd hy hx (by omega)
   omega
  ·intro h
   have:=p9 (rows:=rows) U.srf.nd hx hy h
   omega
 ·have hX:=U.srf.iv x hx
  have ms:=mem hx i
  have mt:=mem hx j
  have nd:=vA dw x
  have ms':s∈eU rows (inv x):=by rw [kf];exact Ep.mpr ms
  have mt':t∈eU rows (inv x):=by rw [kf];exact Ep.mpr mt
  rw [cM ms hx,cM mt hx,cM ms' hX,cM mt' hX,kf,lZ nd ms,lZ nd mt]
  have l1:=Ci ms
  have l2:=Ci mt
  omega
 ·have ms:=mem hx i
  have mt:=mem hx j
  have e:(bS rows u).idxOf (x,s)=(bS rows u).idxOf (x,t):=e
  rw [cM ms hx,cM mt hx] at e
  exact sk ms mt (by omega)
def stZ (W:List (List L))(i:Int)(p:Int):P2:=(i,p % ((wyZ W i).length:Int))
theorem vD {n:Nat}{W:List (List L)}(hW:WyR n W){i:Int}(i0:0≤i)(i1:i < (W.length:Int))(p:Int):InZ W (atZ (wyZ W i) p) (stZ W i p):=by
 obtain ⟨_,_,_,_,lp,_⟩:=hW.get i0 i1
 have e0:=BV p (show ((wyZ W i).length:Int)≠0 by omega)
 have e1:=BJ p (show (0:Int) < ((wyZ W i).length:Int) by omega)
 refine ⟨?_,rfl⟩
 unfold okS stZ
 simp only [BZ,Cf]
 exact ⟨⟨i0,i1⟩,e0,e1⟩
theorem eV {W:List (List L)}{i p q:Int}(h:p % ((wyZ W i).length:Int)=q % ((wyZ W i).length:Int)):stZ W i p=stZ W i q:=by unfold stZ; rw [h]
def PrZ (w:List L):Prop:=∀ d:Nat,0 < d→d < w.length→∃ k:Int,atZ w k≠atZ w (k+d)
theorem vE {w:List L}(h:PrZ w){s:P2}(hs:s∈prs w.length w.length)(e:evr w w s=true):s.1=s.2:=by
 obtain ⟨a1,a2,a3,a4⟩:=aN.mp hs
 apply CP
 intro n
 have lw:0 < w.length:=by omega
 obtain ⟨d,d0,d1,hd⟩:∃ d:Nat,0 < d∧d < w.length∧(d:Int)=(s.2 - s.1) % (w.length:Int):=by
  have e0:=BV (s.2 - s.1) (show (w.length:Int)≠0 by omega)
  have e1:=BJ (s.2 - s.1) (show (0:Int) < (w.length:Int) by omega)
  refine ⟨((s.2 - s.1) % (w.length:Int)).toNat,?_,by omega,by omega⟩
  apply Nat.pos_of_ne_zero
  intro z
  have:(s.2 - s.1) % (w.length:Int)=0:=by omega
  obtain ⟨c,hc⟩:=Int.dvd_of_emod_eq_zero this
  have:c=0:=by
   apply CP
   intro cn
   rcases Int.lt_or_gt_of_ne cn with h | h
   ·have:=Ff (show c ≤ -1 by omega) (show (0:Int)≤(w.length:Int) by omega)
    omega
   ·have:=Ff (show 1≤c by omega) (show (0:Int)≤(w.length:Int) by omega)
    omega
  subst this
  omega
 obtain ⟨k,hk⟩:=h d d0 d1
 refine hk ?_
 have f0:=BV (s.1 - k) (show (w.length:Int)≠0 by omega)
 have f1:=BJ (s.1 - k) (show (0:Int) < (w.length:Int) by omega)
 have q:=eJ e ((s.1 - k) % (w.length:Int)).toNat (by omega)
 have g1:atZ w (s.1 - ((((s.1 - k) % (w.length:Int)).toNat:Nat):Int))=atZ w k:=cb (by
  rw [show ((((s.1 - k) % (w.length:Int)).toNat:Nat):Int)=(s.1 - k) % (w.length:Int) by omega,DZ,show s.1 - (s.1 - k)=k by omega])
 have g2:atZ w (s.2 - ((((s.1 - k) % (w.length:Int)).toNat:Nat):Int))=atZ w (k+d):=cb (by
  rw [show ((((s.1 - k) % (w.length:Int)).toNat:Nat):Int)=(s.1 - k) % (w.length:Int) by omega,hd,DZ,Int.add_emod_emod,show s.2 - (s.1 - k)=k+(s.2 - s.1) by omega])
 rw [g1,g2] at q
 exact q
theorem ym {a b c d:Nat}(h1:a≠c)(h2:a≠d)(h3:b≠c)(h4:b≠d):mtB c d a b=mtB a b c d:=by
 unfold mtB
 rw [BX,Ey,Ey,ne_eq,ne_eq,CJ,CJ]
 omega
theorem p_ {n:Nat}{u:List L}{W:List (List L)}{H:Hp}{r:Addr}{rows:List (List (Int × Int))}(U:SK u n)(dw:Dw n W H r rows)(hW:WyR n W){i j:Int}(i0:0≤i)(ij:i < j)(j1:j < (W.length:Int)):∃ d:Nat,(prs (wyZ W i).length (wyZ W j).length).countP (fun z=>crB (bS rows u) W (i,z.1) (j,z.2))=(allL u W i j (wyZ W i).length).length+2*d:=by
 obtain ⟨_,_,R1,_,l1,I1⟩:=hW.get i0 (show i < (W.length:Int) by omega)
 obtain ⟨_,_,R2,_,l2,I2⟩:=hW.get (show 0≤j by omega) j1
 have A:Wo n (wyZ W i):=⟨R1,I1⟩
 have B:Wo n (wyZ W j):=⟨R2,I2⟩
 have nij:∀ p q,stZ W i p≠stZ W j q:=fun p q e=>by have:i=j:=BP Prod.fst e;omega
 have D:=yf (tT U dw) U A B (s:=stZ W i) (t:=stZ W j) (vD hW i0 (by omega)) (vD hW (by omega) j1) (fun p q h=>eV h) (fun p q h=>eV h) (fun p q e=>absurd e (nij _ _)) (fun p q e=>absurd e (nij _ _))
 obtain ⟨d,hd⟩:=pO U A B D
 refine ⟨d,?_⟩
 rw [xR ij,← hd]
 refine F_ fun z hz=>?_
 obtain ⟨a1,a2,a3,a4⟩:=aN.mp hz
 have e1:stZ W i z.1=(i,z.1):=CY rfl (B5 a1 a2)
 have e2:stZ W j z.2=(j,z.2):=CY rfl (B5 a3 a4)
 have g1:atZ (wyZ W i) z.1=ltZ W (i,z.1):=by unfold atZ;rw [B5 a1 a2];rfl
 have g2:atZ (wyZ W j) z.2=ltZ W (j,z.2):=by unfold atZ;rw [B5 a3 a4];rfl
 unfold Xp
 rw [e1,e2,g1,g2]
 exact Iff.rfl
theorem qa {n:Nat}{u:List L}{W:List (List L)}{H:Hp}{r:Addr}{rows:List (List (Int × Int))}(U:SK u n)(dw:Dw n W H r rows)(hW:WyR n W){i:Int}(i0:0≤i)(i1:i < (W.length:Int))(pr:PrZ (wyZ W i)):∃ d:Nat,(prs (wyZ W i).length (wyZ W i).length).countP (fun z=>decide (z.1 < z.2) && crB (bS rows u) W (i,z.1) (i,z.2))=(allL u W i i (wyZ W i).length).length+2*d:=by
 obtain ⟨_,_,R1,_,l1,I1⟩:=hW.get i0 i1
 have A:Wo n (wyZ W i):=⟨R1,I1⟩
 have O:=tT U dw
 have hs:=vD hW i0 i1
 have nx:∀ p q,stZ W i p=stZ W i q→p % ((wyZ W i).length:Int)=q % ((wyZ W i).length:Int):=fun p q e=>BP Prod.snd e
 have sc:∀ p q:Int,p % ((wyZ W i).length:Int)=q % ((wyZ W i).length:Int)→(p+1) % ((wyZ W i).length:Int)=(q+1) % ((wyZ W i).length:Int):=fun p q h=>by rw [Cz,h,← Cz]
 have sb:∀ p q:Int,(p+1) % ((wyZ W i).length:Int)=(q+1) % ((wyZ W i).length:Int)→p % ((wyZ W i).length:Int)=q % ((wyZ W i).length:Int):=fun p q h=>by
  have e1:p % ((wyZ W i).length:Int)=((p+1) - 1) % ((wyZ W i).length:Int):=by rw [show p+1 - 1=p by omega]
  have e2:q % ((wyZ W i).length:Int)=((q+1) - 1) % ((wyZ W i).length:Int):=by rw [show q+1 - 1=q by omega]
  rw [e1,e2,GN,h,← GN]
 have D:=yf O U A A (s:=stZ W i) (t:=stZ W i) hs hs (fun p q h=>eV h) (fun p q h=>eV h) (fun p q e=>⟨cb (nx p q e),eV (sc p q (nx p q e))⟩) (fun p q e=>eV (sb p q (nx _ _ e)))
 have am:∀ j,atZ (wyZ W i) j∈u:=fun j=>(U.mem _).mpr (A.i _ (eG l1 j))
 have iv:=U.srf.iv
 have dia:∀ s:P2,s.1 % ((wyZ W i).length:Int)=s.2 % ((wyZ W i).length:Int)→Xp (fun x s=>(bS rows u).idxOf (x,s)) (wyZ W i) (wyZ W i) (stZ W i) (stZ W i) s=false:=fun s h=>by
  unfold Xp
  rw [cb h,at_mod h 1,eV h,eV (sc _ _ h)]
  exact pP _ _
 have sy:∀ s:P2,Xp (fun x s=>(bS rows u).idxOf (x,s)) (wyZ W i) (wyZ W i) (stZ W i) (stZ W i) (sw s)=Xp (fun x s=>(bS rows u).idxOf (x,s)) (wyZ W i) (wyZ W i) (stZ W i) (stZ W i) s:=fun s=>by
  by_cases h:s.1 % ((wyZ W i).length:Int)=s.2 % ((wyZ W i).length:Int)
  ·rw [dia s h,dia (sw s) h.symm]
  ·unfold Xp
   have ns:stZ W i s.1≠stZ W i s.2:=fun e=>h (nx _ _ e)
   have ns':stZ W i (s.1+1)≠stZ W i (s.2+1):=fun e=>h (sb _ _ (nx _ _ e))
   have cr:∀ p q:Int,(inv (atZ (wyZ W i) p)≠atZ (wyZ W i) q) ∨ stZ W i p≠stZ W i q:=fun p q=>by
    by_cases e:stZ W i p=stZ W i q
    ·refine .inl ?_
     rw [cb (nx p q e)]
     exact ja _
    ·exact .inr e
   exact ym (O.ne (iv _ (am _)) (iv _ (am _)) (O.iv _ _ (hs _)) (O.iv _ _ (hs _)) (.inr ns)) (O.ne (iv _ (am _)) (am _) (O.iv _ _ (hs _)) (hs _) (cr _ _)) (fun e=>O.ne (iv _ (am _)) (am _) (O.iv _ _ (hs _)) (hs _) (cr s.2 (s.1+1)) e.symm) (O.ne (am _) (am _) (hs _) (hs _) (.inr ns'))
 obtain ⟨d,hd⟩:=mO U A D sy (fun s hsp he=>dia s (by rw [vE pr hsp he])) (fun s h=>dia s (by rw [h]))
 have hl:=xS U (W:=W) (i:=i) A
 refine ⟨d,?_⟩
 have e:(prs (wyZ W i).length (wyZ W i).length).countP (fun z=>decide (z.1 < z.2) && crB (bS rows u) W (i,z.1) (i,z.2))=(prs (wyZ W i).length (wyZ W i).length).countP (fun s=>decide (s.1 < s.2) && Xp (fun x s=>(bS rows u).idxOf (x,s)) (wyZ W i) (wyZ W i) (stZ W i) (stZ W i) s):=by
  refine F_ fun z hz=>?_
  obtain ⟨a1,a2,a3,a4⟩:=aN.mp hz
  have e1:stZ W i z.1=(i,z.1):=CY rfl (B5 a1 a2)
  have e2:stZ W i z.2=(i,z.2):=CY rfl (B5 a3 a4)
  have g1:atZ (wyZ W i) z.1=ltZ W (i,z.1):=by unfold atZ;rw [B5 a1 a2];rfl
  have g2:atZ (wyZ W i) z.2=ltZ W (i,z.2):=by unfold atZ;rw [B5 a3 a4];rfl
  unfold Xp
  rw [e1,e2,g1,g2]
  exact Iff.rfl
 rw [e]
 omega
theorem sq {α:Type}[DecidableEq α]:∀ {k l:List α},k.Nodup→(∀ x∈k,x∈l)→k.length≤l.length:=by
 intro k
 induction k with
 | nil=>intro l _ _;exact Cc _
 | cons x k ih =>
  intro l nd h
  rw [B7] at nd
  have hx:=h x BC
  have:=ih (l:=l.erase x) nd.2 fun y hy=>(Fh (fun e=>nd.1 (by rw [← e];exact hy))).mpr (h y (Bw _ hy))
  rw [Ex hx] at this
  have:=GG hx
  show k.length+1≤_
  omega
theorem qb {α β:Type}[DecidableEq α][DecidableEq β]{k:List α}{l:List β}(nk:k.Nodup)(nl:l.Nodup)(a:α→β)(b:β→α)(H:∀ x∈k,a x∈l∧b (a x)=x)(H':∀ y∈l,b y∈k∧a (b y)=y):k.length=l.length:=by
 have one:∀ {γ δ:Type} [DecidableEq δ] {k:List γ} {l:List δ} (f:γ→δ) (g:δ→γ),k.Nodup→(∀ x∈k,f x∈l∧g (f x)=x)→k.length≤l.length:=by
  intro γ δ _ k l f g nd H
  rw [← Bo (f:=f)]
  refine sq ?_ fun y hy=>?_
  ·induction k with
   | nil=>exact CG
   | cons x k ih =>
    rw [B7] at nd
    rw [Cd,B7]
    refine ⟨fun hm=>?_,ih nd.2 fun y hy=>H y (Bw _ hy)⟩
    obtain ⟨y,hy,e⟩:=B2.mp hm
    have e1:=(H x BC).2
    have e2:=(H y (Bw _ hy)).2
    rw [← e,e2] at e1
    exact nd.1 (e1 ▸ hy)
  ·obtain ⟨x,hx,rfl⟩:=B2.mp hy
   exact (H x hx).1
 exact GM (one a b nk H) (one b a nl H')
theorem tU {f:P2→P2→Bool}{zs:List P2}(nd:zs.Nodup):(crT f zs zs.length).Nodup:=by
 unfold crT
 refine iF (fun k hk=>?_) (fun k hk l hl x hx hy=>?_) Fb
 ·have n1:((zs.drop (k+1)).filter (f (zs.getD k (0,0)))).Nodup:=CA _ (nd.sublist (FV _ _))
  exact FY _ (fun a b h e=>h (BP Prod.snd e)) n1
 ·obtain ⟨p,_,rfl⟩:=B2.mp hx
  obtain ⟨q,_,e⟩:=B2.mp hy
  rw [CL] at hk hl
  have e1:zs.getD l (0,0)=zs.getD k (0,0):=BP Prod.fst e
  rw [By,By,fu hk,fu hl] at e1
  have e1:zs[l]=zs[k]:=e1
  have pw:=C6.mp nd
  rcases Nat.lt_trichotomy k l with h | h | h
  ·exact absurd e1.symm (pw _ _ hk hl h)
  ·exact h
  ·exact absurd e1 (pw _ _ hl hk h)
theorem iN {f:P2→P2→Bool}{zs:List P2}(h:zs.Pairwise ltp){c:P2 × P2}:c∈crT f zs zs.length ↔ c.1∈zs∧c.2∈zs∧ltp c.1 c.2∧f c.1 c.2=true:=by
 constructor
 ·intro hc
  obtain ⟨h1,h2,h3⟩:=yj h (BB _) hc
  refine ⟨h2,h3,h1,?_⟩
  unfold crT at hc
  obtain ⟨k,hk,hc⟩:=De.mp hc
  obtain ⟨q,hq,rfl⟩:=B2.mp hc
  exact (BW.mp hq).2
 ·rintro ⟨h1,h2,h3,h4⟩
  obtain ⟨k,hk,e⟩:=List.mem_iff_getElem.mp h1
  have hg:zs.getD k (0,0)=c.1:=by rw [By,fu hk,e];rfl
  unfold crT
  refine De.mpr ⟨k,CL.mpr hk,B2.mpr ⟨c.2,BW.mpr ⟨?_,by rw [hg];exact h4⟩,by rw [hg]⟩⟩
  have ez:zs=zs.take k++c.1::zs.drop (k+1):=by rw [← e,← Cv hk,B3]
  have h':=h
  rw [ez,List.pairwise_append] at h'
  rw [ez] at h2
  rcases B0.mp h2 with h2 | h2
  ·exact absurd h3 (sj (h'.2.2 _ h2 _ BC))
  ·rcases BU.mp h2 with h2 | h2
   ·rw [h2] at h3
    unfold ltp at h3
    omega
   ·exact h2
theorem qc {W:List (List L)}(f:P2→P2→Bool){i j:Int}(i0:0≤i)(ij:i < j)(j1:j < (W.length:Int)):(crT f (cP W) (cP W).length).countP (lV i j)=(prs (wyZ W i).length (wyZ W j).length).countP (fun z=>f (i,z.1) (j,z.2)):=by
 rw [CT,CT]
 have ra:=iI W
 refine qb (CA _ (tU (j7 ra))) (CA _ (bQ _ _)) (fun c=>(c.1.2,c.2.2)) (fun z=>((i,z.1),(j,z.2))) (fun c hc=>?_) (fun z hz=>?_)
 ·obtain ⟨h1,h2⟩:=BW.mp hc
  obtain ⟨m1,m2,m3,m4⟩:=(iN ra).mp h1
  have le:c.1.1≤c.2.1:=by unfold ltp at m3;omega
  unfold lV at h2
  rw [lY le,BE,Gj,GQ (by omega),GC (by omega)] at h2
  have e1:c.1=(i,c.1.2):=CY h2.1 rfl
  have e2:c.2=(j,c.2.2):=CY h2.2 rfl
  rw [cY] at m1 m2
  unfold okS at m1 m2
  simp only [BZ,Cf] at m1 m2
  rw [h2.1] at m1
  rw [h2.2] at m2
  refine ⟨BW.mpr ⟨aN.mpr ⟨m1.2.1,m1.2.2,m2.2.1,m2.2.2⟩,?_⟩,CY e1.symm e2.symm⟩
  show f (i,c.1.2) (j,c.2.2)=true
  rw [← e1,← e2]
  exact m4
 ·obtain ⟨h1,h2⟩:=BW.mp hz
  obtain ⟨a1,a2,a3,a4⟩:=aN.mp h1
  refine ⟨BW.mpr ⟨(iN ra).mpr ⟨?_,?_,.inl ij,h2⟩,?_⟩,rfl⟩
  ·rw [cY]
   unfold okS
   simp only [BZ,Cf]
   exact ⟨⟨i0,by omega⟩,a1,a2⟩
  ·rw [cY]
   unfold okS
   simp only [BZ,Cf]
   exact ⟨⟨by omega,j1⟩,a3,a4⟩
  ·unfold lV
   exact Fu.mpr (DT _)
theorem qd {W:List (List L)}(f:P2→P2→Bool){i:Int}(i0:0≤i)(i1:i < (W.length:Int)):(crT f (cP W) (cP W).length).countP (lV i i)=(prs (wyZ W i).length (wyZ W i).length).countP (fun z=>decide (z.1 < z.2) && f (i,z.1) (i,z.2)):=by
 rw [CT,CT]
 have ra:=iI W
 refine qb (CA _ (tU (j7 ra))) (CA _ (bQ _ _)) (fun c=>(c.1.2,c.2.2)) (fun z=>((i,z.1),(i,z.2))) (fun c hc=>?_) (fun z hz=>?_)
 ·obtain ⟨h1,h2⟩:=BW.mp hc
  obtain ⟨m1,m2,m3,m4⟩:=(iN ra).mp h1
  have le:c.1.1≤c.2.1:=by unfold ltp at m3;omega
  unfold lV at h2
  rw [lY le,BE,Gj,GQ (by omega),GC (by omega)] at h2
  have e1:c.1=(i,c.1.2):=CY h2.1 rfl
  have e2:c.2=(i,c.2.2):=CY h2.2 rfl
  rw [cY] at m1 m2
  unfold okS at m1 m2
  simp only [BZ,Cf] at m1 m2
  rw [h2.1] at m1
  rw [h2.2] at m2
  refine ⟨BW.mpr ⟨aN.mpr ⟨m1.2.1,m1.2.2,m2.2.1,m2.2.2⟩,?_⟩,CY e1.symm e2.symm⟩
  show (decide (c.1.2 < c.2.2) && f (i,c.1.2) (i,c.2.2))=true
  rw [← e1,← e2,m4,Bool.and_true]
  unfold ltp at m3
  exact BD (by omega)
 ·obtain ⟨h1,h2⟩:=BW.mp hz
  rw [BZ,BE] at h2
  obtain ⟨a1,a2,a3,a4⟩:=aN.mp h1
  have ok:∀ x:Int,0≤x→x < ((wyZ W i).length:Int)→(i,x)∈cP W:=fun x x0 x1=>by
   rw [cY]
   unfold okS
   simp only [BZ,Cf]
   exact ⟨⟨i0,i1⟩,x0,x1⟩
  refine ⟨BW.mpr ⟨(iN ra).mpr ⟨ok _ a1 a2,ok _ a3 a4,.inr ⟨rfl,h2.1⟩,h2.2⟩,?_⟩,rfl⟩
  unfold lV
  exact Fu.mpr (DT _)
theorem qe {n:Nat}{u:List L}{W:List (List L)}{H:Hp}{r:Addr}{rows:List (List (Int × Int))}(U:SK u n)(dw:Dw n W H r rows)(hW:WyR n W)(pr:∀ w∈W,PrZ w){i j:Int}(i0:0≤i)(ij:i≤j)(j1:j < (W.length:Int)):∃ d:Nat,(crT (crB (bS rows u) W) (cP W) (cP W).length).countP (lV i j)=(allL u W i j (wyZ W i).length).length+2*d:=by
 by_cases e:i=j
 ·subst e
  rw [qd _ i0 j1]
  exact qa U dw hW i0 j1 (pr _ (hW.get i0 j1).1)
 ·rw [qc _ i0 (show i < j by omega) j1]
  exact p_ U dw hW i0 (by omega) j1
theorem PrZ.rot {w:List L}(h:PrZ w){a:Nat}(ha:a≤w.length):PrZ (Wd.rot w a):=fun d d0 d1=>by
 rw [pH] at d1
 obtain ⟨k,hk⟩:=h d d0 d1
 refine ⟨k - a,?_⟩
 rw [pI ha,pI ha,show k - (a:Int)+a=k by omega,show k - (a:Int)+d+a=k+d by omega]
 exact hk
theorem PrZ.bk {w:List L}(h:PrZ w):PrZ (Wd.bk w):=fun d d0 d1=>by
 rw [aK] at d1
 obtain ⟨k,hk⟩:=h d d0 d1
 have lw:0 < w.length:=by omega
 refine ⟨-1 - k - d,?_⟩
 rw [cj lw,cj lw,show -1 - (-1 - k - (d:Int))=k+d by omega,show -1 - (-1 - k - (d:Int)+d)=k by omega]
 exact dA hk.symm
theorem PrZ.one (x:L):PrZ [x]:=fun d d0 d1=>absurd d1 (by show ¬ d < 1; omega)
theorem rep_get {v:List L}(lv:0 < v.length):∀ (n i:Nat),i < n*v.length→(rep n v)[i]? = v[i % v.length]?
 | 0,i,h=>by omega
 | n+1,i,h=>by
  show (rep n v++v)[i]? = _
  have hl:(rep n v).length=n*v.length:=by
   clear h
   induction n with
   | zero=>simp [rep]
   | succ n ih=>show (rep n v++v).length=_;rw [Bq,ih,E3]
  by_cases c:i < n*v.length
  ·rw [B9 (by omega)]
   exact rep_get lv n i c
  ·rw [BY (by omega),hl]
   have:i % v.length=i - n*v.length:=by
    rw [E3] at h
    have e:i=(i - n*v.length)+v.length*n:=by rw [GI v.length n];omega
    rw [e,FM,DN (by omega)]
    rw [← e]
   rw [this]
theorem iO (v:List L):∀ n,(rep n v).length=n*v.length
 | 0=>by simp [rep]
 | n+1=>by show (rep n v++v).length=_;rw [Bq,iO v n,E3]
theorem l6 {w:List L}{i:Nat}(h:i < w.length):w[i]? = some (atZ w (i:Int)):=by
 rw [ve h,fu h]
theorem jF {u:List L}{s:Nat}(s0:0 < s)(s1:s≤u.length)(hs:rep (u.length / s) (u.take s)=u)(hm:∀ t,0 < t→t < s→rep (u.length / t) (u.take t)≠u):PrZ (u.take s):=by
 have lt:(u.take s).length=s:=by rw [BL];omega
 have hd:u.length / s*s=u.length:=by
  have:=iO (u.take s) (u.length / s)
  rw [hs,lt] at this
  exact this.symm
 have gu:∀ i,i < u.length→u[i]? = (u.take s)[i % s]?:=fun i hi=>by
  have:=rep_get (v:=u.take s) (by omega) (u.length / s) i (by rw [lt,hd];exact hi)
  rw [hs,lt] at this
  exact this
 intro d
 induction d using Nat.strongRecOn with
 | ind d ih =>
  intro d0 d1
  rw [lt] at d1
  apply CP
  intro hc
  have per:∀ k:Int,atZ (u.take s) k=atZ (u.take s) (k+d):=fun k=>CP fun e=>hc ⟨k,e⟩
  have perm:∀ (m:Nat) (k:Int),atZ (u.take s) k=atZ (u.take s) (k+(d*m:Nat)):=by
   intro m
   induction m with
   | zero=>intro k;rw [show k+((d*0:Nat):Int)=k by omega]
   | succ m ihm =>
    intro k
    rw [ihm k,per (k+(d*m:Nat))]
    congr 1
    rw [Nat.mul_succ]
    omega
  by_cases z:s % d=0
  ·refine hm d d0 d1 ?_
   obtain ⟨c,hc2⟩:=Nat.dvd_of_mod_eq_zero z
   have ld:(u.take d).length=d:=by rw [BL];omega
   have hud:u.length / d*d=u.length:=by
    refine Nat.div_mul_cancel ⟨c*(u.length / s),?_⟩
    rw [← Nat.mul_assoc,← hc2,GI,hd]
   refine FU fun i=>?_
   by_cases hi:i < u.length
   ·rw [rep_get (v:=u.take d) (by omega) (u.length / d) i (by rw [ld,hud];exact hi),ld,gu i hi]
    have hid:i % d < d:=Nat.mod_lt _ d0
    have his:i % s < s:=Nat.mod_lt _ s0
    rw [CK hid,gu (i % d) (by omega),DN (show i % d < s by omega)]
    rw [l6 (w:=u.take s) (by omega),l6 (w:=u.take s) (show i % s < (u.take s).length by omega)]
    have e:i % s=i % d+d*(i % s / d):=by
     have h1:=Nat.mod_add_div (i % s) d
     have h2:i % s % d=i % d:=by rw [hc2];exact Nat.mod_mul_right_mod i d c
     omega
    have:=perm (i % s / d) ((i % d:Nat):Int)
    rw [show ((i % d:Nat):Int)+((d*(i % s / d):Nat):Int)=((i % s:Nat):Int) by omega] at this
    rw [this]
   ·rw [Do (by rw [iO,ld];omega),Do (by omega)]
  ·have r1:s % d < d:=Nat.mod_lt _ d0
   obtain ⟨k,hk⟩:=ih (s % d) r1 (by omega) (by rw [lt];omega)
   refine hk ?_
   have e:=perm (s / d) (k+(s % d:Nat))
   rw [e]
   have h1:=Nat.mod_add_div s d
   rw [show k+((s % d:Nat):Int)+((d*(s / d):Nat):Int)=k+((u.take s).length:Int) by rw [lt];omega,fK]
def GP (n b:Nat)(w:List L):Prop:=Rnd w∧w.length≤b∧InM n w∧PrZ w
theorem GP.gr {n b:Nat}{w:List L}(h:GP n b w):GR n b w:=⟨h.1,h.2.1,h.2.2.1⟩
theorem GP.bk {n b:Nat}{w:List L}(h:GP n b w):GP n b (bk w):=⟨h.gr.bk.1,h.gr.bk.2.1,h.gr.bk.2.2,h.2.2.2.bk⟩
theorem GP.turn {n b:Nat}{w:List L}(h:GP n b w)(a:Nat):GP n b (w.drop a++w.take a):=by
 refine ⟨(h.gr.turn a).1,(h.gr.turn a).2.1,(h.gr.turn a).2.2,?_⟩
 by_cases c:a≤w.length
 ·exact h.2.2.2.rot c
 ·rw [DE (by omega),B6 (by omega)]
  exact h.2.2.2
theorem GP.le {n b c:Nat}{w:List L}(h:GP n b w)(g:b≤c):GP n c w:=⟨h.1,Cr h.2.1 g,h.2.2⟩
inductive iP (vs:List V)(H:Hp)(Q:VK)(HS:XK):Prop
 | mk:∀ u,(vs=[tx u])→(u.length≤60)→(∀ (v:List L),v.length≤u.length→(∀ x∈v,x∈u)→(Cyc u→Cyc v)→(v≠[]→PrZ v)→Q (tx v) H)→iP vs H Q HS
inductive kg (vs:List V)(H:Hp)(Q:VK)(HS:XK):Prop
 | mk:∀ (d c:Addr) (m:Nat) (n:Int),(vs=[.ref d,.int (m:Int),.int n])→(Tp H d c)→(1≤m)→(m≤6)→(1≤n)→(n≤30)→(∀ (v:List L) (H':Hp),GP m n.toNat v→Tp H' d c→bD d H H'→Q (tx v) H')→kg vs H Q HS
inductive fS (vs:List V)(H:Hp)(Q:VK)(HS:XK):Prop
 | mk:∀ (d c:Addr) (m:Nat) (n:Int),(vs=[.ref d,.int (m:Int),.int 4,.int n])→(Tp H d c)→(1≤m)→(m≤6)→(1≤n)→(n≤15)→(∀ (a:Addr) (W:List (List L)) (H':Hp),Tp H' d c→bD d H H'→H' a=some (.tup (W.map tx))→1≤W.length→W.length≤4→(∀ w∈W,GP m 15 w)→Q (.ref a) H')→fS vs H Q HS
def top (i:Nat):Stmt:=PySem.Challenge.pw_ringwords_k39_whole_links_in_every_drawi.main.body.getD i (.Pass ⟨0,0,0,0⟩)
theorem wj {α:Type}{us:List α}(h:us.length=1):∃ a0,us=[a0]:=by
 cases us with
 | nil=>cases h
 | cons a0 us =>
  cases us with
  | nil=>exact ⟨a0,rfl⟩
  | cons b us=>cases h
theorem wk {α:Type}{us:List α}(h:us.length=2):∃ a0 a1,us=[a0,a1]:=by
 cases us with
 | nil=>cases h
 | cons a0 us =>
  cases us with
  | nil=>cases h
  | cons a1 us =>
   cases us with
   | nil=>exact ⟨a0,a1,rfl⟩
   | cons b us=>cases h
theorem tV {α:Type}{us:List α}(h:us.length=3):∃ a0 a1 a2,us=[a0,a1,a2]:=by
 cases us with
 | nil=>cases h
 | cons a0 us =>
  cases us with
  | nil=>cases h
  | cons a1 us =>
   cases us with
   | nil=>cases h
   | cons a2 us =>
    cases us with
    | nil=>exact ⟨a0,a1,a2,rfl⟩
    | cons b us=>cases h
theorem vF {α:Type}{us:List α}(h:us.length=4):∃ a0 a1 a2 a3,us=[a0,a1,a2,a3]:=by
 cases us with
 | nil=>cases h
 | cons a0 us =>
  cases us with
  | nil=>cases h
  | cons a1 us =>
   cases us with
   | nil=>cases h
   | cons a2 us =>
    cases us with
    | nil=>cases h
    | cons a3 us =>
     cases us with
     | nil=>exact ⟨a0,a1,a2,a3,rfl⟩
     | cons b us=>cases h
theorem Bi {α:Type}{us:List α}(h:us.length=5):∃ a0 a1 a2 a3 a4,us=[a0,a1,a2,a3,a4]:=by
 cases us with
 | nil=>cases h
 | cons a0 us =>
  cases us with
  | nil=>cases h
  | cons a1 us =>
   cases us with
   | nil=>cases h
   | cons a2 us =>
    cases us with
    | nil=>cases h
    | cons a3 us =>
     cases us with
     | nil=>cases h
     | cons a4 us =>
      cases us with
      | nil=>exact ⟨a0,a1,a2,a3,a4,rfl⟩
      | cons b us=>cases h
section
variable {P:Program} {w:World} {K:PySem.W.Frag} {mg:Str→Option Value} {base:Heap} {aB:Addr}
abbrev qf:Stmt:=top 19
theorem vG:aJ ["_law_script"] ["_law_script"] (av qf):=⟨rfl,rfl,rfl,by decide +kernel,rfl,by decide +kernel,by decide +kernel⟩
def _root_.G8 {a b c}:=@aq a b c
def _root_.G9 {a b c d}:=@aO a b c d
def _root_.G_ {a b c d}:=@bt a b c d
def _root_.Ha {a b c d e}:=@aa a b c d e
def _root_.Hb {a b c d e f g h i}:=@cu a b c d e f g h i
def _root_.Hc {a b c d e f g h i j}:=@aW a b c d e f g h i j
def _root_.Hd {a b c}:=@br a b c
theorem yn (D:Df K mg "_law_tape" qf)(T:Bt K w mg aB):Fnc P w K mg base "_law_tape" ["_law_script"] 1 (oD K):=by
 have sc:=vG
 refine D.ok sc (fun _ _ _ _ _ _ us hl=>by obtain ⟨_,rfl⟩:=wj hl;rfl) (fun vs H Q E h=>?_) (fun f HM A outer s H vs Q E hr h=>?_)
 ·obtain ⟨a,ns,rfl,_⟩:=h
  rfl
 ·obtain ⟨a,ns,rfl,hS,hlen,k⟩:=h
  refine ⟨_,(G8 (G9 (G_ (Ha (Hb eO (by rfl) T.list sY (Ha (Hc fo (pv 0) bx (Hd ao)) ae)) (Ha ao (Ha ao (Ha ao ae))))))),?_⟩
  refine ⟨_,rfl,_,rfl,a,_,rfl,hS,fun q1 hq1=>?_⟩
  rw [zA hlen]
  have s2:az H (upd H q1 (.lst (ns.map V.int))):=az.new hq1
  have l2:(upd H q1 (.lst (ns.map V.int))) q1=some (.lst (ns.map V.int)):=af
  generalize upd H q1 (.lst (ns.map V.int))=H2 at s2 l2 ⊢
  refine ⟨q1,_,rfl,.inl (SqL.of l2),fun q2 hq2=>?_⟩
  have s3:az H2 (upd H2 q2 (.lst (ns.map V.int))):=az.new hq2
  have l3:(upd H2 q2 (.lst (ns.map V.int))) q2=some (.lst (ns.map V.int)):=af
  generalize upd H2 q2 (.lst (ns.map V.int))=H3 at s3 l3 ⊢
  refine ⟨(by show 4≤sizeLine;decide),fun d hd=>?_⟩
  have n1:=none_of s2 hq2
  have n0:=none_of s2 (none_of s3 hd)
  exact k d q2 _ n0 n1 ⟨0,0,0,ns,af,(az.new hd) _ _ l3,au l3 hd,hlen⟩ ((s2.trans s3).trans (az.new hd))
abbrev qg:Stmt:=top 20
theorem vH:aJ ["_law_tape_here","_law_many","_law_spot","_law_cell","_law_mixed","_law_found"] ["_law_tape_here","_law_many"] (av qg):=⟨rfl,rfl,rfl,by decide +kernel,rfl,by decide +kernel,by decide +kernel⟩
def _root_.He {a b c d e}:=@ak a b c d e
def _root_.Hf {a b c d e f g h}:=@aQ a b c d e f g h
def _root_.Hg {a b c d e f g}:=@aL a b c d e f g
def _root_.Hh {a b c d e f g h}:=@dj a b c d e f g h
def _root_.Hi {a b c d e f g h}:=@aR a b c d e f g h
def _root_.Hj {a b} (c) {d e f g}:=@aE a b c d e f g
def _root_.Hk {a b c d e f g h i}:=@aD a b c d e f g h i
theorem yo (D:Df K mg "_law_draw" qg)(T:Bt K w mg aB):Fnc P w K mg base "_law_draw" ["_law_tape_here","_law_many"] 1 dz:=by
 have sc:=vH
 refine D.ok sc (fun _ _ _ _ _ _ us hl=>by obtain ⟨_,_,rfl⟩:=wk hl;rfl) (fun vs H Q E h=>?_) (fun f HM A outer s H vs Q E hr h=>?_)
 ·obtain ⟨d,c,m,rfl,_⟩:=h
  rfl
 ·obtain ⟨d,c,m,rfl,F,m0,m1,k⟩:=h
  have hu:=w_ hr
  refine ⟨_,(He (@iS _ _ _ _ _ _ (Hf cf (Hg aT (pv 0) ao (fun _ _=>rfl)) ao) (@ku _ _ _ _ _ _ _ (pv 0) ao e8 (by intro _ ;rfl)) (by rfl) (by rfl) (by rfl)) (He (Hh (Hi dH (Hg aT (pv 0) ao (fun _ _=>rfl)) ao (aX _)) (He (Hj (2) sc.nd rfl (Or.inl rfl) (Hg aT (pv 0) ao (fun _ _=>rfl))) (He (@iS _ _ _ _ _ _ (Hf cf (pv 2) ao) (@ku _ _ _ _ _ _ _ (pv 0) ao e8 (by intro _ ;rfl)) (by rfl) (by rfl) (by rfl)) (He (Hj (3) sc.nd rfl (Or.inl rfl) ao) (He (Hh (Hi ua (Hk aH (by rfl) T.len B4 (Ha (Hg aT (pv 0) ao (fun _ _=>rfl)) ae)) ao (aX _)) (G8 (Hj (3) sc.nd rfl (Or.inl rfl) (Hg aT (Hg aT (pv 0) ao (fun _ _=>rfl)) (Hf cQ (pv 2) (Hk aH (by rfl) T.len B4 (Ha (Hg aT (pv 0) ao (fun _ _=>rfl)) ae))) (fun _ _=>rfl)))) bB) (He (Hh (@PW.pt _ _ _ (@wx _ _ _ _ _ _ _ (Hi fV (pv 3) (Hf wH ao ao) (aX _)) (@sO _ _ _ _ (Hi y8 (pv 2) (Hk aH (by rfl) T.len B4 (Ha (Hg aT (pv 0) ao (fun _ _=>rfl)) ae)) (aX _))))) (He (Hj (4) sc.nd rfl (Or.inl rfl) (Hf cQ (Hf f_ (Hf cf (Hf cQ (pv 3) ao) (Hf f_ ao (Hg aT (pv 0) ao (fun _ _=>rfl)))) ao) ao)) (He (Hj (4) sc.nd rfl (Or.inl rfl) (Hf cQ (Hf f_ (Hf cf (Hf dk (pv 4) ao) (Hf f_ ao (Hg aT (pv 0) ao (fun _ _=>rfl)))) ao) ao)) (G8 (G9 (Hf cQ (Hf dk (pv 4) ao) (pv 1)))))) bB) (G8 (@iS _ _ _ _ _ _ (pv 3) (@ku _ _ _ _ _ _ _ (pv 0) ao e8 (by intro _ ;rfl)) (by rfl) (by rfl) (by rfl)))))))) bB) (He (Hj (5) sc.nd rfl (Or.inl rfl) (Hf cQ (Hg aT (pv 0) ao (fun _ _=>rfl)) (pv 1))) (He (@iS _ _ _ _ _ _ (Hf dk (Hg aT (pv 0) ao (fun _ _=>rfl)) (pv 1)) (@ku _ _ _ _ _ _ _ (pv 0) ao e8 (by intro _ ;rfl)) (by rfl) (by rfl) (by rfl)) (G8 (G9 (pv 5))))))),?_⟩
  obtain ⟨i,l,t,ns,hd,hc,dc,h63⟩:=F.ex
  have fin:∀ (r i' l' t':Int),0≤r→r < m→Q (.int r) (upd H d (.lst [.ref c,.int i',.int l',.int t'])):=fun r i' l' t' h0 h1 =>
   k r _ h0 h1 ⟨i',l',t',ns,af,by rw [aF dc];exact hc,dc,h63⟩ bD.upd
  have c1:∀ o,(upd H d o) c=some (.lst (ns.map V.int)):=fun o=>by rw [aF dc];exact hc
  refine ⟨_,rfl,d,_,_,_,rfl,rfl,SqL.of hd,rfl,_,_,rfl,rfl,_,rfl,d,_,_,_,rfl,rfl,hd,rfl,?_⟩
  refine ⟨_,rfl,d,_,_,_,rfl,rfl,SqL.of af,rfl,rfl,_,rfl,?_⟩
  refine jH (fun _=>?_) (fun _=>?_)
  rotate_left
  ·refine ⟨_,rfl,d,_,_,_,rfl,rfl,SqL.of af,rfl,_,rfl,_,_,rfl,rfl,m0,?_⟩
   refine ⟨_,rfl,d,_,_,_,rfl,rfl,SqL.of af,rfl,_,rfl,_,_,rfl,rfl,⟨m0,by omega⟩,_,rfl,d,_,_,_,rfl,rfl,af,rfl,?_⟩
   refine ⟨_,rfl,?_⟩
   rw [d6]
   exact fin _ _ _ _ (BV _ (by omega)) (BJ _ m0)
  refine ⟨_,rfl,d,_,_,_,rfl,rfl,SqL.of af,rfl,?_⟩
  refine ⟨_,rfl,_,_,rfl,rfl,_,rfl,d,_,_,_,rfl,rfl,af,rfl,?_⟩
  rw [d6]
  refine ⟨_,rfl,d,_,_,_,rfl,rfl,SqL.of af,rfl,c,_,rfl,.inl (SqL.of (c1 _)),_,_,rfl,rfl,_,rfl,?_⟩
  refine jH (fun h0=>?_) (fun h0=>?_)
  ·have hne:ns≠[]:=by
    intro e
    subst e
    simp at h0
   have hl0:(0:Int) < ((ns.map V.int).length:Int):=by
    rw [Bo]
    have:=Ct.mpr hne
    omega
   obtain ⟨n,hn⟩:=uG hne i
   refine ⟨_,rfl,d,_,_,_,rfl,rfl,SqL.of af,rfl,_,rfl,_,rfl,d,_,_,_,rfl,rfl,SqL.of af,rfl,c,_,rfl,.inl (SqL.of (c1 _)),_,_,rfl,rfl,hl0,c,_,_,_,rfl,rfl,SqL.of (c1 _),hn,?_⟩
   refine ⟨_,rfl,_,_,rfl,rfl,⟨by decide,by decide,by decide⟩,_,_,rfl,rfl,_,rfl,?_⟩
   refine jH (fun h1=>?_) (fun h1=>?_)
   ·refine ⟨_,rfl,_,_,rfl,rfl,(by show (0:Int) < 1000003;decide),_,rfl,d,_,_,_,rfl,rfl,SqL.of af,rfl,_,_,rfl,rfl,.inl ⟨by decide,by decide⟩,_,_,rfl,rfl,_,_,rfl,rfl,.inr ⟨by decide,by decide⟩,_,_,rfl,rfl,(by show (0:Int) < 2147483647;decide),?_⟩
    refine ⟨_,rfl,_,_,rfl,rfl,⟨by decide,by decide⟩,_,rfl,d,_,_,_,rfl,rfl,SqL.of af,rfl,_,_,rfl,rfl,.inl ⟨by decide,by decide⟩,_,_,rfl,rfl,_,_,rfl,rfl,.inr ⟨by decide,by decide⟩,_,_,rfl,rfl,(by show (0:Int) < 2147483587;decide),?_⟩
    refine ⟨_,rfl,_,_,rfl,rfl,⟨by decide,by decide⟩,_,rfl,_,_,rfl,rfl,m0,?_⟩
    exact fin _ _ _ _ (BV _ (by omega)) (BJ _ m0)
   ·refine ⟨_,rfl,_,rfl,d,_,_,_,rfl,rfl,SqL.of af,rfl,c,_,rfl,.inl (SqL.of (c1 _)),_,_,rfl,rfl,_,rfl,?_⟩
    refine jH (fun h2=>?_) (fun h2=>?_)
    ·refine ⟨_,rfl,_,_,rfl,rfl,(by show (0:Int) < 1000003;decide),_,rfl,d,_,_,_,rfl,rfl,SqL.of af,rfl,_,_,rfl,rfl,.inl ⟨by decide,by decide⟩,_,_,rfl,rfl,_,_,rfl,rfl,.inr ⟨by decide,by decide⟩,_,_,rfl,rfl,(by show (0:Int) < 2147483647;decide),?_⟩
     refine ⟨_,rfl,_,_,rfl,rfl,⟨by decide,by decide⟩,_,rfl,d,_,_,_,rfl,rfl,SqL.of af,rfl,_,_,rfl,rfl,.inl ⟨by decide,by decide⟩,_,_,rfl,rfl,_,_,rfl,rfl,.inr ⟨by decide,by decide⟩,_,_,rfl,rfl,(by show (0:Int) < 2147483587;decide),?_⟩
     refine ⟨_,rfl,_,_,rfl,rfl,⟨by decide,by decide⟩,_,rfl,_,_,rfl,rfl,m0,?_⟩
     exact fin _ _ _ _ (BV _ (by omega)) (BJ _ m0)
    ·refine ⟨_,rfl,_,rfl,d,_,_,_,rfl,rfl,af,rfl,?_⟩
     rw [d6]
     refine ⟨_,rfl,d,_,_,_,rfl,rfl,SqL.of af,rfl,_,rfl,_,_,rfl,rfl,m0,?_⟩
     refine ⟨_,rfl,d,_,_,_,rfl,rfl,SqL.of af,rfl,_,rfl,_,_,rfl,rfl,⟨m0,by omega⟩,_,rfl,d,_,_,_,rfl,rfl,af,rfl,?_⟩
     refine ⟨_,rfl,?_⟩
     rw [d6]
     exact fin _ _ _ _ (BV _ (by omega)) (BJ _ m0)
  ·refine ⟨_,rfl,_,_,rfl,rfl,⟨by decide,by decide,by decide⟩,_,_,rfl,rfl,_,rfl,?_⟩
   refine jH (fun h1=>?_) (fun h1=>?_)
   ·refine ⟨_,rfl,_,_,rfl,rfl,(by show (0:Int) < 1000003;decide),_,rfl,d,_,_,_,rfl,rfl,SqL.of af,rfl,_,_,rfl,rfl,.inl ⟨by decide,by decide⟩,_,_,rfl,rfl,_,_,rfl,rfl,.inr ⟨by decide,by decide⟩,_,_,rfl,rfl,(by show (0:Int) < 2147483647;decide),?_⟩
    refine ⟨_,rfl,_,_,rfl,rfl,⟨by decide,by decide⟩,_,rfl,d,_,_,_,rfl,rfl,SqL.of af,rfl,_,_,rfl,rfl,.inl ⟨by decide,by decide⟩,_,_,rfl,rfl,_,_,rfl,rfl,.inr ⟨by decide,by decide⟩,_,_,rfl,rfl,(by show (0:Int) < 2147483587;decide),?_⟩
    refine ⟨_,rfl,_,_,rfl,rfl,⟨by decide,by decide⟩,_,rfl,_,_,rfl,rfl,m0,?_⟩
    exact fin _ _ _ _ (BV _ (by omega)) (BJ _ m0)
   ·refine ⟨_,rfl,_,rfl,d,_,_,_,rfl,rfl,SqL.of af,rfl,c,_,rfl,.inl (SqL.of (c1 _)),_,_,rfl,rfl,_,rfl,?_⟩
    refine jH (fun h2=>?_) (fun h2=>?_)
    ·refine ⟨_,rfl,_,_,rfl,rfl,(by show (0:Int) < 1000003;decide),_,rfl,d,_,_,_,rfl,rfl,SqL.of af,rfl,_,_,rfl,rfl,.inl ⟨by decide,by decide⟩,_,_,rfl,rfl,_,_,rfl,rfl,.inr ⟨by decide,by decide⟩,_,_,rfl,rfl,(by show (0:Int) < 2147483647;decide),?_⟩
     refine ⟨_,rfl,_,_,rfl,rfl,⟨by decide,by decide⟩,_,rfl,d,_,_,_,rfl,rfl,SqL.of af,rfl,_,_,rfl,rfl,.inl ⟨by decide,by decide⟩,_,_,rfl,rfl,_,_,rfl,rfl,.inr ⟨by decide,by decide⟩,_,_,rfl,rfl,(by show (0:Int) < 2147483587;decide),?_⟩
     refine ⟨_,rfl,_,_,rfl,rfl,⟨by decide,by decide⟩,_,rfl,_,_,rfl,rfl,m0,?_⟩
     exact fin _ _ _ _ (BV _ (by omega)) (BJ _ m0)
    ·refine ⟨_,rfl,_,rfl,d,_,_,_,rfl,rfl,af,rfl,?_⟩
     rw [d6]
     refine ⟨_,rfl,d,_,_,_,rfl,rfl,SqL.of af,rfl,_,rfl,_,_,rfl,rfl,m0,?_⟩
     refine ⟨_,rfl,d,_,_,_,rfl,rfl,SqL.of af,rfl,_,rfl,_,_,rfl,rfl,⟨m0,by omega⟩,_,rfl,d,_,_,_,rfl,rfl,af,rfl,?_⟩
     refine ⟨_,rfl,?_⟩
     rw [d6]
     exact fin _ _ _ _ (BV _ (by omega)) (BJ _ m0)
abbrev qh:Stmt:=top 2
theorem vI:aJ ["word"] ["word"] (av qh):=⟨rfl,rfl,rfl,by decide +kernel,rfl,by decide +kernel,by decide +kernel⟩
def _root_.Hl {a b c d e f g h i j k l}:=@bY a b c d e f g h i j k l
def _root_.Hm {a b c d e f g} (h i j) {k l m n}:=@cI a b c d e f g h i j k l m n
def _root_.Hn {a b c d e f}:=@cR a b c d e f
def _root_.Ho {a b} (c) {d}:=@aG a b c d
theorem yp (D:Df K mg "back" qh)(T:Bt K w mg aB):Fnc P w K mg base "back" ["word"] 1 qX:=by
 have sc:=vI
 refine D.ok sc (fun _ _ _ _ _ _ us hl=>by obtain ⟨_,rfl⟩:=wj hl;rfl) (fun vs H Q E h=>?_) (fun f HM A outer s H vs Q E hr h=>?_)
 ·obtain ⟨u,rfl,_⟩:=h
  rfl
 ·obtain ⟨u,rfl,hu,k⟩:=h
  have Ik:=ba
  refine ⟨_,(G8 (G9 (Hl Cg DR DS fw bP (Ha (Hm (["letter"]) (["letter"]) ([]) (Hn rfl (by kernel_rfl)) rfl (@uA _ _ _ _ _ _ rfl T.reversed mx (Ha (pv 0) ae) (by rfl)) (fun _ _ _ _=>Ho (0) (show (["letter"]:List Str).Nodup from by decide +kernel) rfl (Or.inl rfl)) (fun _ _ _ _=>cg) (fun _ _ _ _=>by (exact (@uB _ _ _ _ _ _ _ _ _ T.dB rfl rfl rfl T.mgB (pv 0) (fun _ _=>rfl) (by decide))))) ae)))),?_⟩
  refine ⟨rfl,_,rfl,_,rfl,(by rw [ah];omega),?_⟩
  refine cT (own:=["letter"]) (cap:=[]) (J:=zo (toS u)) u.length (fun i ys σ H'=>H'=H∧ys=bJ ((bk u).take i)∧∃ v,σ = [v]) ⟨rfl,rfl,none,rfl⟩ (fun i ys σ H' hi ⟨_,e,_⟩=>?_) (by omega) (fun i ys σ H' hi _=>?_) (fun ys σ H' _=>?_) ?_ ?_
  ·rw [e,a9,BL];omega
  ·show i < (toS u).cps.size;rw [bH];exact hi
  ·show _=(toS u).cps.size;rw [bH]
  ·rintro i ys σ H1 x H2 N hi ⟨rfl,rfl,v,rfl⟩ ⟨rfl,c,hc,rfl⟩ hN
   rw [bH] at hc
   obtain ⟨y,hy,e⟩:=eB hc
   obtain ⟨t,ht⟩:=T.gB y
   refine ⟨_,rfl,toS [y],toS [inv y],t,by rw [e],ht,hN _ _ _ ⟨rfl,?_,_,rfl⟩⟩
   rw [cE (oq u hi hy),← cw]
   rfl
  ·rintro ys σ H1 l ⟨rfl,rfl,v,rfl⟩ hl
   rw [B6 (by rw [aK];exact BB _)]
   refine ⟨_,l,(bk u).map fun x=>toS [x],rfl,rfl,SqL.of (by rw [af,c5]),cD _ (by rw [aK];omega),?_⟩
   rw [cC]
   exact k _ (az.new hl)
abbrev kh:Stmt:=top 21
theorem su:aJ ["_law_word"] ["_law_word"] (av kh):=⟨rfl,rfl,rfl,by decide +kernel,rfl,by decide +kernel,by decide +kernel⟩
def _root_.Hq {a b c d e f}:=@gJ a b c d e f
def _root_.Hr {a b c d e f g h}:=@dD a b c d e f g h
theorem vJ (D:Df K mg "_law_back" kh):Fnc P w K mg base "_law_back" ["_law_word"] 1 qX:=by
 have sc:=su
 refine D.ok sc (fun _ _ _ _ _ _ us hl=>by obtain ⟨_,rfl⟩:=wj hl;rfl) (fun vs H Q E h=>?_) (fun f HM A outer s H vs Q E hr h=>?_)
 ·obtain ⟨u,rfl,_⟩:=h
  rfl
 ·obtain ⟨u,rfl,hu,k⟩:=h
  have Ik:=ba
  refine ⟨_,(G8 (G9 (Hl Cg DR DS fw bP (Ha (Hm (["_law_sign"]) (["_law_sign"]) ([]) (Hn rfl (by kernel_rfl)) rfl (@kN _ _ _ _ (@uK _ _ _ _ _ _ _ (pv 0) (Hq dF ao))) (fun _ _ _ _=>Ho (0) (show (["_law_sign"]:List Str).Nodup from by decide +kernel) rfl (Or.inl rfl)) (fun _ _ _ _=>cg) (fun _ _ _ _=>by (exact (Hr (Hi iV (pv 0) bP rfl) (@ox _ _ _ _ _ _ _ _ _ (K) rfl Cg EO ER hE (pv 0) (by rfl) (by rfl)) (@ox _ _ _ _ _ _ _ _ _ (K) rfl Cg PySem.F.slot_str_upper PySem.F.type_str_upper qS (pv 0) (by rfl) (by rfl)))))) ae)))),?_⟩
  refine ⟨rfl,_,rfl,_,rfl,toS u,rfl,rfl,(by rw [ah];omega),?_⟩
  rw [q9]
  refine ⟨_,rfl,?_⟩
  refine cT (own:=["_law_sign"]) (cap:=[]) (J:=Its (toS u.reverse)) u.length (fun i ys σ H'=>H'=H∧ys=bJ ((bk u).take i)∧∃ v,σ = [v]) ⟨rfl,rfl,none,rfl⟩ (fun i ys σ H' hi ⟨_,e,_⟩=>?_) (by omega) (fun i ys σ H' hi _=>?_) (fun ys σ H' _=>?_) ?_ ?_
  ·rw [e,a9,BL];omega
  ·show i < (toS u.reverse).cps.size;rw [bH,Et];exact hi
  ·show _=(toS u.reverse).cps.size;rw [bH,Et]
  ·rintro i ys σ H1 x H2 N hi ⟨rfl,rfl,v,rfl⟩ ⟨rfl,c,hc,rfl⟩ hN
   obtain ⟨y,hy,e⟩:=eB hc
   have hb:(bk u)[i]? = some (inv y):=oq u hi (by rw [Eb hi] at hy;exact hy)
   refine ⟨_,rfl,_,_,rfl,rfl,_,rfl,?_⟩
   rw [e,s_]
   refine jH (fun h=>?_) (fun h=>?_)
   ·have h:¬ y.val < 6:=by simpa using h
    exact ⟨_,rfl,rfl,_,rfl,rfl,(by rw [ah];show 1≤5592405;decide),hN _ _ _ ⟨rfl,by rw [og h,cE hb,← cw];rfl,_,rfl⟩⟩
   ·have h:y.val < 6:=by simpa using h
    exact ⟨_,rfl,rfl,_,rfl,rfl,(by rw [ah];show 1≤5592405;decide),hN _ _ _ ⟨rfl,by rw [oa h,cE hb,← cw];rfl,_,rfl⟩⟩
  ·rintro ys σ H1 l ⟨rfl,rfl,v,rfl⟩ hl
   rw [B6 (by rw [aK];exact BB _)]
   refine ⟨_,l,(bk u).map fun x=>toS [x],rfl,rfl,SqL.of (by rw [af,c5]),cD _ (by rw [aK];omega),?_⟩
   rw [cC]
   exact k _ (az.new hl)
abbrev qi:Stmt:=top 4
theorem vK:aJ ["ways","walk","step","way","letter"] ["ways","walk","step"] (av qi):=⟨rfl,rfl,rfl,by decide +kernel,rfl,by decide +kernel,by decide +kernel⟩
def _root_.Hs {a b c d e f g h i j k}:=@aI a b c d e f g h i j k
theorem yq (D:Df K mg "met" qi)(T:Bt K w mg aB)(HU:Fnc P w K mg base "back" ["word"] 1 qX):Fnc P w K mg base "met" ["ways","walk","step"] 2 jl:=by
 have sc:=vK
 refine D.ok sc (fun _ _ _ _ _ _ us hl=>by obtain ⟨_,_,_,rfl⟩:=tV hl;rfl) (fun vs H Q E h=>?_) (fun f HM A outer s H vs Q E hr h=>?_)
 ·obtain ⟨a,x,n,W,s,wy,kk,rfl,_⟩:=h
  rfl
 ·obtain ⟨a,x,n,W,s,wy,kk,rfl,hW,hp,i0,i1,hwy,k⟩:=h
  have Ik:=ba
  obtain ⟨_,hat,_,l30,lp,_⟩:=hW.ok.get i0 i1
  have k:∀ H',az H H'→Q (tx [sgZ (wyZ W s.1) s.2 wy kk]) H':=k
  generalize wyZ W s.1=v at hat l30 lp k
  refine ⟨_,(He (Hj (3) sc.nd rfl (Or.inl rfl) (Hg aV (pv 0) (Hg aV (pv 1) ao (fun _ _=>rfl)) (fun _ _=>rfl))) (He (Hj (4) sc.nd rfl (Or.inl rfl) (Hg eN (pv 3) (Hf cQ (Hf cf (Hg aV (pv 1) ao (fun _ _=>rfl)) (Hf f_ (Hg aV (pv 1) ao (fun _ _=>rfl)) (pv 2))) (Hk aM (by rfl) T.len B4 (Ha (pv 3) ae))) (fun _ _=>rfl))) (G8 (G9 (Hr (Hi dH (Hg aV (pv 1) ao (fun _ _=>rfl)) ao (aX _)) (pv 4) (Hs HU hr (by decide) rfl (Ha (pv 4) ae))))))),?_⟩
  refine ⟨_,rfl,_,rfl,x,_,_,_,rfl,rfl,SqT.of hp,rfl,a,_,_,_,rfl,rfl,SqT.of hW.at_,hat,?_⟩
  have cm:yL wy kk:=.inl ⟨by rcases hwy with rfl | rfl <;> decide,by rcases hwy with rfl | rfl <;> decide⟩
  refine ⟨_,rfl,_,rfl,x,_,_,_,rfl,rfl,SqT.of hp,rfl,_,rfl,x,_,_,_,rfl,rfl,SqT.of hp,rfl,_,rfl,_,_,rfl,rfl,cm,_,_,rfl,rfl,_,rfl,_,rfl,(by rw [ah];omega),_,_,rfl,rfl,(by rw [ah];omega),?_⟩
  rw [ah]
  refine ⟨_,_,_,rfl,rfl,(by rw [ah];omega),Be (by omega),?_⟩
  refine ⟨_,rfl,x,_,_,_,rfl,rfl,SqT.of hp,rfl,?_⟩
  refine ⟨rfl,_,rfl,?_⟩
  rcases hwy with rfl | rfl
  ·refine ou rfl ⟨_,rfl,?_⟩
   have:=k _ (az.refl _)
   unfold sgZ at this
   rw [if_pos rfl] at this
   exact this
  ·refine ow rfl ⟨_,rfl,[atZ v (s.2 + -1*kk)],rfl,(by show 1≤_;decide),fun H' s'=>?_⟩
   have:=k _ s'
   unfold sgZ at this
   rw [if_neg (by decide)] at this
   exact this
abbrev Ad:Stmt:=top 6
theorem Ae:aJ ["surface","start","end"] ["surface","start","end"] (av Ad):=⟨rfl,rfl,rfl,by decide +kernel,rfl,by decide +kernel,by decide +kernel⟩
theorem Bj (D:Df K mg "round_from" Ad)(T:Bt K w mg aB):Fnc P w K mg base "round_from" ["surface","start","end"] 1 zT:=by
 have sc:=Ae
 refine D.ok sc (fun _ _ _ _ _ _ us hl=>by obtain ⟨_,_,_,rfl⟩:=tV hl;rfl) (fun vs H Q E h=>?_) (fun f HM A outer s H vs Q E hr h=>?_)
 ·obtain ⟨u,k,a,b,rfl,_⟩:=h
  rfl
 ·obtain ⟨u,k,a,b,rfl,U,ha,hb,q⟩:=h
  have Ik:=ba
  have hl:=U.len
  have h1:=U.lo
  have h6:=U.hi
  obtain ⟨r1,o1⟩:=kQ ha
  obtain ⟨r2,o2⟩:=kQ hb
  refine ⟨_,(G8 (G9 (Hf cQ (Hf kD (Hl Cg DF DG dO (pv 0) (Ha (pv 2) ae)) (Hl Cg DF DG dO (pv 0) (Ha (pv 1) ae))) (Hk aM (by rfl) T.len B4 (Ha (pv 0) ae))))),?_⟩
  refine ⟨_,rfl,rfl,_,rfl,_,_,_,r2,rfl,rfl,o2,_,rfl,rfl,_,rfl,_,_,_,r1,rfl,rfl,o1,_,_,rfl,rfl,_,rfl,_,rfl,(by rw [ah];omega),_,_,rfl,rfl,(by rw [ah];omega),?_⟩
  rw [ah]
  exact q
abbrev vL:Stmt:=top 17
theorem yr:aJ ["surface","start","end","other"] ["surface","start","end","other"] (av vL):=⟨rfl,rfl,rfl,by decide +kernel,rfl,by decide +kernel,by decide +kernel⟩
theorem Af (D:Df K mg "is_first" vL)(T:Bt K w mg aB)(F_rf:Fnc P w K mg base "round_from" ["surface","start","end"] 1 zT):Fnc P w K mg base "is_first" ["surface","start","end","other"] 2 u6:=by
 have sc:=yr
 refine D.ok sc (fun _ _ _ _ _ _ us hl=>by obtain ⟨_,_,_,_,rfl⟩:=vF hl;rfl) (fun vs H Q E h=>?_) (fun f HM A outer s H vs Q E hr h=>?_)
 ·obtain ⟨u,k,s,a,b,rfl,_⟩:=h
  rfl
 ·obtain ⟨u,kk,s,a,b,rfl,U,hs,ha,hb,k⟩:=h
  refine ⟨_,(G8 (G9 (@gK _ _ _ _ _ _ _ _ fV (Hs F_rf hr (by decide) rfl (Ha (pv 0) (Ha (pv 1) (Ha (pv 2) ae)))) (Hs F_rf hr (by decide) rfl (Ha (pv 0) (Ha (pv 1) (Ha (pv 3) ae)))) (aX _)))),?_⟩
  exact ⟨_,rfl,_,rfl,_,rfl,u,kk,s,a,rfl,U,hs,ha,_,rfl,_,rfl,_,rfl,u,kk,s,b,rfl,U,hs,hb,_,_,rfl,rfl,k _ (az.refl _)⟩
abbrev Ag:Stmt:=top 12
theorem Ah:aJ ["ways","strand","walk"] ["ways","strand"] (av Ag):=⟨rfl,rfl,rfl,by decide +kernel,rfl,by decide +kernel,by decide +kernel⟩
def _root_.Ht {a b c d e}:=@bj a b c d e
theorem Bk (D:Df K mg "chord_ends" Ag)(T:Bt K w mg aB)(HU:Fnc P w K mg base "back" ["word"] 1 qX)(HL:Fnc P w K mg base "met" ["ways","walk","step"] 2 jl):Fnc P w K mg base "chord_ends" ["ways","strand"] 3 zU:=by
 have sc:=Ah
 refine D.ok sc (fun _ _ _ _ _ _ us hl=>by obtain ⟨_,_,rfl⟩:=wk hl;rfl) (fun vs H Q E h=>?_) (fun f HM A outer s H vs Q E hr h=>?_)
 ·obtain ⟨a,x,n,W,s,rfl,_⟩:=h
  rfl
 ·obtain ⟨a,x,n,W,s,rfl,hW,hx,ok,k⟩:=h
  have Ik:=ba
  refine ⟨_,(He (Hj (2) sc.nd rfl (Or.inl rfl) (Ht (Ha (Hg aV (pv 1) ao (fun _ _=>rfl)) (Ha (Hg aV (pv 1) ao (fun _ _=>rfl)) (Ha ao ae))))) (G8 (G9 (Hf bT (Hs HU hr (by decide) rfl (Ha (Hs HL hr (by decide) rfl (Ha (pv 0) (Ha (pv 2) (Ha ao ae)))) ae)) (Hs HL hr (by decide) rfl (Ha (pv 0) (Ha (pv 2) (Ha ao ae)))))))),?_⟩
  refine ⟨_,rfl,x,_,_,_,rfl,rfl,SqT.of hx,rfl,_,rfl,x,_,_,_,rfl,rfl,SqT.of hx,rfl,(aY (n:=3) (by decide)),fun p hp=>?_⟩
  have s1:az H (upd H p (.tup [.int s.1,.int s.2,.int 1])):=az.new hp
  have f1:(upd H p (.tup [.int s.1,.int s.2,.int 1])) p=some (.tup [.int s.1,.int s.2,.int 1]):=af
  generalize upd H p (.tup [.int s.1,.int s.2,.int 1])=H1 at s1 f1 ⊢
  refine ⟨_,rfl,_,rfl,a,p,n,W,s,1,0,rfl,hW.same s1,f1,ok.1,ok.2.1,.inl rfl,fun H2 s2=>⟨[fZ W s 1 0],rfl,(by show 1≤_;decide),fun H3 s3=>?_⟩⟩
  have s13:=(s1.trans s2).trans s3
  refine ⟨_,rfl,_,rfl,a,p,n,W,s,1,1,rfl,hW.same s13,s3 _ _ (s2 _ _ f1),ok.1,ok.2.1,.inl rfl,fun H4 s4=>⟨_,_,rfl,rfl,(by rw [ah,ah,aK];show 1+1≤_;omega),?_⟩⟩
  rw [gq,gk]
  exact k _ (s13.trans s4)
abbrev vM:Stmt:=top 15
theorem yt:aJ ["ways","one","other","many"] ["ways","one","other"] (av vM):=⟨rfl,rfl,rfl,by decide +kernel,rfl,by decide +kernel,by decide +kernel⟩
theorem Ai (D:Df K mg "stretch" vM)(T:Bt K w mg aB)(HL:Fnc P w K mg base "met" ["ways","walk","step"] 2 jl):Fnc P w K mg base "stretch" ["ways","one","other"] 3 lD:=by
 have sc:=yt
 refine D.ok sc (fun _ _ _ _ _ _ us hl=>by obtain ⟨_,_,_,rfl⟩:=tV hl;rfl) (fun vs H Q E h=>?_) (fun f HM A outer s H vs Q E hr h=>?_)
 ·obtain ⟨a,x,y,n,W,s,t,wy,rfl,_⟩:=h
  rfl
 ·obtain ⟨a,x,y,n,W,s,t,wy,rfl,hW,hx,hy,os,ot,hwy,k⟩:=h
  have Ik:=ba
  obtain ⟨_,_,Rw,lw30,lwp,_⟩:=hW.ok.get os.1 os.2.1
  obtain ⟨_,_,Rv,lv30,lvp,_⟩:=hW.ok.get ot.1 ot.2.1
  refine ⟨_,(He (Hh (Hi dH (Hs HL hr (by decide) rfl (Ha (pv 0) (Ha (pv 1) (Ha (Hq dF ao) ae)))) (Hs HL hr (by decide) rfl (Ha (pv 0) (Ha (pv 2) (Ha (Hq dF ao) ae)))) (aX _)) (G8 (G9 ao)) bB) (He (Hj (3) sc.nd rfl (Or.inl rfl) ao) (He (@ky _ _ _ _ _ _ Cp (Hi dH (Hs HL hr (by decide) rfl (Ha (pv 0) (Ha (pv 1) (Ha (pv 3) ae)))) (Hs HL hr (by decide) rfl (Ha (pv 0) (Ha (pv 2) (Ha (pv 3) ae)))) (aX _)) (G8 (@wA _ _ (3) _ _ _ _ _ _ sc.nd rfl (Or.inl rfl) ao wB (by first | exact .inl rfl | exact .inr rfl | assumption)))) (G8 (G9 (pv 3)))))),?_⟩
  refine ⟨_,rfl,_,rfl,_,rfl,a,x,n,W,s,1,-1,rfl,hW,hx,os.1,os.2.1,.inl rfl,fun H1 s1=>?_⟩
  refine ⟨_,rfl,_,rfl,_,rfl,a,y,n,W,t,wy,-1,rfl,hW.same s1,s1 _ _ hy,ot.1,ot.2.1,hwy,fun H2 s2=>⟨rfl,_,rfl,?_⟩⟩
  have s12:=s1.trans s2
  rw [sX]
  by_cases e:fZ W s 1 (-1)=fZ W t wy (-1)
  ·rw [BD (by rw [e])]
   refine we ?_
   have:=k _ s12
   rw [if_pos e] at this
   exact this
  ·rw [Bs (fun z=>e (Dn z).1)]
   refine tw ?_
   rw [if_neg e] at k
   obtain ⟨hend,hne⟩:=tE Rw.ne Rv.ne hwy e
   obtain ⟨_,_,hal,_⟩:=cq (fZ W s 1) (fZ W t wy) ((wyZ W s.1).length+(wyZ W t.1).length) 0
   have hne:fZ W s 1 (nZ W s t wy)≠fZ W t wy (nZ W s t wy):=hne
   have hal:∀ j:Nat,0≤j→j < nZ W s t wy→fZ W s 1 j=fZ W t wy j:=hal
   refine ⟨fun m σ H'=>∃ i:Nat,σ = [some (.ref a),some (.ref x),some (.ref y),some (.int (i:Int))]∧i≤nZ W s t wy∧m=nZ W s t wy - i∧az H H',⟨_,0,rfl,Cc _,rfl,s12⟩,?_⟩
   rintro m σ H3 ⟨i,rfl,hi,rfl,s3⟩
   refine ⟨_,rfl,_,rfl,_,rfl,a,x,n,W,s,1,(i:Int),rfl,hW.same s3,s3 _ _ hx,os.1,os.2.1,.inl rfl,fun H4 s4=>?_⟩
   refine ⟨_,rfl,_,rfl,_,rfl,a,y,n,W,t,wy,(i:Int),rfl,hW.same (s3.trans s4),(s3.trans s4) _ _ hy,ot.1,ot.2.1,hwy,fun H5 s5=>⟨rfl,_,rfl,?_⟩⟩
   have s35:=(s3.trans s4).trans s5
   rw [sX]
   by_cases c:i < nZ W s t wy
   ·refine jH (fun _=>?_) (fun z=>?_)
    ·refine ⟨_,fun σ' H' q=>q,?_⟩
     refine ⟨_,rfl,_,_,rfl,rfl,?_⟩
     exact ⟨_,Nat.sub_lt_sub_left c (Eo i),i+1,(by rw [show (((i+1:Nat):Int))=(i:Int)+1 by omega];rfl),c,rfl,s35⟩
    ·rw [hal i (Cc _) c] at z
     simp at z
   ·obtain rfl:i=nZ W s t wy:=by omega
    refine jH (fun z=>?_) (fun _=>?_)
    ·exact absurd (by simpa using z) hne
    ·exact ⟨_,rfl,k _ s35⟩
abbrev qj:Stmt:=top 16
theorem vN:aJ ["surface","ways","one","other","many","end","ahead","begin"] ["surface","ways","one","other","many"] (av qj):=⟨rfl,rfl,rfl,by decide +kernel,rfl,by decide +kernel,by decide +kernel⟩
theorem yu (D:Df K mg "is_parted" qj)(T:Bt K w mg aB)(HU:Fnc P w K mg base "back" ["word"] 1 qX)(HL:Fnc P w K mg base "met" ["ways","walk","step"] 2 jl)(F_fst:Fnc P w K mg base "is_first" ["surface","start","end","other"] 2 u6):Fnc P w K mg base "is_parted" ["surface","ways","one","other","many"] 3 lE:=by
 have sc:=vN
 refine D.ok sc (fun _ _ _ _ _ _ us hl=>by obtain ⟨_,_,_,_,_,rfl⟩:=Bi hl;rfl) (fun vs H Q E h=>?_) (fun f HM A outer s H vs Q E hr h=>?_)
 ·obtain ⟨u,a,x,y,n,m,W,s,t,wy,rfl,_⟩:=h
  rfl
 ·obtain ⟨u,a,x,y,n,m,W,s,t,wy,rfl,U,hW,hx,hy,os,ot,hwy,k⟩:=h
  have one:1≤100000:=by decide
  refine ⟨_,(He (Hh (Hi dH (pv 4) ao (aX _)) (G8 (G9 tZ)) bB) (He (Hj (5) sc.nd rfl (Or.inl rfl) (Hs HU hr (by decide) rfl (Ha (Hs HL hr (by decide) rfl (Ha (pv 1) (Ha (pv 2) (Ha (Hf kD (pv 4) ao) ae)))) ae))) (He (Hj (6) sc.nd rfl (Or.inl rfl) (Hs F_fst hr (by decide) rfl (Ha (pv 0) (Ha (pv 5) (Ha (Hs HL hr (by decide) rfl (Ha (pv 1) (Ha (pv 2) (Ha (pv 4) ae)))) (Ha (Hs HL hr (by decide) rfl (Ha (pv 1) (Ha (pv 3) (Ha (pv 4) ae)))) ae)))))) (He (Hj (7) sc.nd rfl (Or.inl rfl) (Hs HL hr (by decide) rfl (Ha (pv 1) (Ha (pv 2) (Ha ao ae))))) (G8 (G9 (@gK _ _ _ _ _ _ _ _ dH (pv 6) (Hs F_fst hr (by decide) rfl (Ha (pv 0) (Ha (pv 7) (Ha (Hs HU hr (by decide) rfl (Ha (Hs HL hr (by decide) rfl (Ha (pv 1) (Ha (pv 2) (Ha (Hq dF ao) ae)))) ae)) (Ha (Hs HU hr (by decide) rfl (Ha (Hs HL hr (by decide) rfl (Ha (pv 1) (Ha (pv 3) (Ha (Hq dF ao) ae)))) ae)) ae))))) (aX _)))))))),?_⟩
  refine ⟨_,rfl,rfl,_,rfl,?_⟩
  by_cases e:m=0
  ·subst e
   exact we (k _ (az.refl _))
  ·have ez:decide (V.int (m:Int)=V.int 0)=false:=Bs (fun z=>e (by injection z with z;omega))
   rw [ez]
   refine tw ?_
   have ws:=fun {H'} (q:az H H')=>hW.same q
   refine ⟨_,rfl,_,rfl,_,rfl,_,_,rfl,rfl,a,x,n,W,s,1,_,rfl,hW,hx,os.1,os.2.1,.inl rfl,fun H1 s1=>?_⟩
   refine ⟨[fZ W s 1 ((m:Int) - 1)],rfl,(by show 1≤_;decide),fun H2 s2=>?_⟩
   rw [gk]
   have q2:=s1.trans s2
   refine ⟨_,rfl,_,rfl,_,rfl,_,rfl,_,rfl,a,x,n,W,s,1,_,rfl,ws q2,q2 _ _ hx,os.1,os.2.1,.inl rfl,fun H3 s3=>?_⟩
   have q3:=q2.trans s3
   refine ⟨_,rfl,_,rfl,_,rfl,a,y,n,W,t,wy,_,rfl,ws q3,q3 _ _ hy,ot.1,ot.2.1,hwy,fun H4 s4=>?_⟩
   have q4:=q3.trans s4
   refine ⟨u,n,_,_,_,rfl,U,(fX U hW.ok os 1 _).2,(fX U hW.ok os 1 _).1,(fX U hW.ok ot wy _).1,fun H5 s5=>?_⟩
   have q5:=q4.trans s5
   refine ⟨_,rfl,_,rfl,a,x,n,W,s,1,_,rfl,ws q5,q5 _ _ hx,os.1,os.2.1,.inl rfl,fun H6 s6=>?_⟩
   have q6:=q5.trans s6
   refine ⟨_,rfl,_,rfl,_,rfl,_,rfl,_,rfl,_,rfl,a,x,n,W,s,1,_,rfl,ws q6,q6 _ _ hx,os.1,os.2.1,.inl rfl,fun H7 s7=>?_⟩
   refine ⟨[fZ W s 1 (-1)],rfl,(by show 1≤_;decide),fun H8 s8=>?_⟩
   rw [gk]
   have q8:=(q6.trans s7).trans s8
   refine ⟨_,rfl,_,rfl,_,rfl,a,y,n,W,t,wy,_,rfl,ws q8,q8 _ _ hy,ot.1,ot.2.1,hwy,fun H9 s9=>?_⟩
   refine ⟨[fZ W t wy (-1)],rfl,(by show 1≤_;decide),fun H10 s10=>?_⟩
   rw [gk]
   have q10:=(q8.trans s9).trans s10
   refine ⟨u,n,_,_,_,rfl,U,(fX U hW.ok os 1 _).1,(fX U hW.ok os 1 _).2,(fX U hW.ok ot wy _).2,fun H11 s11=>?_⟩
   have:=k _ (q10.trans s11)
   unfold jm at this
   rw [BD (show 0 < m by omega),Cy] at this
   refine ⟨rfl,?_⟩
   refine cast (BP (fun b=>Q (.bl b) H11) ?_) this
   exact zV _ _
abbrev vO:Stmt:=top 13
theorem yw:aJ ["surface","ways","one","other","mine","theirs","many"] ["surface","ways","one","other"] (av vO):=⟨rfl,rfl,rfl,by decide +kernel,rfl,by decide +kernel,by decide +kernel⟩
def _root_.Hu {a b c d e}:=@qy a b c d e
theorem Aj (D:Df K mg "along_at" vO)(T:Bt K w mg aB)(Iu:Fnc P w K mg base "stretch" ["ways","one","other"] 3 lD)(Ia:Fnc P w K mg base "is_parted" ["surface","ways","one","other","many"] 3 lE):Fnc P w K mg base "along_at" ["surface","ways","one","other"] 4 (rP u7):=by
 have sc:=yw
 refine D.ok sc (fun _ _ _ _ _ _ us hl=>by obtain ⟨_,_,_,_,rfl⟩:=vF hl;rfl) (fun vs H Q E h=>?_) (fun f HM A outer s H vs Q E hr h=>?_)
 ·obtain ⟨u,a,x,y,n,W,s,t,rfl,_⟩:=h
  rfl
 ·obtain ⟨u,a,x,y,n,W,s,t,rfl,U,hW,hx,hy,os,ot,k⟩:=h
  refine ⟨_,(He (Hj (4) sc.nd rfl (Or.inl rfl) (Ht (Ha (Hg aV (pv 2) ao (fun _ _=>rfl)) (Ha (Hg aV (pv 2) ao (fun _ _=>rfl)) (Ha ao ae))))) (He (Hj (5) sc.nd rfl (Or.inl rfl) (Ht (Ha (Hg aV (pv 3) ao (fun _ _=>rfl)) (Ha (Hg aV (pv 3) ao (fun _ _=>rfl)) (Ha ao ae))))) (He (Hj (6) sc.nd rfl (Or.inl rfl) (Hs Iu hr (by decide) rfl (Ha (pv 1) (Ha (pv 4) (Ha (pv 5) ae))))) (G8 (G9 (Hr (@gL _ _ _ (Hs Ia hr (by decide) rfl (Hu (pv 0) (Hu (pv 1) (Hu (pv 4) (Hu (pv 5) (Hu (pv 6) ae)))))) (fun _=>rfl)) (G_ (Ha (Ht (Ha bP (Ha (pv 2) (Ha (pv 3) (Ha (pv 6) ae))))) ae)) (G_ ae))))))),?_⟩
  refine ⟨_,rfl,x,_,_,_,rfl,rfl,SqT.of hx,rfl,_,rfl,x,_,_,_,rfl,rfl,SqT.of hx,rfl,(by show 3≤_;decide),fun p hp=>?_⟩
  have s1:az H (upd H p (.tup [.int s.1,.int s.2,.int 1])):=az.new hp
  have f1:(upd H p (.tup [.int s.1,.int s.2,.int 1])) p=some (.tup [.int s.1,.int s.2,.int 1]):=af
  generalize upd H p (.tup [.int s.1,.int s.2,.int 1])=H1 at s1 f1 ⊢
  refine ⟨_,rfl,y,_,_,_,rfl,rfl,SqT.of (s1 _ _ hy),rfl,_,rfl,y,_,_,_,rfl,rfl,SqT.of (s1 _ _ hy),rfl,(by show 3≤_;decide),fun q hq=>?_⟩
  have s2:az H1 (upd H1 q (.tup [.int t.1,.int t.2,.int 1])):=az.new hq
  have f2:(upd H1 q (.tup [.int t.1,.int t.2,.int 1])) q=some (.tup [.int t.1,.int t.2,.int 1]):=af
  generalize upd H1 q (.tup [.int t.1,.int t.2,.int 1])=H2 at s2 f2 ⊢
  have q2:=s1.trans s2
  refine ⟨_,rfl,_,rfl,_,rfl,a,p,q,n,W,s,t,1,rfl,hW.same q2,s2 _ _ f1,f2,os,ot,.inl rfl,fun H3 s3=>?_⟩
  have q3:=q2.trans s3
  refine ⟨_,rfl,_,rfl,_,rfl,_,rfl,_,rfl,u,a,p,q,n,_,W,s,t,1,rfl,U,hW.same q3,s3 _ _ (s2 _ _ f1),s3 _ _ f2,os,ot,.inl rfl,fun H4 s4=>⟨_,rfl,?_⟩⟩
  rw [lF hW.ok os ot (.inl rfl)]
  have q4:=q3.trans s4
  by_cases c:ptB u (fZ W s 1) (fZ W t 1) (nZ W s t 1)=true
  ·have hb:¬ fZ W s 1 (-1)=fZ W t 1 (-1):=fun z=>by rw [dX z] at c;cases c
   rw [c,if_neg hb]
   refine zQ ⟨_,rfl,_,rfl,_,rfl,(by show 4≤_;decide),fun r hr'=>⟨(by show 1≤_;decide),fun l hl=>?_⟩⟩
   refine j5 (m:=.a s t (nZ W s t 1)) q4 hr' hl ⟨x,y,af,(q4.trans (az.new hr')) _ _ hx,(q4.trans (az.new hr')) _ _ hy⟩ k ?_
   unfold u7
   rw [c]
   rfl
  ·rw [Er] at c
   rw [c]
   refine zR ⟨(by show 0≤_;decide),fun l hl=>?_⟩
   refine jo q4 hl k ?_
   unfold u7
   rw [c]
   rfl
abbrev vP:Stmt:=top 14
theorem yy:aJ ["surface","ways","one","other","mine","theirs","many"] ["surface","ways","one","other"] (av vP):=⟨rfl,rfl,rfl,by decide +kernel,rfl,by decide +kernel,by decide +kernel⟩
theorem Ak (D:Df K mg "against_at" vP)(T:Bt K w mg aB)(Iu:Fnc P w K mg base "stretch" ["ways","one","other"] 3 lD)(Ia:Fnc P w K mg base "is_parted" ["surface","ways","one","other","many"] 3 lE):Fnc P w K mg base "against_at" ["surface","ways","one","other"] 4 (rP mU):=by
 have sc:=yy
 refine D.ok sc (fun _ _ _ _ _ _ us hl=>by obtain ⟨_,_,_,_,rfl⟩:=vF hl;rfl) (fun vs H Q E h=>?_) (fun f HM A outer s H vs Q E hr h=>?_)
 ·obtain ⟨u,a,x,y,n,W,s,t,rfl,_⟩:=h
  rfl
 ·obtain ⟨u,a,x,y,n,W,s,t,rfl,U,hW,hx,hy,os,ot,k⟩:=h
  have Ik:=ba
  obtain ⟨_,hat,_,l30,lp,_⟩:=hW.ok.get ot.1 ot.2.1
  refine ⟨_,(He (Hj (4) sc.nd rfl (Or.inl rfl) (Ht (Ha (Hg aV (pv 2) ao (fun _ _=>rfl)) (Ha (Hg aV (pv 2) ao (fun _ _=>rfl)) (Ha ao ae))))) (He (Hj (5) sc.nd rfl (Or.inl rfl) (Ht (Ha (Hg aV (pv 3) ao (fun _ _=>rfl)) (Ha (Hg aV (pv 3) ao (fun _ _=>rfl)) (Ha (Hq dF ao) ae))))) (He (Hj (6) sc.nd rfl (Or.inl rfl) (Hs Iu hr (by decide) rfl (Ha (pv 1) (Ha (pv 4) (Ha (pv 5) ae))))) (He (Hh (Hi (@xH _ (K) rfl (by exact hr.units)) (pv 2) (Ht (Ha (Hg aV (pv 3) ao (fun _ _=>rfl)) (Ha (Hf cQ (Hf cf (Hf kD (Hg aV (pv 3) ao (fun _ _=>rfl)) (pv 6)) ao) (Hk aM (by rfl) T.len B4 (Ha (Hg aV (pv 1) (Hg aV (pv 3) ao (fun _ _=>rfl)) (fun _ _=>rfl)) ae))) ae))) (aX _)) (G8 (G9 (G_ ae))) bB) (G8 (G9 (Hr (@gL _ _ _ (Hs Ia hr (by decide) rfl (Hu (pv 0) (Hu (pv 1) (Hu (pv 4) (Hu (pv 5) (Hu (pv 6) ae)))))) (fun _=>rfl)) (G_ (Ha (Ht (Ha bP (Ha (pv 2) (Ha (pv 3) (Ha (pv 6) ae))))) ae)) (G_ ae)))))))),?_⟩
  refine ⟨_,rfl,x,_,_,_,rfl,rfl,SqT.of hx,rfl,_,rfl,x,_,_,_,rfl,rfl,SqT.of hx,rfl,(by show 3≤_;decide),fun p hp=>?_⟩
  have s1:az H (upd H p (.tup [.int s.1,.int s.2,.int 1])):=az.new hp
  have f1:(upd H p (.tup [.int s.1,.int s.2,.int 1])) p=some (.tup [.int s.1,.int s.2,.int 1]):=af
  generalize upd H p (.tup [.int s.1,.int s.2,.int 1])=H1 at s1 f1 ⊢
  refine ⟨_,rfl,y,_,_,_,rfl,rfl,SqT.of (s1 _ _ hy),rfl,_,rfl,y,_,_,_,rfl,rfl,SqT.of (s1 _ _ hy),rfl,_,rfl,(by show 3≤_;decide),fun q hq=>?_⟩
  have s2:az H1 (upd H1 q (.tup [.int t.1,.int t.2,.int (-1)])):=az.new hq
  have f2:(upd H1 q (.tup [.int t.1,.int t.2,.int (-1)])) q=some (.tup [.int t.1,.int t.2,.int (-1)]):=af
  generalize upd H1 q (.tup [.int t.1,.int t.2,.int (-1)])=H2 at s2 f2 ⊢
  have q2:=s1.trans s2
  refine ⟨_,rfl,_,rfl,_,rfl,a,p,q,n,W,s,t,-1,rfl,hW.same q2,s2 _ _ f1,f2,os,ot,.inr rfl,fun H3 s3=>?_⟩
  have q3:=q2.trans s3
  have hy3:=q3 _ _ hy
  generalize hm:(if fZ W s 1 (-1)=fZ W t (-1) (-1) then 0 else nZ W s t (-1))=m
  refine ⟨_,rfl,_,rfl,y,_,_,_,rfl,rfl,SqT.of hy3,rfl,_,rfl,y,_,_,_,rfl,rfl,SqT.of hy3,rfl,_,rfl,_,_,rfl,rfl,_,_,rfl,rfl,_,rfl,_,rfl,y,_,_,_,rfl,rfl,SqT.of hy3,rfl,?_⟩
  refine ⟨a,_,_,_,rfl,rfl,SqT.of (q3 _ _ hW.at_),hat,_,rfl,(by rw [ah];omega),_,_,rfl,rfl,(by rw [ah];omega),(by show 2≤_;decide),fun r hr'=>?_⟩
  rw [ah]
  have s4:az H3 (upd H3 r (.tup [.int t.1,.int ((t.2 - (m:Int)+1) % ((wyZ W t.1).length:Int))])):=az.new hr'
  have f4:(upd H3 r (.tup [.int t.1,.int ((t.2 - (m:Int)+1) % ((wyZ W t.1).length:Int))])) r=some (.tup [.int t.1,.int ((t.2 - (m:Int)+1) % ((wyZ W t.1).length:Int))]):=af
  generalize upd H3 r (.tup [.int t.1,.int ((t.2 - (m:Int)+1) % ((wyZ W t.1).length:Int))])=H4 at s4 f4 ⊢
  have q4:=q3.trans s4
  refine ⟨x,r,[s.1,s.2],[t.1,(t.2 - (m:Int)+1) % ((wyZ W t.1).length:Int)],rfl,rfl,SqT.of (q4 _ _ hx),SqT.of f4,_,rfl,?_⟩
  have he:mU u W s t=if ltP (mK W s t m) s then [] else if jm u (fZ W s 1) (fZ W t (-1)) m then [Lnk.g s t m] else []:=by
   rw [← hm]
   by_cases e:fZ W s 1 (-1)=fZ W t (-1) (-1)
   ·rw [if_pos e,tF]
    unfold mU
    rw [dX e,FI,if_neg (by decide)]
    split <;> rfl
   ·rw [← rO hW.ok os ot e,lF hW.ok os ot (.inr rfl),if_neg e]
  show d7 _ _ _ _ (ltP (mK W s t m) s) _
  by_cases c:ltP (mK W s t m) s=true
  ·rw [c]
   rw [c] at he
   exact we ⟨(by show 0≤_;decide),fun l hl=>jo q4 hl k he⟩
  ·rw [Er] at c
   rw [c]
   rw [c] at he
   refine tw ?_
   refine ⟨_,rfl,_,rfl,_,rfl,_,rfl,_,rfl,u,a,p,q,n,_,W,s,t,-1,rfl,U,hW.same q4,s4 _ _ (s3 _ _ (s2 _ _ f1)),s4 _ _ (s3 _ _ f2),os,ot,.inr rfl,fun H5 s5=>⟨_,rfl,?_⟩⟩
   have q5:=q4.trans s5
   by_cases c2:jm u (fZ W s 1) (fZ W t (-1)) m=true
   ·rw [c2]
    rw [c2] at he
    refine zQ ⟨_,rfl,_,rfl,_,rfl,(by show 4≤_;decide),fun r hr'=>⟨(by show 1≤_;decide),fun l hl=>?_⟩⟩
    exact j5 (m:=.g s t m) q5 hr' hl ⟨x,y,af,(q5.trans (az.new hr')) _ _ hx,(q5.trans (az.new hr')) _ _ hy⟩ k he
   ·rw [Er] at c2
    rw [c2]
    rw [c2] at he
    exact zR ⟨(by show 0≤_;decide),fun l hl=>jo q5 hl k he⟩
theorem tW {u:List L}{a b c:L}(ha:a∈u)(hb:b∈u)(hc:c∈u)(ab:a≠b)(ac:a≠c)(bc:b≠c):decide (rfI u a c < rfI u a b)=(decide (min (u.idxOf a) (u.idxOf b) < u.idxOf c∧u.idxOf c < max (u.idxOf a) (u.idxOf b)) != decide (u.idxOf b < u.idxOf a)):=by
 have inj:∀ {x y:L},x∈u→y∈u→x≠y→u.idxOf x≠u.idxOf y:=fun hx hy n e=>n (by
  have h1:=Dc (bo hx)
  have h2:=Dc (bo hy)
  rw [← h1,← h2]
  simp only [e])
 have n1:=inj ha hb ab
 have n2:=inj ha hc ac
 have n3:=inj hb hc bc
 have l1:=bo ha
 have l2:=bo hb
 have l3:=bo hc
 rw [bz ha hc,bz ha hb]
 by_cases o:u.idxOf b < u.idxOf a
 ·rw [BD o,if_neg (show ¬ u.idxOf a≤u.idxOf b by omega),BX,BE]
  rw [show ∀ x:Bool,(x != true)=!x by decide,EX,D5]
  split <;> omega
 ·rw [Bs o,if_pos (show u.idxOf a≤u.idxOf b by omega),Bool.bne_false,BX,BE,BE]
  split <;> omega
theorem sv {u:List L}{a b c d:L}(ha:a∈u)(hb:b∈u)(hc:c∈u)(hd:d∈u)(h:[a,b,c,d].Nodup):cO u a b c d=(decide (min (u.idxOf a) (u.idxOf b) < u.idxOf c∧u.idxOf c < max (u.idxOf a) (u.idxOf b)) != decide (min (u.idxOf a) (u.idxOf b) < u.idxOf d∧u.idxOf d < max (u.idxOf a) (u.idxOf b))):=by
 unfold cO
 rw [BD h,Cy]
 simp only [B7,BU,Co,D6,EW,CG,G2,not_or] at h
 obtain ⟨⟨e1,e2,e3⟩,⟨e4,e5⟩,e6⟩:=h
 rw [tW ha hb hc e1 e2 e4,tW ha hb hd e1 e3 e5]
 generalize decide (u.idxOf b < u.idxOf a)=z
 exact (show ∀ x y z:Bool,((x != z) != (y != z))=(x != y) by decide) _ _ _
inductive vQ (vs:List V)(H:Hp)(Q:VK)(HS:XK):Prop
 | mk:∀ (p q:Addr) (a b c d:Nat),(vs=[.ref p,.ref q])→H p=some (.lst [.int a,.int b])→H q=some (.lst [.int c,.int d])→Q (.bl (decide (min a b < c∧c < max a b) != decide (min a b < d∧d < max a b))) H→vQ vs H Q HS
abbrev vR:Stmt:=top 7
theorem yz:aJ ["one","other","low","high"] ["one","other"] (av vR):=⟨rfl,rfl,rfl,by decide +kernel,rfl,by decide +kernel,by decide +kernel⟩
theorem Al (D:Df K mg "are_met_by_turns" vR)(T:Bt K w mg aB):Fnc P w K mg base "are_met_by_turns" ["one","other"] 1 vQ:=by
 have sc:=yz
 refine D.ok sc (fun _ _ _ _ _ _ us hl=>by obtain ⟨_,_,rfl⟩:=wk hl;rfl) (fun vs H Q E h=>?_) (fun f HM A outer s H vs Q E hr h=>?_)
 ·obtain ⟨p,q,a,b,c,d,rfl,_⟩:=h
  rfl
 ·obtain ⟨p,q,a,b,c,d,rfl,hp,hq,k⟩:=h
  have Ik:=ba
  refine ⟨_,(He (Hj (2) sc.nd rfl (Or.inl rfl) (Hk (@jX _ rfl) (by rfl) T.min zy (Ha (pv 0) ae))) (He (Hj (3) sc.nd rfl (Or.inl rfl) (Hk (@jY _ rfl) (by rfl) T.max zx (Ha (pv 0) ae))) (G8 (G9 (@gK _ _ _ _ _ _ _ _ wI (@kE _ _ _ _ _ _ _ _ _ _ _ _ fV fV (pv 2) (Hg aT (pv 1) ao (fun _ _=>rfl)) (pv 3) (by with_unfolding_all rfl)) (@kE _ _ _ _ _ _ _ _ _ _ _ _ fV fV (pv 2) (Hg aT (pv 1) ao (fun _ _=>rfl)) (pv 3) (by with_unfolding_all rfl)) (aX _)))))),?_⟩
  refine ⟨_,rfl,p,_,_,rfl,SqL.of hp,?_⟩
  refine ⟨_,rfl,p,_,_,rfl,SqL.of hp,?_⟩
  have e1:(if (b:Int) < (a:Int) then (b:Int) else (a:Int))=((min a b:Nat):Int):=by split <;> omega
  have e2:(if (b:Int) > (a:Int) then (b:Int) else (a:Int))=((max a b:Nat):Int):=by split <;> omega
  rw [e1,e2]
  have fin:∀ v1 v2:Bool,v1=decide (min a b < c∧c < max a b)→v2=decide (min a b < d∧d < max a b)→Q (.bl (!decide (V.bl v1=V.bl v2))) H:=fun v1 v2 e1 e2=>by
   subst e1 e2
   have e:∀ x y:Bool,(!decide (V.bl x=V.bl y))=(x != y):=by intro x y;cases x <;> cases y <;> rfl
   rw [e]
   exact k
  refine ⟨_,rfl,_,rfl,q,_,_,_,rfl,rfl,SqL.of hq,rfl,_,_,rfl,rfl,_,rfl,?_⟩
  by_cases h1:min a b < c
  ·refine ou (BD (by omega)) ⟨_,rfl,_,_,rfl,rfl,?_⟩
   refine ⟨_,rfl,_,rfl,q,_,_,_,rfl,rfl,SqL.of hq,rfl,_,_,rfl,rfl,_,rfl,?_⟩
   by_cases h2:min a b < d
   ·exact ou (BD (by omega)) ⟨_,rfl,_,_,rfl,rfl,rfl,fin _ _ (by rw [BX,BE,BE];omega) (by rw [BX,BE,BE];omega)⟩
   ·exact ow (Bs (by omega)) ⟨rfl,fin _ _ (by rw [BX,BE,BE];omega) (Bs (by omega)).symm⟩
  ·refine ow (Bs (by omega)) ?_
   refine ⟨_,rfl,_,rfl,q,_,_,_,rfl,rfl,SqL.of hq,rfl,_,_,rfl,rfl,_,rfl,?_⟩
   by_cases h2:min a b < d
   ·exact ou (BD (by omega)) ⟨_,rfl,_,_,rfl,rfl,rfl,fin _ _ (Bs (by omega)).symm (by rw [BX,BE,BE];omega)⟩
   ·exact ow (Bs (by omega)) ⟨rfl,fin _ _ (Bs (by omega)).symm (Bs (by omega)).symm⟩
abbrev vS:Stmt:=top 11
theorem yA:aJ ["surface","ways","one","other","mine","theirs","places"] ["surface","ways","one","other"] (av vS):=⟨rfl,rfl,rfl,by decide +kernel,rfl,by decide +kernel,by decide +kernel⟩
theorem Am (D:Df K mg "beside_at" vS)(T:Bt K w mg aB)(Tset:mg "set" = none)(F_ce:Fnc P w K mg base "chord_ends" ["ways","strand"] 3 zU)(F_met:Fnc P w K mg base "are_met_by_turns" ["one","other"] 1 vQ):Fnc P w K mg base "beside_at" ["surface","ways","one","other"] 4 (rP xM):=by
 have sc:=yA
 refine D.ok sc (fun _ _ _ _ _ _ us hl=>by obtain ⟨_,_,_,_,rfl⟩:=vF hl;rfl) (fun vs H Q E h=>?_) (fun f HM A outer s H vs Q E hr h=>?_)
 ·obtain ⟨u,a,x,y,n,W,s,t,rfl,_⟩:=h
  rfl
 ·obtain ⟨u,a,x,y,n,W,s,t,rfl,U,hW,hx,hy,os,ot,k⟩:=h
  have Ik:=ba
  have m1:=(fX U hW.ok os 1 0).2
  have m2:=(fX U hW.ok os 1 1).1
  have m3:=(fX U hW.ok ot 1 0).2
  have m4:=(fX U hW.ok ot 1 1).1
  have k:∀ (l:Addr) (zs:List (Addr × Lnk)) (H':Hp),H l=none→az H H'→H' l=some (.lst ((zs.map (·.1)).map V.ref))→LkA H' zs→zs.map (·.2)=(if cO u (inv (fZ W s 1 0)) (fZ W s 1 1) (inv (fZ W t 1 0)) (fZ W t 1 1) then [.b s t] else [])→Q (.ref l) H':=k
  refine ⟨_,(He (Hj (4) sc.nd rfl (Or.inl rfl) (Hs F_ce hr (by decide) rfl (Ha (pv 1) (Ha (pv 2) ae)))) (He (Hj (5) sc.nd rfl (Or.inl rfl) (Hs F_ce hr (by decide) rfl (Ha (pv 1) (Ha (pv 3) ae)))) (He (Hh (Hi fV (Hk jW (by rfl) T.len B4 (Ha (Hb (@ix _ rfl) (by rfl) Tset zN (Ha (Hf bT (pv 4) (pv 5)) ae)) ae)) ao (aX _)) (G8 (G9 (G_ ae))) bB) (He (@oz _ (6) _ _ _ _ _ _ _ _ _ (["end","surface"]) (["end"]) ([0]) _ _ _ _ sc.nd rfl (Or.inl rfl) (Hn rfl (by kernel_rfl)) rfl (@kN _ _ _ _ (Hf bT (pv 4) (pv 5))) (fun _ _ _ _=>Ho (0) (show (["end","surface"]:List Str).Nodup from by decide +kernel) rfl (Or.inl rfl)) (fun _ _ _ _=>cg) (fun _ _ _ _=>by (exact (@xi _ _ _ _ _ _ _ _ _ _ _ _ (K) rfl Cg DF DG dO (pv 1) (Ha (pv 0) ae) (by rfl) (by rfl) (by rfl) (by rfl) (by rfl)))) (by intro _ ;rfl) (by rfl) (by first | exact .inl rfl | exact .inr rfl | assumption)) (G8 (G9 (Hr (@gL _ _ _ (Hs F_met hr (by decide) rfl (Ha (Hc fo (pv 6) bx (Hd ao)) (Ha (Hc fo (pv 6) (Hd ao) bx) ae))) (fun _=>rfl)) (G_ (Ha (Ht (Ha bP (Ha (pv 2) (Ha (pv 3) ae)))) ae)) (G_ ae)))))))),?_⟩
  refine ⟨_,rfl,_,rfl,a,x,n,W,s,rfl,hW,hx,os,fun H1 s1=>?_⟩
  refine ⟨_,rfl,_,rfl,a,y,n,W,t,rfl,hW.same s1,s1 _ _ hy,ot,fun H2 s2=>?_⟩
  have q2:=s1.trans s2
  generalize inv (fZ W s 1 0)=e1 at m1 k ⊢
  generalize fZ W s 1 1=e2 at m2 k ⊢
  generalize inv (fZ W t 1 0)=e3 at m3 k ⊢
  generalize fZ W t 1 1=e4 at m4 k ⊢
  refine ⟨_,rfl,_,rfl,_,_,rfl,rfl,(by rw [ah,ah];show 2+2≤_;omega),?_⟩
  rw [gq]
  refine ⟨[e1,e2,e3,e4],rfl,(by show 4≤4000;decide),fun p dl hp nd hm=>?_⟩
  refine ⟨p,dl,rfl,af,_,_,rfl,rfl,_,rfl,?_⟩
  rw [Bf nd hm]
  generalize hG:upd H2 p (StO _ _ p dl)=H3
  have q3:az H H3:=hG ▸ q2.trans (az.new hp)
  by_cases c:[e1,e2,e3,e4].Nodup
  ·rw [BD c]
   refine tw ?_
   have hall:∀ x∈[e1,e2,e3,e4],x∈u:=fun x hx=>by
    simp only [BU,Co,D6] at hx
    rcases hx with rfl | rfl | rfl | rfl <;> assumption
   have k4:=sv m1 m2 m3 m4 c
   refine ⟨_,rfl,_,rfl,_,_,rfl,rfl,(by rw [ah,ah];show 2+2≤_;omega),?_⟩
   rw [gq]
   refine ⟨_,rfl,?_⟩
   refine cT (own:=["end"]) (cap:=[0]) (J:=Its (toS [e1,e2,e3,e4])) 4 (fun i ys σ H'=>∃ v:Option V,σ = [v,some (tx u)]∧ys=(([e1,e2,e3,e4].take i).map fun x=>V.int (u.idxOf x:Nat))∧H'=H3) ⟨none,rfl,rfl,rfl⟩ (fun i ys σ H' hi ⟨v,_,e,_⟩=>?_) (by omega) (fun i ys σ H' hi _=>?_) (fun ys σ H' _=>?_) ?_ ?_
   ·rw [e,Bo,BL];omega
   ·show i < (toS _).cps.size;rw [bH];exact hi
   ·show _=(toS _).cps.size;rw [bH];rfl
   ·rintro i ys σ H4 y H5 N hi ⟨v,rfl,rfl,rfl⟩ ⟨rfl,cc,hcc,rfl⟩ hN
    obtain ⟨z,hz,ez⟩:=eB hcc
    rw [ez]
    obtain ⟨r1,o1⟩:=kQ (hall z (BQ hz))
    refine ⟨_,rfl,rfl,_,rfl,_,_,_,r1,rfl,rfl,o1,hN _ _ _ ⟨_,rfl,?_,rfl⟩⟩
    rw [cE hz,BK]
    rfl
   ·rintro ys σ H4 l ⟨v,rfl,rfl,rfl⟩ hl
    show fj _ _ _ _ (upd H4 l (.lst [.int (u.idxOf e1:Nat),.int (u.idxOf e2:Nat),.int (u.idxOf e3:Nat),.int (u.idxOf e4:Nat)]))
    have s4:az H4 (upd H4 l (.lst [.int (u.idxOf e1:Nat),.int (u.idxOf e2:Nat),.int (u.idxOf e3:Nat),.int (u.idxOf e4:Nat)])):=az.new hl
    have f4:(upd H4 l (.lst [.int (u.idxOf e1:Nat),.int (u.idxOf e2:Nat),.int (u.idxOf e3:Nat),.int (u.idxOf e4:Nat)])) l=some (.lst [.int (u.idxOf e1:Nat),.int (u.idxOf e2:Nat),.int (u.idxOf e3:Nat),.int (u.idxOf e4:Nat)]):=af
    generalize upd H4 l (.lst [.int (u.idxOf e1:Nat),.int (u.idxOf e2:Nat),.int (u.idxOf e3:Nat),.int (u.idxOf e4:Nat)])=H5 at s4 f4 ⊢
    refine ⟨_,rfl,_,rfl,l,_,rfl,SqL.of f4,fun p1 hp1=>?_⟩
    have s5:=az.new (o:=.lst (eZ [.int (u.idxOf e1:Nat),.int (u.idxOf e2:Nat),.int (u.idxOf e3:Nat),.int (u.idxOf e4:Nat)] none (some 2))) hp1
    have f5:(upd H5 p1 (.lst (eZ [.int (u.idxOf e1:Nat),.int (u.idxOf e2:Nat),.int (u.idxOf e3:Nat),.int (u.idxOf e4:Nat)] none (some 2)))) p1=some (.lst [.int (u.idxOf e1:Nat),.int (u.idxOf e2:Nat)]):=af
    generalize upd H5 p1 (.lst (eZ [.int (u.idxOf e1:Nat),.int (u.idxOf e2:Nat),.int (u.idxOf e3:Nat),.int (u.idxOf e4:Nat)] none (some 2)))=H6 at s5 f5 ⊢
    refine ⟨_,rfl,_,rfl,l,_,rfl,SqL.of (s5 _ _ f4),fun p2 hp2=>?_⟩
    have s6:=az.new (o:=.lst (eZ [.int (u.idxOf e1:Nat),.int (u.idxOf e2:Nat),.int (u.idxOf e3:Nat),.int (u.idxOf e4:Nat)] (some 2) none)) hp2
    have f6:(upd H6 p2 (.lst (eZ [.int (u.idxOf e1:Nat),.int (u.idxOf e2:Nat),.int (u.idxOf e3:Nat),.int (u.idxOf e4:Nat)] (some 2) none))) p2=some (.lst [.int (u.idxOf e3:Nat),.int (u.idxOf e4:Nat)]):=af
    generalize upd H6 p2 (.lst (eZ [.int (u.idxOf e1:Nat),.int (u.idxOf e2:Nat),.int (u.idxOf e3:Nat),.int (u.idxOf e4:Nat)] (some 2) none))=H7 at s6 f6 ⊢
    refine ⟨p1,p2,_,_,_,_,rfl,s6 _ _ f5,f6,_,rfl,?_⟩
    rw [← k4]
    have q7:=((q3.trans s4).trans s5).trans s6
    by_cases c2:cO u e1 e2 e3 e4=true
    ·rw [c2]
     rw [c2] at k
     refine zQ ⟨_,rfl,_,rfl,(by show 3≤_;decide),fun r hr'=>⟨(by show 1≤_;decide),fun l hl=>?_⟩⟩
     exact j5 (m:=.b s t) q7 hr' hl ⟨x,y,af,(q7.trans (az.new hr')) _ _ hx,(q7.trans (az.new hr')) _ _ hy⟩ k rfl
    ·rw [Er] at c2
     rw [c2]
     rw [c2] at k
     exact zR ⟨(by show 0≤_;decide),fun l hl=>jo q7 hl k rfl⟩
  ·rw [Bs c]
   refine we ⟨(by show 0≤_;decide),fun l hl=>jo q3 hl k ?_⟩
   unfold cO
   rw [Bs c]
   rfl
abbrev vT:Stmt:=top 10
theorem yB:aJ ["surface","ways","one","other","told"] ["surface","ways","one","other"] (av vT):=⟨rfl,rfl,rfl,by decide +kernel,rfl,by decide +kernel,by decide +kernel⟩
def _root_.Hv {a b c d}:=@bF a b c d
theorem An (D:Df K mg "links_at" vT)(T:Bt K w mg aB)(F_agn:Fnc P w K mg base "against_at" ["surface","ways","one","other"] 4 (rP mU))(F_alg:Fnc P w K mg base "along_at" ["surface","ways","one","other"] 4 (rP u7))(F_bes:Fnc P w K mg base "beside_at" ["surface","ways","one","other"] 4 (rP xM)):Fnc P w K mg base "links_at" ["surface","ways","one","other"] 5 (rP wg):=by
 have sc:=yB
 refine D.ok sc (fun _ _ _ _ _ _ us hl=>by obtain ⟨_,_,_,_,rfl⟩:=vF hl;rfl) (fun vs H Q E h=>?_) (fun f HM A outer s H vs Q E hr h=>?_)
 ·obtain ⟨u,a,x,y,n,W,s,t,rfl,_⟩:=h
  rfl
 ·obtain ⟨u,a,x,y,n,W,s,t,rfl,U,hW,hx,hy,os,ot,k⟩:=h
  have Ik:=ba
  refine ⟨_,(He (Hj (4) sc.nd rfl (Or.inl rfl) (Hs F_agn hr (by decide) rfl (Ha (pv 0) (Ha (pv 1) (Ha (pv 2) (Ha (pv 3) ae)))))) (He (Hh (Hi (u3 (K:=K) rfl (by exact lt0 hr.units)) (pv 2) (pv 3) (aX _)) (He (Hv (Hl B8 C8 C9 cv (pv 4) (Ha (Hs F_alg hr (by decide) rfl (Ha (pv 0) (Ha (pv 1) (Ha (pv 2) (Ha (pv 3) ae))))) ae))) (G8 (Hv (Hl B8 C8 C9 cv (pv 4) (Ha (Hs F_bes hr (by decide) rfl (Ha (pv 0) (Ha (pv 1) (Ha (pv 2) (Ha (pv 3) ae))))) ae))))) bB) (G8 (G9 (pv 4))))),?_⟩
  refine ⟨_,rfl,_,rfl,_,rfl,_,rfl,u,a,x,y,n,W,s,t,rfl,U,hW,hx,hy,os,ot,fun l1 z1 H1 n1 s1 f1 k1 e1=>?_⟩
  refine ⟨_,rfl,_,rfl,x,y,[s.1,s.2],[t.1,t.2],rfl,rfl,SqT.of (s1 _ _ hx),SqT.of (s1 _ _ hy),_,rfl,?_⟩
  show d7 _ _ _ _ (ltP s t) _
  by_cases c:ltP s t=true
  ·rw [c]
   refine we ?_
   have len:∀ {zs:List (Addr × Lnk)} {r:List Lnk} {m:Nat},zs.map (·.2)=r→r.length≤m→zs.length≤m:=fun e h=>by rw [← e,Bo] at h;exact h
   have la1:z1.length≤1:=len e1 (by unfold mU;split <;> simp)
   refine ⟨_,rfl,.inl ⟨rfl,_,SqL.of f1⟩,_,rfl,_,rfl,_,rfl,_,rfl,u,a,x,y,n,W,s,t,rfl,U,hW.same s1,s1 _ _ hx,s1 _ _ hy,os,ot,fun l2 z2 H2 n2 s2 f2 k2 e2=>?_⟩
   have la2:z2.length≤1:=len e2 (by unfold u7;split <;> simp)
   have g1:=s2 _ _ f1
   refine ⟨l1,l2,_,_,rfl,rfl,g1,f2,(by simp only [Bo];omega),?_⟩
   rw [iB]
   have s3:az H (upd H2 l1 (.lst (((z1++z2).map (·.1)).map V.ref))):=fL (s1.trans s2) n1
   have f3:(upd H2 l1 (.lst (((z1++z2).map (·.1)).map V.ref))) l1=some (.lst (((z1++z2).map (·.1)).map V.ref)):=af
   have k3:LkA (upd H2 l1 (.lst (((z1++z2).map (·.1)).map V.ref))) (z1++z2):=((k1.same s2).app k2).to (iA g1)
   generalize upd H2 l1 (.lst (((z1++z2).map (·.1)).map V.ref))=H3 at s3 f3 k3 ⊢
   refine ⟨_,rfl,.inl ⟨rfl,_,SqL.of f3⟩,_,rfl,_,rfl,_,rfl,_,rfl,u,a,x,y,n,W,s,t,rfl,U,hW.same s3,s3 _ _ hx,s3 _ _ hy,os,ot,fun l4 z4 H4 n4 s4 f4 k4 e4=>?_⟩
   have la4:z4.length≤1:=len e4 (by unfold xM;split <;> simp)
   have g3:=s4 _ _ f3
   refine ⟨l1,l4,_,_,rfl,rfl,g3,f4,(by simp only [Bo,Bq];omega),?_⟩
   rw [iB]
   refine ⟨_,rfl,k l1 (z1++z2++z4) _ n1 (fL (s3.trans s4) n1) af (((k3.same s4).app k4).to (iA g3)) ?_⟩
   unfold wg
   rw [c,if_pos rfl,BK,BK,e1,e2,e4,BF]
  ·rw [Er] at c
   rw [c]
   refine tw ⟨_,rfl,k l1 z1 H1 n1 s1 f1 k1 ?_⟩
   unfold wg
   rw [c,e1]
   simp
abbrev ki:Stmt:=top 9
theorem sE:aJ ["surface","ways","i","j","told","p","q"] ["surface","ways","i","j"] (av ki):=⟨rfl,rfl,rfl,by decide +kernel,rfl,by decide +kernel,by decide +kernel⟩
def _root_.Hw {a b c d e f g h}:=@bI a b c d e f g h
def _root_.Hx {a b c d e f}:=@a_ a b c d e f
theorem vU (D:Df K mg "links" ki)(T:Bt K w mg aB)(F_lat:Fnc P w K mg base "links_at" ["surface","ways","one","other"] 5 (rP wg)):Fnc P w K mg base "links" ["surface","ways","i","j"] 6 j4:=by
 have sc:=sE
 refine D.ok sc (fun _ _ _ _ _ _ us hl=>by obtain ⟨_,_,_,_,rfl⟩:=vF hl;rfl) (fun vs H Q E h=>?_) (fun f HM A outer s H vs Q E hr h=>?_)
 ·obtain ⟨u,a,n,W,i,j,rfl,_⟩:=h
  rfl
 ·obtain ⟨u,a,n,W,i,j,rfl,U,hW,i0,i1,j0,j1,k⟩:=h
  have Ik:=ba
  obtain ⟨_,ati,_,li,_,_⟩:=hW.ok.get i0 i1
  obtain ⟨_,atj,_,lj,_,_⟩:=hW.ok.get j0 j1
  refine ⟨_,(He (Hj (4) sc.nd rfl (Or.inl rfl) (G_ ae)) (He (Hw Cp rfl (Hx rfl T.range (Ha (Hk aM (by rfl) T.len B4 (Ha (Hg aV (pv 1) (pv 2) (fun _ _=>rfl)) ae)) ae)) (Ho (5) sc.nd rfl (Or.inl rfl)) (G8 (Hw Cp rfl (Hx rfl T.range (Ha (Hk aM (by rfl) T.len B4 (Ha (Hg aV (pv 1) (pv 3) (fun _ _=>rfl)) ae)) ae)) (Ho (6) sc.nd rfl (Or.inl rfl)) (G8 (Hv (Hl B8 C8 C9 cv (pv 4) (Ha (Hs F_lat hr (by decide) rfl (Ha (pv 0) (Ha (pv 1) (Ha (Ht (Ha (pv 2) (Ha (pv 5) ae))) (Ha (Ht (Ha (pv 3) (Ha (pv 6) ae))) ae))))) ae))))))) (G8 (G9 (Hk (@fW _ (.s) (shL) _ (fun z=>by cases z) (by exact hr.units) rfl) (by rfl) T.sorted e_ (Ha (pv 4) ae)))))),?_⟩
  refine ⟨(by show 0≤_;decide),fun l hl=>?_⟩
  have s0:az H (upd H l (.lst [])):=az.new hl
  have f0:(upd H l (.lst [])) l=some (.lst []):=af
  generalize upd H l (.lst [])=H0 at s0 f0 ⊢
  refine ⟨_,rfl,_,rfl,a,_,_,_,rfl,rfl,SqT.of (s0 _ _ hW.at_),ati,_,rfl,(by rw [ah];omega),_,rfl,?_⟩
  rw [ah]
  refine ⟨by omega,by omega,?_⟩
  refine bq (lo:=0) (n:=((wyZ W i).length:Int).toNat) (fun m σ H'=>∃ (v1 v2:Option V) (zs:List (Addr × Lnk)),σ = [some (tx u),some (.ref a),some (.int i),some (.int j),some (.ref l),v1,v2]∧az H H'∧H' l=some (.lst ((zs.map (·.1)).map V.ref))∧LkA H' zs∧(zs.map (·.2)).Perm (allL u W i j m)) ⟨none,none,[],rfl,s0,f0,(fun _ h=>absurd h (by simp)),DT _⟩ ?_ ?_
  ·rintro p σ H1 hp ⟨v1,v2,zs,rfl,s1,f1,k1,e1⟩
   have hp':p < (wyZ W i).length:=by omega
   refine ⟨_,rfl,_,rfl,a,_,_,_,rfl,rfl,SqT.of (s1 _ _ hW.at_),atj,_,rfl,(by rw [ah];omega),_,rfl,?_⟩
   rw [ah]
   refine ⟨by omega,by omega,?_⟩
   rw [show ((0:Int)+(p:Int))=(p:Int) by omega]
   refine bq (lo:=0) (n:=((wyZ W j).length:Int).toNat) (fun m σ H'=>∃ (v2:Option V) (zs:List (Addr × Lnk)),σ = [some (tx u),some (.ref a),some (.int i),some (.int j),some (.ref l),some (.int (p:Int)),v2]∧az H H'∧H' l=some (.lst ((zs.map (·.1)).map V.ref))∧LkA H' zs∧(zs.map (·.2)).Perm (allL u W i j p++qz u W i j p m)) ⟨v2,zs,rfl,s1,f1,k1,by rw [show qz u W i j p 0=[] from rfl,CV];exact e1⟩ ?_ ?_
   ·clear e1 k1 f1 s1 zs
    rintro q σ H2 hq ⟨v2,zs,rfl,s2,f2,k2,e2⟩
    have hq':q < (wyZ W j).length:=by omega
    rw [show ((0:Int)+(q:Int))=(q:Int) by omega]
    refine ⟨_,rfl,.inl ⟨rfl,_,SqL.of f2⟩,_,rfl,_,rfl,_,rfl,_,rfl,(by show 2≤_;decide),fun x hx=>?_⟩
    have s3:az H2 (upd H2 x (.tup [.int i,.int (p:Int)])):=az.new hx
    have f3:(upd H2 x (.tup [.int i,.int (p:Int)])) x=some (.tup [.int i,.int (p:Int)]):=af
    generalize upd H2 x (.tup [.int i,.int (p:Int)])=H3 at s3 f3 ⊢
    refine ⟨_,rfl,_,rfl,(by show 2≤_;decide),fun y hy=>?_⟩
    have s4:az H3 (upd H3 y (.tup [.int j,.int (q:Int)])):=az.new hy
    have f4:(upd H3 y (.tup [.int j,.int (q:Int)])) y=some (.tup [.int j,.int (q:Int)]):=af
    generalize upd H3 y (.tup [.int j,.int (q:Int)])=H4 at s4 f4 ⊢
    have s24:=s3.trans s4
    refine ⟨u,a,x,y,n,W,(i,(p:Int)),(j,(q:Int)),rfl,U,hW.same (s2.trans s24),s4 _ _ f3,f4,⟨i0,i1,by omega,by show (p:Int) < ((wyZ W i).length:Int);omega⟩,⟨j0,j1,by omega,by show (q:Int) < ((wyZ W j).length:Int);omega⟩,fun l5 z5 H5 n5 s5 f5 k5 e5=>?_⟩
    have s25:=s24.trans s5
    have g2:=s25 _ _ f2
    have ez:(z5.map (·.2)).Perm (lkZ u W (i,(p:Int)) (j,(q:Int))):=by rw [e5];exact pD _ _ _ _
    have en:((zs++z5).map (·.2)).Perm (allL u W i j p++qz u W i j p (q+1)):=by
     rw [BK,lx,← BF]
     exact e2.append ez
    have hlen:zs.length+z5.length≤3*30*p+3*(q+1):=by
     have h1:=en.length_eq
     rw [Bo,Bq,Bq] at h1
     have h2:=pB u W i j lj p
     have h3:=j3 u W i j p (q+1)
     omega
    refine ⟨l,l5,_,_,rfl,rfl,g2,f5,(by simp only [Bo];omega),?_⟩
    rw [iB]
    exact ⟨_,zs++z5,rfl,fL (s2.trans s25) hl,af,((k2.same s25).app k5).to (iA g2),en⟩
   ·clear e1 k1 f1 s1 zs
    rintro σ H2 ⟨v2,zs,rfl,s2,f2,k2,e2⟩
    refine ⟨_,_,zs,rfl,s2,f2,k2,?_⟩
    rw [lC]
    exact e2
  ·rintro σ H1 ⟨v1,v2,zs,rfl,s1,f1,k1,e1⟩
   have em:zs.map (·.1)=(zs.map fun z=>(z.1,z.2.key)).map (·.1):=by rw [Dd];rfl
   rw [em] at f1
   refine ⟨_,rfl,l,zs.map fun z=>(z.1,z.2.key),rfl,.inl (SqL.of f1),fun z hz=>?_,fun p ks hp pm pw=>?_⟩
   ·obtain ⟨y,hy,rfl⟩:=B2.mp hz
    exact (k1 y hy).kd
   ·obtain ⟨ys,h1,h2⟩:=fE (fun z:Addr × Lnk=>(z.1,z.2.key)) pm.symm zs rfl
    have e2:ks.map (·.1)=ys.map (·.1):=by rw [h2,Dd];rfl
    have e3:ks.map (·.2)=(ys.map (·.2)).map Lnk.key:=by rw [h2,Dd,Dd];rfl
    rw [e2]
    rw [e3] at pw
    refine k p ys _ (s1.free hp) (s1.trans (az.new hp)) af (fun z hz=>?_) ((h1.map _).trans e1) pw
    exact (k1 z (h1.mem_iff.mp hz)).to fun b o e=>az.new hp _ _ e
abbrev vV:Stmt:=top 22
theorem yC:aJ ["_law_tape_here","_law_most","_law_row","_law_k","_law_sign"] ["_law_tape_here","_law_most"] (av vV):=⟨rfl,rfl,rfl,by decide +kernel,rfl,by decide +kernel,by decide +kernel⟩
theorem Ao (D:Df K mg "_law_any_row" vV)(T:Bt K w mg aB)(HI:Fnc P w K mg base "_law_draw" ["_law_tape_here","_law_many"] 1 dz):Fnc P w K mg base "_law_any_row" ["_law_tape_here","_law_most"] 2 tG:=by
 have sc:=yC
 refine D.ok sc (fun _ _ _ _ _ _ us hl=>by obtain ⟨_,_,rfl⟩:=wk hl;rfl) (fun vs H Q E h=>?_) (fun f HM A outer s H vs Q E hr h=>?_)
 ·obtain ⟨d,c,m,rfl,_⟩:=h
  rfl
 ·obtain ⟨d,c,m,rfl,F,m1,m6,k⟩:=h
  have Ik:=ba
  refine ⟨_,(He (Hj (2) sc.nd rfl (Or.inl rfl) (G_ ae)) (He (Hw Cp rfl (Hx rfl T.range (Ha (Hf cf ao (Hs HI hr (by decide) rfl (Ha (pv 0) (Ha (pv 1) ae)))) ae)) (Ho (3) sc.nd rfl (Or.inl rfl)) (G8 (Hw Cp rfl (@sP _ _ _ _ (Ht (Ha (Hg eN bP (pv 3) (fun _ _=>rfl)) (Ha (Hg eN bP (pv 3) (fun _ _=>rfl)) ae)))) (Ho (4) sc.nd rfl (Or.inl rfl)) (G8 (Hv (Hl B8 Eu Ge jc (pv 2) (Ha (Hs HI hr (by decide) rfl (Ha (pv 0) (Ha (Hf cf (Hk aH (by rfl) T.len B4 (Ha (pv 2) ae)) ao) ae))) (Ha (pv 4) ae)))))))) (G8 (G9 (Hl Cg DR DS fw bP (Ha (pv 2) ae)))))),?_⟩
  refine ⟨(by show 0≤sizeLine;decide),fun p hp=>?_⟩
  have hpd:=F.ne hp
  have hpc:=F.nec hp
  refine ⟨_,rfl,_,rfl,d,c,m,rfl,F.new hp,by omega,by omega,fun r H1 r0 r1 F1 sb1=>?_⟩
  have f1:=sb1 _ _ hpd af
  have sb1:=((az.new (o:=.lst []) hp).b (d:=d)).trans sb1
  refine ⟨_,_,rfl,rfl,_,rfl,by omega,by omega,?_⟩
  refine bq (lo:=0) (n:=(1+r).toNat) (fun i σ H'=>∃ (a b:Option V) (W:List L),σ = [some (.ref d),some (.int m),some (.ref p),a,b]∧H' p=some (.lst (bJ W))∧W.Perm (fam i)∧Tp H' d c∧bD d H H') ⟨none,none,[],rfl,f1,DT _,F1,sb1⟩ ?_ ?_
  ·rintro i σ H2 hi ⟨a,b,W,rfl,hW,pW,F2,sb2⟩
   have hi:i < 6:=by omega
   rw [GS]
   have lW:(bJ W).length≤12:=by
    obtain ⟨_,_,c⟩:=jd ⟨i,by omega⟩
    have c:(fam i).length=2*i:=c
    have:=pW.length_eq
    rw [a9]
    omega
   refine ⟨_,rfl,_,_,_,rfl,rfl,(by rw [om];omega),sm_at hi,_,rfl,_,_,_,rfl,rfl,(by rw [oo];omega),zD hi,?_⟩
   refine ⟨(aY (n:=2) (by decide)),fun t ht=>?_⟩
   generalize ex:(⟨i,by omega⟩:L)=x
   generalize ey:(⟨i+6,by omega⟩:L)=y
   have htp:t≠p:=(au hW ht).symm
   have htd:t≠d:=F2.ne ht
   refine ⟨t,rfl,⟨_,SqT.of af⟩,t_ (xs:=[tx [x],tx [y]]) (fun j σ H'=>∃ (b:Option V) (W:List L),σ = [some (.ref d),some (.int m),some (.ref p),some (.int (i:Int)),b]∧H' p=some (.lst (bJ W))∧W.Perm (fam i++[x,y].take j)∧Tp H' d c∧bD d H H'∧H' t=some (.tup [tx [x],tx [y]])) ⟨b,W,rfl,(az.new ht) _ _ hW,by rw [List.take_zero,CV];exact pW,F2.new ht,sb2.trans (az.new ht).b,af⟩ (fun j σ H' hj ⟨_,_,_,_,_,_,_,q⟩=>SqT.of q) ?_ ?_⟩
   ·rintro j z σ H3 hz ⟨b,W,rfl,hW,pW,F3,sb3,h3⟩
    have hj:j < 2:=by
     have:=(Bv.mp hz).1
     exact this
    have lW:(bJ W).length≤14:=by
     obtain ⟨_,_,c⟩:=jd ⟨i,by omega⟩
     have c:(fam i).length=2*i:=c
     have:=pW.length_eq
     rw [Bq,BL,c] at this
     rw [a9,this]
     simp only [Cn,C_]
     omega
    obtain ⟨z',ez,Il⟩:∃ z',z=tx [z']∧[x,y][j]? = some z':=by
     have:j=0 ∨ j=1:=by omega
     rcases this with rfl | rfl
     ·exact ⟨x,(BA hz).symm,rfl⟩
     ·exact ⟨y,(BA hz).symm,rfl⟩
    subst ez
    refine ⟨_,rfl,.inl ⟨rfl,_,SqL.of hW⟩,_,rfl,_,rfl,p,_,rfl,.inl (SqL.of hW),_,_,rfl,rfl,d,c,_,rfl,F3,by omega,by omega,fun q H4 q0 q1 F4 sb4=>?_⟩
    have h4:=sb4 _ _ hpd hW
    refine ⟨_,rfl,p,_,q,_,rfl,rfl,h4,q0,by omega,by omega,?_⟩
    rw [rg]
    have s5:bD p H4 (upd H4 p (.lst (bJ (W.take q.toNat++z'::W.drop q.toNat)))):=bD.upd
    refine ⟨_,_,rfl,af,?_,F4.but hpd hpc s5,fun b o n e=>s5 _ _ (au e hp) (sb4 _ _ n (sb3 _ _ n e)),s5 _ _ htp (sb4 _ _ htd h3)⟩
    have e:[x,y].take (j+1)=[x,y].take j++[z']:=cE Il
    rw [e,← BF]
    exact rf z' q.toNat pW
   ·rintro σ H3 ⟨b,W,rfl,hW,pW,F3,sb3,h3⟩
    refine ⟨_,_,W,rfl,hW,?_,F3,sb3⟩
    rw [q_ hi,ex,ey]
    exact pW
  ·rintro σ H2 ⟨a,b,W,rfl,hW,pW,F2,sb2⟩
   have hl:=pW.length_eq
   obtain ⟨_,_,c⟩:=jd ⟨(1+r).toNat,by omega⟩
   have c:(fam (1+r).toNat).length=2*(1+r).toNat:=c
   refine ⟨rfl,_,rfl,_,p,W.map fun x=>toS [x],rfl,rfl,SqL.of (by rw [hW,c5]),cD _ (by omega),?_⟩
   rw [cC]
   exact k _ _ _ ⟨pW,by omega,by omega⟩ (by omega) F2 sb2
theorem yD (V0:List L)(y:L):(bJ (V0++[y]))[(bJ (V0++[y])).length - 1]? = some (tx [y]):=by
 unfold bJ
 simp
theorem sF (V0:List L)(y:L):some (HO.lst (bJ (V0++[y])).dropLast)=some (HO.lst (bJ V0)):=by
 unfold bJ
 simp
theorem sG (x y:L)(mid:List L):eZ (bJ (x::(mid++[y]))) (some 1) (some (-1))=bJ mid:=by
 unfold eZ
 have hl:(bJ (x::(mid++[y]))).length=mid.length+2:=by rw [a9];simp
 have e1:HT.sIx (bJ (x::(mid++[y]))).length 0 (some 1)=1:=by
  have q:=HT.gO (bJ (x::(mid++[y]))).length 0 1
  rw [show ((1:Nat):Int)=1 from rfl] at q
  rw [q,hl]
  omega
 have e2:HT.sIx (bJ (x::(mid++[y]))).length (bJ (x::(mid++[y]))).length (some (-1))=mid.length+1:=by
  show (if (-1:Int) < 0 then ((-1:Int)+((bJ (x::(mid++[y]))).length:Int)).toNat else min (-1:Int).toNat (bJ (x::(mid++[y]))).length)=_
  rw [if_pos (by decide),hl]
  omega
 rw [e1,e2]
 unfold bJ
 simp
abbrev fT:Stmt:=top 24
theorem mQ:aJ ["_law_word","_law_size"] ["_law_word"] (av fT):=⟨rfl,rfl,rfl,by decide +kernel,rfl,by decide +kernel,by decide +kernel⟩
theorem qk (D:Df K mg "_law_rooted" fT)(T:Bt K w mg aB):Fnc P w K mg base "_law_rooted" ["_law_word"] 1 iP:=by
 have sc:=mQ
 refine D.ok sc (fun _ _ _ _ _ _ us hl=>by obtain ⟨_,rfl⟩:=wj hl;rfl) (fun vs H Q E h=>?_) (fun f HM A outer s H vs Q E hr h=>?_)
 ·obtain ⟨u,rfl,_⟩:=h
  rfl
 ·obtain ⟨u,rfl,hu,k⟩:=h
  have Ik:=ba
  have hll:(toS u).length≤sizeLine:=by rw [ah];omega
  refine ⟨_,(He (Hw Cp rfl (@iT _ _ _ _ _ _ _ rfl T.range (Ha ao (Ha (Hk aM (by rfl) T.len B4 (Ha (pv 0) ae)) ae)) (by rfl) (by rfl)) (Ho (1) sc.nd rfl (Or.inl rfl)) (G8 (Hh (Hi dH (Hf gj (Hc dN (pv 0) bx (Hd (pv 1))) (Hf dk (Hk aM (by rfl) T.len B4 (Ha (pv 0) ae)) (pv 1))) (pv 0) (aX _)) (G8 (G9 (Hc dN (pv 0) bx (Hd (pv 1))))) bB))) (G8 (G9 (pv 0)))),?_⟩
  refine ⟨_,rfl,_,rfl,hll,_,_,rfl,(by first | omega | (rw [ah];omega)),?_⟩
  rw [ah]
  refine bq (lo:=1) (n:=((u.length:Int) - 1).toNat) (fun i σ H'=>∃ v:Option V,σ = [some (tx u),v]∧H'=H∧∀ t,0 < t→t≤i→rep (u.length / t) (u.take t)≠u) ⟨none,rfl,rfl,fun t h1 h2=>by omega⟩ ?_ ?_
  ·rintro i σ H1 hi ⟨v,rfl,rfl,no⟩
   have hi:i+1 < u.length:=by omega
   have e1:(1:Int)+(i:Int)=((i+1:Nat):Int):=by omega
   rw [e1]
   have c1:Txt.slice (toS u) none (some ((i+1:Nat):Int))=toS (u.take (i+1)):=by rw [bC,fx _ (by omega)];rfl
   have dv:((toS u).length:Int) / ((i+1:Nat):Int)=((u.length / (i+1):Nat):Int):=by rw [ah];rfl
   have db:u.length / (i+1)≤u.length:=Nat.div_le_self _ _
   refine ⟨_,rfl,_,rfl,_,rfl,_,rfl,hll,?_⟩
   rw [c1]
   refine ⟨_,rfl,_,rfl,hll,_,rfl,_,_,rfl,rfl,⟨by omega,by omega⟩,?_⟩
   refine ⟨_,((u.length / (i+1):Nat):Int),rfl,BP V.int dv,jb _ (Int.le_trans (by decide) (Int.natCast_nonneg _)) (Int.ofNat_le.mpr (show u.length / (i+1)≤1000 by omega)) (by rw [BL];omega),?_⟩
   rw [oi,Ce]
   refine ⟨_,rfl,rfl,_,rfl,?_⟩
   by_cases he:rep (u.length / (i+1)) (u.take (i+1))=u
   ·refine ou (by rw [he];exact BD rfl) ?_
    refine ⟨_,rfl,_,rfl,_,rfl,_,rfl,hll,?_⟩
    rw [c1]
    exact k _ (by rw [BL];omega) (fun x hx=>CS hx) (fun C=>vd (by rw [he];exact C) (by rw [he];exact Ct.mp (by omega))) (fun _=>jF (by omega) (by omega) he fun t t0 t1=>no t t0 (by omega))
   ·exact ow (Bs fun e=>he (kO e)) ⟨_,rfl,rfl,fun t t0 t1 e=>if z:t=i+1 then he (by rw [← z];exact e) else no t t0 (by omega) e⟩
  ·rintro σ H1 ⟨v,rfl,rfl,no⟩
   refine ⟨_,rfl,k u (BB _) (fun x hx=>hx) (fun C=>C) fun hne=>?_⟩
   have lp:=Ct.mpr hne
   have:=jF (u:=u) (s:=u.length) lp (BB _) (by rw [Nat.div_self lp,C7];rfl) (fun t t0 t1=>no t t0 (by omega))
   rwa [C7] at this
abbrev kj:Stmt:=top 23
theorem sH:aJ ["_law_word","_law_left","_law_sign"] ["_law_word"] (av kj):=⟨rfl,rfl,rfl,by decide +kernel,rfl,by decide +kernel,by decide +kernel⟩
theorem vW (D:Df K mg "_law_inner" kj)(T:Bt K w mg aB)(HN:Fnc P w K mg base "_law_back" ["_law_word"] 1 qX):Fnc P w K mg base "_law_inner" ["_law_word"] 2 iD:=by
 have sc:=sH
 refine D.ok sc (fun _ _ _ _ _ _ us hl=>by obtain ⟨_,rfl⟩:=wj hl;rfl) (fun vs H Q E h=>?_) (fun f HM A outer s H vs Q E hr h=>?_)
 ·obtain ⟨u,rfl,_⟩:=h
  rfl
 ·obtain ⟨u,rfl,hu,k⟩:=h
  have Ik:=ba
  refine ⟨_,(He (Hj (1) sc.nd rfl (Or.inl rfl) (G_ ae)) (He (Hw Cp rfl (@kN _ _ _ _ (pv 0)) (Ho (2) sc.nd rfl (Or.inl rfl)) (G8 (Hh (@PW.pt _ _ _ (@ng _ _ _ _ _ _ _ (Hi ua (Hk aH (by rfl) T.len B4 (Ha (pv 1) ae)) ao (aX _)) (@jL _ _ _ _ (Hi dH (Hg aT (pv 1) (Hq dF ao) (fun _ _=>rfl)) (Hs HN hr (by decide) rfl (Ha (pv 2) ae)) (aX _))))) (G8 (Hv (@i6 _ _ _ _ _ _ _ _ _ B8 PySem.F.slot_list_pop PySem.F.type_list_pop wY (pv 1) (by rfl) (by rfl)))) (G8 (Hv (Hl B8 Ez EA fq (pv 1) (Ha (pv 2) ae))))))) (He (@ky _ _ _ _ _ _ Cp (@PW.pt _ _ _ (@ng _ _ _ _ _ _ _ (Hi ua (Hk aH (by rfl) T.len B4 (Ha (pv 1) ae)) ao (aX _)) (@jL _ _ _ _ (Hi dH (Hg aT (pv 1) ao (fun _ _=>rfl)) (Hs HN hr (by decide) rfl (Ha (Hg aT (pv 1) (Hq dF ao) (fun _ _=>rfl)) ae)) (aX _))))) (G8 (Hj (1) sc.nd rfl (Or.inl rfl) (Hc fo (pv 1) (Hd ao) (Hd (Hq dF ao)))))) (G8 (G9 (Hl Cg DR DS fw bP (Ha (pv 1) ae))))))),?_⟩
  refine ⟨(by show 0≤sizeLine;decide),fun l hl=>?_⟩
  refine ⟨_,rfl,_,rfl,nU (z:=toS u) (fun i σ H'=>∃ (v:Option V) (W:List L),σ = [some (tx u),some (.ref l),v]∧H' l=some (.lst (bJ W))∧W.length≤i∧(∀ x∈W,x∈u)∧Wd.Rd W∧az H H') ⟨none,[],rfl,af,BB _,(fun x hx=>by cases hx),trivial,az.new hl⟩ ?_ ?_⟩
  ·rintro i cc σ H1 hc ⟨v,W,rfl,h1,hW,mW,rW,s1⟩
   obtain ⟨x,hx,ex⟩:=eB hc
   rw [ex]
   have hi:i < u.length:=(Bv.mp hx).1
   have push:∀ H2,(∀ y,W.getLast? = some y→x≠inv y)→az H1 H2→∃ (v:Option V) (W':List L),[some (tx u),some (V.ref l),some (V.str (toS [x]))]=[some (tx u),some (V.ref l),v]∧(upd H2 l (.lst (bJ W++[V.str (toS [x])]))) l=some (.lst (bJ W'))∧W'.length≤i+1∧(∀ x∈W',x∈u)∧Wd.Rd W'∧az H (upd H2 l (.lst (bJ W++[V.str (toS [x])]))):=fun H2 nx s2=>by
    refine ⟨_,W++[x],rfl,?_,by rw [Bq];simp;omega,fun y hy=>?_,va rW nx,fun b o e=>?_⟩
    ·rw [af,← cw]
     rfl
    ·rcases B0.mp hy with hy | hy
     ·exact mW y hy
     ·rw [Bu.mp hy]
      exact BQ hx
    ·rw [aF (au e hl)]
     exact s2 _ _ (s1 _ _ e)
   refine ⟨_,rfl,l,_,rfl,.inl (SqL.of h1),_,_,rfl,rfl,_,rfl,?_⟩
   by_cases h0:W=[]
   ·subst h0
    refine ow (Bs (by simp [bJ])) (sU ?_)
    refine ⟨_,rfl,.inl ⟨rfl,_,SqL.of h1⟩,_,rfl,l,_,_,rfl,rfl,h1,(by rw [a9];simp;omega),?_⟩
    exact push H1 (fun y hy=>by simp at hy) (az.refl _)
   ·obtain ⟨V0,y,rfl⟩:∃ V0 y,W=V0++[y]:=⟨W.dropLast,W.getLast h0,(Fj h0).symm⟩
    have hl1:(bJ (V0++[y])).length=V0.length+1:=by rw [a9];simp
    have al:atI (bJ (V0++[y])) (-1)=some (tx [y]):=by
     unfold bJ
     rw [BK]
     exact kH _ _
    refine ou (BD (by rw [hl1];omega)) ?_
    refine ⟨_,rfl,_,rfl,l,_,_,_,rfl,rfl,SqL.of h1,al,_,rfl,[x],rfl,(by show 1≤5000;decide),fun H2 s2=>?_⟩
    refine ⟨rfl,_,rfl,?_⟩
    rw [gk]
    by_cases hyx:y=inv x
    ·refine ou (by rw [hyx];exact BD rfl) ?_
     have h2:=s2 _ _ h1
     refine ⟨_,rfl,.inl ⟨rfl,_,SqL.of h2⟩,l,_,_,rfl,rfl,h2,yD _ _,_,V0,rfl,?_,by simp at hW;omega,fun z hz=>mW z (Cb _ hz),((bK _ _).mp rW).1,fun b o e=>?_⟩
     ·rw [af,sF]
     ·rw [aF (au e hl)]
      exact s2 _ _ (s1 _ _ e)
    ·refine ow (Bs fun e=>hyx (Dn (kO e)).1) ?_
     refine ⟨_,rfl,.inl ⟨rfl,_,SqL.of (s2 _ _ h1)⟩,_,rfl,l,_,_,rfl,rfl,s2 _ _ h1,(by rw [hl1];simp at hW;omega),?_⟩
     exact push H2 (fun z hz e=>hyx (by rw [e,aU];simpa using hz)) s2
  ·rintro σ H1 ⟨v,W,rfl,h1,hW,mW,rW,s1⟩
   rw [bH] at hW
   refine ⟨fun m σ H'=>∃ (v:Option V) (W:List L) (l2:Addr),σ = [some (tx u),some (.ref l2),v]∧H' l2=some (.lst (bJ W))∧W.length≤u.length∧(∀ x∈W,x∈u)∧Wd.Rd W∧az H H'∧m=W.length,⟨_,v,W,l,rfl,h1,hW,mW,rW,s1,rfl⟩,?_⟩
   rintro m σ H2 ⟨v,W,l2,rfl,h2,hW2,mW2,rW2,s2,rfl⟩
   have fin:∀ H3,Cyc W→az H2 H3→Q (tx W) H3:=fun H3 c s3=>k W H3 hW2 mW2 c (s2.trans s3)
   refine ⟨_,rfl,l2,_,rfl,.inl (SqL.of h2),_,_,rfl,rfl,_,rfl,?_⟩
   rw [a9]
   by_cases g1:1 < W.length
   ·refine ou (BD (by omega)) ?_
    obtain ⟨x,mid,y,rfl⟩:∃ x mid y,W=x::(mid++[y]):=by
     cases W with
     | nil=>simp at g1
     | cons x r =>
      have hr:r≠[]:=by
       intro e
       subst e
       simp at g1
      exact ⟨x,r.dropLast,r.getLast hr,by rw [Fj]⟩
    have a0:atI (bJ (x::(mid++[y]))) 0=some (tx [x]):=pE rfl
    have al:atI (bJ (x::(mid++[y]))) (-1)=some (tx [y]):=by
     have e:bJ (x::(mid++[y]))=bJ (x::mid)++[tx [y]]:=by rw [cw];rfl
     rw [e]
     exact kH _ _
    refine ⟨_,rfl,l2,_,_,_,rfl,rfl,SqL.of h2,a0,_,rfl,_,rfl,l2,_,_,_,rfl,rfl,SqL.of h2,al,[y],rfl,(by show 1≤5000;decide),fun H3 s3=>?_⟩
    refine ⟨rfl,_,rfl,?_⟩
    rw [gk]
    by_cases hxy:x=inv y
    ·refine ou (by rw [hxy];exact BD rfl) ⟨_,fun σ' H' q=>q,?_⟩
     refine ⟨_,rfl,_,rfl,_,rfl,_,rfl,l2,_,rfl,SqL.of (s3 _ _ h2),fun l3 hl3=>?_⟩
     rw [sG]
     refine ⟨mid.length,by simp;omega,v,mid,l3,rfl,af,by simp at hW2;omega,fun z hz=>mW2 z (Bw _ (Cb _ hz)),xN rW2,(s2.trans s3).then hl3,rfl⟩
    ·refine ow (Bs fun e=>hxy (Dn (kO e)).1) ?_
     exact ⟨rfl,_,rfl,_,l2,(_:List L).map fun x=>toS [x],rfl,rfl,SqL.of (by rw [s3 _ _ h2,c5]),cD _ (by omega),by rw [cC];exact fin H3 (vb rW2 hxy) s3⟩
   ·refine ow (Bs (by omega)) (sU ?_)
    exact ⟨rfl,_,rfl,_,l2,(_:List L).map fun x=>toS [x],rfl,rfl,SqL.of (by rw [(az.refl _) _ _ h2,c5]),cD _ (by omega),by rw [cC];exact fin H2 (vc g1) (az.refl _)⟩
theorem yE {m:Nat}(h:m≤6){x:L}(hx:x∈sg (m:Int)):x.val % 6 < m:=by
 have q:∀ (m:Fin 7) (x:L),x∈([0,1,2,3,4,5]:List L).take m.val++([6,7,8,9,10,11]:List L).take m.val→x.val % 6 < m.val:=by decide
 exact q ⟨m,by omega⟩ x hx
theorem ql {u:List L}{x:L}:∀ {n:Nat},x∈rep n u→x∈u
 | 0,h=>by cases h
 | n+1,h=>by
  have h:x∈rep n u++u:=h
  rcases B0.mp h with h | h
  ·exact ql h
  ·exact h
abbrev Ap:Stmt:=top 25
theorem Aq:aJ ["_law_tape_here","_law_many","_law_long","_law_signs","_law_word","_law_at"] ["_law_tape_here","_law_many","_law_long"] (av Ap):=⟨rfl,rfl,rfl,by decide +kernel,rfl,by decide +kernel,by decide +kernel⟩
theorem Bl (D:Df K mg "_law_any_way" Ap)(T:Bt K w mg aB)(HI:Fnc P w K mg base "_law_draw" ["_law_tape_here","_law_many"] 1 dz)(IB:Fnc P w K mg base "_law_inner" ["_law_word"] 2 iD)(Ic:Fnc P w K mg base "_law_rooted" ["_law_word"] 1 iP):Fnc P w K mg base "_law_any_way" ["_law_tape_here","_law_many","_law_long"] 3 kg:=by
 have sc:=Aq
 refine D.ok sc (fun _ _ _ _ _ _ us hl=>by obtain ⟨_,_,_,rfl⟩:=tV hl;rfl) (fun vs H Q E h=>?_) (fun f HM A outer s H vs Q E hr h=>?_)
 ·obtain ⟨d,c,m,n,rfl,_⟩:=h
  rfl
 ·obtain ⟨d,c,m0,n,rfl,F,m1,m2,n1,n2,k⟩:=h
  have m1:(1:Int)≤(m0:Int):=by omega
  have m2:(m0:Int)≤6:=by omega
  have k:∀ (v:List L) (H2:Hp),(Rnd v∧PrZ v)→v.length≤n.toNat→(∀ x∈v,x∈sg (m0:Int))→Tp H2 d c→bD d H H2→Q (tx v) H2:=fun v H2 a1 a2 a3=>k v H2 ⟨a1.1,a2,(fun x hx=>yE (by omega) (a3 x hx)),a1.2⟩
  generalize (m0:Int)=m at m1 m2 k ⊢
  have Ik:=ba
  refine ⟨_,(He (Hj (3) sc.nd rfl (Or.inr rfl) (Hf bT (Hc dN bP bx (Hd (pv 1))) (Hc dN bP bx (Hd (pv 1))))) (He (Hj (4) sc.nd rfl (Or.inl rfl) (Hl Cg DR DS fw bP (Ha (Hm (["_law_k","_law_signs","_law_tape_here","_law_many"]) (["_law_k"]) ([3,0,1]) (Hn rfl (by kernel_rfl)) rfl (Hx rfl T.range (Ha (Hf cf ao (Hs HI hr (by decide) rfl (Ha (pv 0) (Ha (pv 2) ae)))) ae)) (fun _ _ _ _=>Ho (0) (show (["_law_k","_law_signs","_law_tape_here","_law_many"]:List Str).Nodup from by decide +kernel) rfl (Or.inl rfl)) (fun _ _ _ _=>cg) (fun _ _ _ _=>by (exact (Hg eN (pv 1) (Hs HI hr (by decide) rfl (Ha (pv 2) (Ha (Hf f_ ao (pv 3)) ae))) (fun _ _=>rfl))))) ae))) (He (Hh (Hi dH (Hs HI hr (by decide) rfl (Ha (pv 0) (Ha ao ae))) ao (aX _)) (He (Hj (5) sc.nd rfl (Or.inl rfl) (Hf cf ao (Hs HI hr (by decide) rfl (Ha (pv 0) (Ha ao ae))))) (G8 (Hj (4) sc.nd rfl (Or.inl rfl) (Hf bT (Hf gj (Hc dN (pv 4) bx (Hd (pv 5))) (Hf cf ao (Hs HI hr (by decide) rfl (Ha (pv 0) (Ha ao ae))))) (Hc dN (pv 4) (Hd (pv 5)) bx))))) bB) (G8 (G9 (@xm _ _ _ _ _ _ _ (Hs Ic hr (by decide) rfl (Ha (Hs IB hr (by decide) rfl (Ha (Hc dN (pv 4) bx (Hd (pv 2))) ae)) ae)) (@wz _ _ _ _ _ (Hg eN (pv 3) ao (fun _ _=>rfl))))))))),?_⟩
  refine ⟨_,rfl,_,rfl,_,rfl,(by rw [om];omega),_,rfl,_,rfl,_,rfl,(by rw [oo];omega),_,_,rfl,rfl,?_,?_⟩
  ·have h1:=E1 ("abcdef":Str) none (some m)
   have h2:=E1 ("ABCDEF":Str) none (some m)
   rw [om] at h1
   rw [oo] at h2
   omega
  rw [qY m1]
  have hsg:=oj m1 m2
  refine ⟨rfl,_,rfl,_,rfl,d,c,_,rfl,F,by omega,by omega,fun r H1 r0 r1 F1 sb1=>?_⟩
  refine ⟨_,_,rfl,rfl,_,rfl,by omega,by omega,?_⟩
  refine cT (own:=["_law_k"]) (cap:=[3,0,1]) (J:=Itr 0 (1+r).toNat) (1+r).toNat (fun i ys σ H'=>∃ (v:Option V) (W:List L),σ = [v,some (tx (sg m)),some (.ref d),some (.int m)]∧ys=bJ W∧W.length=i∧(∀ x∈W,x∈sg m)∧Tp H' d c∧bD d H H')
   ⟨none,[],rfl,rfl,rfl,(fun x hx=>by cases hx),F1,sb1⟩ (fun i ys σ H' hi ⟨v,W,_,e,e2,_⟩=>by rw [e,a9,e2];exact BB _) (by omega) (fun i ys σ H' hi _=>hi) (fun ys σ H' _=>BB _) ?_ ?_
  ·rintro i ys σ H2 x H3 N hi ⟨v,W,rfl,rfl,hW,mW,F2,sb2⟩ ⟨rfl,rfl⟩ hN
   refine ⟨_,rfl,_,rfl,_,rfl,_,_,rfl,rfl,.inl ⟨by decide,by decide⟩,d,c,_,rfl,F2,by omega,by omega,fun q H4 q0 q1 F4 sb4=>?_⟩
   have hq:q.toNat < (sg m).length:=by omega
   refine ⟨_,_,cp (sg m)[q.toNat],rfl,rfl,(by rw [ah];omega),du (k:=q.toNat) (by omega) (fu hq),hN _ _ _ ⟨_,W++[(sg m)[q.toNat]],rfl,(cw _ _),by rw [Bq,hW];rfl,fun x hx=>(B0.mp hx).elim (mW x) (fun hx=>by rw [Bu.mp hx];exact Ck hq),F4,sb2.trans sb4⟩⟩
  rintro ys σ H2 l ⟨v,W,rfl,rfl,hW,mW,F2,sb2⟩ hl
  refine ⟨_,l,W.map fun x=>toS [x],rfl,rfl,SqL.of (by rw [af,c5]),cD _ (by omega),?_⟩
  rw [cC]
  have F3:=F2.new (o:=.lst (bJ W)) hl
  have sb3:=sb2.trans (az.new (o:=.lst (bJ W)) hl).b
  generalize upd H2 l (.lst (bJ W))=H3 at F3 sb3 ⊢
  have hW15:W.length≤30:=by omega
  -- what comes behind
  have hs0:∃ x,(sg m)[0]? = some x:=⟨(sg m)[0]'(by omega),fu (by omega)⟩
  obtain ⟨x0,hx0⟩:=hs0
  refine ⟨_,rfl,d,c,_,rfl,F3,by decide,by decide,fun q H4 q0 q1 F4 sb4=>?_⟩
  refine ⟨rfl,_,rfl,?_⟩
  have end_:∀ (Z:List L) (H5:Hp),Z.length≤60→Tp H5 d c→bD d H H5→(∀ (v:List L) (H6:Hp),(Rnd v∧PrZ v)→v.length≤n.toNat→(∀ x∈v,x∈sg m)→az H5 H6→Q (tx v) H6):=fun Z H5 _ F5 sb5 v H6 ne hv mv s6=>k v H6 ne hv mv (F5.same s6) (sb5.trans s6.b)
  refine jH (fun _=>?_) (fun _=>?_)
  ·refine ⟨_,rfl,d,c,_,rfl,F4,by decide,by decide,fun a H5 a0 a1 F5 sb5=>⟨_,_,rfl,rfl,?_⟩⟩
   have c1:Txt.slice (toS W) none (some (1+a))=toS (W.take (1+a).toNat):=by rw [bC,fx _ (by omega)]
   have c2:Txt.slice (toS W) (some (1+a)) none=toS (W.drop (1+a).toNat):=by rw [bC,kP _ (by omega)]
   refine ⟨_,rfl,_,rfl,_,rfl,_,rfl,(by rw [ah];omega),?_⟩
   rw [c1]
   refine ⟨_,rfl,d,c,_,rfl,F5,by decide,by decide,fun b H6 b0 b1 F6 sb6=>⟨_,_,rfl,rfl,?_⟩⟩
   refine ⟨_,_,rfl,rfl,jb _ (by omega) (by omega) (by rw [BL];omega),?_⟩
   rw [oi]
   have hrl:(rep (2+b).toNat (W.take (1+a).toNat)).length≤12:=by
    rw [bV,BL]
    exact Cr (FL (show (2+b).toNat≤4 by omega) (show min (1+a).toNat W.length≤3 by omega)) (by decide)
   have hrm:∀ x∈rep (2+b).toNat (W.take (1+a).toNat),x∈sg m:=fun x hx=>mW x (CS (ql hx))
   generalize rep (2+b).toNat (W.take (1+a).toNat)=R1 at hrl hrm ⊢
   refine ⟨_,rfl,_,rfl,_,rfl,_,rfl,(by rw [ah];omega),?_⟩
   rw [c2]
   refine ⟨_,_,rfl,rfl,(by rw [ah,ah,Cq];omega),?_⟩
   rw [gq]
   have hZ:(R1++W.drop (1+a).toNat).length≤60:=by rw [Bq,Cq];omega
   have hZm:∀ x∈R1++W.drop (1+a).toNat,x∈sg m:=fun x hx=>(B0.mp hx).elim (hrm x) fun hx=>mW x (C0 hx)
   have sb06:=sb3.trans (sb4.trans (sb5.trans sb6))
   generalize R1++W.drop (1+a).toNat=Z at hZ hZm ⊢
   have cz:Txt.slice (toS Z) none (some n)=toS (Z.take n.toNat):=by rw [bC,fx _ (by omega)]
   refine ⟨_,rfl,_,rfl,_,rfl,_,rfl,(by rw [ah];omega),?_⟩
   rw [cz]
   have hzl:(Z.take n.toNat).length≤n.toNat:=by rw [BL];omega
   refine ⟨Z.take n.toNat,rfl,by omega,fun v1 H7 hv1 mv1 cv1 s7=>⟨v1,rfl,by omega,fun v2 hv2 mv2 cv2 pv2=>?_⟩⟩
   refine ⟨_,rfl,(by rw [ah];omega),jH (fun e2=>end_ Z _ hZ F6 sb06 v2 H7 ⟨(cv2 cv1).rnd (by rintro rfl;exact absurd e2 (by decide)),pv2 (by rintro rfl;exact absurd e2 (by decide))⟩ (by omega) (fun x hx=>hZm x (CS (mv1 x (mv2 x hx)))) s7) (fun _=>?_)⟩
   refine ⟨_,rfl,_,_,cp x0,rfl,rfl,(by rw [ah];omega),du (k:=0) rfl hx0,?_⟩
   exact end_ Z _ hZ F6 sb06 [x0] H7 ⟨iC _,PrZ.one _⟩ (by show 1≤_;omega) (fun x hx=>by rw [Bu.mp hx];exact BQ hx0) s7
  ·have hZ:W.length≤60:=by omega
   have sb06:=sb3.trans sb4
   have hZm:=mW
   generalize W=Z at hZ hZm ⊢
   have cz:Txt.slice (toS Z) none (some n)=toS (Z.take n.toNat):=by rw [bC,fx _ (by omega)]
   refine ⟨_,rfl,_,rfl,_,rfl,_,rfl,(by rw [ah];omega),?_⟩
   rw [cz]
   have hzl:(Z.take n.toNat).length≤n.toNat:=by rw [BL];omega
   refine ⟨Z.take n.toNat,rfl,by omega,fun v1 H7 hv1 mv1 cv1 s7=>⟨v1,rfl,by omega,fun v2 hv2 mv2 cv2 pv2=>?_⟩⟩
   refine ⟨_,rfl,(by rw [ah];omega),jH (fun e2=>end_ Z _ hZ F4 sb06 v2 H7 ⟨(cv2 cv1).rnd (by rintro rfl;exact absurd e2 (by decide)),pv2 (by rintro rfl;exact absurd e2 (by decide))⟩ (by omega) (fun x hx=>hZm x (CS (mv1 x (mv2 x hx)))) s7) (fun _=>?_)⟩
   refine ⟨_,rfl,_,_,cp x0,rfl,rfl,(by rw [ah];omega),du (k:=0) rfl hx0,?_⟩
   exact end_ Z _ hZ F4 sb06 [x0] H7 ⟨iC _,PrZ.one _⟩ (by show 1≤_;omega) (fun x hx=>by rw [Bu.mp hx];exact BQ hx0) s7
theorem qo {α:Type}{xs:List α}{j:Int}(h0:0≤j)(h1:j < xs.length):∃ v,v∈xs∧atI xs j=some v:=by
 have hj:j.toNat < xs.length:=by omega
 refine ⟨xs[j.toNat],Ck hj,?_⟩
 unfold atI ixN
 rw [if_pos h0,if_pos (by omega)]
 exact fu hj
abbrev kl:Stmt:=top 26
theorem sI:aJ ["_law_tape_here","_law_many","_law_most","_law_long","_law_ways","_law_k","_law_word","_law_at"] ["_law_tape_here","_law_many","_law_most","_law_long"] (av kl):=⟨rfl,rfl,rfl,by decide +kernel,rfl,by decide +kernel,by decide +kernel⟩
theorem vX (D:Df K mg "_law_some_ways" kl)(T:Bt K w mg aB)(HI:Fnc P w K mg base "_law_draw" ["_law_tape_here","_law_many"] 1 dz)(HN:Fnc P w K mg base "_law_back" ["_law_word"] 1 qX)(F_aw:Fnc P w K mg base "_law_any_way" ["_law_tape_here","_law_many","_law_long"] 3 kg):Fnc P w K mg base "_law_some_ways" ["_law_tape_here","_law_many","_law_most","_law_long"] 4 fS:=by
 have sc:=sI
 refine D.ok sc (fun _ _ _ _ _ _ us hl=>by obtain ⟨_,_,_,_,rfl⟩:=vF hl;rfl) (fun vs H Q E h=>?_) (fun f HM A outer s H vs Q E hr h=>?_)
 ·obtain ⟨d,c,m,n,rfl,_⟩:=h
  rfl
 ·obtain ⟨d,c,m,n,rfl,F,m1,m2,n1,n2,k⟩:=h
  have Ik:=ba
  refine ⟨_,(He (Hj (4) sc.nd rfl (Or.inl rfl) (G_ (Ha (Hs F_aw hr (by decide) rfl (Ha (pv 0) (Ha (pv 1) (Ha (pv 3) ae)))) ae))) (He (Hw Cp rfl (Hx rfl T.range (Ha (Hs HI hr (by decide) rfl (Ha (pv 0) (Ha (pv 2) ae))) ae)) (Ho (5) sc.nd rfl (Or.inl rfl)) (He (Hj (6) sc.nd rfl (Or.inl rfl) (Hs F_aw hr (by decide) rfl (Ha (pv 0) (Ha (pv 1) (Ha (pv 3) ae))))) (He (Hh (Hi dH (Hs HI hr (by decide) rfl (Ha (pv 0) (Ha ao ae))) ao (aX _)) (He (Hj (6) sc.nd rfl (Or.inl rfl) (Hg aT (pv 4) (Hs HI hr (by decide) rfl (Ha (pv 0) (Ha (Hk aH (by rfl) T.len B4 (Ha (pv 4) ae)) ae))) (fun _ _=>rfl))) (He (Hj (7) sc.nd rfl (Or.inl rfl) (Hs HI hr (by decide) rfl (Ha (pv 0) (Ha (Hk aM (by rfl) T.len B4 (Ha (pv 6) ae)) ae)))) (He (Hj (6) sc.nd rfl (Or.inl rfl) (Hg aT (G_ (Ha (pv 6) (Ha (Hs HN hr (by decide) rfl (Ha (pv 6) ae)) ae))) (Hs HI hr (by decide) rfl (Ha (pv 0) (Ha ao ae))) (fun _ _=>rfl))) (G8 (Hj (6) sc.nd rfl (Or.inl rfl) (Hf bT (Hc dN (pv 6) (Hd (pv 7)) bx) (Hc dN (pv 6) bx (Hd (pv 7))))))))) bB) (G8 (Hv (Hl B8 Ez EA fq (pv 4) (Ha (pv 6) ae))))))) (G8 (G9 (Hb cH (by rfl) T.tuple jR (Ha (pv 4) ae)))))),?_⟩
  refine ⟨_,rfl,_,rfl,_,rfl,d,c,m,n,rfl,F,m1,m2,n1,by omega,fun v0 H1 g0 F1 sb1=>⟨(aY (n:=1) (by decide)),fun l hl=>?_⟩⟩
  have hld:=F1.ne hl
  have hlc:=F1.nec hl
  have hlH:H l=none:=by
   cases e:H l with
   | none=>rfl
   | some o =>
    have:=sb1 _ _ hld e
    rw [hl] at this
    cases this
  refine ⟨_,rfl,_,rfl,d,c,4,rfl,F1.new hl,by decide,by decide,fun r H2 r0 r1 F2 sb2=>?_⟩
  have f2:=sb2 _ _ hld (af (o:=.lst [tx v0]))
  have sb2:=(sb1.trans ((az.new (o:=.lst [tx v0]) hl).b (d:=d))).trans sb2
  refine ⟨_,rfl,by omega,by omega,?_⟩
  refine bq (lo:=0) (n:=r.toNat) (fun i σ H'=>∃ (a5 a6 a7:Option V) (W:List (List L)),σ = [some (.ref d),some (.int (m:Int)),some (.int 4),some (.int n),some (.ref l),a5,a6,a7]∧H' l=some (.lst (W.map tx))∧W.length=i+1∧(∀ w∈W,GP m 15 w)∧Tp H' d c∧bD d H H') ⟨none,none,none,[v0],rfl,f2,rfl,(fun w hw=>by rw [Bu.mp hw];exact g0.le (by omega)),F2,sb2⟩ ?_ ?_
  ·rintro i σ H3 hi ⟨a5,a6,a7,W,rfl,f3,hW,gW,F3,sb3⟩
   refine ⟨_,rfl,_,rfl,_,rfl,d,c,m,n,rfl,F3,m1,m2,n1,by omega,fun v H4 gv F4 sb4=>?_⟩
   have f4:=sb4 _ _ hld f3
   have sb4:=sb3.trans sb4
   have fin:∀ (w:List L) (a7:Option V) (H':Hp),GP m 15 w→H' l=some (.lst (W.map tx))→Tp H' d c→bD d H H'→∃ (a5 a6 a7':Option V) (W':List (List L)),[some (V.ref d),some (.int (m:Int)),some (.int 4),some (.int n),some (.ref l),some (.int (0+(i:Int))),some (tx w),a7]=[some (V.ref d),some (.int (m:Int)),some (.int 4),some (.int n),some (.ref l),a5,a6,a7']∧(upd H' l (.lst (W.map tx++[tx w]))) l=some (.lst (W'.map tx))∧W'.length=i+1+1∧(∀ w∈W',GP m 15 w)∧Tp (upd H' l (.lst (W.map tx++[tx w]))) d c∧bD d H (upd H' l (.lst (W.map tx++[tx w]))):=by
    intro w a7 H' hw f' F' sb'
    refine ⟨_,_,_,W++[w],rfl,by rw [af,BK];rfl,by rw [Bq,hW];rfl,fun x hx=>?_,F'.but hld hlc bD.upd,fun b o nb e=>?_⟩
    ·rcases B0.mp hx with hx | hx
     ·exact gW x hx
     ·rw [Bu.mp hx];exact hw
    ·rw [aF (au e hlH)];exact sb' _ _ nb e
   refine ⟨_,rfl,d,c,_,rfl,F4,by decide,by decide,fun q H5 q0 q1 F5 sb5=>⟨rfl,_,rfl,?_⟩⟩
   have f5:=sb5 _ _ hld f4
   have sb5:=sb4.trans sb5
   refine jH (fun _=>?_) (fun _=>?_)
   ·refine ⟨_,rfl,_,rfl,_,rfl,l,_,rfl,.inl (SqL.of f5),d,c,_,rfl,F5,by rw [Bo];omega,by rw [Bo];omega,fun j H6 j0 j1 F6 sb6=>?_⟩
    have f6:=sb6 _ _ hld f5
    have sb6:=sb5.trans sb6
    obtain ⟨x,hx,ax⟩:=qo j0 j1
    obtain ⟨w0,hw0,rfl⟩:=B2.mp hx
    have gw:=gW w0 hw0
    have wl:=gw.2.1
    have wp:0 < w0.length:=Ct.mpr gw.1.ne
    refine ⟨l,_,_,_,rfl,rfl,SqL.of f6,ax,?_⟩
    refine ⟨_,rfl,_,rfl,_,rfl,(by rw [ah];omega),d,c,_,rfl,F6,by rw [ah];omega,by rw [ah];omega,fun a H7 a0 a1 F7 sb7=>?_⟩
    have f7:=sb7 _ _ hld f6
    have sb7:=sb6.trans sb7
    refine ⟨_,rfl,_,rfl,w0,rfl,by omega,fun H8 s8=>⟨(aY (n:=2) (by decide)),fun p hp=>?_⟩⟩
    have s9:=s8.then (o:=.lst [tx w0,tx (bk w0)]) hp
    have f9:=s9 _ _ f7
    have F9:=F7.same s9
    have sb9:=sb7.trans s9.b
    have hpd:=(F7.same s8).ne hp
    refine ⟨_,rfl,d,c,_,rfl,F9,by decide,by decide,fun b H10 b0 b1 F10 sb10=>?_⟩
    have f10:=sb10 _ _ hld f9
    have g10:=sb10 _ _ hpd (af (o:=.lst [tx w0,tx (bk w0)]))
    have sb10:=sb9.trans sb10
    obtain ⟨x,hx,ax⟩:=qo (xs:=[tx w0,tx (bk w0)]) b0 b1
    obtain ⟨w1,g1,rfl⟩:∃ w1,GP m 15 w1∧x=tx w1:=by
     rcases BU.mp hx with rfl | hx
     ·exact ⟨w0,gw,rfl⟩
     ·rw [Bu.mp hx]
      exact ⟨_,gw.bk,rfl⟩
    have w1l:=g1.2.1
    refine ⟨p,_,_,_,rfl,rfl,SqL.of g10,ax,?_⟩
    have c1:Txt.slice (toS w1) none (some a)=toS (w1.take a.toNat):=by rw [bC,fx _ (by omega)]
    have c2:Txt.slice (toS w1) (some a) none=toS (w1.drop a.toNat):=by rw [bC,kP _ (by omega)]
    refine ⟨_,rfl,_,rfl,_,rfl,_,rfl,(by rw [ah];omega),?_⟩
    rw [c2]
    refine ⟨_,rfl,_,rfl,_,rfl,_,rfl,(by rw [ah];omega),?_⟩
    rw [c1]
    refine ⟨_,_,rfl,rfl,(by rw [ah,ah,Cq,BL];omega),?_⟩
    rw [gq]
    refine ⟨_,rfl,.inl ⟨rfl,_,SqL.of f10⟩,_,rfl,l,_,_,rfl,rfl,f10,by rw [Bo];omega,?_⟩
    exact fin _ _ _ (g1.turn _) f10 F10 sb10
   ·refine ⟨_,rfl,.inl ⟨rfl,_,SqL.of f5⟩,_,rfl,l,_,_,rfl,rfl,f5,by rw [Bo];omega,?_⟩
    exact fin _ _ _ (gv.le (by omega)) f5 F5 sb5
  ·rintro σ H3 ⟨a5,a6,a7,W,rfl,f3,hW,gW,F3,sb3⟩
   refine ⟨_,rfl,l,_,rfl,.inl ⟨SqL.of f3,fun p hp=>?_⟩⟩
   exact k p W _ (F3.new hp) (sb3.trans (az.new hp).b) af (by omega) (by omega) gW
abbrev qp:Stmt:=top 27
theorem vY:aJ ["_law_ways","_law_found","_law_i"] ["_law_ways"] (av qp):=⟨rfl,rfl,rfl,by decide +kernel,rfl,by decide +kernel,by decide +kernel⟩
theorem yF (D:Df K mg "_law_all_strands" qp)(T:Bt K w mg aB):Fnc P w K mg base "_law_all_strands" ["_law_ways"] 1 rY:=by
 have sc:=vY
 refine D.ok sc (fun _ _ _ _ _ _ us hl=>by obtain ⟨_,rfl⟩:=wj hl;rfl) (fun vs H Q E h=>?_) (fun f HM A outer s H vs Q E hr h=>?_)
 ·obtain ⟨a,n,W,rfl,_⟩:=h
  rfl
 ·obtain ⟨a,n,W,rfl,hW,k⟩:=h
  have Ik:=ba
  have w15:∀ w∈W,w.length≤15:=fun w hw=>(hW.ws w hw).2.1
  have hle:=hW.le
  refine ⟨_,(He (Hj (1) sc.nd rfl (Or.inl rfl) (G_ ae)) (He (Hw Cp rfl (Hx rfl T.range (Ha (Hk aH (by rfl) T.len B4 (Ha (pv 0) ae)) ae)) (Ho (2) sc.nd rfl (Or.inr rfl)) (G8 (Hv (Hl B8 C8 C9 cv (pv 1) (Ha (Hm (["_law_p","_law_i"]) (["_law_p"]) ([2]) (Hn rfl (by kernel_rfl)) rfl (Hx rfl T.range (Ha (Hk aM (by rfl) T.len B4 (Ha (Hg aV (pv 0) (pv 2) (fun _ _=>rfl)) ae)) ae)) (fun _ _ _ _=>Ho (0) (show (["_law_p","_law_i"]:List Str).Nodup from by decide +kernel) rfl (Or.inl rfl)) (fun _ _ _ _=>cg) (fun _ _ _ _=>by (exact (Ht (Ha (pv 1) (Ha (pv 0) ae)))))) ae))))) (G8 (G9 (pv 1))))),?_⟩
  refine ⟨(by show 0≤sizeLine;decide),fun l hl=>?_⟩
  have s1:az H (upd H l (.lst [])):=az.new hl
  have f1:(upd H l (.lst [])) l=some (.lst ((([]:List (Addr × Int × Int)).map (·.1)).map V.ref)):=af
  generalize upd H l (.lst [])=H1 at s1 f1 ⊢
  refine ⟨_,rfl,a,_,rfl,.inr (SqT.of (s1 _ _ hW.at_)),_,rfl,by rw [Bo];omega,by rw [Bo];omega,?_⟩
  rw [Bo,Ce]
  refine bq (lo:=0) (n:=W.length) (fun i σ H'=>∃ (v2:Option V) (zs:List (Addr × Int × Int)),σ = [some (.ref a),some (.ref l),v2]∧H' l=some (.lst ((zs.map (·.1)).map V.ref))∧StA H' zs∧zs.map (·.2)=se W i∧az H H') ⟨none,[],rfl,f1,(fun z hz=>by cases hz),rfl,s1⟩ ?_ ?_
  ·rintro i σ H3 hil ⟨v2,zs,rfl,f3,hz3,ez,s3⟩
   rw [GS]
   have hw:W[i]? = some (W.getD i []):=by rw [By,fu hil];rfl
   have aw:=j8 (W:=W) (i:=(i:Int)) (by omega) (by omega)
   rw [Ce] at aw
   generalize W.getD i []=w' at hw aw
   have hwl:=w15 w' (BQ hw)
   have zl:zs.length≤60:=by
    have:=d5 w15 i
    rw [← ez,Bo] at this
    omega
   refine ⟨_,rfl,.inl ⟨rfl,_,SqL.of f3⟩,_,rfl,_,rfl,a,_,_,_,rfl,rfl,SqT.of (s3 _ _ hW.at_),aw,_,rfl,(by rw [ah];omega),_,rfl,(by rw [ah];omega),(by rw [ah];omega),?_⟩
   rw [ah,Ce]
   refine cT (own:=["_law_p"]) (cap:=[2]) (J:=Itr 0 w'.length) w'.length (fun j ys σ H'=>∃ (b:Option V) (ps:List (Addr × Int × Int)),σ = [b,some (.int (i:Int))]∧ys=(ps.map (·.1)).map V.ref∧StA H' ps∧ps.map (·.2)=(List.range j).map (fun p:Nat=>((i:Int),(p:Int)))∧az H3 H') ⟨none,[],rfl,rfl,(fun z hz=>by cases hz),rfl,az.refl _⟩
    (fun j ys σ H' hj ⟨_,ps,_,e,_,e2,_⟩=>?_) (by omega) (fun j ys σ H' hj _=>hj) (fun ys σ H' _=>BB _) ?_ ?_
   ·have:=BP List.length e2
    rw [Bo,Bo,Gc] at this
    rw [e,Bo,Bo]
    omega
   ·rintro j ys σ H4 x H5 N hj ⟨b,ps,rfl,rfl,hp,e2,s4⟩ ⟨rfl,rfl⟩ hN
    refine ⟨_,rfl,_,rfl,(aY (n:=2) (by decide)),fun q hq=>hN _ _ _ ⟨_,ps++[(q,(i:Int),(j:Int))],rfl,?_,?_,?_,s4.then hq⟩⟩
    ·rw [BK,BK];rfl
    ·rw [GS]
     exact (hp.same (az.new hq)).app fun z hz=>by
      rw [Bu] at hz
      subst hz
      exact af
    ·rw [BK,e2,Dp,BK];rfl
   ·rintro ys σ H4 q ⟨b,ps,rfl,rfl,hp,e2,s4⟩ hq
    have s5:az H4 (upd H4 q (.lst ((ps.map (·.1)).map V.ref))):=az.new hq
    have g5:(upd H4 q (.lst ((ps.map (·.1)).map V.ref))) q=some (.lst ((ps.map (·.1)).map V.ref)):=af
    have f5:=s5 _ _ (s4 _ _ f3)
    have hp5:=hp.same s5
    have hz5:=(hz3.same s4).same s5
    have s6:=(s3.trans s4).trans s5
    generalize upd H4 q (.lst ((ps.map (·.1)).map V.ref))=H5 at g5 f5 hp5 hz5 s6 ⊢
    have pl:ps.length=w'.length:=by
     have:=BP List.length e2
     rwa [Bo,Bo,Gc] at this
    refine ⟨l,q,_,_,rfl,rfl,f5,g5,by rw [Bo,Bo,Bo,Bo];omega,?_⟩
    have HQ:∀ b xs,H5 b=some (.tup xs)→(upd H5 l (.lst ((zs.map (·.1)).map V.ref++(ps.map (·.1)).map V.ref))) b=some (.tup xs):=fun b xs e=>by
     rw [aF (eW e f5 (by intro z;cases z))];exact e
    refine ⟨_,zs++ps,rfl,?_,fun z hz=>HQ _ _ ((hz5.app hp5) z hz),jB hw ez e2,fun b o e=>?_⟩
    ·rw [af,BK,BK]
    ·rw [aF (au e hl)];exact s6 _ _ e
  ·rintro σ H2 ⟨v2,zs,rfl,f2,hz,ez,s2⟩
   exact ⟨_,rfl,k l zs _ hl s2 f2 hz ez⟩
abbrev qq:Stmt:=top 28
theorem vZ:aJ ["_law_tape_here","_law_surface","_law_ways","_law_rows","_law_i","_law_p","_law_row"] ["_law_tape_here","_law_surface","_law_ways"] (av qq):=⟨rfl,rfl,rfl,by decide +kernel,rfl,by decide +kernel,by decide +kernel⟩
def _root_.Hy {a b c d e}:=@bG a b c d e
theorem yG (D:Df K mg "_law_any_drawing" qq)(T:Bt K w mg aB)(HI:Fnc P w K mg base "_law_draw" ["_law_tape_here","_law_many"] 1 dz)(Ib:Fnc P w K mg base "_law_all_strands" ["_law_ways"] 1 rY):Fnc P w K mg base "_law_any_drawing" ["_law_tape_here","_law_surface","_law_ways"] 2 j9:=by
 have sc:=vZ
 refine D.ok sc (fun _ _ _ _ _ _ us hl=>by obtain ⟨_,_,_,rfl⟩:=tV hl;rfl) (fun vs H Q E h=>?_) (fun f HM A outer s H vs Q E hr h=>?_)
 ·obtain ⟨d,c,u,n,a,W,rfl,_⟩:=h
  rfl
 ·obtain ⟨d,c,u,n,a,W,rfl,F,hu,hW,k⟩:=h
  have Ik:=ba
  have h6:=hu.hi
  have hul:(toS u).length=2*n:=by rw [ah,hu.len]
  have e2:((toS u).length:Int) / 2=(n:Int):=by omega
  refine ⟨_,(He (@oz _ (3) _ _ _ _ _ _ _ _ _ (["_law_k"]) (["_law_k"]) ([]) _ _ _ _ sc.nd rfl (Or.inl rfl) (Hn rfl (by kernel_rfl)) rfl (Hx rfl T.range (Ha (Hf dk (Hk aM (by rfl) T.len B4 (Ha (pv 1) ae)) ao) ae)) (fun _ _ _ _=>Ho (0) (show (["_law_k"]:List Str).Nodup from by decide +kernel) rfl (Or.inl rfl)) (fun _ _ _ _=>cg) (fun _ _ _ _=>by (exact (G_ ae))) (by intro _ ;rfl) (by rfl) (by first | exact .inl rfl | exact .inr rfl | assumption)) (He (Hw Cp rfl (@d8 _ _ _ _ (Hs Ib hr (by decide) rfl (Ha (pv 2) ae))) (@kr _ _ _ _ _ _ rfl (Hy (Ho (4) sc.nd rfl (Or.inl rfl)) (Hy (Ho (5) sc.nd rfl (Or.inl rfl)) fi)) (by rfl) (by rfl)) (He (Hj (6) sc.nd rfl (Or.inl rfl) (Hg aT (pv 3) (Hl Cg DF DG dO bP (Ha (@i6 _ _ _ _ _ _ _ _ _ Cg EO ER hE (Hg eN (Hg aV (pv 2) (pv 4) (fun _ _=>rfl)) (pv 5) (fun _ _=>rfl)) (by rfl) (by rfl)) ae)) (fun _ _=>rfl))) (G8 (Hv (Hl B8 Eu Ge jc (pv 6) (Ha (Hs HI hr (by decide) rfl (Ha (pv 0) (Ha (Hf cf (Hk aH (by rfl) T.len B4 (Ha (pv 6) ae)) ao) ae))) (Ha (Ht (Ha (pv 4) (Ha (pv 5) ae))) ae))))))) (G8 (G9 (Hb cH (by rfl) T.tuple jR (Ha (Hm (["_law_row"]) (["_law_row"]) ([]) (Hn rfl (by kernel_rfl)) rfl (@d8 _ _ _ _ (pv 3)) (fun _ _ _ _=>Ho (0) (show (["_law_row"]:List Str).Nodup from by decide +kernel) rfl (Or.inl rfl)) (fun _ _ _ _=>cg) (fun _ _ _ _=>by (exact (Hb (@fY _ (K) rfl) (by rfl) T.tuple jR (Ha (pv 0) ae))))) ae)))))),?_⟩
  refine ⟨_,rfl,_,rfl,(by omega),_,_,rfl,rfl,⟨by decide,by decide⟩,_,rfl,by omega,by omega,?_⟩
  rw [e2,Ce]
  refine cT (own:=["_law_k"]) (cap:=[]) (J:=Itr 0 n) n (fun i ys σ H'=>∃ (v:Option V) (ls:List Addr),σ = [v]∧ys=ls.map V.ref∧ls.length=i∧ls.Nodup∧(∀ q∈ls,H q=none∧H' q=some (.lst []))∧az H H') ⟨none,[],rfl,rfl,rfl,CG,(fun q hq=>by cases hq),az.refl _⟩ (fun i ys σ H' hi ⟨_,ls,_,e,e3,_⟩=>by rw [e,Bo];omega) (by omega) (fun i ys σ H' hi _=>hi) (fun ys σ H' _=>BB _) ?_ ?_
  ·rintro i ys σ H1 x H2 N hi ⟨v,ls,rfl,rfl,hl,nd,hq,s1⟩ ⟨rfl,rfl⟩ hN
   refine ⟨(by show 0≤sizeLine;decide),fun q hqn=>hN _ _ _ ⟨_,ls++[q],rfl,by rw [BK];rfl,by rw [Bq,hl];rfl,?_,?_,s1.then hqn⟩⟩
   ·refine EV.mpr ⟨nd,B7.mpr ⟨Co,CG⟩,fun x hx y hy e=>?_⟩
    rw [Bu.mp hy] at e
    subst e
    have:=(hq x hx).2
    rw [hqn] at this
    cases this
   ·intro x hx
    rcases B0.mp hx with hx | hx
    ·exact ⟨(hq x hx).1,(az.new hqn) _ _ (hq x hx).2⟩
    ·rw [Bu.mp hx]
     exact ⟨none_of s1 hqn,af⟩
  rintro ys σ H1 R ⟨v,ls,rfl,rfl,hl,nd,hq,s1⟩ hR
  have s2:=s1.then (o:=.lst (ls.map V.ref)) hR
  have fR:(upd H1 R (.lst (ls.map V.ref))) R=some (.lst (ls.map V.ref)):=af
  have q2:∀ q∈ls,(upd H1 R (.lst (ls.map V.ref))) q=some (.lst []):=fun q hm=>(az.new hR) _ _ (hq q hm).2
  have nR:∀ q∈ls,q≠R:=fun q hm=>au (hq q hm).2 hR
  have hRH:H R=none:=none_of s1 hR
  generalize upd H1 R (.lst (ls.map V.ref))=H2 at s2 fR q2 ⊢
  have hW2:=hW.same s2
  refine ⟨_,rfl,a,n,W,rfl,hW2,fun l zs H3 hl3 s3 f3 hz ez=>⟨l,rfl,⟨_,SqL.of f3⟩,?_⟩⟩
  have s03:=s2.trans s3
  have hlH:H l=none:=none_of s2 hl3
  have zl:zs.length≤60:=by
   have:=d5 (fun w hw=>(hW.ws w hw).2.1) W.length
   have e:(cP W).length=(se W W.length).length:=rfl
   have hle:=hW.le
   rw [← e,← ez,Bo] at this
   omega
  have zok:∀ z∈zs,okS W z.2=true:=fun z Il=>cY.mp (by rw [← ez];exact B2.mpr ⟨z,Il,rfl⟩)
  have nl:∀ q∈ls,q≠l:=fun q hm=>au (q2 q hm) hl3
  have nRl:R≠l:=au fR hl3
  have nd_:∀ q∈ls,q≠d∧q≠c:=fun q hm=>⟨F.ne (hq q hm).1,F.nec (hq q hm).1⟩
  have hRd:=F.ne hRH
  have hld:=F.ne hlH
  refine kC (xs:=(zs.map (·.1)).map V.ref) (fun j σ H'=>∃ v4 v5 v6:Option V,σ = [some (.ref d),some (tx u),some (.ref a),some (.ref R),v4,v5,v6]∧H' R=some (.lst (ls.map V.ref))∧H' l=some (.lst ((zs.map (·.1)).map V.ref))∧StA H' zs∧Wy4 n W H' a∧(∀ (m:Nat) (q:Addr),ls[m]? = some q→yi W ((zs.map (·.2)).take j) H' m q)∧Tp H' d c∧bD d H H') ⟨none,none,none,rfl,s3 _ _ fR,f3,hz,hW2.same s3,(fun m q hm=>⟨[],s3 _ _ (q2 q (BQ hm)),(fun z hz=>by cases hz),.nil⟩),F.same s03,s03.b⟩ (fun j σ H' _ ⟨_,_,_,_,_,q,_⟩=>SqL.of q) ?_ ?_
  ·rintro j x σ H4 hx ⟨v4,v5,v6,rfl,gR,gl,hz4,hW4,rw4,F4,sb4⟩
   rw [BH,BH] at hx
   cases hz1:zs[j]? with
   | none=>rw [hz1] at hx;cases hx
   | some z =>
    rw [hz1] at hx
    obtain rfl:=BA hx
    have hm:=BQ hz1
    have hj:j < zs.length:=(Bv.mp hz1).1
    have ok1:=zok z hm
    have lt:=pS (fun w hw=>(hW.ws w hw).2.2) ok1
    have hz5:=hz4 z hm
    obtain ⟨z0,p1,p2⟩:=z
    have hz5:H4 z0=some (.tup [.int p1,.int p2]):=hz5
    have ok1:okS W (p1,p2)=true:=ok1
    have lt:ltS W (p1,p2) < n:=lt
    unfold okS at ok1
    simp only [BZ,Cf] at ok1
    obtain ⟨⟨o1,o2⟩,o3,o4⟩:=ok1
    have hwl:=lS hW p1.toNat
    refine ⟨z0,_,rfl,SqT.of hz5,rfl,_,_,rfl,_,_,rfl,rfl,?_⟩
    refine ⟨_,rfl,rfl,_,rfl,_,rfl,a,_,_,_,rfl,rfl,SqT.of hW4.at_,j8 o1 o2,_,rfl,_,_,_,rfl,rfl,(by rw [ah];omega),pR o3 o4,?_⟩
    have lt':ltS W (p1,p2)=((W.getD p1.toNat []).getD p2.toNat 0).val % 6:=rfl
    generalize (W.getD p1.toNat []).getD p2.toNat 0=x1 at lt' ⊢
    refine ⟨rfl,_,rfl,rfl,(by show 1≤5592405;decide),?_⟩
    rw [show (⟨#[cp x1]⟩:Str)=toS [x1] from rfl,tR]
    have kx:x1.val % 6 < n:=by omega
    obtain ⟨rest,ho⟩:=tS (x:=⟨x1.val % 6,by omega⟩) (by show x1.val % 6 < 6;omega)
    have hk:x1.val % 6 < ls.length:=by omega
    obtain ⟨q,hqk⟩:∃ q,ls[x1.val % 6]? = some q:=⟨_,fu hk⟩
    have qm:=BQ hqk
    obtain ⟨row,g1,g2,g3⟩:=rw4 _ q hqk
    have rl:row.length≤60:=by
     have h1:=g3.length_eq
     rw [Bo] at h1
     rw [h1]
     refine Cr (Ed _ _) ?_
     rw [BL,Bo]
     omega
    have el:((row.map (·.1)).map V.ref).length=row.length:=by rw [Bo,Bo]
    obtain ⟨nqd,nqc⟩:=nd_ q qm
    refine ⟨_,_,_,rest,rfl,rfl,ho,R,_,_,_,rfl,rfl,SqL.of gR,bM (v:=.ref q) (by rw [BH,hqk];rfl),?_⟩
    refine ⟨_,rfl,.inl ⟨rfl,_,SqL.of g1⟩,_,rfl,_,rfl,q,_,rfl,.inl (SqL.of g1),_,_,rfl,rfl,d,c,_,rfl,F4,by omega,by omega,fun b H5 b0 b1 F5 sb5=>?_⟩
    rw [el] at b1
    have g5:=sb5 _ _ nqd g1
    refine ⟨_,rfl,_,rfl,(aY (n:=2) (by decide)),fun t ht=>?_⟩
    have s6:az H5 (upd H5 t (.tup [.int p1,.int p2])):=az.new ht
    have g6:=s6 _ _ g5
    have F6:=F5.same s6
    have t6:(upd H5 t (.tup [.int p1,.int p2])) t=some (.tup [.int p1,.int p2]):=af
    generalize upd H5 t (.tup [.int p1,.int p2])=H6 at s6 g6 F6 t6 ⊢
    refine ⟨q,_,b,_,rfl,rfl,g6,b0,by omega,by omega,?_⟩
    have ei:((row.map (·.1)).map V.ref).take b.toNat++V.ref t::((row.map (·.1)).map V.ref).drop b.toNat=((row.take b.toNat++(t,p1,p2)::row.drop b.toNat).map (·.1)).map V.ref:=by
     rw [← Gh,← Gh,← EF,← EF,BK,BK]
     rfl
    rw [ei]
    have keep:∀ (zz:List V) b o,b≠d→b≠q→H4 b=some o→(upd H6 q (.lst zz)) b=some o:=fun zz b o n1 n2 e=>by rw [aF n2];exact s6 _ _ (sb5 _ _ n1 e)
    have HQ:∀ (zz:List V) b xs,H4 b=some (.tup xs)→(upd H6 q (.lst zz)) b=some (.tup xs):=fun zz b xs e=>keep zz b _ (F4.nt e) (eW e g1 (by intro z;cases z)) e
    refine ⟨_,_,_,rfl,keep _ _ _ hRd (nR q qm).symm gR,keep _ _ _ hld (nl q qm).symm gl,fun z Il=>HQ _ _ _ (hz4 z Il),⟨HQ _ _ _ hW4.at_,hW4.le,hW4.lo,hW4.ws⟩,fun m' q' hq'=>?_,F6.but nqd nqc bD.upd,fun b o nb e=>?_⟩
    ·have et:(zs.map (·.2)).take (j+1)=(zs.map (·.2)).take j++[(p1,p2)]:=by
      rw [Dl,BH,hz1]
      rfl
     by_cases eq:q'=q
     ·subst eq
      have em:m'=x1.val % 6:=by
       have a1:=(Bv.mp hq').1
       have a2:=(Bv.mp hq').2
       have a3:=(Bv.mp hqk).2
       have e1:=nd.idxOf_getElem m' a1
       have e3:=nd.idxOf_getElem (x1.val % 6) hk
       rw [a2] at e1
       rw [a3] at e3
       exact e1.symm.trans e3
      subst em
      refine ⟨row.take b.toNat++(t,p1,p2)::row.drop b.toNat,af,fun z Il=>?_,?_⟩
      ·have Il:z=(t,p1,p2) ∨ z∈row:=by
        rcases B0.mp Il with Il | Il
        ·exact .inr (CS Il)
        ·rcases BU.mp Il with Il | Il
         ·exact .inl Il
         ·exact .inr (C0 Il)
       rcases Il with rfl | Il
       ·show (upd H6 q' _) t=_
        rw [aF (eW t6 g6 (by intro z;cases z))]
        exact t6
       ·exact HQ _ _ _ (g2 z Il)
      ·rw [et,EK,CC (by show decide (ltS W (p1,p2)=x1.val % 6)=true;exact BD lt')]
       refine List.Perm.trans (List.Perm.map _ (Gy.trans (List.Perm.cons _ (List.Perm.of_eq (B3 _ _))))) ?_
       exact (List.Perm.cons _ g3).trans (CN (l₁:=[(p1,p2)]))
     ·have ne:¬ m'=x1.val % 6:=fun e=>eq (by rw [e,hqk] at hq';exact (BA hq').symm)
      have:=(rw4 m' q' hq').to (H':=upd H6 q (.lst (((row.take b.toNat++(t,p1,p2)::row.drop b.toNat).map (·.1)).map V.ref))) (fun xs e=>keep _ _ _ (nd_ q' (BQ hq')).1 eq e) (HQ _)
      rw [et]
      obtain ⟨HW,h1,h2,h3⟩:=this
      refine ⟨HW,h1,h2,?_⟩
      rw [EK,CF (by show ¬ decide (ltS W (p1,p2)=m')=true;rw [lt'];simpa using fun e=>ne e.symm),List.filter_nil,CV]
      exact h3
    ·rw [aF (au e (hq q qm).1)];exact s6 _ _ (sb5 _ _ nb (sb4 _ _ nb e))
  ·rintro σ H4 ⟨v4,v5,v6,rfl,gR,gl,hz4,hW4,rw4,F4,sb4⟩
   rw [Bo,Bo] at rw4
   have rw5:∀ (m:Nat) (q:Addr),ls[m]? = some q→yi W (cP W) H4 m q:=fun m q h=>by
    have:=rw4 m q h
    rwa [B6 (by rw [Bo];exact BB _),ez] at this
   refine ⟨_,rfl,R,rfl,⟨_,SqL.of gR⟩,?_⟩
   refine dP (xs:=ls.map V.ref) (own:=["_law_row"]) (cap:=[]) (fun i ys σ H'=>∃ (v:Option V) (bs:List Addr) (rows:List (List (Int × Int))),σ = [v]∧ys=bs.map V.ref∧bs.length=i∧rows.length=i∧(∀ (m:Nat) (b:Addr),bs[m]? = some b→∃ row:List (Addr × Int × Int),H' b=some (.tup ((row.map (·.1)).map V.ref))∧StA H' row∧rows[m]? = some (row.map (·.2)))∧(∀ (m:Nat) (row:List (Int × Int)),rows[m]? = some row→row.Perm (yP W m))∧az H4 H') ⟨none,[],[],rfl,rfl,rfl,rfl,(fun m b e=>by simp at e),(fun m b e=>by simp at e),az.refl _⟩ (fun i ys σ H' hi ⟨_,bs,_,_,e,e2,_⟩=>by rw [e,Bo];omega) (by rw [Bo];omega) (fun i ys σ H' ⟨_,_,_,_,_,_,_,_,_,q⟩=>SqL.of (q _ _ gR)) ?_ ?_
   ·rintro i ys σ H5 y N hy ⟨v,bs,rows,rfl,rfl,hbl,hrl,hb,hpm,s5⟩ hN
    rw [BH] at hy
    cases hqi:ls[i]? with
    | none=>rw [hqi] at hy;cases hy
    | some q =>
     rw [hqi] at hy
     obtain rfl:=BA hy
     obtain ⟨row,g1,g2,g3⟩:=rw5 i q hqi
     refine ⟨_,rfl,q,_,rfl,.inl ⟨SqL.of (s5 _ _ g1),fun t ht=>hN _ _ _ ⟨_,bs++[t],rows++[row.map (·.2)],rfl,by rw [BK];rfl,by rw [Bq,hbl];rfl,by rw [Bq,hrl];rfl,fun m b e=>?_,fun m rw e=>?_,s5.then ht⟩⟩⟩
     ·by_cases hm:m < bs.length
      ·rw [B9 hm] at e
       obtain ⟨HW,h1,h2,h3⟩:=hb m b e
       exact ⟨HW,az.new ht _ _ h1,h2.same (az.new ht),by rw [B9 (by omega)];exact h3⟩
      ·have em:m=bs.length:=by
        have:=(Bv.mp e).1
        rw [Bq] at this
        have:m < bs.length+1:=this
        omega
       subst em
       rw [Ee] at e
       obtain rfl:=BA e
       exact ⟨row,af,(g2.same s5).same (az.new ht),by rw [hbl,← hrl,Ee]⟩
     ·by_cases hm:m < rows.length
      ·rw [B9 hm] at e
       exact hpm m rw e
      ·have em:m=rows.length:=by
        have:=(Bv.mp e).1
        rw [Bq] at this
        have:m < rows.length+1:=this
        omega
       subst em
       rw [Ee] at e
       rw [← BA e,hrl]
       exact g3
   ·rintro ys σ H5 L5 ⟨v,bs,rows,rfl,rfl,hbl,hrl,hb,hpm,s5⟩ hL
    rw [Bo] at hbl hrl
    have s6:=s5.then (o:=.lst (bs.map V.ref)) hL
    have s56:az H5 (upd H5 L5 (.lst (bs.map V.ref))):=az.new hL
    have g6:(upd H5 L5 (.lst (bs.map V.ref))) L5=some (.lst (bs.map V.ref)):=af
    generalize upd H5 L5 (.lst (bs.map V.ref))=H6 at s6 s56 g6 ⊢
    refine ⟨L5,_,rfl,.inl ⟨SqL.of g6,fun r hr=>?_⟩⟩
    refine k r rows _ ((F4.same s6).new hr) (sb4.trans (s6.then hr).b) ⟨⟨bs,af,by omega,fun m b e=>?_⟩,by omega,hpm⟩
    obtain ⟨HW,h1,h2,h3⟩:=hb m b e
    have s7:=s56.then (o:=.tup (bs.map V.ref)) hr
    exact ⟨HW,s7 _ _ h1,h2.same s7,h3⟩
abbrev km:Stmt:=top 29
theorem sJ:aJ ["_law_surface","_law_drawing","_law_found","_law_end","_law_row"] ["_law_surface","_law_drawing"] (av km):=⟨rfl,rfl,rfl,by decide +kernel,rfl,by decide +kernel,by decide +kernel⟩
theorem v9 (D:Df K mg "_law_all_spots" km)(T:Bt K w mg aB):Fnc P w K mg base "_law_all_spots" ["_law_surface","_law_drawing"] 1 j_:=by
 have sc:=sJ
 refine D.ok sc (fun _ _ _ _ _ _ us hl=>by obtain ⟨_,_,rfl⟩:=wk hl;rfl) (fun vs H Q E h=>?_) (fun f HM A outer s H vs Q E hr h=>?_)
 ·obtain ⟨u,r,n,W,rows,rfl,_⟩:=h
  rfl
 ·obtain ⟨u,r,n,W,rows,rfl,U,dw,rlen,k⟩:=h
  have Ik:=ba
  have hul:=U.len
  have h6:=U.hi
  refine ⟨_,(He (Hj (2) sc.nd rfl (Or.inl rfl) (G_ ae)) (He (Hw Cp rfl (@kN _ _ _ _ (pv 0)) (Ho (3) sc.nd rfl (Or.inr rfl)) (He (Hj (4) sc.nd rfl (Or.inl rfl) (Hb eO (by rfl) T.list sY (Ha (Hg aV (pv 1) (Hl Cg DF DG dO bP (Ha (@i6 _ _ _ _ _ _ _ _ _ Cg EO ER hE (pv 3) (by rfl) (by rfl)) ae)) (fun _ _=>rfl)) ae))) (He (Hh (Hi iV (pv 3) bP rfl) (G8 (Hv (@i6 _ _ _ _ _ _ _ _ _ B8 PySem.F.slot_list_reverse PySem.F.type_list_reverse mw (pv 4) (by rfl) (by rfl)))) bB) (G8 (Hv (Hl B8 C8 C9 cv (pv 2) (Ha (Hm (["_law_strand","_law_end"]) (["_law_strand"]) ([3]) (Hn rfl (by kernel_rfl)) rfl (@d8 _ _ _ _ (pv 4)) (fun _ _ _ _=>Ho (0) (show (["_law_strand","_law_end"]:List Str).Nodup from by decide +kernel) rfl (Or.inl rfl)) (fun _ _ _ _=>cg) (fun _ _ _ _=>by (exact (Ht (Ha (pv 1) (Ha (pv 0) ae)))))) ae))))))) (G8 (G9 (pv 2))))),?_⟩
  refine ⟨(by show 0≤sizeLine;decide),fun l hl=>?_⟩
  have s1:az H (upd H l (.lst [])):=az.new hl
  have f1:(upd H l (.lst [])) l=some (.lst ((([]:List Pt).map (·.1)).map V.ref)):=af
  generalize upd H l (.lst [])=H1 at s1 f1 ⊢
  refine ⟨_,rfl,_,rfl,nU (z:=toS u) (fun i σ H'=>∃ (v3 v4:Option V) (zs:List Pt),σ = [some (tx u),some (.ref r),some (.ref l),v3,v4]∧H' l=some (.lst ((zs.map (·.1)).map V.ref))∧PtA H' zs∧zs.length≤60*i∧zs.map ptZ=bS rows (u.take i)∧az H H') ⟨none,none,[],rfl,f1,(fun z hz=>by cases hz),BB _,rfl,s1⟩ ?_ ?_⟩
  ·rintro i cc σ H2 hc ⟨v3,v4,zs,rfl,f2,hz,zl,ez,s2⟩
   obtain ⟨x,hx,ex⟩:=eB hc
   rw [ex]
   have hi:i < u.length:=(Bv.mp hx).1
   have hxn:x.val % 6 < n:=(U.mem x).mp (BQ hx)
   obtain ⟨bs,h1,h2,h3⟩:=(dw.same s2).ex
   obtain ⟨b,hb⟩:∃ b,bs[x.val % 6]? = some b:=⟨_,fu (by omega)⟩
   obtain ⟨row,g1,g2,g3⟩:=h3 _ b hb
   have er:rows.getD (x.val % 6) []=row.map (·.2):=by rw [By,g3];rfl
   obtain ⟨rest,ho⟩:=tS (x:=⟨x.val % 6,by omega⟩) (by show x.val % 6 < 6;omega)
   refine ⟨_,rfl,rfl,_,rfl,rfl,_,rfl,rfl,(by show 1≤5592405;decide),?_⟩
   rw [tR]
   refine ⟨_,_,_,rest,rfl,rfl,ho,r,_,_,_,rfl,rfl,SqT.of h1,bM (v:=.ref b) (by rw [BH,hb];rfl),b,_,rfl,.inr (SqT.of g1),fun lr hlr=>?_⟩
   have s3:az H2 (upd H2 lr (.lst ((row.map (·.1)).map V.ref))):=az.new hlr
   have f3:(upd H2 lr (.lst ((row.map (·.1)).map V.ref))) lr=some (.lst ((row.map (·.1)).map V.ref)):=af
   have nlr:l≠lr:=au f2 hlr
   generalize upd H2 lr (.lst ((row.map (·.1)).map V.ref))=H3 at s3 f3 ⊢
   refine vw ?_
   refine vt (fun σ2 H4=>∃ HW:List (Addr × Int × Int),σ2=[some (tx u),some (.ref r),some (.ref l),some (tx [x]),some (.ref lr)]∧H4 lr=some (.lst ((HW.map (·.1)).map V.ref))∧StA H4 HW∧HW.map (·.2)=eU rows x∧az H2 H4) (fun D' nx=>?_) ?_
   ·refine ⟨_,rfl,_,_,rfl,rfl,_,rfl,?_⟩
    rw [s_]
    by_cases c:x.val < 6
    ·rw [Bs (show ¬ ¬ x.val < 6 from fun q=>q c)]
     refine tw (nx _ _ ⟨row,rfl,f3,g2.same s3,?_,s3⟩)
     unfold eU
     rw [if_pos c,er]
    ·rw [BD c]
     refine we ⟨_,rfl,.inl ⟨rfl,_,SqL.of f3⟩,lr,_,rfl,rfl,f3,nx _ _ ⟨row.reverse,rfl,by rw [af,E9,E9],fun z Il=>?_,?_,fun q o e=>?_⟩⟩
     ·have:=s3 _ _ (g2 z (Ep.mp Il))
      rw [aF (eW this f3 (by intro z;cases z))]
      exact this
     ·unfold eU
      rw [if_neg c,er,E9]
     ·rw [aF (au e hlr)]
      exact s3 _ _ e
   rintro σ2 H4 ⟨HW,rfl,f4,st,er',s4⟩
   have rl:HW.length≤60:=by
    have:=rlen x
    rw [← er',Bo] at this
    exact this
   have fl4:=s4 _ _ f2
   refine ⟨_,rfl,.inl ⟨rfl,_,SqL.of fl4⟩,_,rfl,lr,rfl,⟨_,SqL.of f4⟩,?_⟩
   refine dP (xs:=(HW.map (·.1)).map V.ref) (own:=["_law_strand"]) (cap:=[3]) (fun j ys σ H'=>∃ (v:Option V) (ps:List Pt),σ = [v,some (tx [x])]∧ys=(ps.map (·.1)).map V.ref∧ps.length=j∧PtA H' ps∧ps.map ptZ=(HW.take j).map (fun z=>(x,z.2))∧az H4 H') ⟨none,[],rfl,rfl,rfl,(fun z hz=>by cases hz),rfl,az.refl _⟩ (fun j ys σ H' hj ⟨_,ps,_,e,e2,_⟩=>by rw [e,Bo,Bo];omega) (by rw [Bo,Bo];omega) (fun j ys σ H' ⟨_,_,_,_,_,_,_,q⟩=>SqL.of (q _ _ f4)) ?_ ?_
   ·rintro j ys σ H5 y N hy ⟨v,ps,rfl,rfl,pl,hp,ep,s5⟩ hN
    rw [BH,BH] at hy
    cases hzj:HW[j]? with
    | none=>rw [hzj] at hy;cases hy
    | some z =>
     rw [hzj] at hy
     obtain rfl:=BA hy
     have hm:=BQ hzj
     refine ⟨_,rfl,_,rfl,(aY (n:=2) (by decide)),fun t ht=>hN _ _ _ ⟨_,ps++[(t,x,z.1,z.2)],rfl,by rw [BK,BK];rfl,by rw [Bq,pl];rfl,?_,?_,s5.then ht⟩⟩
     ·refine (hp.to fun c xs e=>az.new ht _ _ e).app fun y hy=>?_
      rw [Bu.mp hy]
      exact ⟨af,az.new ht _ _ (s5 _ _ (st z hm))⟩
     ·rw [BK,ep,Dl,hzj,FH,BK]
      rfl
   ·rintro ys σ H5 q ⟨v,ps,rfl,rfl,pl,hp,ep,s5⟩ hq
    rw [Bo,Bo] at pl ep
    rw [C7] at ep
    have s6:az H5 (upd H5 q (.lst ((ps.map (·.1)).map V.ref))):=az.new hq
    have g6:(upd H5 q (.lst ((ps.map (·.1)).map V.ref))) q=some (.lst ((ps.map (·.1)).map V.ref)):=af
    generalize upd H5 q (.lst ((ps.map (·.1)).map V.ref))=H6 at s6 g6 ⊢
    have s26:=s4.trans (s5.trans s6)
    have f6:=s26 _ _ f2
    refine ⟨l,q,_,_,rfl,rfl,f6,g6,by rw [Bo,Bo,Bo,Bo];omega,?_⟩
    have HQ:∀ (zz:List V) b xs,H6 b=some (.tup xs)→(upd H6 l (.lst zz)) b=some (.tup xs):=fun zz b xs e=>by
     rw [aF (eW e f6 (by intro z;cases z))];exact e
    refine ⟨_,_,zs++ps,rfl,by rw [af,BK,BK],?_,by rw [Bq];omega,?_,fun b o e=>?_⟩
    ·exact ((hz.to fun c xs e=>s26 _ _ e).app (hp.to fun c xs e=>s6 _ _ e)).to (HQ _)
    ·rw [BK,ez,ep,cE hx]
     unfold bS
     rw [Dm,CQ,Fe,CV,← er',Dd]
     rfl
    ·rw [aF (au e hl)];exact s26 _ _ (s2 _ _ e)
  ·rintro σ H2 ⟨v3,v4,zs,rfl,f2,hz,zl,ez,s2⟩
   rw [bH,C7] at ez
   exact ⟨_,rfl,k l zs _ hl s2 f2 hz ez⟩
abbrev v_:Stmt:=top 31
theorem yH:aJ ["_law_one","_law_other","_law_low","_law_high"] ["_law_one","_law_other"] (av v_):=⟨rfl,rfl,rfl,by decide +kernel,rfl,by decide +kernel,by decide +kernel⟩
theorem Ar (D:Df K mg "_law_crosses" v_)(T:Bt K w mg aB):Fnc P w K mg base "_law_crosses" ["_law_one","_law_other"] 1 vx:=by
 have sc:=yH
 refine D.ok sc (fun _ _ _ _ _ _ us hl=>by obtain ⟨_,_,rfl⟩:=wk hl;rfl) (fun vs H Q E h=>?_) (fun f HM A outer s H vs Q E hr h=>?_)
 ·obtain ⟨p,q,x,y,a,b,c,d,rfl,_⟩:=h
  rfl
 ·obtain ⟨p,q,x,y,a,b,c,d,rfl,hp,hq,k⟩:=h
  have Ik:=ba
  refine ⟨_,(He (@iS _ _ _ _ _ _ (Hk (@bO _ _ rfl) (by rfl) T.sorted e_ (Ha (Hc oZ (pv 0) (Hd ao) bx) ae)) (@xC _ _ _ _ _ _ rfl (Hy (Ho (2) sc.nd rfl (Or.inr rfl)) (Hy (Ho (3) sc.nd rfl (Or.inr rfl)) fi)) (by rfl) (by rfl)) (by rfl) (by rfl) (by rfl)) (G8 (G9 (@gK _ _ _ _ _ _ _ _ dH (Hk aH (by rfl) T.len B4 (Ha (Hm (["_law_place","_law_low","_law_high"]) (["_law_place"]) ([2,3]) (Hn rfl (by kernel_rfl)) rfl (@sP _ _ _ _ (Hc oZ (pv 1) (Hd ao) bx)) (fun _ _ _ _=>Ho (0) (show (["_law_place","_law_low","_law_high"]:List Str).Nodup from by decide +kernel) rfl (Or.inl rfl)) (fun _ _ _ _=>(@g_ _ _ _ (by exact (@qF _ _ _ _ _ _ _ _ _ _ _ _ fV fV (pv 1) (pv 0) (pv 2) (by with_unfolding_all rfl))))) (fun _ _ _ _=>by (exact (pv 0)))) ae)) ao (aX _))))),?_⟩
  refine ⟨_,rfl,_,rfl,p,_,rfl,hp,fun r1 H1 s1 g1=>?_⟩
  have g1:H1 r1=some (.tup ([(a:Int),(b:Int)].map V.int)):=g1
  refine ⟨r1,_,rfl,.inr (SqT.of g1),fun p2 zs hp2 pm so=>?_⟩
  obtain rfl:=mP pm so
  have s2:=s1.then (o:=.lst ([((min a b:Nat):Int),((max a b:Nat):Int)].map V.int)) hp2
  have g2:(upd H1 p2 (.lst ([((min a b:Nat):Int),((max a b:Nat):Int)].map V.int))) p2=some (.lst [.int ((min a b:Nat):Int),.int ((max a b:Nat):Int)]):=af
  generalize upd H1 p2 (.lst ([((min a b:Nat):Int),((max a b:Nat):Int)].map V.int))=H2 at s2 g2 ⊢
  refine ⟨p2,_,rfl,SqL.of g2,rfl,_,_,rfl,_,_,rfl,rfl,?_⟩
  generalize hlo:min a b=lo
  generalize hhi:max a b=hi
  refine ⟨_,rfl,_,rfl,q,_,rfl,s2 _ _ hq,fun r2 H3 s3 g3=>⟨r2,rfl,⟨_,SqT.of g3⟩,?_⟩⟩
  have g3:H3 r2=some (.tup ([c,d].map fun z:Nat=>V.int (z:Int))):=g3
  refine qZ (xs:=[c,d].map fun z:Nat=>V.int (z:Int)) (own:=["_law_place"]) (cap:=[2,3]) (fun j ys σ H'=>∃ v:Option V,σ = [v,some (.int (lo:Int)),some (.int (hi:Int))]∧ys=(([c,d].take j).filter (btw lo hi)).map (fun z:Nat=>V.int (z:Int))∧H'=H3) ⟨none,rfl,rfl,rfl⟩ (fun j ys σ H' hj ⟨_,_,e,_⟩=>?_) (aY (n:=2) (by decide)) (fun j ys σ H' ⟨_,_,_,e⟩=>SqT.of (by rw [e];exact g3)) ?_ ?_
  ·rw [e,Bo]
   exact Cr (Ed _ _) (by rw [BL];omega)
  ·rintro j ys σ H4 z N hz ⟨v,rfl,rfl,rfl⟩ hN
   rw [BH] at hz
   cases hzj:[c,d][j]? with
   | none=>rw [hzj] at hz;cases hz
   | some m =>
    rw [hzj] at hz
    obtain rfl:=BA hz
    have et:(([c,d].take (j+1)).filter (btw lo hi))=(([c,d].take j).filter (btw lo hi))++(if btw lo hi m=true then [m] else []):=by
     rw [Dl,hzj,FH,EK]
     congr 1
     by_cases q:btw lo hi m=true
     ·rw [if_pos q,CC q];rfl
     ·rw [if_neg q,CF q];rfl
    have yes:btw lo hi m=true→N ((([c,d].take j).filter (btw lo hi)).map (fun z:Nat=>V.int (z:Int))++[V.int (m:Int)]) [some (V.int (m:Int)),some (.int (lo:Int)),some (.int (hi:Int))] H4:=fun q=>hN _ _ _ ⟨_,rfl,by rw [et,if_pos q,BK];rfl,rfl⟩
    have no:¬ btw lo hi m=true→N ((([c,d].take j).filter (btw lo hi)).map (fun z:Nat=>V.int (z:Int))) [some (V.int (m:Int)),some (.int (lo:Int)),some (.int (hi:Int))] H4:=fun q=>hN _ _ _ ⟨_,rfl,by rw [et,if_neg q,CV],rfl⟩
    refine ⟨_,rfl,_,rfl,_,_,rfl,rfl,_,rfl,?_⟩
    by_cases h1:lo < m
    ·refine ou (BD (by omega)) ⟨_,rfl,_,_,rfl,rfl,_,rfl,?_⟩
     by_cases h2:m < hi
     ·exact ou (BD (by omega)) ⟨_,rfl,yes (BD ⟨h1,h2⟩)⟩
     ·exact ow (Bs (by omega)) (no (by unfold btw;rw [BE];omega))
    ·exact ow (Bs (by omega)) ⟨_,rfl,sU (no (by unfold btw;rw [BE];omega))⟩
  ·rintro ys σ H4 l ⟨v,rfl,rfl,rfl⟩ hl
   refine ⟨l,_,rfl,.inl (SqL.of af),rfl,?_⟩
   rw [Bo]
   have e:=vy lo hi c d
   have k:=k _ ((s2.trans s3).then (o:=.lst (([c,d].filter (btw lo hi)).map fun z:Nat=>V.int (z:Int))) hl)
   have em:yg a b c d=(btw lo hi c != btw lo hi d):=by unfold yg btw;rw [hlo,hhi]
   rw [em,← e] at k
   exact k
abbrev ko:Stmt:=top 33
theorem sL:aJ ["_law_found","_law_i","_law_j"] ["_law_found","_law_i","_law_j"] (av ko):=⟨rfl,rfl,rfl,by decide +kernel,rfl,by decide +kernel,by decide +kernel⟩
theorem wa (D:Df K mg "_law_count" ko)(T:Bt K w mg aB):Fnc P w K mg base "_law_count" ["_law_found","_law_i","_law_j"] 1 iL:=by
 have sc:=sL
 refine D.ok sc (fun _ _ _ _ _ _ us hl=>by obtain ⟨_,_,_,rfl⟩:=tV hl;rfl) (fun vs H Q E h=>?_) (fun f HM A outer s H vs Q E hr h=>?_)
 ·obtain ⟨l,zs,i,j,rfl,_⟩:=h
  rfl
 ·obtain ⟨l,zs,i,j,rfl,hl,hz,zl,k⟩:=h
  have Ik:=ba
  refine ⟨_,(G8 (G9 (Hk aH (by rfl) T.len B4 (Ha (Hm (["_law_one","_law_other","_law_i","_law_j"]) (["_law_one","_law_other"]) ([1,2]) (Hn rfl (by kernel_rfl)) rfl (@d8 _ _ _ _ (pv 0)) (fun _ _ _ _=>@uH _ (K) _ _ _ (2) _ rfl rfl (Hy (Ho (0) (show (["_law_one","_law_other","_law_i","_law_j"]:List Str).Nodup from by decide +kernel) rfl (Or.inl rfl)) (Hy (Ho (1) (show (["_law_one","_law_other","_law_i","_law_j"]:List Str).Nodup from by decide +kernel) rfl (Or.inl rfl)) fi)) (by rfl) (by rfl)) (fun _ _ _ _=>(@g_ _ _ _ (by exact (Hi (@oY _ (by exact hr.units)) (Hk (@bO _ _ rfl) (by rfl) T.sorted e_ (Ha (G_ (Ha (Hg (@ip _ (K) rfl) (pv 0) ao (fun _ _=>rfl)) (Ha (Hg (@ip _ (K) rfl) (pv 1) ao (fun _ _=>rfl)) ae))) ae)) (Hk (@bO _ _ rfl) (by rfl) T.sorted e_ (Ha (G_ (Ha (pv 2) (Ha (pv 3) ae))) ae)) (aX _))))) (fun _ _ _ _=>by (exact (pv 0)))) ae)))),?_⟩
  refine ⟨_,rfl,l,rfl,⟨_,SqL.of hl⟩,?_⟩
  refine dP (xs:=(zs.map (·.1)).map V.ref) (own:=["_law_one","_law_other"]) (cap:=[1,2]) (fun m ys σ H'=>∃ v w:Option V,σ = [v,w,some (.int i),some (.int j)]∧ys.length=((zs.take m).map crZ).countP (lV i j)∧az H H') ⟨none,none,rfl,rfl,az.refl _⟩ (fun m ys σ H' hm ⟨_,_,_,e,_⟩=>?_) (by rw [Bo,Bo];omega) (fun m ys σ H' ⟨_,_,_,_,q⟩=>SqL.of (q _ _ hl)) ?_ ?_
  ·rw [e]
   refine Cr (List.countP_le_length) ?_
   rw [Bo,BL]
   omega
  ·rintro m ys σ H1 y N hy ⟨v,w',rfl,ey,s1⟩ hN
   rw [BH,BH] at hy
   cases hzm:zs[m]? with
   | none=>rw [hzm] at hy;cases hy
   | some z =>
    rw [hzm] at hy
    obtain rfl:=BA hy
    obtain ⟨z1,z2,z3⟩:=(hz.same s1) z (BQ hzm)
    have et:((zs.take (m+1)).map crZ).countP (lV i j)=((zs.take m).map crZ).countP (lV i j)+(if lV i j (crZ z)=true then 1 else 0):=by
     rw [Dl,hzm,FH,BK,FF]
     congr 1
     rw [Cd,FC,Dx,List.countP_nil,FD]
    refine ⟨z.1,_,rfl,SqT.of z1,rfl,_,_,rfl,_,_,rfl,rfl,?_⟩
    refine ⟨_,rfl,z.2.1.1,_,_,_,rfl,rfl,SqT.of z2,rfl,_,rfl,z.2.2.1,_,_,_,rfl,rfl,SqT.of z3,rfl,(aY (n:=2) (by decide)),fun t1 ht1=>?_⟩
    have s2:=s1.then (o:=.lst ([z.2.1.2.1,z.2.2.2.1].map V.int)) ht1
    have g2:(upd H1 t1 (.lst ([z.2.1.2.1,z.2.2.2.1].map V.int))) t1=some (.lst ([z.2.1.2.1,z.2.2.2.1].map V.int)):=af
    change bp K [.ref t1] (upd H1 t1 (.lst ([z.2.1.2.1,z.2.2.2.1].map V.int))) _
    generalize upd H1 t1 (.lst ([z.2.1.2.1,z.2.2.2.1].map V.int))=H2 at s2 g2 ⊢
    refine ⟨t1,_,rfl,.inl (SqL.of g2),fun p a hp pa sa=>?_⟩
    have s3:=s2.then (o:=.lst (a.map V.int)) hp
    have g3:(upd H2 p (.lst (a.map V.int))) p=some (.lst (a.map V.int)):=af
    generalize upd H2 p (.lst (a.map V.int))=H3 at s3 g3 ⊢
    refine ⟨_,rfl,_,rfl,(aY (n:=2) (by decide)),fun t2 ht2=>?_⟩
    have s4:az H3 (upd H3 t2 (.lst ([i,j].map V.int))):=az.new ht2
    have g4:(upd H3 t2 (.lst ([i,j].map V.int))) t2=some (.lst ([i,j].map V.int)):=af
    change bp K [.ref t2] (upd H3 t2 (.lst ([i,j].map V.int))) _
    generalize upd H3 t2 (.lst ([i,j].map V.int))=H4 at s4 g4 ⊢
    refine ⟨t2,_,rfl,.inl (SqL.of g4),fun q b hq pb sb=>?_⟩
    have s5:az H4 (upd H4 q (.lst (b.map V.int))):=az.new hq
    have g5:(upd H4 q (.lst (b.map V.int))) q=some (.lst (b.map V.int)):=af
    generalize upd H4 q (.lst (b.map V.int))=H5 at s5 g5 ⊢
    have s6:=s3.trans (s4.trans s5)
    refine vz ((s4.trans s5) _ _ g3) g5 ⟨_,rfl,?_⟩
    rw [pT pa pb sa sb]
    refine jH (fun c=>?_) (fun c=>?_)
    ·have c:lV i j (crZ z)=true:=c
     exact ⟨_,rfl,hN _ _ _ ⟨_,_,rfl,by rw [Bq,ey,et,if_pos c];rfl,s6⟩⟩
    ·have c:¬ lV i j (crZ z)=true:=c
     exact hN _ _ _ ⟨_,_,rfl,by rw [ey,et,if_neg c];rfl,s6⟩
  ·rintro ys σ H1 q ⟨v,w',rfl,ey,s1⟩ hq
   refine ⟨q,_,rfl,.inl (SqL.of af),?_⟩
   rw [ey,Bo,Bo,C7]
   exact k _ (s1.then hq)
abbrev fU:Stmt:=top 30
theorem mR:aJ ["_law_surface","_law_ways","_law_drawing","_law_spots","_law_found","_law_i","_law_p","_law_follower","_law_begin"] ["_law_surface","_law_ways","_law_drawing"] (av fU):=⟨rfl,rfl,rfl,by decide +kernel,rfl,by decide +kernel,by decide +kernel⟩
theorem qr (D:Df K mg "_law_all_chords" fU)(T:Bt K w mg aB)(HN:Fnc P w K mg base "_law_back" ["_law_word"] 1 qX)(Iz:Fnc P w K mg base "_law_all_spots" ["_law_surface","_law_drawing"] 1 j_)(Ib:Fnc P w K mg base "_law_all_strands" ["_law_ways"] 1 rY):Fnc P w K mg base "_law_all_chords" ["_law_surface","_law_ways","_law_drawing"] 2 fQ:=by
 have sc:=mR
 refine D.ok sc (fun _ _ _ _ _ _ us hl=>by obtain ⟨_,_,_,rfl⟩:=tV hl;rfl) (fun vs H Q E h=>?_) (fun f HM A outer s H vs Q E hr h=>?_)
 ·obtain ⟨u,a,r,n,W,rows,rfl,_⟩:=h
  rfl
 ·obtain ⟨u,a,r,n,W,rows,rfl,U,hW,dw,k⟩:=h
  have Ik:=ba
  have al:=pU hW
  have iw:∀ w∈W,InM n w:=fun w hw=>(hW.ws w hw).2.2
  refine ⟨_,(He (Hj (3) sc.nd rfl (Or.inl rfl) (Hs Iz hr (by decide) rfl (Ha (pv 0) (Ha (pv 2) ae)))) (He (Hj (4) sc.nd rfl (Or.inl rfl) (G_ ae)) (He (Hw Cp rfl (@d8 _ _ _ _ (Hs Ib hr (by decide) rfl (Ha (pv 1) ae))) (@kr _ _ _ _ _ _ rfl (Hy (Ho (5) sc.nd rfl (Or.inl rfl)) (Hy (Ho (6) sc.nd rfl (Or.inl rfl)) fi)) (by rfl) (by rfl)) (He (Hj (7) sc.nd rfl (Or.inl rfl) (Hf cQ (Hf cf (pv 6) ao) (Hk aM (by rfl) T.len B4 (Ha (Hg aV (pv 1) (pv 5) (fun _ _=>rfl)) ae)))) (He (Hj (8) sc.nd rfl (Or.inl rfl) (Hl B8 Gp Gq (gC (by exact hr.units)) (pv 3) (Ha (Ht (Ha (Hs HN hr (by decide) rfl (Ha (Hg eN (Hg aV (pv 1) (pv 5) (fun _ _=>rfl)) (pv 6) (fun _ _=>rfl)) ae)) (Ha (Ht (Ha (pv 5) (Ha (pv 6) ae))) ae))) ae))) (G8 (Hv (Hl B8 Ez EA fq (pv 4) (Ha (Ht (Ha (Ht (Ha (pv 5) (Ha (pv 6) ae))) (Ha (pv 8) (Ha (Hl B8 Gp Gq (gC (by exact hr.units)) (pv 3) (Ha (Ht (Ha (Hg eN (Hg aV (pv 1) (pv 5) (fun _ _=>rfl)) (pv 7) (fun _ _=>rfl)) (Ha (Ht (Ha (pv 5) (Ha (pv 7) ae))) ae))) ae)) ae)))) ae))))))) (G8 (G9 (pv 4)))))),?_⟩
  refine ⟨_,rfl,_,rfl,u,r,n,W,rows,rfl,U,dw,(fun x=>lU hW dw x),fun sp zs H1 hsp s1 f1 hz ez=>?_⟩
  have zl:zs.length≤1000:=by
   have:=pY rows (fun x=>lU hW dw x) u
   rw [← ez,Bo] at this
   have:=U.len
   have:=U.hi
   omega
  refine ⟨(by show 0≤sizeLine;decide),fun l hl=>?_⟩
  have s2:az H1 (upd H1 l (.lst [])):=az.new hl
  have f2:(upd H1 l (.lst [])) l=some (.lst ((([]:List Ln5).map (·.1)).map V.ref)):=af
  have nl:sp≠l:=au f1 hl
  have hlH:H l=none:=none_of s1 hl
  generalize upd H1 l (.lst [])=H2 at s2 f2 ⊢
  have s02:=s1.trans s2
  refine ⟨_,rfl,a,n,W,rfl,hW.same s02,fun l2 ss H3 hl2 s3 g3 hst est=>⟨l2,rfl,⟨_,SqL.of g3⟩,?_⟩⟩
  have s03:=s02.trans s3
  have nl2:l≠l2:=au f2 hl2
  have s13:=s2.trans s3
  refine kC (xs:=(ss.map (·.1)).map V.ref) (fun j σ H'=>∃ (v5 v6 v7 v8:Option V) (ls:List Ln5),σ = [some (tx u),some (.ref a),some (.ref r),some (.ref sp),some (.ref l),v5,v6,v7,v8]∧H' sp=some (.lst ((zs.map (·.1)).map V.ref))∧PtA H' zs∧H' l2=some (.lst ((ss.map (·.1)).map V.ref))∧StA H' ss∧Wy4 n W H' a∧H' l=some (.lst ((ls.map (·.1)).map V.ref))∧LnA H' ls∧ls.map (fun z=>(z.2.1.2,z.2.2))=((cP W).take j).map (lnZ (bS rows u) W)∧az H H') ⟨none,none,none,none,[],rfl,s13 _ _ f1,hz.to (fun b xs e=>s13 _ _ e),g3,hst,hW.same s03,s3 _ _ f2,(fun z hz=>by cases hz),rfl,s03⟩ (fun j σ H' _ ⟨_,_,_,_,_,_,_,_,q,_⟩=>SqL.of q) ?_ ?_
  ·rintro j x σ H4 hx ⟨v5,v6,v7,v8,ls,rfl,f4,hz4,g4,st4,hW4,l4,hl4,el4,s4⟩
   rw [BH,BH] at hx
   cases hzj:ss[j]? with
   | none=>rw [hzj] at hx;cases hx
   | some z =>
    rw [hzj] at hx
    obtain rfl:=BA hx
    have hm:=BQ hzj
    have aj:(cP W)[j]? = some z.2:=by rw [← est,BH,hzj];rfl
    have hj:j < (cP W).length:=(Bv.mp aj).1
    have ok:okS W z.2=true:=cY.mp (BQ aj)
    have hz0:=st4 z hm
    obtain ⟨z0,p1,p2⟩:=z
    have hz0:H4 z0=some (.tup [.int p1,.int p2]):=hz0
    have aj:(cP W)[j]? = some (p1,p2):=aj
    have ok:okS W (p1,p2)=true:=ok
    obtain ⟨in1,in2⟩:=Ab U dw iw ok
    have okn:=vB ok
    have ok':=ok
    have okn':=okn
    unfold okS at ok' okn'
    simp only [BZ,Cf] at ok' okn'
    obtain ⟨⟨o1,o2⟩,o3,o4⟩:=ok'
    obtain ⟨_,o5,o6⟩:=okn'
    have hwl:=lS hW p1.toNat
    have aw:=j8 (W:=W) o1 o2
    refine ⟨z0,_,rfl,SqT.of hz0,rfl,_,_,rfl,_,_,rfl,rfl,?_⟩
    refine ⟨_,rfl,_,_,rfl,rfl,_,rfl,_,rfl,a,_,_,_,rfl,rfl,SqT.of hW4.at_,aw,_,rfl,(by rw [ah];omega),_,_,rfl,rfl,(by rw [ah];omega),?_⟩
    rw [ah]
    change fj (ma 7) _ _ (.int (nxZ W (p1,p2)).2) H4
    refine ⟨_,rfl,.inl ⟨rfl,_,SqL.of f4⟩,_,rfl,_,rfl,a,_,_,_,rfl,rfl,SqT.of hW4.at_,aw,_,rfl,_,_,_,rfl,rfl,(by rw [ah];omega),pR o3 o4,[ltZ W (p1,p2)],rfl,(by show 1≤5000;decide),fun H5 s5=>?_⟩
    refine ⟨_,rfl,_,rfl,(aY (n:=2) (by decide)),fun b1 hb1=>?_⟩
    have s6:az H5 (upd H5 b1 (.tup [.int p1,.int p2])):=az.new hb1
    have g6:(upd H5 b1 (.tup [.int p1,.int p2])) b1=some (.tup [.int p1,.int p2]):=af
    generalize upd H5 b1 (.tup [.int p1,.int p2])=H6 at s6 g6 ⊢
    refine ⟨(aY (n:=2) (by decide)),fun b2 hb2=>?_⟩
    have s7:az H6 (upd H6 b2 (.tup [tx [inv (ltZ W (p1,p2))],.ref b1])):=az.new hb2
    have g7:(upd H6 b2 (.tup [tx [inv (ltZ W (p1,p2))],.ref b1])) b2=some (.tup [tx [inv (ltZ W (p1,p2))],.ref b1]):=af
    change xG (.ref sp) [.ref b2] (upd H6 b2 (.tup [tx [inv (ltZ W (p1,p2))],.ref b1])) _
    generalize upd H6 b2 (.tup [tx [inv (ltZ W (p1,p2))],.ref b1])=H7 at s7 g7 ⊢
    have s47:=s5.trans (s6.trans s7)
    refine p6 (p:=(p1,p2)) (s47 _ _ f4) (hz4.to fun c xs e=>s47 _ _ e) zl g7 (s7 _ _ g6) (by rw [ez];exact in1) ?_
    rw [ez]
    refine ⟨_,rfl,.inl ⟨rfl,_,SqL.of (s47 _ _ l4)⟩,_,rfl,_,rfl,(aY (n:=2) (by decide)),fun b3 hb3=>?_⟩
    have s8:az H7 (upd H7 b3 (.tup [.int p1,.int p2])):=az.new hb3
    have g8:(upd H7 b3 (.tup [.int p1,.int p2])) b3=some (.tup [.int p1,.int p2]):=af
    generalize upd H7 b3 (.tup [.int p1,.int p2])=H8 at s8 g8 ⊢
    have s48:=s47.trans s8
    have hW8:=hW4.same s48
    refine ⟨_,rfl,_,rfl,.inl ⟨rfl,_,SqL.of (s48 _ _ f4)⟩,_,rfl,_,rfl,a,_,_,_,rfl,rfl,SqT.of hW8.at_,aw,_,rfl,_,_,_,rfl,rfl,(by rw [ah];omega),pR o5 o6,?_⟩
    refine ⟨_,rfl,_,rfl,(aY (n:=2) (by decide)),fun b4 hb4=>?_⟩
    have s9:az H8 (upd H8 b4 (.tup [.int p1,.int (nxZ W (p1,p2)).2])):=az.new hb4
    have g9:(upd H8 b4 (.tup [.int p1,.int (nxZ W (p1,p2)).2])) b4=some (.tup [.int p1,.int (nxZ W (p1,p2)).2]):=af
    generalize upd H8 b4 (.tup [.int p1,.int (nxZ W (p1,p2)).2])=H9 at s9 g9 ⊢
    refine ⟨(aY (n:=2) (by decide)),fun b5 hb5=>?_⟩
    have s10:az H9 (upd H9 b5 (.tup [tx [ltZ W (nxZ W (p1,p2))],.ref b4])):=az.new hb5
    have g10:(upd H9 b5 (.tup [tx [ltZ W (nxZ W (p1,p2))],.ref b4])) b5=some (.tup [tx [ltZ W (nxZ W (p1,p2))],.ref b4]):=af
    change xG (.ref sp) [.ref b5] (upd H9 b5 (.tup [tx [ltZ W (nxZ W (p1,p2))],.ref b4])) _
    generalize upd H9 b5 (.tup [tx [ltZ W (nxZ W (p1,p2))],.ref b4])=H10 at s10 g10 ⊢
    have s410:=s48.trans (s9.trans s10)
    refine p6 (p:=nxZ W (p1,p2)) (s410 _ _ f4) (hz4.to fun c xs e=>s410 _ _ e) zl g10 (s10 _ _ g9) (by rw [ez];exact in2) ?_
    rw [ez]
    refine ⟨(aY (n:=3) (by decide)),fun b6 hb6=>?_⟩
    have s11:az H10 (upd H10 b6 (.tup [.ref b3,.int ((cdZ (bS rows u) W (p1,p2)).1:Int),.int ((cdZ (bS rows u) W (p1,p2)).2:Int)])):=az.new hb6
    have g11:(upd H10 b6 (.tup [.ref b3,.int ((cdZ (bS rows u) W (p1,p2)).1:Int),.int ((cdZ (bS rows u) W (p1,p2)).2:Int)])) b6=some (.tup [.ref b3,.int ((cdZ (bS rows u) W (p1,p2)).1:Int),.int ((cdZ (bS rows u) W (p1,p2)).2:Int)]):=af
    have s411:=s410.trans s11
    have l11:=s411 _ _ l4
    have lsl:ls.length≤60:=by
     have:=BP List.length el4
     rw [Bo,Bo,BL] at this
     omega
    refine ⟨l,_,_,rfl,rfl,l11,by rw [Bo,Bo];omega,?_⟩
    have HQ:∀ (vv:List V) c xs,(upd H10 b6 (.tup [.ref b3,.int ((cdZ (bS rows u) W (p1,p2)).1:Int),.int ((cdZ (bS rows u) W (p1,p2)).2:Int)])) c=some (.tup xs)→(upd (upd H10 b6 (.tup [.ref b3,.int ((cdZ (bS rows u) W (p1,p2)).1:Int),.int ((cdZ (bS rows u) W (p1,p2)).2:Int)])) l (.lst vv)) c=some (.tup xs):=fun vv c xs e=>by
     rw [aF (eW e l11 (by intro z;cases z))];exact e
    have keep4:∀ (vv:List V) c xs,H4 c=some (.tup xs)→(upd (upd H10 b6 (.tup [.ref b3,.int ((cdZ (bS rows u) W (p1,p2)).1:Int),.int ((cdZ (bS rows u) W (p1,p2)).2:Int)])) l (.lst vv)) c=some (.tup xs):=fun vv c xs e=>HQ vv _ _ (s411 _ _ e)
    refine ⟨_,_,_,_,ls++[(b6,(b3,p1,p2),cdZ (bS rows u) W (p1,p2))],rfl,?_,hz4.to (keep4 _),?_,fun y hy=>keep4 _ _ _ (st4 y hy),⟨keep4 _ _ _ hW4.at_,hW4.le,hW4.lo,hW4.ws⟩,by rw [af,BK,BK];rfl,fun y hy=>?_,?_,fun c o e=>?_⟩
    ·rw [aF nl];exact s411 _ _ f4
    ·rw [aF nl2.symm];exact s411 _ _ g4
    ·rcases B0.mp hy with hy | hy
     ·exact ⟨keep4 _ _ _ (hl4 y hy).1,keep4 _ _ _ (hl4 y hy).2⟩
     ·rw [Bu.mp hy]
      exact ⟨HQ _ _ _ g11,HQ _ _ _ ((s9.trans (s10.trans s11)) _ _ g8)⟩
    ·rw [BK,el4,jC aj,BK]
     rfl
    ·rw [aF (au e hlH)];exact s411 _ _ (s4 _ _ e)
  ·rintro σ H4 ⟨v5,v6,v7,v8,ls,rfl,f4,hz4,g4,st4,hW4,l4,hl4,el4,s4⟩
   have e:(cP W).length=ss.length:=by rw [← est,Bo]
   rw [Bo,Bo,← e,C7] at el4
   exact ⟨_,rfl,k l ls _ hlH s4 l4 hl4 el4⟩
abbrev iQ:Stmt:=top 32
theorem qt:aJ ["_law_surface","_law_ways","_law_drawing","_law_lines","_law_found","_law_k","_law_more"] ["_law_surface","_law_ways","_law_drawing"] (av iQ):=⟨rfl,rfl,rfl,by decide +kernel,rfl,by decide +kernel,by decide +kernel⟩
theorem sM (D:Df K mg "_law_all_crossings" iQ)(T:Bt K w mg aB)(F_lcr:Fnc P w K mg base "_law_crosses" ["_law_one","_law_other"] 1 vx)(Ie:Fnc P w K mg base "_law_all_chords" ["_law_surface","_law_ways","_law_drawing"] 2 fQ):Fnc P w K mg base "_law_all_crossings" ["_law_surface","_law_ways","_law_drawing"] 3 iM:=by
 have sc:=qt
 refine D.ok sc (fun _ _ _ _ _ _ us hl=>by obtain ⟨_,_,_,rfl⟩:=tV hl;rfl) (fun vs H Q E h=>?_) (fun f HM A outer s H vs Q E hr h=>?_)
 ·obtain ⟨u,a,r,n,W,rows,rfl,_⟩:=h
  rfl
 ·obtain ⟨u,a,r,n,W,rows,rfl,U,hW,dw,k⟩:=h
  have Ik:=ba
  have al:=pU hW
  refine ⟨_,(He (Hj (3) sc.nd rfl (Or.inr rfl) (Hs Ie hr (by decide) rfl (Ha (pv 0) (Ha (pv 1) (Ha (pv 2) ae))))) (He (Hj (4) sc.nd rfl (Or.inl rfl) (G_ ae)) (He (Hw Cp rfl (Hx rfl T.range (Ha (Hk aH (by rfl) T.len B4 (Ha (pv 3) ae)) ae)) (Ho (5) sc.nd rfl (Or.inr rfl)) (He (Hj (6) sc.nd rfl (Or.inl rfl) (Hc fo (pv 3) (Hd (Hf cf (pv 5) ao)) bx)) (G8 (Hv (Hl B8 C8 C9 cv (pv 4) (Ha (Hm (["_law_other","_law_lines","_law_k"]) (["_law_other"]) ([3,5]) (Hn rfl (by kernel_rfl)) rfl (@d8 _ _ _ _ (pv 6)) (fun _ _ _ _=>Ho (0) (show (["_law_other","_law_lines","_law_k"]:List Str).Nodup from by decide +kernel) rfl (Or.inl rfl)) (fun _ _ _ _=>(@g_ _ _ _ (by exact (@zB _ _ _ (Hs F_lcr hr (by decide) rfl (Ha (Hg (@lu _ (K) rfl) (pv 1) (pv 2) (fun _ _=>rfl)) (Ha (pv 0) ae))) (fun _=>rfl))))) (fun _ _ _ _=>by (exact (Ht (Ha (Hg (@ip _ (K) rfl) (Hg (@lu _ (K) rfl) (pv 1) (pv 2) (fun _ _=>rfl)) ao (fun _ _=>rfl)) (Ha (Hg (@ip _ (K) rfl) (pv 0) ao (fun _ _=>rfl)) ae)))))) ae)))))) (G8 (G9 (pv 4)))))),?_⟩
  refine ⟨_,rfl,_,rfl,_,rfl,u,a,r,n,W,rows,rfl,U,hW,dw,fun ln ls H1 hln s1 f1 hl1 el=>?_⟩
  have ll:ls.length=(cP W).length:=by
   have:=BP List.length el
   rwa [Bo,Bo] at this
  have lat:∀ (i:Nat) (z:Ln5),ls[i]? = some z→(cP W)[i]? = some z.2.1.2∧z.2.2=cdZ (bS rows u) W z.2.1.2:=fun i z h=>by
   have:=BP (fun l=>l[i]?) el
   simp only [BH] at this
   rw [h] at this
   cases hq:(cP W)[i]? with
   | none=>rw [hq] at this;cases this
   | some q =>
    rw [hq] at this
    have e:=BA this
    have e1:z.2.1.2=q:=BP Prod.fst e
    have e2:z.2.2=cdZ (bS rows u) W q:=BP Prod.snd e
    exact ⟨by rw [e1],by rw [e1,e2]⟩
  refine ⟨(by show 0≤sizeLine;decide),fun l hl=>?_⟩
  have s2:az H1 (upd H1 l (.lst [])):=az.new hl
  have f2:(upd H1 l (.lst [])) l=some (.lst ((([]:List Cx5).map (·.1)).map V.ref)):=af
  have nl:ln≠l:=au f1 hl
  have hlH:H l=none:=none_of s1 hl
  generalize upd H1 l (.lst [])=H2 at s2 f2 ⊢
  refine ⟨_,rfl,ln,_,rfl,.inl (SqL.of (s2 _ _ f1)),_,rfl,by rw [Bo,Bo];omega,by rw [Bo,Bo];omega,?_⟩
  rw [Bo,Bo,Ce]
  refine bq (lo:=0) (n:=ls.length) (fun i σ H'=>∃ (v5 v6:Option V) (zs:List Cx5),σ = [some (tx u),some (.ref a),some (.ref r),some (.ref ln),some (.ref l),v5,v6]∧H' ln=some (.lst ((ls.map (·.1)).map V.ref))∧LnA H' ls∧H' l=some (.lst ((zs.map (·.1)).map V.ref))∧CrA H' zs∧zs.map crZ=crT (crB (bS rows u) W) (cP W) i∧az H H') ⟨none,none,[],rfl,s2 _ _ f1,hl1.same s2,f2,(fun z hz=>by cases hz),rfl,s1.trans s2⟩ ?_ ?_
  ·rintro i σ H3 hi ⟨v5,v6,zs,rfl,f3,hl3,g3,hz3,ez3,s3⟩
   rw [GS]
   obtain ⟨z,hz⟩:∃ z,ls[i]? = some z:=⟨_,fu hi⟩
   obtain ⟨ai,ci⟩:=lat i z hz
   obtain ⟨y1,y2⟩:=hl3 z (BQ hz)
   have zl:zs.length≤3600:=by
    have:=ke (f:=crB (bS rows u) W) (zs:=cP W) i
    rw [← ez3,Bo] at this
    have:i*(cP W).length≤60*60:=FL (by omega) al
    omega
   refine ⟨_,rfl,_,rfl,_,_,rfl,rfl,_,rfl,ln,_,rfl,SqL.of f3,fun mr hmr=>?_⟩
   have ec:eZ ((ls.map (·.1)).map V.ref) (some ((i:Int)+1)) none=((ls.drop (i+1)).map (·.1)).map V.ref:=by
    rw [p7 (by rw [Bo,Bo];omega),EF,EF]
   rw [ec]
   have s4:az H3 (upd H3 mr (.lst (((ls.drop (i+1)).map (·.1)).map V.ref))):=az.new hmr
   have g4:(upd H3 mr (.lst (((ls.drop (i+1)).map (·.1)).map V.ref))) mr=some (.lst (((ls.drop (i+1)).map (·.1)).map V.ref)):=af
   generalize upd H3 mr (.lst (((ls.drop (i+1)).map (·.1)).map V.ref))=H4 at s4 g4 ⊢
   have f4:=s4 _ _ f3
   have ati:((ls.map (·.1)).map V.ref)[i]? = some (.ref z.1):=by rw [BH,BH,hz];rfl
   refine ⟨_,rfl,.inl ⟨rfl,_,SqL.of (s4 _ _ g3)⟩,_,rfl,mr,rfl,⟨_,SqL.of g4⟩,?_⟩
   refine dP (xs:=((ls.drop (i+1)).map (·.1)).map V.ref) (own:=["_law_other"]) (cap:=[3,5]) (fun m ys σ H'=>∃ (v:Option V) (cs:List Cx5),σ = [v,some (.ref ln),some (.int (i:Int))]∧ys=(cs.map (·.1)).map V.ref∧cs.length≤m∧CrA H' cs∧cs.map crZ=((((cP W).drop (i+1)).take m).filter (crB (bS rows u) W z.2.1.2)).map (fun q=>(z.2.1.2,q))∧az H4 H') ⟨none,[],rfl,rfl,BB _,(fun z hz=>by cases hz),rfl,az.refl _⟩ (fun m ys σ H' hm ⟨_,cs,_,e,e2,_⟩=>by rw [e,Bo,Bo];exact e2) (by rw [Bo,Bo,Cq];omega) (fun m ys σ H' ⟨_,_,_,_,_,_,_,q⟩=>SqL.of (q _ _ g4)) ?_ ?_
   ·rintro m ys σ H5 x N hx ⟨v,cs,rfl,rfl,cl,hcs,ecs,s5⟩ hN
    rw [BH,BH,Cs] at hx
    cases hym:ls[i+1+m]? with
    | none=>rw [hym] at hx;cases hx
    | some y =>
     rw [hym] at hx
     obtain rfl:=BA hx
     obtain ⟨ay,cy⟩:=lat _ y hym
     have s35:=s4.trans s5
     obtain ⟨x1,x2⟩:=(hl3.same s35) y (BQ hym)
     have y1':=s35 _ _ y1
     have et:((((cP W).drop (i+1)).take (m+1)).filter (crB (bS rows u) W z.2.1.2))=((((cP W).drop (i+1)).take m).filter (crB (bS rows u) W z.2.1.2))++(if crB (bS rows u) W z.2.1.2 y.2.1.2=true then [y.2.1.2] else []):=by
      rw [jC (x:=y.2.1.2) (by rw [Cs];exact ay),EK]
      congr 1
      by_cases c:crB (bS rows u) W z.2.1.2 y.2.1.2=true
      ·rw [if_pos c,CC (by exact c)];rfl
      ·rw [if_neg c,CF (by exact c)];rfl
     refine ⟨_,rfl,_,rfl,ln,_,_,_,rfl,rfl,SqL.of (s5 _ _ f4),bM ati,_,rfl,z.1,y.1,_,_,_,_,_,_,rfl,y1',x1,fun H6 s6=>⟨_,rfl,?_⟩⟩
     have em:yg z.2.2.1 z.2.2.2 y.2.2.1 y.2.2.2=crB (bS rows u) W z.2.1.2 y.2.1.2:=by unfold crB;rw [ci,cy]
     rw [em]
     have s46:=s5.trans s6
     have s56:=s35.trans s6
     refine jH (fun c=>?_) (fun c=>?_)
     ·refine ⟨_,rfl,_,rfl,ln,_,_,_,rfl,rfl,SqL.of (s46 _ _ f4),bM ati,z.1,_,_,_,rfl,rfl,SqT.of (s6 _ _ y1'),rfl,?_⟩
      refine ⟨_,rfl,y.1,_,_,_,rfl,rfl,SqT.of (s6 _ _ x1),rfl,(aY (n:=2) (by decide)),fun t ht=>hN _ _ _ ⟨_,cs++[(t,z.2.1,y.2.1)],rfl,by rw [BK,BK];rfl,by rw [Bq];exact Nat.succ_le_succ cl,?_,?_,s46.then ht⟩⟩
      ·refine ((hcs.same s6).same (az.new ht)).app fun w' hw=>?_
       rw [Bu.mp hw]
       exact ⟨af,az.new ht _ _ (s56 _ _ y2),az.new ht _ _ (s6 _ _ x2)⟩
      ·rw [et,if_pos c,BK,BK,ecs];rfl
     ·exact hN _ _ _ ⟨_,cs,rfl,rfl,by omega,hcs.same s6,by rw [et,if_neg c,CV];exact ecs,s46⟩
   ·rintro ys σ H5 q ⟨v,cs,rfl,rfl,cl,hcs,ecs,s5⟩ hq
    rw [Bo,Bo,Cq] at cl ecs
    rw [B6 (by rw [Cq];omega)] at ecs
    have s6:az H5 (upd H5 q (.lst ((cs.map (·.1)).map V.ref))):=az.new hq
    have g6:(upd H5 q (.lst ((cs.map (·.1)).map V.ref))) q=some (.lst ((cs.map (·.1)).map V.ref)):=af
    generalize upd H5 q (.lst ((cs.map (·.1)).map V.ref))=H6 at s6 g6 ⊢
    have s36:=s4.trans (s5.trans s6)
    have f6:=s36 _ _ g3
    refine ⟨l,q,_,_,rfl,rfl,f6,g6,by rw [Bo,Bo,Bo,Bo];omega,?_⟩
    have HQ:∀ (vv:List V) b xs,H6 b=some (.tup xs)→(upd H6 l (.lst vv)) b=some (.tup xs):=fun vv b xs e=>by
     rw [aF (eW e f6 (by intro z;cases z))];exact e
    refine ⟨_,_,zs++cs,rfl,?_,(hl3.same s36).to (HQ _),by rw [af,BK,BK],?_,?_,fun b o' e=>?_⟩
    ·rw [aF nl];exact s36 _ _ f3
    ·exact ((hz3.same s36).to (HQ _)).app ((hcs.same s6).to (HQ _))
    ·rw [BK,ez3,ecs,si ai]
    ·rw [aF (au e hlH)];exact s36 _ _ (s3 _ _ e)
  ·rintro σ H3 ⟨v5,v6,zs,rfl,f3,hl3,g3,hz3,ez3,s3⟩
   rw [ll] at ez3
   exact ⟨_,rfl,k l zs _ hlH s3 g3 hz3 ez3⟩
end
inductive qu (K:PySem.W.Frag)(vs:List V)(H:Hp)(Q:VK)(HS:XK):Prop
 | mk:∀ (a:Addr) (ns:List Int),(vs=[.ref a])→(SqL K H a (ns.map V.int))→(ns.length≤63)→(∀ H',Q (.bl true) H')→qu K vs H Q HS
section
variable {P:Program} {w:World} {K:PySem.W.Frag} {mg:Str→Option Value} {base:Heap} {aB:Addr}
theorem tX {H:Hp}{d c a:Addr}{xs:List V}(F:Tp H d c)(h:H a=some (.tup xs)):a≠d:=by
 obtain ⟨i,l,t,ns,h1,_⟩:=F.ex
 exact eW h h1 (by intro z;cases z)
theorem l7 {t u:TS}{D:gI}{σ:L2.St}{H:Hp}(R:L2.St→Hp→Prop)(h1:∀ nx:L2.St→Hp→Prop,(∀ σ2 H2,R σ2 H2→nx σ2 H2)→t ⟨nx,D.rt,D.bk,D.ct⟩ σ H)(h2:∀ σ2 H2,R σ2 H2→u D σ2 H2):yS t u D σ H:=h1 _ h2
theorem l8 {nx:L2.St→Hp→Prop}{rt:VK}{bk ct:L2.St→Hp→Prop}{i:Nat}{σ:L2.St}{x:V}{H:Hp}(h:nx (σ.set i (some x)) H):fj (ma i) ⟨nx,rt,bk,ct⟩ σ x H:=h
def Tld (u:List L)(W:List (List L))(HG:List (List Key × V)):Prop:=∀ k v,(k,v)∈HG→∃ i j:Int,0≤i∧i≤j∧j < (W.length:Int)∧k=[Sum.inl i,Sum.inl j]∧v = .int (((allL u W i j (wyZ W i).length).length:Nat):Int)
theorem qv {HG:List (List Key × V)}{k:List Key}{v:V}{p:List Key × V}(h:p∈jN HG k v):p∈HG ∨ p=(k,v):=by
 unfold jN at h
 split at h
 ·obtain ⟨q,hq,e⟩:=B2.mp h
  by_cases c:q.1=k
  ·rw [if_pos c] at e
   exact .inr (by rw [← e,c])
  ·rw [if_neg c] at e
   exact .inl (by rw [← e];exact hq)
 ·rcases B0.mp h with h | h
  ·exact .inl h
  ·exact .inr (Bu.mp h)
theorem qw {HG:List (List Key × V)}{k:List Key}{v:V}(h:(k,v)∈HG):∃ v',kJ HG k=some v'∧(k,v')∈HG:=by
 unfold kJ
 cases e:HG.find? (fun kv=>decide (kv.1=k)) with
 | none =>
  have:=List.find?_eq_none.mp e (k,v) h
  simp at this
 | some p =>
  have h1:=List.mem_of_find?_eq_some e
  have h2:=List.find?_some e
  have h2:p.1=k:=by simpa using h2
  exact ⟨p.2,rfl,by rw [← h2];exact h1⟩
theorem mS {d:Addr}{o:Obj}{HG:List (List Key × V)}{g:TG}{tb:TS}{D:gI}{σ:L2.St}{H:Hp}(Pv:Nat→L2.St→Hp→Prop)(h0:Pv 0 σ H)(hl:∀ i σ H,i≤HG.length→Pv i σ H→H d=some (.frz o (.dT HG)))
  (hs:∀ i k v b σ H,HG[i]? = some (k,v)→Pv i σ H→H b=some (.tup (k.map kV))→g (.ref b) σ H fun σ2 H2=>tb { D with nx:=Pv (i+1),ct:=Pv (i+1),bk:=D.nx } σ2 H2) (hd:∀ σ H,Pv HG.length σ H→D.nx σ H) :
  ∃ W:Nat→Nat→L2.St→Hp→Prop,(∃ m,W 0 m σ H)∧∀ i m σ H,W i m σ H →
   ((vp d o HG).stop i H∧D.nx σ H) ∨ ((vp d o HG).go i H∧∃ N:L2.St→Hp→Prop,(∀ σ' H',N σ' H'→∃ m',m' < m∧W (i+1) m' σ' H')∧∀ x H',(vp d o HG).yld i H x H'→g x σ H' fun σ2 H2=>tb { D with nx:=N,ct:=N,bk:=D.nx } σ2 H2):=by
 refine ⟨fun i m σ H=>m=HG.length - i∧i≤HG.length∧Pv i σ H,⟨HG.length,by simp,Cc _,h0⟩,?_⟩
 rintro i m σ H ⟨rfl,hi,p⟩
 have q:=hl i σ H hi p
 by_cases HK:i < HG.length
 ·refine .inr ⟨⟨HK,q⟩,Pv (i+1),fun σ' H' p'=>⟨HG.length - (i+1),by omega,rfl,HK,p'⟩,?_⟩
  rintro v H' ⟨rfl,key,val,b,hkv,rfl,hb⟩
  exact hs i key val b σ _ hkv p hb
 ·obtain rfl:i=HG.length:=by omega
  exact .inl ⟨⟨rfl,q⟩,hd σ H p⟩
abbrev jG:Stmt:=top 34
theorem yI:aJ ["_law_script","_law_tape_here","_law_k","_law_surface","_law_ways","_law_told","_law_i","_law_j","_law_turn","_law_found","_law_more"] ["_law_script"] (av jG):=⟨rfl,rfl,rfl,by decide +kernel,rfl,by decide +kernel,by decide +kernel⟩
theorem As {f:Addr}{fd:FuncData}(D:Fun K "law" "law" jG f fd)(T:Bt K w mg aB)(F_tape:Fnc P w K mg base "_law_tape" ["_law_script"] 1 (oD K))(HI:Fnc P w K mg base "_law_draw" ["_law_tape_here","_law_many"] 1 dz)(F_row:Fnc P w K mg base "_law_any_row" ["_law_tape_here","_law_most"] 2 tG)(Ij:Fnc P w K mg base "_law_some_ways" ["_law_tape_here","_law_many","_law_most","_law_long"] 4 fS)
  (IA:Fnc P w K mg base "links" ["surface","ways","i","j"] 6 j4) (F_adrw:Fnc P w K mg base "_law_any_drawing" ["_law_tape_here","_law_surface","_law_ways"] 2 j9) (Ip:Fnc P w K mg base "_law_all_crossings" ["_law_surface","_law_ways","_law_drawing"] 3 iM) (IC:Fnc P w K mg base "_law_count" ["_law_found","_law_i","_law_j"] 1 iL):qx P w K mg base CX0 8 f fd ["_law_script"] (qu K):=by
 have sc:=yI
 refine D.ok sc (fun vs H Q E h=>?_) (fun HM A outer s H vs Q E hr h=>?_)
 ·obtain ⟨a,ns,rfl,_⟩:=h
  rfl
 ·obtain ⟨a,ns,rfl,hS,hlen,q⟩:=h
  have hu:=w_ hr
  have Ik:=ba
  refine ⟨_,(@ak _ _ _ _ _ (@aE _ _ (1) _ _ _ _ sc.nd rfl (Or.inl rfl) (@aI _ _ _ _ _ _ _ _ _ _ _ F_tape hr (by decide) rfl (@aa _ _ _ _ _ (pv 0) ae (by rfl)) (by decide) (by rfl) (by rfl)) (by rfl) (by first | exact .inl rfl | exact .inr rfl | assumption)) (@ak _ _ _ _ _ (@bI _ _ _ _ _ _ _ _ Cp rfl (@a_ _ _ _ _ _ _ rfl T.range (@aa _ _ _ _ _ ao ae (by rfl)) (by rfl)) (@aG _ _ (2) _ sc.nd rfl (Or.inl rfl) (by first | exact .inl rfl | exact .inr rfl | assumption)) (@ak _ _ _ _ _ (@aE _ _ (3) _ _ _ _ sc.nd rfl (Or.inl rfl) (@aI _ _ _ _ _ _ _ _ _ _ _ F_row hr (by decide) rfl (@aa _ _ _ _ _ (pv 1) (@aa _ _ _ _ _ ao ae (by rfl)) (by rfl)) (by decide) (by rfl) (by rfl)) (by rfl) (by first | exact .inl rfl | exact .inr rfl | assumption)) (@ak _ _ _ _ _ (@aE _ _ (4) _ _ _ _ sc.nd rfl (Or.inl rfl) (@aI _ _ _ _ _ _ _ _ _ _ _ Ij hr (by decide) rfl (@aa _ _ _ _ _ (pv 1) (@aa _ _ _ _ _ (@aQ _ _ _ _ _ _ _ _ dk (@aD _ _ _ _ _ _ _ _ _ aM (by rfl) T.len B4 (@aa _ _ _ _ _ (pv 3) ae (by rfl)) (by decide) (by decide) (by rfl) (by rfl)) ao) (@aa _ _ _ _ _ ao (@aa _ _ _ _ _ (@aL _ _ _ _ _ _ _ aT (@bt _ _ _ _ (@aa _ _ _ _ _ ao (@aa _ _ _ _ _ ao (@aa _ _ _ _ _ ao (@aa _ _ _ _ _ ao ae (by rfl)) (by rfl)) (by rfl)) (by rfl))) (@aI _ _ _ _ _ _ _ _ _ _ _ HI hr (by decide) rfl (@aa _ _ _ _ _ (pv 1) (@aa _ _ _ _ _ ao ae (by rfl)) (by rfl)) (by decide) (by rfl) (by rfl)) (fun _ _=>rfl)) ae (by rfl)) (by rfl)) (by rfl)) (by rfl)) (by decide) (by rfl) (by rfl)) (by rfl) (by first | exact .inl rfl | exact .inr rfl | assumption)) (@ak _ _ _ _ _ (@dj _ _ _ _ _ _ _ _ (@PW.pt _ _ _ (@ng _ _ _ _ _ _ _ (@aR _ _ _ _ _ _ _ _ dH (pv 2) ao (aX _)) (@jL _ _ _ _ (@aR _ _ _ _ _ _ _ _ dH (@aI _ _ _ _ _ _ _ _ _ _ _ HI hr (by decide) rfl (@aa _ _ _ _ _ (pv 1) (@aa _ _ _ _ _ ao ae (by rfl)) (by rfl)) (by decide) (by rfl) (by rfl)) ao (aX _))))) (@aq _ _ _ (@aE _ _ (4) _ _ _ _ sc.nd rfl (Or.inl rfl) (@aI _ _ _ _ _ _ _ _ _ _ _ Ij hr (by decide) rfl (@aa _ _ _ _ _ (pv 1) (@aa _ _ _ _ _ (@aQ _ _ _ _ _ _ _ _ dk (@aD _ _ _ _ _ _ _ _ _ aM (by rfl) T.len B4 (@aa _ _ _ _ _ (pv 3) ae (by rfl)) (by decide) (by decide) (by rfl) (by rfl)) ao) (@aa _ _ _ _ _ ao (@aa _ _ _ _ _ ao ae (by rfl)) (by rfl)) (by rfl)) (by rfl)) (by decide) (by rfl) (by rfl)) (by rfl) (by first | exact .inl rfl | exact .inr rfl | assumption))) bB) (@ak _ _ _ _ _ (@aE _ _ (5) _ _ _ _ sc.nd rfl (Or.inl rfl) qP (by rfl) (by first | exact .inl rfl | exact .inr rfl | assumption)) (@ak _ _ _ _ _ (@bI _ _ _ _ _ _ _ _ Cp rfl (@a_ _ _ _ _ _ _ rfl T.range (@aa _ _ _ _ _ (@aD _ _ _ _ _ _ _ _ _ aH (by rfl) T.len B4 (@aa _ _ _ _ _ (pv 4) ae (by rfl)) (by decide) (by decide) (by rfl) (by rfl)) ae (by rfl)) (by rfl)) (@aG _ _ (6) _ sc.nd rfl (Or.inl rfl) (by first | exact .inl rfl | exact .inr rfl | assumption)) (@aq _ _ _ (@bI _ _ _ _ _ _ _ _ Cp rfl (@iT _ _ _ _ _ _ _ rfl T.range (@aa _ _ _ _ _ (pv 6) (@aa _ _ _ _ _ (@aD _ _ _ _ _ _ _ _ _ aH (by rfl) T.len B4 (@aa _ _ _ _ _ (pv 4) ae (by rfl)) (by decide) (by decide) (by rfl) (by rfl)) ae (by rfl)) (by rfl)) (by rfl) (by rfl)) (@aG _ _ (7) _ sc.nd rfl (Or.inl rfl) (by first | exact .inl rfl | exact .inr rfl | assumption)) (@aq _ _ _ (@uy _ _ _ _ _ _ _ _ _ hu (pv 5) (@bj _ _ _ _ _ (@aa _ _ _ _ _ (pv 6) (@aa _ _ _ _ _ (pv 7) ae (by rfl)) (by rfl))) (@aD _ _ _ _ _ _ _ _ _ aH (by rfl) T.len B4 (@aa _ _ _ _ _ (@aI _ _ _ _ _ _ _ _ _ _ _ IA hr (by decide) rfl (@aa _ _ _ _ _ (pv 3) (@aa _ _ _ _ _ (pv 4) (@aa _ _ _ _ _ (pv 6) (@aa _ _ _ _ _ (pv 7) ae (by rfl)) (by rfl)) (by rfl)) (by rfl)) (by decide) (by rfl) (by rfl)) ae (by rfl)) (by decide) (by decide) (by rfl) (by rfl)) rfl)) (by intro _ ;rfl))) (by intro _ ;rfl)) (@aq _ _ _ (@bI _ _ _ _ _ _ _ _ Cp rfl (@a_ _ _ _ _ _ _ rfl T.range (@aa _ _ _ _ _ ao ae (by rfl)) (by rfl)) (@aG _ _ (8) _ sc.nd rfl (Or.inl rfl) (by first | exact .inl rfl | exact .inr rfl | assumption)) (@ak _ _ _ _ _ (@aE _ _ (9) _ _ _ _ sc.nd rfl (Or.inl rfl) (@aI _ _ _ _ _ _ _ _ _ _ _ Ip hr (by decide) rfl (@aa _ _ _ _ _ (pv 3) (@aa _ _ _ _ _ (pv 4) (@aa _ _ _ _ _ (@aI _ _ _ _ _ _ _ _ _ _ _ F_adrw hr (by decide) rfl (@aa _ _ _ _ _ (pv 1) (@aa _ _ _ _ _ (pv 3) (@aa _ _ _ _ _ (pv 4) ae (by rfl)) (by rfl)) (by rfl)) (by decide) (by rfl) (by rfl)) ae (by rfl)) (by rfl)) (by rfl)) (by decide) (by rfl) (by rfl)) (by rfl) (by first | exact .inl rfl | exact .inr rfl | assumption)) (@aq _ _ _ (@bI _ _ _ _ _ _ _ _ Cp rfl (r_ (pv 5)) (@kr _ _ _ _ _ _ rfl (@bG _ _ _ _ _ (@aG _ _ (6) _ sc.nd rfl (Or.inl rfl) (by first | exact .inl rfl | exact .inr rfl | assumption)) (@bG _ _ _ _ _ (@aG _ _ (7) _ sc.nd rfl (Or.inl rfl) (by first | exact .inl rfl | exact .inr rfl | assumption)) fi (by rfl)) (by rfl)) (by rfl) (by rfl)) (@ak _ _ _ _ _ (@aE _ _ (10) _ _ _ _ sc.nd rfl (Or.inl rfl) (@aQ _ _ _ _ _ _ _ _ kD (@aI _ _ _ _ _ _ _ _ _ _ _ IC hr (by decide) rfl (@aa _ _ _ _ _ (pv 9) (@aa _ _ _ _ _ (pv 6) (@aa _ _ _ _ _ (pv 7) ae (by rfl)) (by rfl)) (by rfl)) (by decide) (by rfl) (by rfl)) (@ux _ _ _ _ _ _ hu (pv 5) (@bj _ _ _ _ _ (@aa _ _ _ _ _ (pv 6) (@aa _ _ _ _ _ (pv 7) ae (by rfl)) (by rfl))) (fun _ _=>rfl))) (by rfl) (by first | exact .inl rfl | exact .inr rfl | assumption)) (@aq _ _ _ (@dj _ _ _ _ _ _ _ _ (@PW.pt _ _ _ (@wx _ _ _ _ _ _ _ (@aR _ _ _ _ _ _ _ _ fV (pv 10) ao (aX _)) (@sO _ _ _ _ (@aR _ _ _ _ _ _ _ _ wI (@aQ _ _ _ _ _ _ _ _ cQ (pv 10) ao) ao (aX _))))) (@aq _ _ _ (@aO _ _ _ _ tZ)) bB))) (by intro _ ;rfl)))) (by intro _ ;rfl)))))))) (by intro _ ;rfl)) (@aq _ _ _ (@aO _ _ _ _ tZ)))),?_⟩
  refine ⟨_,rfl,a,ns,rfl,hS,hlen,fun d c H1 _ _ F1 _=>?_⟩
  refine ⟨_,rfl,by decide,by decide,bq (lo:=0) (n:=3) (fun i σ H'=>∃ (b2 b3 b4 b5 b6 b7 b8 b9 b10:Option V),σ = [some (.ref a),some (.ref d),b2,b3,b4,b5,b6,b7,b8,b9,b10]∧Tp H' d c) ⟨none,none,none,none,none,none,none,none,none,rfl,F1⟩ ?_ ?_⟩
  ·rintro i σ H1 hi ⟨b2,b3,b4,b5,b6,b7,b8,b9,b10,rfl,F1⟩
   rw [show (0:Int)+(i:Int)=(i:Int) by omega]
   refine ⟨_,rfl,d,c,_,rfl,F1,by decide,by decide,fun u n H2 U hn F2 _=>?_⟩
   have hul:=U.len
   have h1:=U.lo
   have h6:=U.hi
   have hll:(toS u).length≤sizeLine:=by rw [ah];omega
   have e2:((toS u).length:Int) / 2=(n:Int):=by rw [ah];omega
   refine ⟨_,rfl,_,rfl,_,rfl,hll,_,_,rfl,rfl,⟨by decide,by decide⟩,?_⟩
   rw [e2]
   refine ⟨(aY (n:=4) (by decide)),fun l0 hl0=>⟨_,rfl,d,c,_,rfl,F2.new hl0,by decide,by decide,fun y H3 y0 y1 F3 sb3=>?_⟩⟩
   have f3:=sb3 _ _ (F2.ne hl0) (af (o:=.lst [.int 3,.int 5,.int 7,.int 4]))
   obtain ⟨lng,ax,lo,hi2⟩:∃ z:Int,atI [V.int 3,.int 5,.int 7,.int 4] y=some (.int z)∧1≤z∧z≤15:=by
    have:y=0 ∨ y=1 ∨ y=2 ∨ y=3:=by omega
    rcases this with rfl | rfl | rfl | rfl
    ·exact ⟨3,bM (j:=0) rfl,by decide,by decide⟩
    ·exact ⟨5,bM (j:=1) rfl,by decide,by decide⟩
    ·exact ⟨7,bM (j:=2) rfl,by decide,by decide⟩
    ·exact ⟨4,bM (j:=3) rfl,by decide,by decide⟩
   refine ⟨l0,_,_,_,rfl,rfl,SqL.of f3,ax,?_⟩
   refine ⟨d,c,n,lng,rfl,F3,h1,h6,lo,hi2,fun aw W H5 F5 sb5 g5 w1 w4 gW=>?_⟩
   refine l8 (l7 (fun σ H'=>∃ (aw:Addr) (W:List (List L)),σ = [some (.ref a),some (.ref d),some (.int (i:Int)),some (tx u),some (.ref aw),b5,b6,b7,b8,b9,b10]∧H' aw=some (.tup (W.map tx))∧1≤W.length∧W.length≤4∧(∀ w∈W,GP n 15 w)∧Tp H' d c) ?_ ?_)
   ·intro nx hn
    refine ⟨_,rfl,rfl,_,rfl,?_⟩
    generalize decide (V.int (i:Int)=V.int 0)=bb
    cases bb with
    | false=>exact zP (tw (hn _ _ ⟨aw,W,rfl,g5,w1,w4,gW,F5⟩))
    | true =>
     refine zO ⟨_,rfl,d,c,_,rfl,F5,by decide,by decide,fun r H6 r0 r1 F6 sb6=>⟨rfl,_,rfl,?_⟩⟩
     refine jH (fun _=>?_) (fun _=>hn _ _ ⟨aw,W,rfl,sb6 _ _ (tX F5 g5) g5,w1,w4,gW,F6⟩)
     refine ⟨_,rfl,_,rfl,_,rfl,hll,_,_,rfl,rfl,⟨by decide,by decide⟩,?_⟩
     rw [e2]
     exact ⟨d,c,n,15,rfl,F6,h1,h6,by decide,by decide,fun aw2 W2 H7 F7 sb7 g7 v1 v4 gV=>hn _ _ ⟨aw2,W2,rfl,g7,v1,v4,gV,F7⟩⟩
   ·clear gW w4 w1 g5 sb5 F5 H5 W aw
    rintro σ H5 ⟨aw,W,rfl,g5,w1,w4,gW,F5⟩
    have hR:WyR n W:=⟨w4,w1,fun v hv=>⟨(gW v hv).1,by have:=(gW v hv).2.1;omega,(gW v hv).2.2.1⟩⟩
    have pr:∀ w∈W,PrZ w:=fun v hv=>(gW v hv).2.2.2
    have W4:∀ H',H' aw=some (.tup (W.map tx))→Wy4 n W H' aw:=fun H' e=>⟨e,w4,w1,fun v hv=>⟨(gW v hv).1.ne,(gW v hv).2.1,(gW v hv).2.2.1⟩⟩
    have had:aw≠d:=tX F5 g5
    intro dt hdt
    have dtd:dt≠d:=F5.ne hdt
    have dtc:dt≠c:=F5.nec hdt
    have s6:az H5 (upd H5 dt (.dT [])):=az.new hdt
    have f6:(upd H5 dt (.dT [])) dt=some (.dT []):=af
    generalize upd H5 dt (.dT [])=H6 at s6 f6 ⊢
    have F6:=F5.same s6
    have g6:=s6 _ _ g5
    have keep:∀ (b:Addr) (xs:List V) {o:HO} {H':Hp} {HG:List (List Key × V)},H' dt=some (.dT HG)→H' b=some (.tup xs)→(upd H' dt o) b=some (.tup xs):=fun b xs {o H' HG} e1 e2=>by
     rw [aF (eW e2 e1 (by intro z;cases z))]
     exact e2
    refine l8 ?_
    refine l7 (fun σ H'=>∃ (b6 b7:Option V) (HG:List (List Key × V)),σ = [some (.ref a),some (.ref d),some (.int (i:Int)),some (tx u),some (.ref aw),some (.ref dt),b6,b7,b8,b9,b10]∧H' dt=some (.dT HG)∧Tld u W HG∧H' aw=some (.tup (W.map tx))∧Tp H' d c) ?_ ?_
    ·intro nx hn
     refine ⟨_,rfl,aw,_,rfl,.inr (SqT.of g6),_,rfl,?_⟩
     rw [Bo]
     refine ⟨by omega,by omega,?_⟩
     refine bq (lo:=0) (n:=(W.length:Int).toNat) (fun m σ H'=>∃ (b6 b7:Option V) (HG:List (List Key × V)),σ = [some (.ref a),some (.ref d),some (.int (i:Int)),some (tx u),some (.ref aw),some (.ref dt),b6,b7,b8,b9,b10]∧H' dt=some (.dT HG)∧Tld u W HG∧HG.length≤4*m∧H' aw=some (.tup (W.map tx))∧Tp H' d c) ⟨b6,b7,[],rfl,f6,(fun k v h=>by cases h),BB _,g6,F6⟩ ?_ ?_
     ·rintro i2 σ H7 hi2 ⟨b6,b7,HG,rfl,f7,t7,n7,g7,F7⟩
      rw [show (0:Int)+(i2:Int)=(i2:Int) by omega]
      refine ⟨_,rfl,_,rfl,aw,_,rfl,.inr (SqT.of g7),?_⟩
      rw [Bo]
      refine ⟨_,_,rfl,⟨by omega,by omega,by omega,by omega⟩,?_⟩
      refine bq (lo:=(i2:Int)) (n:=((W.length:Int) - (i2:Int)).toNat) (fun m σ H'=>∃ (b7:Option V) (HG:List (List Key × V)),σ = [some (.ref a),some (.ref d),some (.int (i:Int)),some (tx u),some (.ref aw),some (.ref dt),some (.int (i2:Int)),b7,b8,b9,b10]∧H' dt=some (.dT HG)∧Tld u W HG∧HG.length≤4*i2+m∧H' aw=some (.tup (W.map tx))∧Tp H' d c) ⟨b7,HG,rfl,f7,t7,by omega,g7,F7⟩ ?_ ?_
      ·clear f7 t7 n7 g7 F7 HG
       rintro j2 σ H8 hj2 ⟨b7,HG,rfl,f8,t8,n8,g8,F8⟩
       have j0:(0:Int)≤(i2:Int)+(j2:Int):=by omega
       have j1:(i2:Int)+(j2:Int) < (W.length:Int):=by omega
       have ij:(i2:Int)≤(i2:Int)+(j2:Int):=by omega
       generalize (i2:Int)+(j2:Int)=jj at j0 j1 ij ⊢
       refine ⟨_,rfl,_,rfl,_,rfl,_,rfl,u,aw,n,W,(i2:Int),jj,rfl,U,⟨g8,hR⟩,by omega,by omega,j0,j1,fun l9 z9 H9 n9 s9 f9 k9 e9 w9=>⟨l9,_,rfl,.inl (SqL.of f9),?_⟩⟩
       have hl:(((z9.map (·.1)).map V.ref).length:Int)=(((allL u W (i2:Int) jj (wyZ W (i2:Int)).length).length:Nat):Int):=by
        have:=e9.length_eq
        simp only [Bo] at this ⊢
        omega
       rw [hl]
       have F9:=F8.same s9
       have f9d:=s9 _ _ f8
       have g9:=s9 _ _ g8
       refine ⟨_,rfl,_,rfl,_,rfl,(aY (n:=2) (by decide)),fun tA htA=>?_⟩
       have sA:az H9 (upd H9 tA (.tup [.int (i2:Int),.int jj])):=az.new htA
       have fA:(upd H9 tA (.tup [.int (i2:Int),.int jj])) tA=some (.tup ([Sum.inl (i2:Int),Sum.inl jj].map kV)):=af
       generalize upd H9 tA (.tup [.int (i2:Int),.int jj])=HA at sA fA ⊢
       have fAd:=sA _ _ f9d
       refine ⟨dt,_,rfl,qN.t (k:=[Sum.inl (i2:Int),Sum.inl jj]) fAd fA (by omega),?_⟩
       refine ⟨_,_,rfl,af,fun k v hk=>?_,by have:=dq HG [Sum.inl (i2:Int),Sum.inl jj] (V.int ((allL u W (i2:Int) jj (wyZ W (i2:Int)).length).length:Nat));omega,keep _ _ fAd (sA _ _ g9),(F9.same sA).but dtd dtc bD.upd⟩
       rcases qv hk with hk | hk
       ·exact t8 k v hk
       ·exact ⟨(i2:Int),jj,by omega,ij,j1,BP Prod.fst hk,BP Prod.snd hk⟩
      ·rintro σ H8 ⟨b7,HG,rfl,f8,t8,n8,g8,F8⟩
       exact ⟨_,_,HG,rfl,f8,t8,by omega,g8,F8⟩
     ·rintro σ H7 ⟨b6,b7,HG,rfl,f7,t7,n7,g7,F7⟩
      exact hn _ _ ⟨b6,b7,HG,rfl,f7,t7,g7,F7⟩
    ·clear g6 F6 f6 s6 H6
     rintro σ H6 ⟨b6,b7,HG,rfl,f6,t6,g6,F6⟩
     refine ⟨_,rfl,by decide,by decide,?_⟩
     refine bq (lo:=0) (n:=4) (fun _ σ H'=>∃ (b6 b7 b8 b9 b10:Option V),σ = [some (.ref a),some (.ref d),some (.int (i:Int)),some (tx u),some (.ref aw),some (.ref dt),b6,b7,b8,b9,b10]∧Rd H' dt (.dT HG)∧H' aw=some (.tup (W.map tx))∧Tp H' d c) ⟨b6,b7,b8,b9,b10,rfl,.inl f6,g6,F6⟩ ?_ ?_
     ·clear g6 F6 f6 b6 b7 b8 b9 b10
      rintro m σ H7 hm ⟨b6,b7,b8,b9,b10,rfl,f7,g7,F7⟩
      refine ⟨_,rfl,_,rfl,_,rfl,_,rfl,_,rfl,d,c,u,n,aw,W,rfl,F7,U,W4 _ g7,fun r rows H8 F8 sb8 D8=>?_⟩
      have g8:=sb8 _ _ had g7
      have f8:Rd H8 dt (.dT HG):=f7.elim (fun e=>.inl (sb8 _ _ dtd e)) fun ⟨o,e⟩=>.inr ⟨o,sb8 _ _ dtd e⟩
      refine ⟨u,aw,r,n,W,rows,rfl,U,W4 _ g8,D8,fun l9 z9 H9 n9 s9 f9 k9 e9=>?_⟩
      have g9:=s9 _ _ g8
      have F9:=F8.same s9
      have r9:Rd H9 dt (.dT HG):=f8.elim (fun e=>.inl (s9 _ _ e)) fun ⟨o,e⟩=>.inr ⟨o,s9 _ _ e⟩
      have zl:z9.length≤4000:=by
       have h1:=ke (f:=crB (bS rows u) W) (zs:=cP W) (cP W).length
       rw [← e9,Bo] at h1
       have h2:=pU (W4 _ g9)
       have:=FL h2 h2
       omega
      have ldt:l9≠dt:=fun z=>by
       rw [z] at n9
       rcases f8 with e | ⟨o,e⟩ <;> rw [n9] at e <;> cases e
      refine ⟨_,rfl,dt,HG,rfl,r9,fun o HA eA kA=>?_⟩
      have kT:∀ b xs,H9 b=some (.tup xs)→HA b=some (.tup xs):=fun b xs e=>by
       rw [kA b (fun z=>by rw [z] at e;rcases r9 with q | ⟨o,q⟩ <;> rw [q] at e <;> cases e)]
       exact e
      have lA:HA l9=some (.lst ((z9.map (·.1)).map V.ref)):=by rw [kA l9 ldt];exact f9
      have cA:CrA HA z9:=k9.to kT
      have FA:Tp HA d c:=F9.but dtd dtc fun b ob nb e=>by rw [kA b nb];exact e
      have gA:=kT _ _ g9
      refine mS (fun _ σ H'=>∃ (b6 b7 b10:Option V),σ = [some (.ref a),some (.ref d),some (.int (i:Int)),some (tx u),some (.ref aw),some (.ref dt),b6,b7,some (.int (0+(m:Int))),some (.ref l9),b10]∧az HA H') ⟨b6,b7,b10,rfl,az.refl _⟩ (fun _ σ H' _ ⟨_,_,_,_,s⟩=>s _ _ eA) ?_ ?_
      ·rintro m2 k v b σ HB hkv ⟨b6,b7,b10,rfl,sB⟩ hb
       have H_:=BQ hkv
       obtain ⟨ii,jj,p0,p1,p2,rfl,_⟩:=t6 k v H_
       have hb:HB b=some (.tup [.int ii,.int jj]):=hb
       refine ⟨b,[.int ii,.int jj],rfl,SqT.of hb,rfl,_,_,rfl,_,_,rfl,rfl,?_⟩
       obtain ⟨v',hv',hm'⟩:=qw H_
       obtain ⟨i',j',_,_,_,ek,ev⟩:=t6 _ _ hm'
       have e1:ii=i':=Sum.inl.inj (Dn ek).1
       have e2:jj=j':=Sum.inl.inj (Dn (Dn ek).2).1
       subst e1 e2
       obtain ⟨dd,hdd⟩:=qe U D8 hR pr p0 p1 p2
       refine ⟨_,rfl,_,rfl,_,rfl,l9,z9,ii,jj,rfl,sB _ _ lA,cA.same sB,zl,fun HC sC=>?_⟩
       rw [e9,hdd]
       refine ⟨_,rfl,_,rfl,_,rfl,(aY (n:=2) (by decide)),fun tD htD=>?_⟩
       have sD:az HC (upd HC tD (.tup [.int ii,.int jj])):=az.new htD
       have fD:(upd HC tD (.tup [.int ii,.int jj])) tD=some (.tup (([Sum.inl ii,Sum.inl jj]:List Key).map kV)):=af
       generalize upd HC tD (.tup [.int ii,.int jj])=HD at sD fD ⊢
       have sBD:=(sB.trans sC).trans sD
       refine ⟨dt,v',rfl,(by rw [← hv'];exact .inr ⟨HG,[Sum.inl ii,Sum.inl jj],tD,.inr ⟨o,sBD _ _ eA⟩,rfl,fD,rfl⟩),?_⟩
       rw [ev]
       refine ⟨_,_,rfl,rfl,?_⟩
       have em:(((allL u W ii jj (wyZ W ii).length).length+2*dd:Nat):Int) - (((allL u W ii jj (wyZ W ii).length).length:Nat):Int)=2*(dd:Int):=by omega
       rw [em]
       refine ⟨_,rfl,_,_,rfl,rfl,_,rfl,?_⟩
       refine (BP (fun b=>nc _ _ _ b _) (Bs (show ¬ 2*(dd:Int) < 0 by omega))).mpr (Bb ?_)
       refine ⟨_,rfl,_,_,rfl,rfl,by decide,rfl,_,rfl,?_⟩
       refine (BP (fun b=>d7 _ _ _ _ b _) (show (!decide (V.int (2*(dd:Int) % 2)=V.int 0))=false by rw [show 2*(dd:Int) % 2=0 by omega,BD rfl];rfl)).mpr (tw ?_)
       exact ⟨_,_,_,rfl,sBD⟩
      ·rintro σ HB ⟨b6,b7,b10,rfl,sB⟩
       exact ⟨_,_,_,_,_,rfl,.inr ⟨o,sB _ _ eA⟩,sB _ _ gA,FA.same sB⟩
     ·rintro σ H7 ⟨b6,b7,b8,b9,b10,rfl,f7,g7,F7⟩
      exact ⟨_,_,_,_,_,_,_,_,_,rfl,F7⟩
  ·rintro σ H1 ⟨b2,b3,b4,b5,b6,b7,b8,b9,b10,rfl,F1⟩
   exact q _
end
theorem Au {K:PySem.W.Frag}{h:Heap}{mg:Str→Option Value}{x:Str}{st:Stmt}{f:Addr}{oc:Value}{od an:Option Addr}{osl:Array (Option Value)}{kV doc pm HM ct:Value}(X:K.In h)(G:h.Ns mainGlobals mg)(a:PySem.W.nsIn K mainGlobals x=some (some (.ref f)))
  (l:K.lookup f=some ⟨oc,od,.func (PySem.W.fnOf x x (ck st) (bN st) (av st) .none kV doc pm an HM ct),osl⟩) (c:PySem.W.codeIn K HM x=true) (k:PySem.W.keepIn K (.ref f)=true):Df K mg x st:=⟨f,_,Gg X G a,sT l c k⟩
inductive DI (K:PySem.W.Frag)(x:Str)(st:Stmt):Prop
 | mk {f:Addr} {oc:Value} {od an:Option Addr} {osl:Array (Option Value)} {kV doc pm HM ct:Value} (a:PySem.W.nsIn K mainGlobals x=some (some (.ref f))) (l:K.lookup f=some ⟨oc,od,.func (PySem.W.fnOf x x (ck st) (bN st) (av st) .none kV doc pm an HM ct),osl⟩) (c:PySem.W.codeIn K HM x=true) (k:PySem.W.keepIn K (.ref f)=true):DI K x st
theorem DI.df {K:PySem.W.Frag}{h:Heap}{mg:Str→Option Value}{x:Str}{st:Stmt}(d:DI K x st)(X:K.In h)(G:h.Ns mainGlobals mg):Df K mg x st:=by
 cases d with
 | mk a l c k=>exact Au X G a l c k
inductive DL where
 | n
 | c (x:Str) (st:Stmt) (r:DL)
def DIs (K:PySem.W.Frag):DL→Prop
 | .n=>True
 | .c x st r=>DI K x st∧DIs K r
theorem DIs.on {K:PySem.W.Frag}{x:Str}{st:Stmt}{r:DL}{f:Addr}{oc:Value}{od an:Option Addr}{osl:Array (Option Value)}{kV doc pm HM ct:Value}(a:PySem.W.nsIn K mainGlobals x=some (some (.ref f)))(l:K.lookup f=some ⟨oc,od,.func (PySem.W.fnOf x x (ck st) (bN st) (av st) .none kV doc pm an HM ct),osl⟩)(c:PySem.W.codeIn K HM x=true)(k:PySem.W.keepIn K (.ref f)=true)(hr:DIs K r):DIs K (.c x st r):=⟨.mk a l c k,hr⟩
theorem yJ {l:PySem.W.OpenLaw}{w:World}{K:PySem.W.Frag}{h:Heap}{mg:Str→Option Value}{fa:Addr}(X:K.In h)(G:h.Ns mainGlobals mg)(hfa:mg "law" = some (.ref fa))
  {f28:Addr} {od28 an28:Option Addr} {sl28:Array (Option Value)} {oc28 kV28 dc28 pm28 cd28 ct28:Value} {aB:Addr} {es:Array DictEntry} {en:Nat}  {t0 t1 t2 t3 t4 t5 t6 t7 t8 t9 t10 t11:Tok}
  (hs:DIs K (.c "back" qh <| .c "met" qi <| .c "round_from" Ad <| .c "are_met_by_turns" vR <| .c "links" ki <| .c "links_at" vT <| .c "beside_at" vS <| .c "chord_ends" Ag <| .c "along_at" vO <| .c "against_at" vP <| .c "stretch" vM <| .c "is_parted" qj <| .c "is_first" vL <| .c "_law_tape" qf <| .c "_law_draw" qg <| .c "_law_back" kh <| .c "_law_any_row" vV <| .c "_law_inner" kj <| .c "_law_rooted" fT <| .c "_law_any_way" Ap <| .c "_law_some_ways" kl <| .c "_law_all_strands" qp <| .c "_law_any_drawing" qq <| .c "_law_all_spots" km <| .c "_law_all_chords" fU <| .c "_law_crosses" v_ <| .c "_law_all_crossings" iQ <| .c "_law_count" ko <| .n))
  (a28:PySem.W.nsIn K mainGlobals "law" = some (some (.ref f28)))
  (l28:K.lookup f28=some ⟨oc28,od28,.func (PySem.W.fnOf "law" "law" (ck jG) (bN jG) (av jG) .none kV28 dc28 pm28 an28 cd28 ct28),sl28⟩)
  (c28:PySem.W.codeIn K cd28 "law" = true)
  (k28:PySem.W.keepIn K (.ref f28)=true)
  (z_len:PySem.W.nsIn K mainGlobals "len" = some none)
  (z_repr:PySem.W.nsIn K mainGlobals "repr" = some none)
  (z_abs:PySem.W.nsIn K mainGlobals "abs" = some none)
  (z_max:PySem.W.nsIn K mainGlobals "max" = some none)
  (z_int:PySem.W.nsIn K mainGlobals "int" = some none)
  (z_list:PySem.W.nsIn K mainGlobals "list" = some none)
  (z_range:PySem.W.nsIn K mainGlobals "range" = some none)
  (z_reversed:PySem.W.nsIn K mainGlobals "reversed" = some none)
  (z_min:PySem.W.nsIn K mainGlobals "min" = some none)
  (z_sorted:PySem.W.nsIn K mainGlobals "sorted" = some none)
  (z_tuple:PySem.W.nsIn K mainGlobals "tuple" = some none)
  (z_isinstance:PySem.W.nsIn K mainGlobals "isinstance" = some none)
  (z_all:PySem.W.nsIn K mainGlobals "all" = some none)
  (z_str:PySem.W.nsIn K mainGlobals "str" = some none)
  (z_zip:PySem.W.nsIn K mainGlobals "zip" = some none)
  (aBk:PySem.W.nsIn K mainGlobals "BACKS" = some (some (.ref aB)))
  (lB:K.lookup aB=some ⟨.type "dict",none,.dict es en,#[]⟩)
  (kB:PySem.W.KeysLit w.params es.toList)
  (zS:PySem.W.nsIn K mainGlobals "set" = some none)
  (gl0:PySem.W.nsIn K aB "a" = some (some (.str "A" t0)))
  (gl1:PySem.W.nsIn K aB "b" = some (some (.str "B" t1)))
  (gl2:PySem.W.nsIn K aB "c" = some (some (.str "C" t2)))
  (gl3:PySem.W.nsIn K aB "d" = some (some (.str "D" t3)))
  (gl4:PySem.W.nsIn K aB "e" = some (some (.str "E" t4)))
  (gl5:PySem.W.nsIn K aB "f" = some (some (.str "F" t5)))
  (gl6:PySem.W.nsIn K aB "A" = some (some (.str "a" t6)))
  (gl7:PySem.W.nsIn K aB "B" = some (some (.str "b" t7)))
  (gl8:PySem.W.nsIn K aB "C" = some (some (.str "c" t8)))
  (gl9:PySem.W.nsIn K aB "D" = some (some (.str "d" t9)))
  (gl10:PySem.W.nsIn K aB "E" = some (some (.str "e" t10)))
  (gl11:PySem.W.nsIn K aB "F" = some (some (.str "f" t11))) :
  ∃ fd:FuncData,(∀ (s:Shared) (v:Value),BindsTo s fd ⟨[v],[]⟩ [("_law_script",v)])∧∀ base:Heap,K.In base→base.Ns mainGlobals mg→qx l.prog w K mg base CX0 8 fa fd ["_law_script"] (qu K):=by
 have e:=hfa.symm.trans (Gg X G a28)
 cases e
 have gB:∀ x:L,∃ t,PySem.W.nsIn K aB (toS [x])=some (some (.str (toS [inv x]) t)):=by
  have q:∀ (x:L) (u v:Str) (t:Tok),PySem.W.nsIn K aB u=some (some (.str v t))→toS [x]=u→toS [inv x]=v→∃ t,PySem.W.nsIn K aB (toS [x])=some (some (.str (toS [inv x]) t)):=fun x u v t g e1 e2=>⟨t,by rw [e1,e2];exact g⟩
  intro x
  match x with
  | ⟨0,_⟩=>exact q 0 "a" "A" _ gl0 (by decide +kernel) (by decide +kernel)
  | ⟨1,_⟩=>exact q 1 "b" "B" _ gl1 (by decide +kernel) (by decide +kernel)
  | ⟨2,_⟩=>exact q 2 "c" "C" _ gl2 (by decide +kernel) (by decide +kernel)
  | ⟨3,_⟩=>exact q 3 "d" "D" _ gl3 (by decide +kernel) (by decide +kernel)
  | ⟨4,_⟩=>exact q 4 "e" "E" _ gl4 (by decide +kernel) (by decide +kernel)
  | ⟨5,_⟩=>exact q 5 "f" "F" _ gl5 (by decide +kernel) (by decide +kernel)
  | ⟨6,_⟩=>exact q 6 "A" "a" _ gl6 (by decide +kernel) (by decide +kernel)
  | ⟨7,_⟩=>exact q 7 "B" "b" _ gl7 (by decide +kernel) (by decide +kernel)
  | ⟨8,_⟩=>exact q 8 "C" "c" _ gl8 (by decide +kernel) (by decide +kernel)
  | ⟨9,_⟩=>exact q 9 "D" "d" _ gl9 (by decide +kernel) (by decide +kernel)
  | ⟨10,_⟩=>exact q 10 "E" "e" _ gl10 (by decide +kernel) (by decide +kernel)
  | ⟨11,_⟩=>exact q 11 "F" "f" _ gl11 (by decide +kernel) (by decide +kernel)
 have T:Bt K w mg aB:=⟨Cm X G z_len,Cm X G z_repr,Cm X G z_abs,Cm X G z_max,Cm X G z_int,Cm X G z_list,Cm X G z_range,Cm X G z_reversed,Cm X G z_min,Cm X G z_sorted,Cm X G z_tuple,Cm X G z_isinstance,Cm X G z_all,Cm X G z_str,Cm X G z_zip,Gg X G aBk,⟨es,en,lB,kB⟩,gB⟩
 have Tset:mg "set" = none:=Cm X G zS
 refine ⟨PySem.W.fnOf "law" "law" (ck jG) (bN jG) (av jG) .none kV28 dc28 pm28 an28 cd28 ct28,fun s v=>.of_eq rfl,fun base _ _=>?_⟩
 obtain ⟨h0,h1,h2,h3,h4,h5,h6,h7,h8,h9,h10,h11,h12,h13,h14,h15,h16,h17,h18,h19,h20,h21,h22,h23,h24,h25,h26,h27,_⟩:=hs
 have F_tape:=yn (P:=l.prog) (w:=w) (base:=base) (h13.df X G) T
 have HI:=yo (P:=l.prog) (w:=w) (base:=base) (h14.df X G) T
 have HU:=yp (P:=l.prog) (w:=w) (base:=base) (h0.df X G) T
 have HN:=vJ (P:=l.prog) (w:=w) (base:=base) (h15.df X G)
 have HL:=yq (P:=l.prog) (w:=w) (base:=base) (h1.df X G) T HU
 have F_rf:=Bj (P:=l.prog) (w:=w) (base:=base) (h2.df X G) T
 have F_fst:=Af (P:=l.prog) (w:=w) (base:=base) (h12.df X G) T F_rf
 have F_ce:=Bk (P:=l.prog) (w:=w) (base:=base) (h7.df X G) T HU HL
 have Iu:=Ai (P:=l.prog) (w:=w) (base:=base) (h10.df X G) T HL
 have Ia:=yu (P:=l.prog) (w:=w) (base:=base) (h11.df X G) T HU HL F_fst
 have F_alg:=Aj (P:=l.prog) (w:=w) (base:=base) (h8.df X G) T Iu Ia
 have F_agn:=Ak (P:=l.prog) (w:=w) (base:=base) (h9.df X G) T Iu Ia
 have F_met:=Al (P:=l.prog) (w:=w) (base:=base) (h3.df X G) T
 have F_bes:=Am (P:=l.prog) (w:=w) (base:=base) (h6.df X G) T Tset F_ce F_met
 have F_lat:=An (P:=l.prog) (w:=w) (base:=base) (h5.df X G) T F_agn F_alg F_bes
 have IA:=vU (P:=l.prog) (w:=w) (base:=base) (h4.df X G) T F_lat
 have F_row:=Ao (P:=l.prog) (w:=w) (base:=base) (h16.df X G) T HI
 have Ic:=qk (P:=l.prog) (w:=w) (base:=base) (h18.df X G) T
 have IB:=vW (P:=l.prog) (w:=w) (base:=base) (h17.df X G) T HN
 have F_aw:=Bl (P:=l.prog) (w:=w) (base:=base) (h19.df X G) T HI IB Ic
 have Ij:=vX (P:=l.prog) (w:=w) (base:=base) (h20.df X G) T HI HN F_aw
 have Ib:=yF (P:=l.prog) (w:=w) (base:=base) (h21.df X G) T
 have F_adrw:=yG (P:=l.prog) (w:=w) (base:=base) (h22.df X G) T HI Ib
 have Iz:=v9 (P:=l.prog) (w:=w) (base:=base) (h23.df X G) T
 have F_lcr:=Ar (P:=l.prog) (w:=w) (base:=base) (h25.df X G) T
 have IC:=wa (P:=l.prog) (w:=w) (base:=base) (h27.df X G) T
 have Ie:=qr (P:=l.prog) (w:=w) (base:=base) (h24.df X G) T HN Iz Ib
 have Ip:=sM (P:=l.prog) (w:=w) (base:=base) (h26.df X G) T F_lcr Ie
 exact As (sT l28 c28 k28) T F_tape HI F_row Ij IA F_adrw Ip IC
theorem Bm {l:PySem.W.OpenLaw}{q:Program}{loose:List Str}{XP:(Str→Option Value)→Heap→Prop}{YP:World→Heap→Prop}{d:DefRec}{K:Params→PySem.W.Frag}(hn:l.most=some 63)(hdf:d.params.defaults=[])
  (hY:∀ (w:World) (h:Heap),YP w h→(K w.params).In h)
  (F:∀ (w:World) (mg:Str→Option Value) (fa:Addr) (h:Heap),(K w.params).In h→h.Ns mainGlobals mg→mg d.name=some (.ref fa) →
   ∃ fd:FuncData,(∀ (s:Shared) (u:Value),BindsTo s fd ⟨[u],[]⟩ [("_law_script",u)])∧∀ base:Heap,(K w.params).In base→base.Ns mainGlobals mg→qx l.prog w (K w.params) mg base CX0 8 fa fd ["_law_script"] (qu (K w.params))) :
  PySem.W.WalkO q loose XP YP l.row.toRowW d [] (fun f vs=>PySem.call f vs) :=
 L2.nQ (n:=63) (k:=8) (x:="_law_script") (CX:=fun _=>CX0) (sp:=fun w=>qu (K w.params)) hn (by decide) hdf ⟨rfl,by decide,by decide,rfl⟩ hY F (fun _ _ a ns hl _ hS=>⟨a,ns,rfl,hS,hl,fun _=>rfl⟩) fun _ _ _ _ _ z=>z
end Kx
namespace Kx
open PySem
def yK (s:String):Str:=⟨⟨PySem.W.R.mapR Char.toNat (PySem.W.S.toListS s)⟩⟩
theorem sN:Str.ofString=yK:=by
 funext s
 rw [Str.ofString_eq_toList,PySem.W.S.toListS_eq]
 show _=(⟨⟨PySem.W.R.mapR Char.toNat (PySem.W.S.toListS s)⟩⟩:Str)
 rw [← PySem.W.R.mapR_eq]
def apG (G:(String→Str)→Program)(x:String→Str):Program:=G x
def Gs:{ G:(String→Str)→Program // apG G Str.ofString=PySem.Challenge.pw_ringwords_k39_whole_links_in_every_drawi }:=by
 refine ⟨?G,?h⟩
 case h =>
  delta PySem.Challenge.pw_ringwords_k39_whole_links_in_every_drawi
  generalize Str.ofString=x
  exact rfl
end Kx
def PySem.W.Fast.tw1579516506515721274:PySem.Program:=Kx.Gs.1 Kx.yK
theorem PySem.W.Fast.te1579516506515721274:PySem.Challenge.pw_ringwords_k39_whole_links_in_every_drawi=PySem.W.Fast.tw1579516506515721274:=Kx.Gs.2.symm.trans (BP (Kx.apG Kx.Gs.1) Kx.sN)
namespace PySem.W.Fast
theorem te3602416469625493618:True:=trivial
theorem tw4840754803992601690:True:=trivial
theorem tw319890950167055736:True:=trivial
theorem tw15744685257962225450:True:=trivial
theorem tw13052578127447804927:True:=trivial
theorem tw17382025326758843407:True:=trivial
theorem tw2128317563467427294:True:=trivial
theorem tw18120474210965082940:True:=trivial
theorem tw4492188917896848743:True:=trivial
theorem tw2027645342220754311:True:=trivial
theorem tw4473728878137185125:True:=trivial
theorem tw12434232620617321536:True:=trivial
theorem tw14512524166073911446:True:=trivial
theorem tw8584210023288258695:True:=trivial
theorem tw16997135137028770939:True:=trivial
theorem tw4222723407718488905:True:=trivial
theorem tw9484920090364541645:True:=trivial
theorem tw13067866874728445249:True:=trivial
theorem tw10486531626703533998:True:=trivial
theorem tw2532909041561062762:True:=trivial
theorem tw11383646148145344731:True:=trivial
theorem tw14126992148086669659:True:=trivial
theorem tw747755917354721399:True:=trivial
theorem tw13753599760426712705:True:=trivial
theorem tw6554952535079639142:True:=trivial
theorem tw8332645761032151277:True:=trivial
theorem tw7574219765579434122:True:=trivial
theorem tw14846711477799133030:True:=trivial
theorem tw9261535097942702384:True:=trivial
theorem tw7636875201673889139:True:=trivial
theorem tw12432065814372883611:True:=trivial
theorem tw12407833545293268404:True:=trivial
theorem tw12258962246612894064:True:=trivial
theorem tw4983734194208416961:True:=trivial
theorem tw70474126010327313:True:=trivial
theorem tw1045307571809823889:True:=trivial
theorem tw12792615879978887105:True:=trivial
theorem tw143094532643168631:True:=trivial
theorem tw14165585451773081506:True:=trivial
theorem tw6219261458044247248:True:=trivial
theorem tw3633601406441880026:True:=trivial
theorem tw2930262564008339461:True:=trivial
theorem tw8207856892605126962:True:=trivial
theorem tw9007320986147917976:True:=trivial
theorem tw8857946741391445726:True:=trivial
theorem tw7270813303920695761:True:=trivial
theorem tw15132652926244918673:True:=trivial
theorem tw13781234448471384751:True:=trivial
theorem tw6922405199199913941:True:=trivial
theorem tw7845700872296002591:True:=trivial
theorem tw376389458370644302:True:=trivial
theorem tw1430080893829930484:True:=trivial
theorem tw13876096506466301953:True:=trivial
theorem tw15652514128837911776:True:=trivial
theorem tw10527337979423753250:True:=trivial
theorem tw747057286484116828:True:=trivial
theorem tw10201083893765956050:True:=trivial
theorem tw12652101220464829128:True:=trivial
theorem tw12046023226062862748:True:=trivial
theorem tw8694511551995007131:True:=trivial
theorem tw11664918397149314420:True:=trivial
theorem tw6340549067899241210:True:=trivial
theorem tw8439333501372798159:True:=trivial
theorem tw242995162832265304:True:=trivial
theorem tw7567208844910928769:True:=trivial
theorem tw11213162068196419794:True:=trivial
theorem tw992876506947604342:True:=trivial
theorem tw6130955483431965125:True:=trivial
theorem tw3271282128792382005:True:=trivial
theorem tw18178578277958138815:True:=trivial
theorem tw2310471863480061150:True:=trivial
theorem tw2459533267295608959:True:=trivial
theorem tw11340470476890295022:True:=trivial
theorem tw13746137772662528734:True:=trivial
theorem tw13332921898137725914:True:=trivial
theorem tw14598667232624348833:True:=trivial
theorem tw9216715845185730250:True:=trivial
theorem tw766137703405227998:True:=trivial
theorem tw6761256705916200972:True:=trivial
theorem tw4271376950346162103:True:=trivial
theorem tw14201941842023275600:True:=trivial
theorem tw13375500781634726147:True:=trivial
theorem tw17750484148428354454:True:=trivial
theorem tw1176836396297980180:True:=trivial
theorem tw17203420511882807695:True:=trivial
theorem tw4921850333008842504:True:=trivial
end PySem.W.Fast
open PySem PySem.W PyProof.Rows
set_option maxRecDepth 100000 in
set_option maxHeartbeats 0 in
theorem PySem.Challenge.cw_ringwords_k39_whole_links_in_every_drawi_holds : PySem.Challenge.rw_ringwords_k39_whole_links_in_every_drawi.Holds := by
 w_on; o_law; k_head; (case hw=>w_witness2)
 k_fill
 refine Kx.Bm (l:=PySem.Challenge.rw_ringwords_k39_whole_links_in_every_drawi) rfl rfl (fun w h Y=>PySem.W.kIn_of Y) ?F
 case F =>
  intro w mg fa h KX G hmg
  refine' Kx.yJ KX G hmg ?hs ?a28 ?l28 ?c28 ?k28 ?z_len ?z_repr ?z_abs ?z_max ?z_int ?z_list ?z_range ?z_reversed ?z_min ?z_sorted ?z_tuple ?z_isinstance ?z_all ?z_str ?z_zip ?aBk ?lB ?kB ?zS ?gl0 ?gl1 ?gl2 ?gl3 ?gl4 ?gl5 ?gl6 ?gl7 ?gl8 ?gl9 ?gl10 ?gl11
  (case hs=>(iterate 28 (refine' Kx.DIs.on ?_ ?_ ?_ ?_ ?_; rotate_left 10; k_is; k_is; k_is; k_is)); exact trivial)
  (case a28 | l28 | c28 | k28 | z_len | z_repr | z_abs | z_max | z_int | z_list | z_range | z_reversed | z_min | z_sorted | z_tuple | z_isinstance | z_all | z_str | z_zip | aBk | lB=>k_is)
  (case kB=>exact ⟨⟨_,_,rfl,rfl⟩,⟨_,_,rfl,rfl⟩,⟨_,_,rfl,rfl⟩,⟨_,_,rfl,rfl⟩,⟨_,_,rfl,rfl⟩,⟨_,_,rfl,rfl⟩,⟨_,_,rfl,rfl⟩,⟨_,_,rfl,rfl⟩,⟨_,_,rfl,rfl⟩,⟨_,_,rfl,rfl⟩,⟨_,_,rfl,rfl⟩,⟨_,_,rfl,rfl⟩,trivial⟩)
  (case zS | gl0 | gl1 | gl2 | gl3 | gl4 | gl5 | gl6 | gl7 | gl8 | gl9 | gl10 | gl11=>k_is)
end
